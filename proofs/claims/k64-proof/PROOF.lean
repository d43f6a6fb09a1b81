import PyProof.Rows.All
import OpenK.KLine
import OpenK.KWalk
import OpenK.KMore
import OpenK.KOwn
import OpenK.KRaise
import KE.KSortTup
import PyProof.EqAt
import PyProof.EqKinds
import PyProof.TupleCall
import PyProof.ReprLen
import KE.KIsAll
import PyProof.ExcArgsOwn
import PyProof.NsDelKeeps
import KE.KTryMore
import PyProof.InstStoreFacts
import PyProof.ExcInit
import PyProof.ExcClass2
import PyProof.Rows.ListMul
import PyProof.Draws
import PyProof.EnumMake
import PyProof.Rows.EnumRows
import KE.KItemsList
import PyProof.DictCompW
import PyProof.ListRange
import PyProof.ZipIter
import PyProof.AttrMissHeap
import KE.KDictOf
import KE.KUnpack
import PyProof.SetKind
import PyProof.Rows.SetFrom
import KE.KIntText
import PySem.Challenge.RW_cutstree_k64_half_bound
theorem ar1{α:Type}{P:List α->Prop}{us:List α}(hl:us.length=1)(h:∀a0,P [a0]):P us:=by
 rcases us with _|⟨a0,_|⟨c,r⟩⟩<;>first|exact h _|cases hl
theorem ar2{α:Type}{P:List α->Prop}{us:List α}(hl:us.length=2)(h:∀a0 a1,P [a0,a1]):P us:=by
 rcases us with _|⟨a0,_|⟨a1,_|⟨c,r⟩⟩⟩<;>first|exact h _ _|cases hl
theorem ar3{α:Type}{P:List α->Prop}{us:List α}(hl:us.length=3)(h:∀a0 a1 a2,P [a0,a1,a2]):P us:=by
 rcases us with _|⟨a0,_|⟨a1,_|⟨a2,_|⟨c,r⟩⟩⟩⟩<;>first|exact h _ _ _|cases hl
theorem ar4{α:Type}{P:List α->Prop}{us:List α}(hl:us.length=4)(h:∀a0 a1 a2 a3,P [a0,a1,a2,a3]):P us:=by
 rcases us with _|⟨a0,_|⟨a1,_|⟨a2,_|⟨a3,_|⟨c,r⟩⟩⟩⟩⟩<;>first|exact h _ _ _ _|cases hl
set_option hygiene false
local macro_rules | `(tactic| sleep 990) => `(tactic| exact ⟨rfl, rfl, rfl, by decide +kernel, rfl, by decide +kernel, by decide +kernel⟩)
local macro_rules | `(tactic| sleep 991) => `(tactic| (intro _ _ _ _ _ _ _ hl; apply ar1 hl; intros; rfl))
local macro_rules | `(tactic| sleep 992) => `(tactic| (intro _ _ _ _ _ _ _ hl; apply ar2 hl; intros; rfl))
local macro_rules | `(tactic| sleep 993) => `(tactic| (intro _ _ _ _ _ _ _ hl; apply ar3 hl; intros; rfl))
local macro_rules | `(tactic| sleep 994) => `(tactic| (intro _ _ _ _ _ _ _ hl; apply ar4 hl; intros; rfl))
set_option hygiene true
set_option Elab.async false
section
set_option maxRecDepth 100000
set_option maxHeartbeats 0
namespace Q64
open PySem
noncomputable def qv:Program:={ PySem.Challenge.rw_cutstree_k64_half_bound.prog with main:={ PySem.Challenge.rw_cutstree_k64_half_bound.prog.main with body:=((((((PySem.Challenge.rw_cutstree_k64_half_bound.prog.main.body.eraseIdx 33).eraseIdx 26).eraseIdx 24).eraseIdx 13).eraseIdx 6).eraseIdx 0) } }
end Q64
open PySem PySem.W PyProof.Rows
local macro_rules | `(tactic| o_head $H) => `(tactic| (
 refine holds_open (r:=PySem.Challenge.rw_cutstree_k64_half_bound.row) (q:=Q64.qv) (loose:=[]) (Xt:=fun s=>xlAt Q64.qv [] s&&recOk (RowW.records (OpenRow.toRowW PySem.Challenge.rw_cutstree_k64_half_bound.row)) s) (XP:=XL Q64.qv []) (Yf:=Hook.obs $H) (Ya:=Hook.val $H) (YP:=Hook.says $H) (N:=6100) ?hl (Hook.of $H) (Hook.keeps $H) (fun s e=>xl_of s (Bool.and_eq_true_iff.mp e).1) XL.keeps (by rfl) (by rfl) (by rfl) (fun s e=>recFacts_of (Bool.and_eq_true_iff.mp e).2) (by rfl) (by first|assumption|decide +kernel) (by decide +kernel) ⟨rfl,rfl,rfl,rfl,rfl,by decide +kernel⟩ ?hw ?hc
 (case hl=>intro w;kernel_rfl)))
open_top Q64.k_top for PySem.Challenge.rw_cutstree_k64_half_bound
end
section
set_option linter.all false
set_option maxRecDepth 100000
set_option maxHeartbeats 4000000
noncomputable abbrev Fg:=PySem.W.Frag
noncomputable section
abbrev A0:=@PySem.wpAny_bind
abbrev A1:=@Option.bind_some
abbrev A2:=@List.length_map
abbrev A3:=@if_pos
abbrev A4:=@PySem.wpAny_pure
abbrev A5:=@Bool.false_ne_true
abbrev A6:=@Nat.le_refl
abbrev A7:=@if_neg
abbrev A8:=@Nat.lt_of_lt_of_le
abbrev A9:=@List.map_cons
abbrev B0:=@List.mem_cons_of_mem
abbrev B1:=@Array.getD_eq_getD_getElem?
abbrev B2:=@PySem.Heap.lt_size
abbrev B3:=@PySem.Heap.get?_push_of_some
abbrev B4:=@List.length_append
abbrev B5:=@List.mem_append_right
abbrev B6:=@Bool.and_eq_true
abbrev B7:=@List.mem_cons_self
abbrev B8:=@Nat.ne_of_lt
abbrev B9:=@List.getElem?_eq_getElem
abbrev C0:=@of_decide_eq_true
abbrev C1:=@List.size_toArray
abbrev C2:=@decide_eq_true
abbrev C3:=@List.length_cons
abbrev C4:=@Option.some.inj
abbrev C5:=@List.mem_append_left
abbrev C6:=@PySem.Heap.get?_push_size
abbrev C7:=@List.lookup_cons
abbrev C8:=@PySem.mem_of_lookup
abbrev C9:=@Nat.le_trans
abbrev D0:=@List.getElem?_map
abbrev D1:=@List.append_nil
abbrev D2:=@Nat.zero_le
abbrev D3:=@Array.length_toList
abbrev D4:=@decide_eq_false
abbrev D5:=@PySem.wpAny_mono
abbrev D6:=@PySem.W.mg_none_of
abbrev D7:=@List.length_singleton
abbrev D8:=@Array.getElem?_toList
abbrev D9:=@List.append_assoc
abbrev E1:=@PySem.wpAny_newObj_type
abbrev E2:=@Nat.lt_irrefl
abbrev E3:=@List.getElem?_set_self
abbrev E4:=@List.length_take
abbrev E5:=@List.map_append
abbrev E6:=@PySem.wpAny_holding
abbrev E7:=@Nat.lt_succ_self
abbrev E8:=@List.length_range
abbrev E9:=@List.replicate_succ
abbrev F0:=@Array.getElem?_eq_getElem
abbrev F4:=@PySem.wpAny_truthy_bool
abbrev F5:=@List.length_drop
abbrev F6:=@Int.emod_lt_of_pos
abbrev F7:=@List.getElem?_set_ne
abbrev F8:=@List.mem_of_getElem?
abbrev F9:=@List.flatten_cons
abbrev I0:=@Bool.eq_iff_iff
abbrev J0:=@PySem.W.mg_of
abbrev J1:=@List.getD_eq_getElem?_getD
abbrev J2:=@PySem.Heap.get?_update_other
abbrev J3:=@Int.emod_nonneg
abbrev J4:=@List.any_cons
abbrev J5:=@PyProof.Rows.slot_tuple_getitem
abbrev J6:=@List.filterMap_cons
abbrev J7:=@PySem.PassesOwn.never
abbrev J8:=@PySem.sizeLine_eq
abbrev J9:=@List.nodup_nil
abbrev L3:=@beq_self_eq_true
abbrev L4:=@List.filter_cons
abbrev L5:=@congrArg
abbrev L6:=@Int.ediv_nonneg
abbrev L7:=@Ne.symm
abbrev L8:=@PySem.wpAny_field
abbrev L9:=@PySem.Obj.data_mapFields
abbrev O0:=@PySem.wpAny_passesOwn
abbrev O3:=@PySem.wpAny_standAt
abbrev O4:=@Nat.ne_of_gt
abbrev O5:=@PySem.Heap.get?_update_self
abbrev O6:=@Int.ediv_le_self
abbrev O7:=@List.getElem?_range
abbrev O8:=@List.mem_map_of_mem
abbrev O9:=@Int.toNat_natCast
abbrev S1:=@List.take_append_drop
abbrev S2:=@List.length_filter_le
abbrev S3:=@Int.mul_assoc
abbrev S4:=@PySem.Heap.size_push
abbrev S8:=@List.mem_of_mem_take
abbrev S9:=@List.mem_of_mem_drop
abbrev U0:=@PySem.wpAny_setState_of
abbrev U1:=@Nat.add_le_add_right
abbrev U2:=@List.nil_append
abbrev U3:=@Nat.not_lt_zero
abbrev U4:=@List.zip_eq_zipWith
abbrev U5:=@Int.toNat_of_nonneg
abbrev U6:=@List.map_map
abbrev U7:=@List.getElem?_append_right
abbrev U8:=@PySem.wpAny_typeNameOfWhole_keyiter
abbrev U9:=@PySem.boot_len
abbrev Y0:=@Nat.lt_of_le_of_lt
abbrev Y1:=@PySem.wpAny_execs_nil
abbrev Y2:=@PySem.Heap.SameBut.update
abbrev Y3:=@PySem.codeAny_mono
abbrev Y4:=@PySem.wpAny_Call_Name_kw
abbrev Y5:=@PySem.wpAny_setField
abbrev Y6:=@PyProof.Rows.boot_tuple
namespace L2
variable{H:Hp}{s:Shared}{σ:St}{K:Fg}{A:Around}{pos:Pos}
open PySem PySem.Spec PyProof.Rows
noncomputable abbrev Key:=Sum Int Str
noncomputable def uA:Key->Value->Bool
 |.inl k,v=>Value.isInt k v
 |.inr x,v=>Value.isStrOf x v
noncomputable def aFL(w:World):Key->Int
 |.inl k=>hashInt k
 |.inr x=>hashStr w x
theorem cQ:∀{k:Key}{v:Value},uA k v=true->(∃i t,k=Sum.inl i/\v=Value.int i t)\/(∃x t,k=Sum.inr x/\v=Value.str x t)
 |.inl i,v=>fun h=>by
  obtain⟨t,e⟩:=Value.isInt_shape (k:=i) (v:=v) h;exact .inl ⟨i,t,rfl,e⟩
 |.inr x,v=>fun h=>by
  obtain⟨t,e⟩:=Value.isStrOf_shape (x:=x) (v:=v) h;exact .inr ⟨x,t,rfl,e⟩
theorem KU(i:Int)(t:Tok):uA (.inl i) (.int i t)=true:=by simp[uA,Value.isInt]
theorem LV(x:Str)(t:Tok):uA (.inr x) (.str x t)=true:=by simp[uA,Value.isStrOf]
theorem aBF(a b:Int):decide ((Sum.inl a:Key)=Sum.inl b)=(a==b):=by
 by_cases e:a=b
 .subst e;simp
 .have h:¬(Sum.inl a:Key)=Sum.inl b:=fun q=>e (Sum.inl.inj q);rw[D4 h];exact(beq_eq_false_iff_ne.mpr e).symm
theorem aBd(a b:Str):decide ((Sum.inr a:Key)=Sum.inr b)=decide (a=b):=by
 by_cases e:a=b
 .subst e;simp
 .have h:¬(Sum.inr a:Key)=Sum.inr b:=fun q=>e (Sum.inr.inj q);rw[D4 h,D4 e]
theorem aDs(a:Int)(b:Str):decide ((Sum.inl a:Key)=Sum.inr b)=false:=D4 (fun q=>nomatch q)
theorem aCT(a:Str)(b:Int):decide ((Sum.inr a:Key)=Sum.inl b)=false:=D4 (fun q=>nomatch q)
noncomputable def cI(prog:Program)(w:World):PySem.KeyKind prog w Key where
 is:=uA
 hash:=aFL w
 inj:=fun v a b ha hb=>by
  rcases cQ ha with⟨i,t,rfl,rfl⟩|⟨x,t,rfl,rfl⟩
  .rcases cQ hb with⟨j,u,rfl,e⟩|⟨y,u,rfl,e⟩
   .injection e with e1 _;rw[e1]
   .exact nomatch e
  .rcases cQ hb with⟨j,u,rfl,e⟩|⟨y,u,rfl,e⟩
   .exact nomatch e
   .injection e with e1 _;rw[e1]
 byValue:=fun k v h=>by
  rcases cQ h with⟨i,t,rfl,rfl⟩|⟨x,t,rfl,rfl⟩<;>rfl
 pyHash:=fun hv h=>by
  rcases cQ hv with⟨i,t,rfl,rfl⟩|⟨x,t,rfl,rfl⟩
  .exact wpAny_pyHash_int h
  .exact wpAny_pyHash_str h
 eqBool:=fun hu hv h=>by
  rcases cQ hu with⟨i,t,rfl,rfl⟩|⟨x,t,rfl,rfl⟩
  .rcases cQ hv with⟨j,u,rfl,rfl⟩|⟨y,u,rfl,rfl⟩
   .rw[aBF]at h;exact wpAny_eqBool_int h
   .rw[aDs]at h;exact SeqAt.EqAt.int_str i t y u _ _ _ _ h
  .rcases cQ hv with⟨j,u,rfl,rfl⟩|⟨y,u,rfl,rfl⟩
   .rw[aCT]at h;exact SeqAt.EqAt.str_int x t j u _ _ _ _ h
   .rw[aBd]at h;exact wpAny_eqBool_str h
 «strs»:=fun k x t v h=>by
  rcases cQ h with⟨i,u,rfl,e⟩|⟨y,u,rfl,e⟩
  .exact nomatch e
  .injection e with e1 _
   subst e1;cases v<;>rfl
theorem FF(prog:Program)(w:World)(i:Int)(t:Tok):(cI prog w).is (.inl i) (.int i t)=true:=KU i t
theorem CI(prog:Program)(w:World)(x:Str)(t:Tok):(cI prog w).is (.inr x) (.str x t)=true:=LV x t
inductive V where
 |non|bl (b:Bool)|int (i:Int)|str (x:Str)|byt (b:Array UInt8)|flt (b:UInt64)|ref (a:Addr)|ty (n:String)
 deriving DecidableEq
noncomputable def RelV:V->Value->Prop
 |.non,u=>u=Value.none
 |.bl b,u=>u=Value.bool b
 |.int i,u=>∃t,u=Value.int i t
 |.str x,u=>∃t,u=Value.str x t
 |.byt b,u=>∃t,u=Value.bytes b t
 |.flt b,u=>∃t,u=Value.float b t
 |.ref a,u=>u=Value.ref a
 |.ty n,u=>u=Value.type n
noncomputable abbrev bJ:List V->List Value->Prop:=Paired RelV
theorem bJ.length{xs:List V}{us:List Value}(r:bJ xs us):xs.length=us.length:=Paired.length r
theorem bJ.get:∀{xs:List V}{us:List Value}{i:Nat}{x:V},bJ xs us->xs[i]?=some x->∃u,us[i]?=some u/\RelV x u
 |_,_,_,_,.nil=>fun e=>by simp at e
 |_,_,0,_,.cons r _=>fun e=>by simp at e;subst e;exact⟨_,rfl,r⟩
 |_,_,i+1,x,.cons _ t=>fun e=>by
  obtain⟨u,h1,h2⟩:=bJ.get (i:=i) (x:=x) t (by simpa using e);exact⟨u,by simpa using h1,h2⟩
theorem bJ.set{x:V}{u:Value}(r:RelV x u):∀{xs:List V}{us:List Value}(i:Nat),bJ xs us->bJ (xs.set i x) (us.set i u)
 |_,_,_,.nil=>.nil
 |_,_,0,.cons _ t=>.cons r t
 |_,_,i+1,.cons q t=>.cons q (bJ.set r i t)
theorem bJ.append:∀{xs ys:List V}{us ws:List Value},bJ xs us->bJ ys ws->bJ (xs++ys) (us++ws)
 |_,_,_,_,.nil=>fun s=>s
 |_,_,_,_,.cons r t=>fun s=>.cons r (bJ.append t s)
theorem bJ.take:∀{xs:List V}{us:List Value}(n:Nat),bJ xs us->bJ (xs.take n) (us.take n)
 |_,_,0,_=>.nil
 |_,_,_+1,.nil=>.nil
 |_,_,n+1,.cons r t=>.cons r (bJ.take n t)
theorem bJ.drop:∀{xs:List V}{us:List Value}(n:Nat),bJ xs us->bJ (xs.drop n) (us.drop n)
 |_,_,0,r=>r
 |_,_,_+1,.nil=>.nil
 |_,_,n+1,.cons _ t=>bJ.drop n t
noncomputable def DC:Option V->Option Value->Prop
 |some v,some u=>RelV v u
 |none,none=>True
 |_,_=>False
noncomputable def KV{κ:Type}:List (κ×V)->List (κ×Value)->Prop:=Paired fun(p:κ×V)(q:κ×Value)=>p.1=q.1/\RelV p.2 q.2
noncomputable def kV:Key->V
 |.inl i=>.int i
 |.inr x=>.str x
inductive HO where
 |lst (xs:List V)
 |tup (xs:List V)
 |dK (kvs:List (Key×V))|dT (kvs:List (List Key×V))
 |set (S:Int->Bool) (n:Nat)
 |ins (C dx:Addr) (fs:List (Str×V))
 |own (x:Addr)
 |xd (fs:List (Str×V))
 |met (f x:Addr)
 |rng (lo hi:Int)
 |frz (o:Obj) (u:HO)
 |tbl (ps:Array Value)
 |ext (φ:Heap->Prop)
noncomputable abbrev Hp:=Addr->Option HO
noncomputable def upd(H:Hp)(a:Addr)(o:HO):Hp:=fun b=>if b=a then some o else H b
theorem aX{a:Addr}{o:HO}:upd H a o a=some o:=by unfold upd;rw[A3 rfl]
theorem aP{a b:Addr}{o:HO}(h:b≠a):upd H a o b=H b:=by unfold upd;rw[A7 h]
theorem aFy{a b:Addr}{o u:HO}(h:H a=some o)(h':H b=some u)(d:o≠u):a≠b:=by
 intro e;subst e;rw[h]at h';exact d (C4 h')
theorem aO{a b:Addr}{o:HO}(h:H a=some o)(h':H b=none):a≠b:=by
 intro e;subst e;rw[h]at h';cases h'
section
variable(P:Program)(w:World)
noncomputable def cS(H:Hp)(h:Heap)(a:Addr):HO->Prop
 |.lst xs=>xs.length<=sizeLine/\∃(its:List Value)(n:Nat),bJ xs its/\h.get? a=some { cls:=.type "list",data:=.seq its.toArray n }
 |.tup xs=>xs.length<=sizeLine/\∃its:List Value,bJ xs its/\IsTup h a its.toArray
 |.dK kvs=>kvs.length<=sizeLine/\(a==sysModules)=false/\∃vs,KV kvs vs/\h.DictOf (cI P w) a vs
 |.dT kvs=>kvs.length<=sizeLine/\(a==sysModules)=false/\∃xs:List (List Key×Addr×Value),
  Paired (fun(p:List Key×V)(q:List Key×Addr×Value)=>p.1=q.1/\H q.2.1=some (.tup (p.1.map kV))/\RelV p.2 q.2.2) kvs xs /\
  ∃o es ep,h.get? a=some o/\o.ExactDict/\o.data=.dict es ep/\es.toList=xs.map (entryOfKey (tupleKind (cI P w)))/\(xs.map (·.1)).Nodup
 |.set S n=>h.SetOf (intKind P w) a S n
 |.ins C dx fs=>H dx=some (.own a)/\fs.length<=1000/\dx≠a/\h.get? a=some (PySem.W.instObj C dx) /\
  ∃mA,h.Ns1 dx mA/\(∀f,DC (fs.lookup f) (mA f))/\PySem.Within mA (fs.map (·.1))
 |.own _=>∃o,h.get? a=some o
 |.xd fs=>∃mA,h.Ns1 a mA/\∀f,DC (fs.lookup f) (mA f)
 |.rng lo hi=>∃t u v,h.get? a=some { cls:=.type "range",data:=.fields #[.int lo t,.int hi u,.int 1 v] }
 |.frz o u=>h.get? a=some o/\cS H h a u
 |.tbl ps=>h.get? a=some { cls:=.none,data:=.fields ps }
 |.met f x=>h.get? a=some (PySem.W.methodObj (.ref f) (.ref x))
 |.ext φ=>φ h/\(∃o,h.get? a=some o)/\∀h1 h2:Heap,φ h1->(∀o,h1.get? a=some o->h2.get? a=some o)->φ h2
noncomputable def HOk(H:Hp)(h:Heap):Prop:=∀a o,H a=some o->cS P w H h a o
end
section
variable{P:Program}{w:World}{H H':Hp}{h h':Heap}{a:Addr}{o:HO}
theorem cS.lt(x:cS P w H h a o):a<h.objs.size:=by
 cases o with
 |lst xs=>obtain⟨_,_,_,_,e⟩:=x;exact B2 e
 |tup xs=>obtain⟨_,_,_,p⟩:=x;exact p.lt
 |dK kvs=>obtain⟨_,_,_,_,o,_,_,e,_⟩:=x;exact B2 e
 |dT kvs=>obtain⟨_,_,_,_,o,_,_,e,_⟩:=x;exact B2 e
 |set S n=>obtain⟨o,_,_,_,e,_⟩:=x;exact B2 e
 |ins C dx fs=>obtain⟨_,_,_,e,_⟩:=x;exact B2 e
 |own y=>obtain⟨_,e⟩:=x;exact B2 e
 |xd fs=>obtain⟨_,⟨_,_,_,e,_⟩,_⟩:=x;exact B2 e
 |rng lo hi=>obtain⟨_,_,_,e⟩:=x;exact B2 e
 |frz ob u=>obtain⟨e,_⟩:=x;exact B2 e
 |tbl ps=>exact B2 (show h.get? a=some _ from x)
 |met f y=>exact B2 (show h.get? a=some _ from x)
 |ext φ=>obtain⟨_,⟨_,e⟩,_⟩:=x;exact B2 e
theorem Paired.mapP{α β:Type}{F G:α->β->Prop}:∀{l₁:List α}{l₂:List β},Paired F l₁ l₂->(∀a b,F a b->G a b)->Paired G l₁ l₂
 |_,_,.nil=>fun _=>.nil
 |_,_,.cons r t=>fun f=>.cons (f _ _ r) (Paired.mapP t f)
theorem cS.stay(x:cS P w H h a o)(k:∀b u,(b=a\/H b=some (.own a))->h.get? b=some u->h'.get? b=some u)
 (ho:∀b,H b=some (.own a)->H' b=some (.own a)) (ht:∀b xs,H b=some (.tup xs)->H' b=some (.tup xs)):cS P w H' h' a o:=by
 induction o with
 |lst xs=>obtain⟨z,its,n,r,e⟩:=x;exact⟨z,its,n,r,k _ _ (.inl rfl) e⟩
 |tup xs=>obtain⟨z,its,r,ob,e,c⟩:=x;exact⟨z,its,r,ob,k _ _ (.inl rfl) e,c⟩
 |dK kvs=>obtain⟨z,y,vs,r,ob,es,ep,e,c⟩:=x;exact⟨z,y,vs,r,ob,es,ep,k _ _ (.inl rfl) e,c⟩
 |dT kvs=>
  obtain⟨z,y,xs,r,ob,es,ep,e,c⟩:=x;exact⟨z,y,xs,Paired.mapP r fun p q z=>⟨z.1,ht _ _ z.2.1,z.2.2⟩,ob,es,ep,k _ _ (.inl rfl) e,c⟩
 |set S n=>obtain⟨ob,es,ep,t,e,c⟩:=x;exact⟨ob,es,ep,t,k _ _ (.inl rfl) e,c⟩
 |ins C dx fs=>
  obtain⟨d,z,ne,e,mA,⟨od,es,ep,e2,c⟩,r⟩:=x;exact⟨ho _ d,z,ne,k _ _ (.inl rfl) e,mA,⟨od,es,ep,k _ _ (.inr d) e2,c⟩,r⟩
 |own y=>obtain⟨ob,e⟩:=x;exact⟨ob,k _ _ (.inl rfl) e⟩
 |xd fs=>obtain⟨mA,⟨od,es,ep,e,c⟩,r⟩:=x;exact⟨mA,⟨od,es,ep,k _ _ (.inl rfl) e,c⟩,r⟩
 |rng lo hi=>obtain⟨t,u,v,e⟩:=x;exact⟨t,u,v,k _ _ (.inl rfl) e⟩
 |frz ob u ih=>obtain⟨e,q⟩:=x;exact⟨k _ _ (.inl rfl) e,ih q⟩
 |tbl ps=>
  have e:h.get? a=some { cls:=.none,data:=.fields ps }:=x;show h'.get? a=some { cls:=.none,data:=.fields ps };exact k a _ (.inl rfl) e
 |met f y=>
  have e:h.get? a=some (PySem.W.methodObj (.ref f) (.ref y)):=x;show h'.get? a=some (PySem.W.methodObj (.ref f) (.ref y));exact k a _ (.inl rfl) e
 |ext φ=>obtain⟨p,⟨o,e⟩,st⟩:=x;exact⟨st _ _ p fun o q=>k _ _ (.inl rfl) q,⟨o,k _ _ (.inl rfl) e⟩,st⟩
theorem HOk.lt(x:HOk P w H h)(e:H a=some o):a<h.objs.size:=(x a o e).lt
theorem HOk.fresh(x:HOk P w H h)(e:h.objs.size<=a):H a=none:=by
 cases q:H a with
 |none=>rfl
 |some u=>exact absurd (A8 (x.lt q) e) (E2 _)
theorem HOk.kept(x:HOk P w H h)(k:∀b u,h.get? b=some u->h'.get? b=some u):HOk P w H h':=fun a o e=>
 (x a o e).stay (fun b u _ q=>k b u q) (fun _ q=>q) fun _ _ q=>q
theorem HOk.laid(x:HOk P w H h)(k:∀b u,h.get? b=some u->h'.get? b=some u)(hp:h.objs.size<=a)(new:cS P w (upd H a o) h' a o):HOk P w (upd H a o) h':=fun b u e=>by
 have hn:=x.fresh hp;by_cases hb:b=a
 .subst hb;rw[aX]at e;cases e;exact new
 .rw[aP hb]at e;exact(x b u e).stay (fun c v _ q=>k c v q) (fun c q=>by rw[aP (aO q hn)];exact q) fun c xs q=>by rw[aP (aO q hn)];exact q
end
noncomputable def Rd(H:Hp)(a:Addr)(u:HO):Prop:=H a=some u\/∃o,H a=some (.frz o u)
theorem Rd.ok{P:Program}{w:World}{h:Heap}{a:Addr}{u:HO}(r:Rd H a u)(x:HOk P w H h):cS P w H h a u:=by
 rcases r with r|⟨o,r⟩
 .exact x a u r
 .obtain⟨_,q⟩:=x a _ r;exact q
noncomputable def Mut:Option HO->Prop
 |some (.lst _)=>True
 |some (.dK _)=>True
 |some (.dT _)=>True
 |some (.set _ _)=>True
 |some (.ins _ _ _)=>True
 |some (.ext _)=>True
 |_=>False
section
variable{P:Program}{w:World}{H:Hp}{h h':Heap}{x e:Addr}{o':HO}
theorem HOk.write(ok:HOk P w H h)(mu:Mut (H x))(he:e=x\/H e=some (.own x))(k:∀b u,b≠e->h.get? b=some u->h'.get? b=some u)(heo:∃u,h'.get? e=some u)
 (new:cS P w (upd H x o') h' x o'):HOk P w (upd H x o') h':=fun b u q=>by
 have nown:∀c y,H c=some (.own y)->c≠x:=fun c y r z=>by subst z;rw[r]at mu;exact mu
 have ntup:∀c xs,H c=some (.tup xs)->c≠x:=fun c xs r z=>by subst z;rw[r]at mu;exact mu
 by_cases hb:b=x
 .subst hb;rw[aX]at q;cases q;exact new
 .rw[aP hb]at q;by_cases hbe:b=e
  .have q':H b=some (.own x):=by
    rcases he with z|z
    .exact absurd (hbe.trans z) hb
    .rw[hbe];exact z
   rw[q]at q';cases q';obtain⟨v,hv⟩:=heo;exact⟨v,by rw[hbe];exact hv⟩
  .refine(ok b u q).stay (fun c v hc r=>k c v ?_ r) (fun c r=>by rw[aP (nown c b r)];exact r) fun c xs r=>by rw[aP (ntup c xs r)];exact r
   rcases hc with rfl|hc
   .exact hbe
   .rintro rfl;rcases he with z|z
    .exact nown c b hc z
    .rw[hc]at z;cases z;exact hb rfl
end
structure Un(fs ex:List Addr)(H H':Hp)(h h':Heap):Prop where
 keep:∀b o,h.get? b=some o->H b=none->b∉fs->b∉ex->h'.get? b=some o
 slot:∀b o,h.get? b=some o->H b=none->b∈fs->b∉ex->∃sl,h'.get? b=some { o with slots:=sl }
 free:∀b o,h.get? b=some o->H b=none->b∉ex->H' b=none
 there:∀b o,h.get? b=some o->b∉ex->∃o',h'.get? b=some o'
 tups:∀b xs,H b=some (.tup xs)->H' b=some (.tup xs)
 frzs:∀b o u,H b=some (.frz o u)->H' b=some (.frz o u)
 tbls:∀b ps,H b=some (.tbl ps)->∃more,H' b=some (.tbl (ps++more))
section
variable{fs fs' ex ex':List Addr}{H H1 H2:Hp}{h h1 h2 h':Heap}{a x e:Addr}{o:HO}
theorem Un.any(u:Un fs ex H H1 h h1){b:Addr}{ob:Obj}(q:h.get? b=some ob)(n:H b=none)(hx:b∉ex):∃sl,h1.get? b=some { ob with slots:=sl }:=by
 by_cases hb:b∈fs
 .exact u.slot b ob q n hb hx
 .exact⟨ob.slots,u.keep b ob q n hb hx⟩
theorem Un.kept(k:∀b u,h.get? b=some u->h'.get? b=some u):Un fs ex H H h h':=
 ⟨fun b ob q _ _ _=>k b ob q,fun b ob q _ _ _=>⟨ob.slots,k b ob q⟩,fun _ _ _ n _=>n,fun b ob q _=>⟨ob,k b ob q⟩,fun _ _ q=>q,fun _ _ _ q=>q,fun _ ps q=>⟨#[],by rw[q];simp⟩⟩
theorem Un.refl:Un fs ex H H h h:=Un.kept fun _ _ q=>q
theorem Un.laid(k:∀b u,h.get? b=some u->h'.get? b=some u)(hp:h.objs.size<=a)(hn:H a=none):Un fs ex H (upd H a o) h h' where
 keep:=fun b u q _ _ _=>k b u q
 slot:=fun b u q _ _ _=>⟨u.slots,k b u q⟩
 free:=fun b u q n _=>by rw[aP (B8 (A8 (B2 q) hp))];exact n
 there:=fun b u q _=>⟨u,k b u q⟩
 tups:=fun b xs q=>by rw[aP (aO q hn)];exact q
 frzs:=fun b u xs q=>by rw[aP (aO q hn)];exact q
 tbls:=fun b ps q=>⟨#[],by rw[aP (aO q hn),q];simp⟩
theorem Un.write(mu:Mut (H x))(he:e=x\/H e=some (.own x))(k:∀b u,b≠e->h.get? b=some u->h'.get? b=some u)(heo:∃u,h'.get? e=some u):Un fs ex H (upd H x o) h h':=by
 have hx:∀b,H b=none->b≠x:=fun b n z=>by subst z;rw[n]at mu;exact mu
 have hb:∀b,H b=none->b≠e:=fun b n z=>by
  subst z;rcases he with r|r
  .exact hx b n r
  .rw[n]at r;cases r
 have hm:∀b u,H b=some u->¬Mut (some u)->b≠x:=fun b u q nm z=>by subst z;rw[q]at mu;exact nm mu
 refine⟨fun b u q n _ _=>k b u (hb b n) q,fun b u q n _ _=>⟨u.slots,k b u (hb b n) q⟩,fun b u q n _=>by rw[aP (hx b n)];exact n,fun b u q _=>?_,
  fun b xs q=>by rw[aP (hm b _ q fun z=>z)];exact q,fun b u xs q=>by rw[aP (hm b _ q fun z=>z)];exact q,fun b ps q=>⟨#[],by rw[aP (hm b _ q fun z=>z),q];simp⟩⟩
 by_cases hbe:b=e
 .subst hbe;exact heo
 .exact⟨u,k b u hbe q⟩
end
noncomputable def trk(h:Heap)(H:Hp):List Addr:=(List.range h.objs.size).filter fun a=>(H a).isSome
noncomputable def BO(h:Heap)(H:Hp):Heap:=PySem.W.hideAll h (trk h H)
theorem LH(h:Heap)(H:Hp):(BO h H).objs.size=h.objs.size:=PySem.W.hideAll_size _ _
theorem PJ{h:Heap}{b:Addr}{o:Obj}(e:h.get? b=some o)(n:H b=none):(BO h H).get? b=some o:=
 PySem.W.hideAll_get _ e fun hm=>by
  have q:(H b).isSome=true:=(List.mem_filter.mp hm).2;rw[n]at q;simp at q
theorem XE{h:Heap}{b:Addr}{o:Obj}(e:(BO h H).get? b=some o):h.get? b=some o/\H b=none:=by
 have e':h.get? b=some o:=PySem.W.of_hideAll (trk h H) e;refine⟨e',?_⟩;cases q:H b with
 |none=>rfl
 |some x=>
  have hm:b∈trk h H:=List.mem_filter.mpr ⟨List.mem_range.mpr (B2 e'),by simp[q]⟩;have z:(BO h H).get? b=none:=PySem.W.hideAll_none (trk h H) hm;rw[z]at e;cases e
noncomputable def sT(g h:Heap)(L:Addr):List (Addr×Obj):=(List.range h.objs.size).filterMap fun a=>if a=L\/(g.get? a).isSome=true then none else(h.get? a).map fun o=>(a,o)
theorem CW{g h:Heap}{L a:Addr}{o:Obj}(h1:a≠L)(h2:g.get? a=none)(h3:h.get? a=some o):(a,o)∈sT g h L:=
 List.mem_filterMap.mpr ⟨a,List.mem_range.mpr (B2 h3),by simp[h1,h2,h3]⟩
theorem wD{g h:Heap}{L:Addr}{p:Addr×Obj}(hp:p∈sT g h L):p.1≠L/\g.get? p.1=none/\h.get? p.1=some p.2:=by
 obtain⟨b,_,e⟩:=List.mem_filterMap.mp hp;split at e
 .cases e
 .rename_i hn;cases q:h.get? b with
  |none=>rw[q]at e;simp at e
  |some u=>
   rw[q]at e;simp only[Option.map_some,Option.some.injEq]at e;subst e;refine⟨fun z=>hn (.inl z),?_,q⟩;show g.get? b=none;cases r:g.get? b with
   |none=>rfl
   |some v=>exact(hn (.inr (by simp[r]))).elim
noncomputable def rest(g h:Heap)(L d:Addr):List (Addr×Obj):=(sT g h L).filter fun p=>decide (p.1≠d)
theorem OY{g h:Heap}{L:Addr}:News g L h (sT g h L):=fun p hp=>let⟨a,b,c⟩:=wD hp;⟨c,a,b⟩
structure Mod(K:Fg)(mg:Str->Option Value)(base:Heap):Prop where
 kin:K.In base
 glob:base.Ns mainGlobals mg
 blt:∃mb,base.Ns builtinsNs mb/\∀x:Str,x≠"__name__"->mb x=bootBuiltins x
 nolimit:base.NoLimit
 sysm:∃o es ep,base.get? sysModules=some o/\o.data=.dict es ep
structure Cx where
 prog:Program
 w:World
 K:Fg
 mg:Str->Option Value
 base:Heap
 A:Around
 N:List Str
 s₀:Shared
 H₀:Hp
 env:Env
 outer:List Env
 stack:List Env
 ex:List Addr
 fn:Str->Bool
 calm:Bool
 pn:List (Addr×Obj)
 xe:Value->Shared->Prop
noncomputable def frs(l:List Env):List Addr:=l.filterMap (·.frame)
noncomputable abbrev Cx.fs(X:Cx):List Addr:=frs X.outer
noncomputable def Vis(sc:Scope)(x:Str):Prop:=sc.names.lookup x=some .local\/sc.names.lookup x=some .cell\/sc.names.lookup x=some .free
noncomputable def Loc(sc:Scope)(x:Str):Prop:=sc.names.lookup x=some .local\/sc.names.lookup x=some .cell
noncomputable def Look(env:Env)(h:Heap)(m:Str->Option Value)(x:Str)(u:Value):Prop:=
 (env.kindOf x=some .local/\m x=some u)\/((env.kindOf x=some .cell\/env.kindOf x=some .free)/\∃c,env.cells.lookup x=some c/\h.IsCell c (some u))
structure Cx.Ok(X:Cx):Prop where
 mod:Mod X.K X.mg X.base
 kind:X.env.scope.kind=.function
 glob:X.env.globals=mainGlobals
 blt:X.env.builtins=builtinsNs
 above:X.s₀.heap.objs.size<=X.env.locals
 inj:∀x y c,X.env.cells.lookup x=some c->X.env.cells.lookup y=some c->x=y
 has:∀x,(X.env.kindOf x=some .cell\/X.env.kindOf x=some .free)->∃c,X.env.cells.lookup x=some c
 cab:∀x c,X.fn x=true->X.env.cells.lookup x=some c->X.s₀.heap.objs.size<=c
 hd:X.calm=true->X.A.handled=none
 frames:X.A.frames=some X.stack
 stk:X.stack=X.outer\/(X.stack=X.env::X.outer/\X.env.frame=some X.env.locals)
 exf:∀b∈X.ex,b≠X.env.locals/\∀x c,X.env.cells.lookup x=some c->c≠b
 bs:∀b o,X.base.get? b=some o->X.s₀.heap.get? b=some o/\X.H₀ b=none
 bsz:X.base.objs.size<=X.s₀.heap.objs.size
 noex:∀b o,X.base.get? b=some o->b∉X.ex
 exfs:∀b∈X.ex,b∉X.fs
 funs:X.s₀.heap.FunFrames X.base X.outer
 frf:∀b∈X.fs,X.H₀ b=none
structure Inv(X:Cx)(pins:List (Addr×Obj))(σ:List (Option V))(H:Hp)(s:Shared):Prop where
 ok:X.Ok
 os:s.os=X.s₀.os
 bare:AllBare s.gens
 base:Un X.fs X.ex X.H₀ H X.s₀.heap s.heap
 loc:∃m,s.heap.Ns X.env.locals m/\∀(i:Nat)(x:Str)(v:V),X.N[i]?=some x->σ[i]?=some (some v)->Vis X.env.scope x->∃u,RelV v u/\Look X.env s.heap m x u
 cell:∀x c,X.env.cells.lookup x=some c->∃v,s.heap.IsCell c v
 free:H X.env.locals=none
 freeC:∀x c,X.env.cells.lookup x=some c->H c=none
 pin:∀p∈X.pn++pins,s.heap.get? p.1=some p.2/\H p.1=none/\p.1≠X.env.locals/\p.1∉X.fs/\∀v,p.2.data≠.cell v
 hok:HOk X.prog X.w H s.heap
 len:σ.length=X.N.length
section
variable{X:Cx}{pins:List (Addr×Obj)}{σ:List (Option V)}{H H':Hp}{s:Shared}{h':Heap}
theorem Cx.Ok.nofr(ok:X.Ok){b:Addr}{o:Obj}(e:X.base.get? b=some o):b∉X.fs:=fun hb=>by
 have:=(ok.funs.mem hb).1;rw[e]at this;cases this
theorem Inv.bs(I:Inv X pins σ H s):∀b o,X.base.get? b=some o->s.heap.get? b=some o/\H b=none:=fun b o e=>
 ⟨I.base.keep b o (I.ok.bs b o e).1 (I.ok.bs b o e).2 (I.ok.nofr e) (I.ok.noex b o e),I.base.free b o (I.ok.bs b o e).1 (I.ok.bs b o e).2 (I.ok.noex b o e)⟩
theorem Inv.bk(I:Inv X pins σ H s):∀b o,X.base.get? b=some o->s.heap.get? b=some o:=fun b o e=>(I.bs b o e).1
theorem Inv.mod(I:Inv X pins σ H s):Mod X.K X.mg X.base:=I.ok.mod
theorem Inv.kIn(I:Inv X pins σ H s):X.K.In s.heap:=I.ok.mod.kin.keeps I.bk
theorem Inv.fr(I:Inv X pins σ H s):∃m,Fr X.base X.env.locals s.heap m:=
 let⟨m,hn,_⟩:=I.loc
 ⟨m,hn,I.bk,C9 I.ok.bsz I.ok.above⟩
theorem Inv.lt(I:Inv X pins σ H s):X.env.locals<s.heap.objs.size:=let⟨_,hn,_⟩:=I.loc;hn.lt
theorem Inv.sz(I:Inv X pins σ H s):X.s₀.heap.objs.size<=s.heap.objs.size:=C9 I.ok.above (Nat.le_of_lt I.lt)
theorem Inv.nofs(I:Inv X pins σ H s){a:Addr}(h:s.heap.objs.size<=a):a∉X.fs:=fun hb=>by
 obtain⟨_,o,ho,_⟩:=I.ok.funs.mem hb;exact absurd (A8 (B2 ho) (C9 I.sz h)) (E2 _)
theorem Inv.cne(I:Inv X pins σ H s):∀x c,X.env.cells.lookup x=some c->c≠X.env.locals:=fun x c e z=>by
 obtain⟨v,o,ho,hd⟩:=I.cell x c e;obtain⟨m,⟨o',es,ep,ho',hd',_⟩,_⟩:=I.loc;rw[z,ho']at ho;cases ho;rw[hd']at hd;cases hd
theorem Inv.funs(I:Inv X pins σ H s):s.heap.FunFrames X.base X.outer:=by
 have all:∀(l:List Env),(∀b∈frs l,b∈X.fs)->X.s₀.heap.FunFrames X.base l->s.heap.FunFrames X.base l:=by
  intro l
  induction l with
  |nil=>intro _ _;trivial
  |cons env r ih=>
   intro hs hl;obtain⟨hk,⟨L,o,hf,hn,ho,hd⟩,hr⟩:=hl;have hL:L∈X.fs:=hs L (by unfold frs;rw[J6,hf];exact B7);obtain⟨sl,e⟩:=I.base.slot L o ho (I.ok.frf L hL) hL fun z=>I.ok.exfs L z hL;exact⟨hk,⟨L,_,hf,hn,e,hd⟩,ih (fun b hb=>hs b (by unfold frs;rw[J6,hf];exact B0 _ hb)) hr⟩
 exact all X.outer (fun _ hb=>hb) I.ok.funs
theorem Inv.stack(I:Inv X pins σ H s):s.heap.FunFrames X.base X.stack:=by
 rcases I.ok.stk with e|⟨e,hf⟩
 .rw[e];exact I.funs
 .rw[e];obtain⟨m,hn,_⟩:=I.loc;refine .cons (by rw[I.ok.kind];decide) hf hn ?_ I.funs;exact Heap.get?_none_of_le (C9 I.ok.bsz I.ok.above)
theorem Inv.stkSub(I:Inv X pins σ H s):∀b∈frs X.stack,b∈X.env.locals::X.fs:=fun b hb=>by
 rcases I.ok.stk with e|⟨e,hf⟩
 .rw[e]at hb;exact B0 _ hb
 .rw[e]at hb;unfold frs at hb;rw[J6,hf]at hb;exact hb
theorem Inv.stkFree(I:Inv X pins σ H s):∀b∈frs X.stack,H b=none:=fun b hb=>by
 rcases List.mem_cons.mp (I.stkSub b hb)with e|hb
 .rw[e];exact I.free
 .obtain⟨_,o,ho,_⟩:=I.ok.funs.mem hb;exact I.base.free b o ho (I.ok.frf b hb) fun z=>I.ok.exfs b z hb
theorem Inv.step{g':Array GenState}{t':Nat}{d':Drawn}{ch:List Addr}(I:Inv X pins σ H s)
 (hch:∀b∈ch,(b∈X.ex\/X.s₀.heap.objs.size<=b)/\b≠X.env.locals/\(∀x c,X.env.cells.lookup x=some c->c≠b)/\∀p∈X.pn++pins,p.1≠b)
 (keep:∀b o,b≠X.env.locals->b∉X.fs->b∉ch->s.heap.get? b=some o->H b=none->h'.get? b=some o)
 (slot:∀b o,b≠X.env.locals->b∈X.fs->b∉ch->s.heap.get? b=some o->H b=none->∃sl,h'.get? b=some { o with slots:=sl }) (free:∀b o,b∉ch->s.heap.get? b=some o->H b=none->H' b=none)
 (there:∀b o,b∉ch->s.heap.get? b=some o->∃o',h'.get? b=some o')
 (tups:∀b xs,H b=some (.tup xs)->H' b=some (.tup xs)) (frzs:∀b o u,H b=some (.frz o u)->H' b=some (.frz o u)) (tbls:∀b ps,H b=some (.tbl ps)->∃more,H' b=some (.tbl (ps++more)))
 (ns:∀m,s.heap.Ns X.env.locals m->h'.Ns X.env.locals m) (hok:HOk X.prog X.w H' h') (hg:AllBare g'):
 Inv X pins σ H' { s with heap:=h',gens:=g',drawn:=d',toks:=t' }:=by
 have neL:∀b o,X.s₀.heap.get? b=some o->b≠X.env.locals:=fun b o e=>B8 (A8 (B2 e) I.ok.above)
 have neC:∀b o,X.s₀.heap.get? b=some o->b∉X.ex->b∉ch:=fun b o e hx hb=>by
  rcases (hch b hb).1 with z|z
  .exact hx z
  .exact absurd (A8 (B2 e) z) (E2 _)
 have cellK:∀x c,X.env.cells.lookup x=some c->∀v,s.heap.IsCell c v->h'.IsCell c v:=fun x c e v ⟨o,ho,hd⟩=>by
  have nch:c∉ch:=fun z=>(hch c z).2.2.1 x c e rfl;by_cases hc:c∈X.fs
  .obtain⟨sl,q⟩:=slot c o (I.cne x c e) hc nch ho (I.freeC x c e);exact⟨_,q,hd⟩
  .exact⟨o,keep c o (I.cne x c e) hc nch ho (I.freeC x c e),hd⟩
 refine⟨I.ok,I.os,hg,⟨fun b o e n hb hx=>?_,fun b o e n hb hx=>?_,fun b o e n hx=>?_,fun b o e hx=>?_,fun b xs e=>tups b xs (I.base.tups b xs e),fun b o xs e=>frzs b o xs (I.base.frzs b o xs e),fun b ps e=>?_⟩,?_,fun x c e=>?_,?_,fun x c e=>?_,fun p hp=>?_,hok,I.len⟩
 .exact keep b o (neL b o e) hb (neC b o e hx) (I.base.keep b o e n hb hx) (I.base.free b o e n hx)
 .obtain⟨sl,e1⟩:=I.base.slot b o e n hb hx;obtain⟨sl',e2⟩:=slot b _ (neL b o e) hb (neC b o e hx) e1 (I.base.free b o e n hx);exact⟨sl',e2⟩
 .obtain⟨o',e1⟩:=I.base.there b o e hx;exact free b o' (neC b o e hx) e1 (I.base.free b o e n hx)
 .obtain⟨o',e1⟩:=I.base.there b o e hx;exact there b o' (neC b o e hx) e1
 .obtain⟨m1,e1⟩:=I.base.tbls b ps e;obtain⟨m2,e2⟩:=tbls b _ e1;exact⟨m1++m2,by rw[e2,Array.append_assoc]⟩
 .obtain⟨m,hn,hl⟩:=I.loc;refine⟨m,ns m hn,fun i x v e1 e2 e3=>?_⟩;obtain⟨u,r,l⟩:=hl i x v e1 e2 e3;refine⟨u,r,?_⟩;rcases l with l|⟨k,c,e,z⟩
  .exact .inl l
  .exact .inr ⟨k,c,e,cellK x c e _ z⟩
 .obtain⟨v,z⟩:=I.cell x c e;exact⟨v,cellK x c e v z⟩
 .obtain⟨m,⟨o,_,_,ho,_⟩,_⟩:=I.loc;exact free _ o (fun z=>(hch _ z).2.1 rfl) ho I.free
 .obtain⟨v,o,ho,hd⟩:=I.cell x c e;exact free c o (fun z=>(hch c z).2.2.1 x c e rfl) ho (I.freeC x c e)
 .obtain⟨e,n,ne,nf,d⟩:=I.pin p hp;have nch:p.1∉ch:=fun z=>(hch p.1 z).2.2.2 p hp rfl;exact⟨keep p.1 p.2 ne nf nch e n,free p.1 p.2 nch e n,ne,nf,d⟩
theorem Inv.un{t':Nat}(I:Inv X pins σ H s)(u:Un X.fs [] H H' s.heap h')(hok:HOk X.prog X.w H' h'):Inv X pins σ H' { s with heap:=h',toks:=t' }:=by
 obtain⟨m,⟨o,es,ep,ho,r⟩,_⟩:=id I.loc;obtain⟨sl,hL⟩:=u.any ho I.free (by simp)
 exact I.step (g':=s.gens) (d':=s.drawn) (ch:=[]) (fun _ z=>nomatch z) (fun b o _ hb _ e n=>u.keep b o e n hb (by simp)) (fun b o _ hb _ e n=>u.slot b o e n hb (by simp)) (fun b o _ e n=>u.free b o e n (by simp)) (fun b o _ e=>u.there b o e (by simp)) u.tups u.frzs u.tbls (fun m' hm=>by
  obtain⟨o',es',ep',ho',r'⟩:=hm;rw[ho]at ho';cases ho';exact⟨_,es',ep',hL,r'⟩) hok I.bare
theorem Inv.call{g':Array GenState}{t':Nat}{d':Drawn}{ch:List Addr}(I:Inv X pins σ H s)(u:Un (frs X.stack) ch H H' s.heap h')(hok:HOk X.prog X.w H' h')(hg:AllBare g')
 (hch:∀b∈ch,(b∈X.ex\/X.s₀.heap.objs.size<=b)/\b≠X.env.locals/\(∀x c,X.env.cells.lookup x=some c->c≠b)/\∀p∈X.pn++pins,p.1≠b):
 Inv X pins σ H' { s with heap:=h',gens:=g',drawn:=d',toks:=t' }:=by
 obtain⟨m,⟨o,es,ep,ho,r⟩,_⟩:=id I.loc;obtain⟨sl,hL⟩:=u.any ho I.free fun z=>(hch _ z).2.1 rfl
 exact I.step (ch:=ch) hch (fun b o hL hb hc e n=>u.keep b o e n (fun z=>(List.mem_cons.mp (I.stkSub b z)).elim hL hb) hc) (fun b o _ _ hc e n=>u.any e n hc) (fun b o hc e n=>u.free b o e n hc) (fun b o hc e=>u.there b o e hc) u.tups u.frzs u.tbls (fun m' hm=>by
  obtain⟨o',es',ep',ho',r'⟩:=hm;rw[ho]at ho';cases ho';exact⟨_,es',ep',hL,r'⟩) hok hg
theorem Inv.turned{t':Nat}{it:Addr}(I:Inv X pins σ H s)(k:∀b o,b≠it->s.heap.get? b=some o->h'.get? b=some o)(hn:H it=none)(hL:it≠X.env.locals)
 (h1:it∈X.ex\/X.s₀.heap.objs.size<=it) (h2:∀x c,X.env.cells.lookup x=some c->c≠it) (h3:∀p∈X.pn++pins,p.1≠it):Inv X pins σ H { s with heap:=h',toks:=t' }:=by
 have nit:∀b u,H b=some u->b≠it:=fun b u e z=>by rw[z,hn]at e;cases e
 refine I.step (g':=s.gens) (d':=s.drawn) (ch:=[it]) (fun b hb=>?_) (fun b o _ _ hc e _=>k b o (fun z=>hc (by simp[z])) e) (fun b o _ _ hc e _=>⟨o.slots,k b o (fun z=>hc (by simp[z])) e⟩) (fun _ _ _ _ n=>n)
  (fun b o hc e=>⟨o,k b o (fun z=>hc (by simp[z])) e⟩) (fun _ _ e=>e) (fun _ _ _ e=>e) (fun b ps e=>⟨#[],by rw[e];simp⟩) (fun m hm=>?_) (fun b u e=>?_) I.bare
 .have e:b=it:=by simpa using hb
  subst e;exact⟨h1,hL,h2,h3⟩
 .obtain⟨o,es,ep,ho,r⟩:=hm;exact⟨o,es,ep,k _ o (L7 hL) ho,r⟩
 .refine(I.hok b u e).stay (fun c v hc q=>k c v ?_ q) (fun _ q=>q) fun _ _ q=>q;rcases hc with z|z
  .rw[z];exact nit b u e
  .exact nit c _ z
theorem Inv.tok(I:Inv X pins σ H s)(t:Nat):Inv X pins σ H { s with toks:=t }:=I.un (h':=s.heap) (t':=t) Un.refl I.hok
theorem Inv.kept{t':Nat}(I:Inv X pins σ H s)(k:∀b u,s.heap.get? b=some u->h'.get? b=some u):Inv X pins σ H { s with heap:=h',toks:=t' }:=I.un (Un.kept k) (I.hok.kept k)
theorem Inv.laid{a:Addr}{o:HO}{t':Nat}(I:Inv X pins σ H s)(k:∀b u,s.heap.get? b=some u->h'.get? b=some u)(hp:s.heap.objs.size<=a)(new:cS X.prog X.w (upd H a o) h' a o):
 Inv X pins σ (upd H a o) { s with heap:=h',toks:=t' }:=I.un (Un.laid k hp (I.hok.fresh hp)) (I.hok.laid k hp new)
theorem Inv.write{x e:Addr}{o:HO}{t':Nat}(I:Inv X pins σ H s)(mu:Mut (H x))(he:e=x\/H e=some (.own x))(k:∀b u,b≠e->s.heap.get? b=some u->h'.get? b=some u)(heo:∃u,h'.get? e=some u)
 (new:cS X.prog X.w (upd H x o) h' x o):Inv X pins σ (upd H x o) { s with heap:=h',toks:=t' }:=I.un (Un.write mu he k heo) (I.hok.write mu he k heo new)
theorem Inv.pins_of{pins':List (Addr×Obj)}(I:Inv X pins σ H s)(h:∀p∈pins',s.heap.get? p.1=some p.2/\H p.1=none/\p.1≠X.env.locals/\p.1∉X.fs/\∀v,p.2.data≠.cell v):Inv X pins' σ H s:=
 ⟨I.ok,I.os,I.bare,I.base,I.loc,I.cell,I.free,I.freeC,fun p hp=>(List.mem_append.mp hp).elim (fun z=>I.pin p (C5 _ z)) (h p),I.hok,I.len⟩
theorem wL{N:List Str}(hN:N.Nodup){i j:Nat}{x:Str}(a:N[i]?=some x)(b:N[j]?=some x):i=j:=by
 obtain⟨h1,e1⟩:=List.getElem?_eq_some_iff.mp a;obtain⟨h2,e2⟩:=List.getElem?_eq_some_iff.mp b;exact(List.getElem_inj hN).mp (e1.trans e2.symm)
theorem zM{M:Model}{A:Around}{E:Value->Shared->Prop}{i:Nat}{x:Str}{v:V}{u:Value}{Q:Unit->Shared->Prop}(I:Inv X pins σ H s)(hN:X.N.Nodup)(hi:X.N[i]?=some x)(hx:Loc X.env.scope x)(r:RelV v u)
 (h:∀s',Inv X pins (σ.set i (some v)) H s'->(∃a,Heap.SameBut a s.heap s'.heap/\(a=X.env.locals\/X.env.cells.lookup x=some a))->Q () s') (hf:X.fn x=true\/X.env.scope.names.lookup x=some .local:=by first|exact .inl rfl|exact .inr rfl|assumption):wpAny M A (storeName X.env x u) Q E s:=by
 obtain⟨m,hn,hl⟩:=id I.loc;have hcls:(X.env.scope.kind==.class || (X.env.scope.kind==.module&&X.env.locals != X.env.globals))=false:=by rw[I.ok.kind];rfl
 have hiσ:i<σ.length:=by rw[I.len];exact(List.getElem?_eq_some_iff.mp hi).1
 have cne:=I.cne
 have tracked:∀{a:Addr}{h':Heap},(∃o,s.heap.get? a=some o/\H a=none)->Heap.SameBut a s.heap h'->HOk X.prog X.w H h':=fun{a h'} ha hs b ob e=>by
  obtain⟨_,_,hfree⟩:=ha;refine(I.hok b ob e).stay (fun c w' hc q=>(hs.2 c ?_).trans q) (fun _ q=>q) fun _ _ q=>q;rintro rfl;rcases hc with rfl|hc
  .rw[hfree]at e;cases e
  .rw[hfree]at hc;cases hc
 rcases hx with hk|hk
 .refine wpAny_storeName_local hk hn (fun h' hn' hs=>?_) hcls;obtain⟨oL,_,_,hoL,_⟩:=id hn;refine h _ ⟨I.ok,I.os,I.bare,⟨fun b o e n hb hx=>?_,fun b o e n hb hx=>?_,I.base.free,fun b o e hx=>?_,I.base.tups,I.base.frzs,I.base.tbls⟩,⟨_,hn',fun j y v' e1 e2 e3=>?_⟩,fun y c e=>?_,I.free,I.freeC,fun p hp=>?_,tracked ⟨oL,hoL,I.free⟩ hs,by simpa using I.len⟩ ⟨_,hs,.inl rfl⟩
  .exact(hs.2 b (B8 (A8 (B2 e) I.ok.above))).trans (I.base.keep b o e n hb hx)
  .obtain⟨sl,e1⟩:=I.base.slot b o e n hb hx;exact⟨sl,(hs.2 b (B8 (A8 (B2 e) I.ok.above))).trans e1⟩
  .obtain⟨o',e1⟩:=I.base.there b o e hx;exact⟨o',(hs.2 b (B8 (A8 (B2 e) I.ok.above))).trans e1⟩
  .by_cases hj:j=i
   .subst hj;rw[hi]at e1;cases e1;rw[E3 hiσ]at e2;cases e2;exact⟨u,r,.inl ⟨hk,by simp⟩⟩
   .rw[F7 (L7 hj)]at e2;obtain⟨u',r',q⟩:=hl j y v' e1 e2 e3;refine⟨u',r',?_⟩;rcases q with⟨k,e⟩|⟨k,c,e,z⟩
    .refine .inl ⟨k,?_⟩;have:y≠x:=fun e=>hj (wL hN e1 (e▸hi));simp[this,e]
    .exact .inr ⟨k,c,e,z.sameBut hs (cne y c e)⟩
  .obtain⟨w',z⟩:=I.cell y c e;exact⟨w',z.sameBut hs (cne y c e)⟩
  .obtain⟨e,n,ne,nf,d⟩:=I.pin p hp;exact⟨(hs.2 p.1 ne).trans e,n,ne,nf,d⟩
 .have hfn:X.fn x=true:=by
   rcases hf with z|z
   .exact z
   .rw[z]at hk;cases hk
  obtain⟨c,hc⟩:=I.ok.has x (.inl hk);obtain⟨w',z⟩:=I.cell x c hc;refine wpAny_storeName_cell I.ok.kind hk hc z (fun h' hc' hs=>?_);obtain⟨oc,hoc,hocd⟩:=id z;refine h { s with heap:=h' } ⟨I.ok,I.os,I.bare,⟨fun b o e n hb hx=>?_,fun b o e n hb hx=>?_,I.base.free,fun b o e hx=>?_,I.base.tups,I.base.frzs,I.base.tbls⟩,⟨m,hn.sameBut hs (L7 (cne x c hc)),fun j y v' e1 e2 e3=>?_⟩,fun y c' e=>?_,I.free,I.freeC,fun p hp=>?_,tracked ⟨oc,hoc,I.freeC x c hc⟩ hs,by simpa using I.len⟩ ⟨c,hs,.inr hc⟩
  .exact(hs.2 b (B8 (A8 (B2 e) (I.ok.cab x c hfn hc)))).trans (I.base.keep b o e n hb hx)
  .obtain⟨sl,e1⟩:=I.base.slot b o e n hb hx;exact⟨sl,(hs.2 b (B8 (A8 (B2 e) (I.ok.cab x c hfn hc)))).trans e1⟩
  .obtain⟨o',e1⟩:=I.base.there b o e hx;exact⟨o',(hs.2 b (B8 (A8 (B2 e) (I.ok.cab x c hfn hc)))).trans e1⟩
  .by_cases hj:j=i
   .subst hj;rw[hi]at e1;cases e1;rw[E3 hiσ]at e2;cases e2;exact⟨u,r,.inr ⟨.inl hk,c,hc,hc'⟩⟩
   .rw[F7 (L7 hj)]at e2;obtain⟨u',r',q⟩:=hl j y v' e1 e2 e3;refine⟨u',r',?_⟩;rcases q with q|⟨k,c',e,z'⟩
    .exact .inl q
    .refine .inr ⟨k,c',e,z'.sameBut hs ?_⟩;rintro rfl;exact hj (wL hN e1 (I.ok.inj _ _ _ e hc▸hi))
  .by_cases hcc:c'=c
   .subst hcc;exact⟨_,hc'⟩
   .obtain⟨w2,z2⟩:=I.cell y c' e;exact⟨w2,z2.sameBut hs hcc⟩
  .obtain⟨e,n,ne,nf,d⟩:=I.pin p hp;refine⟨(hs.2 p.1 ?_).trans e,n,ne,nf,d⟩;intro q;rw[q,hoc]at e;have q':oc=p.2:=C4 e;exact d w' (by rw[<- q'];exact hocd)
theorem pH{M:Model}{A:Around}{E:Value->Shared->Prop}{i:Nat}{x:Str}{v:V}{u:Value}{Q:Unit->Shared->Prop}(I:Inv X pins σ H s)(hN:X.N.Nodup)(hi:X.N[i]?=some x)(hx:Loc X.env.scope x)(r:RelV v u)
 (h:∀s',Inv X pins (σ.set i (some v)) H s'->Q () s') (hf:X.fn x=true\/X.env.scope.names.lookup x=some .local:=by first|exact .inl rfl|exact .inr rfl|assumption):wpAny M A (storeName X.env x u) Q E s:=
 zM I hN hi hx r (fun s' I' _=>h s' I') hf
theorem Inv.call'{s':Shared}{ch:List Addr}(I:Inv X pins σ H s)(ho:s'.os=s.os)(u:Un (frs X.stack) ch H H' s.heap s'.heap)(hok:HOk X.prog X.w H' s'.heap)(hg:AllBare s'.gens)
 (hch:∀b∈ch,(b∈X.ex\/X.s₀.heap.objs.size<=b)/\b≠X.env.locals/\(∀x c,X.env.cells.lookup x=some c->c≠b)/\∀p∈X.pn++pins,p.1≠b):Inv X pins σ H' s':=by
 obtain⟨h',g',d',t',o'⟩:=s';have e:o'=s.os:=ho;subst e;exact I.call (g':=g') (t':=t') (d':=d') u hok hg hch
end
noncomputable abbrev XK:=Value->Option Addr->Hp->Prop
noncomputable abbrev St:=List (Option V)
noncomputable abbrev VK:=V->Hp->Prop
noncomputable abbrev TE:=St->Hp->VK->Prop
noncomputable abbrev TT:=St->Hp->(Bool->Hp->Prop)->Prop
noncomputable abbrev TA:=St->Hp->(List V->Hp->Prop)->Prop
structure Ends where
 nx:St->Hp->Prop
 rt:VK
 bk:St->Hp->Prop:=fun _ _=>False
 ct:St->Hp->Prop:=fun _ _=>False
noncomputable abbrev TS:=Ends->St->Hp->Prop
noncomputable def EP(X:Cx)(pins:List (Addr×Obj))(σ:St)(Q:VK)(u:Value)(s':Shared):Prop:=∃v H',Inv X pins σ H' s'/\RelV v u/\Q v H'
noncomputable def TP(X:Cx)(pins:List (Addr×Obj))(σ:St)(Q:Bool->Hp->Prop)(b:Bool)(s':Shared):Prop:=∃H',Inv X pins σ H' s'/\Q b H'
noncomputable def AP(X:Cx)(pins:List (Addr×Obj))(σ:St)(Q:List V->Hp->Prop)(us:List Value)(s':Shared):Prop:=∃vs H',Inv X pins σ H' s'/\bJ vs us/\Q vs H'
noncomputable def SP(X:Cx)(pins:List (Addr×Obj))(D:Ends)(f:Flow)(s':Shared):Prop:=
 match f with
 |.next=>∃σ' H',Inv X pins σ' H' s'/\D.nx σ' H'
 |.brk=>∃σ' H',Inv X pins σ' H' s'/\D.bk σ' H'
 |.cont=>∃σ' H',Inv X pins σ' H' s'/\D.ct σ' H'
 |.ret u=>∃v σ' H',Inv X pins σ' H' s'/\RelV v u/\D.rt v H'
noncomputable def PE(X:Cx)(e:Expr)(t:TE):Prop:=
 ∀(pins:List (Addr×Obj))(s:Shared)(σ:St)(H:Hp)(Q:VK),Inv X pins σ H s->t σ H Q->wpAny (model X.prog X.w) X.A (eval e X.env) (EP X pins σ Q) X.xe s
noncomputable def PT(X:Cx)(e:Expr)(t:TT):Prop:=
 ∀(pins:List (Addr×Obj))(s:Shared)(σ:St)(H:Hp)(Q:Bool->Hp->Prop),Inv X pins σ H s->t σ H Q->wpAny (model X.prog X.w) X.A (isTrue e X.env (eval e X.env)) (TP X pins σ Q) X.xe s
noncomputable def PW(X:Cx)(e:Expr)(t:TT):Prop:=
 ∀(whole:Sem Value)(pins:List (Addr×Obj))(s:Shared)(σ:St)(H:Hp)(Q:Bool->Hp->Prop),Inv X pins σ H s->t σ H Q->wpAny (model X.prog X.w) X.A (isTrue e X.env whole) (TP X pins σ Q) X.xe s
theorem PW.pt{X:Cx}{e:Expr}{t:TT}(h:PW X e t):PT X e t:=h _
noncomputable def PA(X:Cx)(es:List Expr)(t:TA):Prop:=
 ∀(pos:Pos)(pins:List (Addr×Obj))(s:Shared)(σ:St)(H:Hp)(Q:List V->Hp->Prop),Inv X pins σ H s->t σ H Q->wpAny (model X.prog X.w) X.A (spliced (backTo pos (starEach es X.env))) (AP X pins σ Q) X.xe s
noncomputable def PS(X:Cx)(st:Stmt)(t:TS):Prop:=
 ∀(pins:List (Addr×Obj))(s:Shared)(σ:St)(H:Hp)(D:Ends),Inv X pins σ H s->t D σ H->wpAny (model X.prog X.w) X.A (exec st X.env) (SP X pins D) X.xe s
noncomputable def PSs(X:Cx)(st:List Stmt)(t:TS):Prop:=
 ∀(pins:List (Addr×Obj))(s:Shared)(σ:St)(H:Hp)(D:Ends),Inv X pins σ H s->t D σ H->wpAny (model X.prog X.w) X.A (execs st X.env) (SP X pins D) X.xe s
theorem thn{α:Type}{t:Sem α}{Q Q':α->Shared->Prop}{M:Model}{E:Value->Shared->Prop}{s:Shared}(h:wpAny M A t Q E s)(hQ:∀a s,Q a s->Q' a s):wpAny M A t Q' E s:=D5 h hQ fun _ _ x=>x
section
variable{X:Cx}
theorem bin{a b:Expr}{ta tb:TE}(ha:PE X a ta)(hb:PE X b tb){pins:List (Addr×Obj)}{R:V->V->Hp->Prop}(I:Inv X pins σ H s)(h:ta σ H fun x H1=>tb σ H1 fun y H2=>R x y H2)
 {α:Type} {Q:α->Shared->Prop} {f:Value->Value->Sem α}
 (hf:∀v u s2 x y H2,Inv X pins σ H2 s2->RelV x v->RelV y u->R x y H2->wpAny (model X.prog X.w) X.A (f v u) Q X.xe s2):
 wpAny (model X.prog X.w) X.A (eval a X.env) (fun v s₁=>wpAny (model X.prog X.w) X.A (eval b X.env) (fun u s₂=>wpAny (model X.prog X.w) X.A (f v u) Q X.xe s₂) X.xe s₁) X.xe s:=by
 refine thn (ha pins s σ H _ I h) fun v s1 ⟨x,H1,I1,r1,q1⟩=>?_;refine thn (hb pins s1 σ H1 _ I1 q1) fun u s2 ⟨y,H2,I2,r2,q2⟩=>?_;exact hf v u s2 x y H2 I2 r1 r2 q2
noncomputable def aFg(i:Nat):TE:=fun σ H Q=>∃v,σ[i]?=some (some v)/\Q v H
noncomputable def tC(v:V):TE:=fun _ H Q=>Q v H
theorem aBn{i:Nat}{x:Str}(hN:X.N[i]?=some x)(hv:Vis X.env.scope x)(hd:(x==("__debug__":Str))=false:=by decide)(hcd:(x==("__classdict__":Str))=false:=by decide):PE X (.Name x pos) (aFg i):=by
 intro pins s σ H Q I h;obtain⟨v,e,h⟩:=h;obtain⟨m,hn,hl⟩:=I.loc;obtain⟨u,r,l⟩:=hl i x v hN e hv;have fin:EP X pins σ Q u s:=⟨v,H,I,r,h⟩;rcases l with⟨hk,hm⟩|⟨hk,c,hc,hcell⟩
 .exact wpAny_Name (wpAny_loadName_local I.ok.kind hk hn hm fin) hd
 .rcases hk with hk|hk
  .exact wpAny_Name (wpAny_loadName_cell I.ok.kind hk hc hcell fin) hd
  .exact wpAny_Name (wpAny_loadName_free I.ok.kind hk hc hcell fin hcd) hd
theorem aCZ{i j pos}:PE X (.Constant (.int i) j pos) (tC (.int i)):=fun _ _ _ H _ I h=>wpAny_Constant_int ⟨.int i,H,I.tok _,⟨_,rfl⟩,h⟩
theorem aFe{b j pos}:PE X (.Constant (.bool b) j pos) (tC (.bl b)):=fun _ _ _ H _ I h=>Constant_bool ⟨.bl b,H,I,rfl,h⟩
theorem aBs{j pos}:PE X (.Constant .none j pos) (tC .non):=fun _ _ _ H _ I h=>Constant_none ⟨.non,H,I,rfl,h⟩
theorem aCJ{x j pos}:PE X (.Constant (.str x) j pos) (tC (.str x)):=fun _ _ _ H _ I h=>Calls.Constant_str ⟨.str x,H,I.tok _,⟨_,rfl⟩,h⟩
noncomputable def Gl(X:Cx)(x:Str):Prop:=X.env.kindOf x=some .globalImplicit
theorem sO{E:Value->Shared->Prop}{pins:List (Addr×Obj)}{x:Str}{u:Value}{pos:Pos}{Q:Value->Shared->Prop}(I:Inv X pins σ H s)(hg:Gl X x)(hm:X.mg x=some u)(h:Q u s)
 (hd:(x==("__debug__":Str))=false:=by decide):wpAny (model X.prog X.w) X.A (eval (.Name x pos) X.env) Q E s:=
 Calls.Name_function_global I.ok.kind hg (Calls.loadGlobal_global (by rw[I.ok.glob];exact I.mod.glob.keeps I.bk) hm h) hd
theorem wR{E:Value->Shared->Prop}{pins:List (Addr×Obj)}{x:Str}{u:Value}{pos:Pos}{Q:Value->Shared->Prop}(I:Inv X pins σ H s)(hg:Gl X x)(hm:X.mg x=none)(hv:bootBuiltins x=some u)(h:Q u s)
 (hn:x≠"__name__":=by decide) (hd:(x==("__debug__":Str))=false:=by decide):wpAny (model X.prog X.w) X.A (eval (.Name x pos) X.env) Q E s:=by
 obtain⟨mb,h1,h2⟩:=I.mod.blt;exact Calls.Name_function_global I.ok.kind hg (Calls.loadGlobal_builtin (by rw[I.ok.glob];exact I.mod.glob.keeps I.bk) hm (by rw[I.ok.blt];exact h1.keeps I.bk) ((h2 x hn).trans hv) h) hd
theorem HW{x:Str}{v:V}{u:Value}(hg:Gl X x)(hm:X.mg x=some u)(r:RelV v u)(hd:(x==("__debug__":Str))=false:=by decide):PE X (.Name x pos) (tC v):=
 fun _ _ _ H _ I h=>sO I hg hm ⟨v,H,I,r,h⟩ hd
theorem vQ{x:Str}{v:V}{u:Value}(hg:Gl X x)(hm:X.mg x=none)(hv:bootBuiltins x=some u)(r:RelV v u)(hn:x≠"__name__":=by decide)(hd:(x==("__debug__":Str))=false:=by decide):PE X (.Name x pos) (tC v):=
 fun _ _ _ H _ I h=>wR I hg hm hv ⟨v,H,I,r,h⟩ hn hd
variable{a b:Expr}{ta tb:TE}{pos:Pos}
noncomputable def PC(X:Cx)(op:CmpOp)(a b:Expr)(t:TE):Prop:=
 ∀(pins:List (Addr×Obj))(s:Shared)(σ:St)(H:Hp)(Q:VK),Inv X pins σ H s->t σ H Q->
  wpAny (model X.prog X.w) X.A (eval a X.env) (fun v s₁=>wpAny (model X.prog X.w) X.A (eval b X.env) (fun u s₂=>wpAny (model X.prog X.w) X.A (compareOp op v u) (EP X pins σ Q) X.xe s₂) X.xe s₁) X.xe s
theorem QY(b:Expr){op:CmpOp}(h:op≠.In)(h2:op≠.NotIn):behindInMarks op b=false:=by
 have e1:(op==CmpOp.In)=false:=by cases op<;>first|rfl|exact absurd rfl h
 have e2:(op==CmpOp.NotIn)=false:=by cases op<;>first|rfl|exact absurd rfl h2
 cases b<;>simp[behindInMarks,e1,e2]
noncomputable def tB(t:TE):TT:=fun σ H Q=>t σ H fun x H1=>∃c,x=.bl c/\Q c H1
theorem pt_cmp{op:CmpOp}{t:TE}(h:PC X op a b t)(h1:behindInMarks op b=false:=by first|exact QY _ (by decide) (by decide)|rfl):PT X (.Compare a [op] [b] pos) (tB t):=by
 intro pins s σ H Q I hw;refine wpAny_isTrue_Compare1 (thn (h pins s σ H _ I hw) fun v s1 h1=>thn h1 fun u s2 h2=>thn h2 fun c s3 ⟨x,H1,I1,r1,q1⟩=>?_) h1;obtain⟨d,rfl,q⟩:=q1;cases r1;exact F4 ⟨H1,I1,q⟩
theorem aCb{e:Expr}{t:TE}(h:PE X e t)(he:∀whole,isTrue e X.env whole=(do let v <- whole;standAt e.pos;holding [v] (truthy v)):=by intro _;rfl):PT X e (tB t):=by
 intro pins s σ H Q I hw;refine isTrue_plain (thn (h pins s σ H _ I hw) fun v s1 ⟨x,H1,I1,r1,q1⟩=>?_) (he _);obtain⟨d,rfl,q⟩:=q1;cases r1;exact F4 ⟨H1,I1,q⟩
variable{tA tB':TT}{rest:List Expr}
noncomputable def tOr(t u:TT):TT:=fun σ H Q=>t σ H fun c H1=>if c=true then Q true H1 else u σ H1 Q
noncomputable def aEC(t:TT):TT:=fun σ H Q=>t σ H fun c H1=>Q (!c) H1
theorem aCm(ha:PT X a tA):PW X (.BoolOp .Or [a] pos) tA:=by
 intro wh pins s σ H Q I h;refine isTrue_or (thn (ha pins s σ H Q I h) fun c s1 e=>?_);cases c with
 |false=>exact isTrue_or_nil e
 |true=>exact e
theorem aEa(ha:PT X a tA)(hb:PW X (.BoolOp .Or (b::rest) pos) tB'):PW X (.BoolOp .Or (a::b::rest) pos) (tOr tA tB'):=by
 intro wh pins s σ H Q I h;refine isTrue_or (thn (ha pins s σ H _ I h) fun c s1 ⟨H1,I1,q1⟩=>?_);cases c with
 |true=>exact⟨H1,I1,q1⟩
 |false=>exact hb wh pins s1 σ H1 Q I1 q1
theorem aBY(ha:PT X a tA):PT X (.UnaryOp .Not a pos) (aEC tA):=by
 intro pins s σ H Q I h;exact isTrue_not (ha pins s σ H (fun c H1=>Q (!c) H1) I h)
noncomputable def aAF(ta tb:TE):TE:=fun σ H Q=>ta σ H fun x H1=>∃c,x=.bl c/\if c=true then tb σ H1 Q else Q (.bl false) H1
noncomputable def aEF(ta tb:TE):TE:=fun σ H Q=>ta σ H fun x H1=>∃c,x=.bl c/\if c=true then Q (.bl true) H1 else tb σ H1 Q
noncomputable def aAK(ta:TE):TE:=fun σ H Q=>ta σ H fun x H1=>∃c,x=.bl c/\Q (.bl (!c)) H1
theorem aCy{op}{t:TE}(h:PE X a t):PE X (.BoolOp op [a] pos) t:=fun pins s σ H Q I hw=>BoolOp_one (h pins s σ H Q I hw)
theorem aDQ(ha:PE X a ta)(hb:PE X (.BoolOp .And (b::rest) pos) tb):PE X (.BoolOp .And (a::b::rest) pos) (aAF ta tb):=by
 intro pins s σ H Q I h;refine BoolOp_and (thn (ha pins s σ H _ I h) fun v s1 ⟨x,H1,I1,r1,q1⟩=>?_);obtain⟨c,rfl,q1⟩:=q1;cases r1;refine F4 ?_;cases c with
 |true=>exact hb pins s1 σ H1 Q I1 q1
 |false=>exact⟨.bl false,H1,I1,rfl,q1⟩
theorem aDZ(ha:PE X a ta)(hb:PE X (.BoolOp .Or (b::rest) pos) tb):PE X (.BoolOp .Or (a::b::rest) pos) (aEF ta tb):=by
 intro pins s σ H Q I h;refine BoolOp_or (thn (ha pins s σ H _ I h) fun v s1 ⟨x,H1,I1,r1,q1⟩=>?_);obtain⟨c,rfl,q1⟩:=q1;cases r1;refine F4 ?_;cases c with
 |false=>exact hb pins s1 σ H1 Q I1 q1
 |true=>exact⟨.bl true,H1,I1,rfl,q1⟩
theorem aAW(ha:PE X a ta):PE X (.UnaryOp .Not a pos) (aAK ta):=by
 intro pins s σ H Q I h;refine UnaryOp_ (thn (ha pins s σ H _ I h) fun v s1 ⟨x,H1,I1,r1,q1⟩=>?_);obtain⟨c,rfl,q1⟩:=q1;cases r1;exact not_of (F4 ⟨.bl (!c),H1,I1,rfl,q1⟩)
noncomputable def tIf(t:TT)(ta tb:TE):TE:=fun σ H Q=>t σ H fun c H1=>if c=true then ta σ H1 Q else tb σ H1 Q
theorem UG{c:Expr}(hc:PT X c tA)(ha:PE X a ta)(hb:PE X b tb):PE X (.IfExp c a b pos) (tIf tA ta tb):=by
 intro pins s σ H Q I h;refine wpAny_IfExp (thn (hc pins s σ H _ I h) fun d s1 ⟨H1,I1,q1⟩=>?_);cases d with
 |true=>exact ha pins s1 σ H1 Q I1 q1
 |false=>exact hb pins s1 σ H1 Q I1 q1
end
noncomputable def SqL(K:Fg)(H:Hp)(a:Addr)(xs:List V):Prop:=
 Rd H a (.lst xs) \/
  ∃(o:Obj)(its:Array Value)(n:Nat),K.lookup a=some o/\o.cls=.type "list"/\o.dict=none/\o.data=.seq its n/\its.size<=sizeLine/\bJ xs its.toList
noncomputable def SqT(K:Fg)(H:Hp)(a:Addr)(xs:List V):Prop:=
 Rd H a (.tup xs) \/
  ∃(o:Obj)(its:Array Value)(n:Nat),K.lookup a=some o/\o.cls=.type "tuple"/\o.data=.seq its n/\its.size<=sizeLine/\bJ xs its.toList
noncomputable def aFX:Value->Option V
 |.none=>some .non
 |.bool b=>some (.bl b)
 |.int i _=>some (.int i)
 |.str x _=>some (.str x)
 |.bytes b _=>some (.byt b)
 |.float b _=>some (.flt b)
 |.ref a=>some (.ref a)
 |.type n=>some (.ty n)
 |_=>none
theorem RelV.abs{x:V}{u:Value}(r:RelV x u):aFX u=some x:=by
 cases x with
 |non=>cases r;rfl
 |bl _=>cases r;rfl
 |int _=>obtain⟨t,rfl⟩:=r;rfl
 |str _=>obtain⟨t,rfl⟩:=r;rfl
 |byt _=>obtain⟨t,rfl⟩:=r;rfl
 |flt _=>obtain⟨t,rfl⟩:=r;rfl
 |ref _=>cases r;rfl
 |ty _=>cases r;rfl
theorem RelV.inj{x y:V}{u:Value}(r:RelV x u)(q:RelV y u):x=y:=C4 (r.abs.symm.trans q.abs)
theorem bJ.inj:∀{xs ys:List V}{us:List Value},bJ xs us->bJ ys us->xs=ys
 |_,_,_,.nil,.nil=>rfl
 |_,_,_,.cons r t,.cons r' t'=>by rw[r.inj r',bJ.inj t t']
section
variable{X:Cx}{pins:List (Addr×Obj)}{σ:St}{H:Hp}{s:Shared}{a:Addr}{xs ys:List V}
theorem SqL.of(h:H a=some (.lst xs)):SqL K H a xs:=.inl (.inl h)
theorem SqT.of(h:H a=some (.tup xs)):SqT K H a xs:=.inl (.inl h)
theorem Inv.list(I:Inv X pins σ H s)(h:SqL X.K H a xs):∃its:List Value,bJ xs its/\PlainL s.heap a its.toArray/\xs.length<=sizeLine:=by
 rcases h with h|⟨o,its,n,hk,hc,hd,hs,hz,r⟩
 .obtain⟨z,its,n,r,e⟩:=h.ok I.hok;exact⟨its,r,⟨_,n,e,rfl,rfl,rfl⟩,z⟩
 .refine⟨its.toList,r,⟨o,n,I.kIn a o hk,hc,hd,by simpa using hs⟩,?_⟩;have e:=r.length;simp only[Array.length_toList]at e;omega
theorem Inv.tuple(I:Inv X pins σ H s)(h:SqT X.K H a xs):∃its:List Value,bJ xs its/\IsTup s.heap a its.toArray/\xs.length<=sizeLine:=by
 rcases h with h|⟨o,its,n,hk,hc,hs,hz,r⟩
 .obtain⟨z,its,r,p⟩:=h.ok I.hok;exact⟨its,r,p,z⟩
 .refine⟨its.toList,r,⟨o,I.kIn a o hk,hc,n,by simpa using hs⟩,?_⟩;have e:=r.length;simp only[Array.length_toList]at e;omega
theorem Inv.list_inj(I:Inv X pins σ H s)(h:SqL X.K H a xs)(h':SqL X.K H a ys):xs=ys:=by
 obtain⟨its,r,⟨o,n,e,_,_,d⟩,_⟩:=I.list h;obtain⟨its',r',⟨o',n',e',_,_,d'⟩,_⟩:=I.list h';rw[e]at e';cases e';rw[d]at d';injection d' with d1 _
 have:its=its':=by simpa using L5 Array.toList d1
 subst this;exact r.inj r'
theorem Inv.tuple_inj(I:Inv X pins σ H s)(h:SqT X.K H a xs)(h':SqT X.K H a ys):xs=ys:=by
 obtain⟨its,r,⟨o,e,_,n,d⟩,_⟩:=I.tuple h;obtain⟨its',r',⟨o',e',_,n',d'⟩,_⟩:=I.tuple h';rw[e]at e';cases e';rw[d]at d';injection d' with d1 _
 have:its=its':=by simpa using L5 Array.toList d1
 subst this;exact r.inj r'
end
noncomputable abbrev Cx.wish(X:Cx)(E:Value->Shared->Prop):Cx:={ X with xe:=E }
noncomputable abbrev Cx.nox(X:Cx):Cx:=X.wish fun _ _=>False
theorem Cx.Ok.wish{X:Cx}(ok:X.Ok)(E:Value->Shared->Prop):(X.wish E).Ok:=
 ⟨ok.mod,ok.kind,ok.glob,ok.blt,ok.above,ok.inj,ok.has,ok.cab,ok.hd,ok.frames,ok.stk,ok.exf,ok.bs,ok.bsz,ok.noex,ok.exfs,ok.funs,ok.frf⟩
theorem Cx.Ok.unwish{X:Cx}{E:Value->Shared->Prop}(ok:(X.wish E).Ok):X.Ok:=
 ⟨ok.mod,ok.kind,ok.glob,ok.blt,ok.above,ok.inj,ok.has,ok.cab,ok.hd,ok.frames,ok.stk,ok.exf,ok.bs,ok.bsz,ok.noex,ok.exfs,ok.funs,ok.frf⟩
section
variable{X:Cx}{pins:List (Addr×Obj)}{σ:St}{H:Hp}{s:Shared}{E:Value->Shared->Prop}
theorem Inv.wish(I:Inv X pins σ H s)(E:Value->Shared->Prop):Inv (X.wish E) pins σ H s:=⟨I.ok.wish E,I.os,I.bare,I.base,I.loc,I.cell,I.free,I.freeC,I.pin,I.hok,I.len⟩
theorem Inv.unwish(I:Inv (X.wish E) pins σ H s):Inv X pins σ H s:=⟨I.ok.unwish,I.os,I.bare,I.base,I.loc,I.cell,I.free,I.freeC,I.pin,I.hok,I.len⟩
theorem SP.unwish{D:Ends}{f:Flow}{s':Shared}(h:SP (X.wish E) pins D f s'):SP X pins D f s':=by
 cases f with
 |next=>obtain⟨σ',H',I,q⟩:=h;exact⟨σ',H',I.unwish,q⟩
 |brk=>obtain⟨σ',H',I,q⟩:=h;exact⟨σ',H',I.unwish,q⟩
 |cont=>obtain⟨σ',H',I,q⟩:=h;exact⟨σ',H',I.unwish,q⟩
 |ret u=>obtain⟨v,σ',H',I,r,q⟩:=h;exact⟨v,σ',H',I.unwish,r,q⟩
theorem PSs.nox{st:List Stmt}{t:TS}(h:PSs X.nox st t):PSs X st t:=fun pins s σ H D I hw=>
 D5 (h pins s σ H D (I.wish _) hw) (fun _ _ q=>q.unwish) fun _ _ z=>False.elim z
end
section
variable{X:Cx}{st:Stmt}{rest:List Stmt}{t u:TS}{e:Expr}{te:TE}{pos:Pos}
noncomputable def aAt:TS:=fun D σ H=>D.nx σ H
noncomputable def aDO(t u:TS):TS:=fun D σ H=>t { D with nx:=u D } σ H
theorem UR:PSs X [] aAt:=fun _ _ σ H _ I h=>Y1 ⟨σ,H,I,h⟩
theorem EJ(h1:PS X st t)(h2:PSs X rest u):PSs X (st::rest) (aDO t u):=by
 intro pins s σ H D I h;refine wpAny_execs_cons (thn (h1 pins s σ H { D with nx:=u D } I h) fun f s1 q=>?_);cases f with
 |next=>
  obtain⟨σ',H',I',q⟩:=q;exact h2 pins s1 σ' H' D I' q
 |ret v=>exact q
 |brk=>exact q
 |cont=>exact q
theorem IF(h1:PS X st t):PSs X [st] t:=by
 intro pins s σ H D I h;refine wpAny_execs_cons (thn (h1 pins s σ H D I h) fun f s1 q=>?_);cases f with
 |next=>exact Y1 q
 |ret v=>exact q
 |brk=>exact q
 |cont=>exact q
theorem Inv.quiet{pins:List (Addr×Obj)}(I:Inv X pins σ H s):interactive X.env=false:=by simp[interactive,I.ok.kind]
noncomputable def UP(te:TE):TS:=fun D σ H=>te σ H fun _ H1=>D.nx σ H1
theorem JH(he:PE X e te)(hs:swapsWith e none pos.line X.env=pure false:=by rfl):PS X (.Expr e pos) (UP te):=by
 intro pins s σ H D I h;exact wpAny_Expr_any (thn (he pins s σ H _ I h) fun v s1 ⟨x,H1,I1,r1,q1⟩=>⟨σ,H1,I1,q1⟩) I.quiet hs
noncomputable def aFn(te:TE):TS:=fun D σ H=>te σ H D.rt
theorem aAQ(he:PE X e te):PS X (.Return (some e) pos) (aFn te):=by
 intro pins s σ H D I h;exact wpAny_Return_some (thn (he pins s σ H _ I h) fun v s1 ⟨x,H1,I1,r1,q1⟩=>⟨x,σ,H1,I1,r1,q1⟩)
noncomputable def aBb(c:TT)(t u:TS):TS:=fun D σ H=>c σ H fun b H1=>if b=true then t D σ H1 else u D σ H1
theorem aAM{c:Expr}{a b:List Stmt}{tc:TT}(hc:PT X c tc)(ha:PSs X a t)(hb:PSs X b u):PS X (.If c a b pos) (aBb tc t u):=by
 intro pins s σ H D I h;refine wpAny_If (thn (hc pins s σ H _ I h) fun d s1 ⟨H1,I1,q1⟩=>?_);cases d with
 |true=>exact ha pins s1 σ H1 D I1 q1
 |false=>exact hb pins s1 σ H1 D I1 q1
end
noncomputable abbrev TG:=V->St->Hp->(St->Hp->Prop)->Prop
noncomputable abbrev TGs:=List V->St->Hp->(St->Hp->Prop)->Prop
noncomputable def PG(X:Cx)(target:Expr)(t:TG):Prop:=
 ∀(pins:List (Addr×Obj))(s:Shared)(σ:St)(H:Hp)(v:V)(u:Value)(Q:St->Hp->Prop),Inv X pins σ H s->RelV v u->t v σ H Q->
  wpAny (model X.prog X.w) X.A (assign target X.env u) (fun _ s'=>∃σ' H',Inv X pins σ' H' s'/\Q σ' H') X.xe s
noncomputable def PGs(X:Cx)(ts:List Expr)(t:TGs):Prop:=
 ∀(pins:List (Addr×Obj))(s:Shared)(σ:St)(H:Hp)(vs:List V)(us:List Value)(Q:St->Hp->Prop),Inv X pins σ H s->bJ vs us->t vs σ H Q->
  wpAny (model X.prog X.w) X.A (assignInOrder ((assignEach ts X.env).map (·.2)) us) (fun _ s'=>∃σ' H',Inv X pins σ' H' s'/\Q σ' H') X.xe s
noncomputable abbrev ZA:=V->V->V->Hp->(Hp->Prop)->Prop
noncomputable def aBa(X:Cx)(t:ZA):Prop:=
 ∀(pins:List (Addr×Obj))(s:Shared)(σ:St)(H:Hp)(o i v:V)(ov iv u:Value)(Q:Hp->Prop),Inv X pins σ H s->RelV o ov->RelV i iv->RelV v u->t o i v H Q->
  wpAny (model X.prog X.w) X.A (setItem ov iv u) (fun _ s'=>∃H',Inv X pins σ H' s'/\Q H') X.xe s
section
variable{X:Cx}{pos:Pos}
noncomputable def EL(i:Nat):TG:=fun v σ H Q=>Q (σ.set i (some v)) H
theorem ZX{i:Nat}{x:Str}(hN:X.N.Nodup)(hi:X.N[i]?=some x)(hx:Loc X.env.scope x)(hf:X.fn x=true\/X.env.scope.names.lookup x=some .local:=by first|exact .inl rfl|exact .inr rfl|assumption):PG X (.Name x pos) (EL i):=by
 intro pins s σ H v u Q I r h;exact wpAny_assign_Name (pH I hN hi hx r (fun s' I'=>⟨_,H,I',h⟩) hf)
noncomputable def aFm:TGs:=fun vs σ H Q=>vs=[]/\Q σ H
noncomputable def aAL(t:TG)(u:TGs):TGs:=fun vs σ H Q=>∃v r,vs=v::r/\t v σ H fun σ' H'=>u r σ' H' Q
theorem YO:PGs X [] aFm:=by
 intro pins s σ H vs us Q I r h;obtain⟨e,h⟩:=h;subst e;cases r;exact assignInOrder_nil ⟨σ,H,I,h⟩
theorem QJ{e:Expr}{es:List Expr}{t:TG}{u:TGs}(h1:PG X e t)(h2:PGs X es u)
 (hs:(assignEach (e::es) X.env).map (·.2)=assign e X.env::(assignEach es X.env).map (·.2):=by rfl):PGs X (e::es) (aAL t u):=by
 intro pins s σ H vs us Q I r h;obtain⟨v,vr,e1,h⟩:=h;subst e1;cases r with
 |cons r rr=>
  rw[hs];refine assignInOrder_cons (thn (h1 pins s σ H _ _ _ I r h) fun _ s1 ⟨σ1,H1,I1,q1⟩=>?_);exact h2 pins s1 σ1 H1 _ _ Q I1 rr q1
noncomputable def XB(K:Fg)(n:Nat)(t:TGs):TG:=fun v σ H Q=>∃a xs,v=.ref a/\SqT K H a xs/\xs.length=n/\t xs σ H Q
theorem aDu{es:List Expr}{k:Nat}{t:TGs}{n:Nat}(hc:X.calm=true)(h:PGs X es t)
 (hn:(assignEach es X.env).length=n:=by rfl) (hst:(assignEach es X.env).findIdx? (·.1)=none:=by rfl):PG X (.Tuple es k pos) (XB X.K n t):=by
 intro pins s σ H v u Q I r hw;obtain⟨a,xs,e1,hq,hl,hw⟩:=hw;subst e1;cases r;obtain⟨its,rv,ht,hz⟩:=I.tuple hq;refine assign_Tuple_tuple (I.ok.hd hc) ht (by simp[hn,<- hl,rv.length]) hst fun h' hx=>?_;have I1:Inv X pins σ H { s with heap:=h' }:=I.kept (t':=s.toks) fun b o e=>hx b o (B8 (B2 e)) e;exact h pins _ σ H xs _ Q I1 (by simpa using rv) hw
noncomputable def aFw(to ti:TE)(t:ZA):TG:=fun v σ H Q=>to σ H fun o H1=>ti σ H1 fun i H2=>t o i v H2 fun H3=>Q σ H3
theorem aBK{o i:Expr}{to ti:TE}{t:ZA}(ho:PE X o to)(hi:PE X i ti)(hs:aBa X t)
 (ha:∀v,assign (.Subscript o i pos) X.env v=(do
  let ov <- holding [v] (eval o X.env);let iv <- holding [v,ov] (eval i X.env)
  standAt pos
  holding [v,ov,iv] (setItem ov iv v)
  release [v,ov,iv] []):=by intro _;rfl):PG X (.Subscript o i pos) (aFw to ti t):=by
 intro pins s σ H v u Q I r h;rw[ha];refine A0 (E6 (thn (ho pins s σ H _ I h) fun ov s1 ⟨x,H1,I1,r1,q1⟩=>?_));refine A0 (E6 (thn (hi pins s1 σ H1 _ I1 q1) fun iv s2 ⟨y,H2,I2,r2,q2⟩=>?_));refine A0 (O3 (A0 (E6 (thn (hs pins s2 σ H2 x y v ov iv u _ I2 r1 r2 r q2) fun _ s3 ⟨H3,I3,q3⟩=>?_))));exact wpAny_release ⟨σ,H3,I3,q3⟩
noncomputable def TQ(te:TE)(g:TG):TS:=fun D σ H=>te σ H fun x H1=>g x σ H1 D.nx
theorem aBM{tg e:Expr}{te:TE}{g:TG}(he:PE X e te)(hg:PG X tg g)(hs:swapsWithSole [tg] e pos.line X.env=pure false:=by rfl)(hw:swappedStores [tg] e X.env=pure none:=by rfl)
 (h1:(assignEach [tg] X.env).map (·.2)=[assign tg X.env]:=by rfl):PS X (.Assign [tg] e pos) (TQ te g):=by
 intro pins s σ H D I h;refine wpAny_Assign_stores (thn (he pins s σ H _ I h) fun v s1 ⟨x,H1,I1,r1,q1⟩=>?_) hs hw;rw[h1];exact thn (hg pins s1 σ H1 x v _ I1 r1 q1) fun _ s2 q=>q
theorem UN{i:Nat}{x:Str}{e:Expr}{te:TE}{pos':Pos}(hN:X.N.Nodup)(hi:X.N[i]?=some x)(hx:Loc X.env.scope x)(he:PE X e te)(hs:swapsWith e (some (.Name x pos')) pos.line X.env=pure false:=by rfl)(hf:X.fn x=true\/X.env.scope.names.lookup x=some .local:=by first|exact .inl rfl|exact .inr rfl|assumption):
 PS X (.Assign [.Name x pos'] e pos) (TQ te (EL i)):=by
 intro pins s σ H D I h;refine wpAny_Assign_Name (thn (he pins s σ H _ I h) fun v s1 ⟨y,H1,I1,r1,q1⟩=>?_) hs;exact pH I1 hN hi hx r1 (fun s2 I2=>⟨_,H1,I2,q1⟩) hf
noncomputable def aET(i j:Nat)(ta:TA):TS:=fun D σ H=>ta σ H fun vs H1=>∃v w,vs=[v,w]/\D.nx ((σ.set i (some v)).set j (some w)) H1
theorem aCG{i j:Nat}{x y:Str}{a b:Expr}{ta:TA}{px py pt:Pos}{kt k2 pt2}(hc:X.calm=true)(hN:X.N.Nodup)(hi:X.N[i]?=some x)(hj:X.N[j]?=some y)(hij:i≠j)
 (hx:X.env.scope.names.lookup x=some .local) (hy:X.env.scope.names.lookup y=some .local) (ha:PA X [a,b] ta)
 (hw:swappedStores [.Tuple [.Name x px,.Name y py] kt pt] (.Tuple [a,b] k2 pt2) X.env=pure (some [x,y]))
 (hs:swapsWithSole [.Tuple [.Name x px,.Name y py] kt pt] (.Tuple [a,b] k2 pt2) pos.line X.env=pure false:=by rfl):
 PS X (.Assign [.Tuple [.Name x px,.Name y py] kt pt] (.Tuple [a,b] k2 pt2) pos) (aET i j ta):=by
 intro pins s σ H D I h;rw[exec_Assign_arm];refine A0 (O3 ?_);rw[hs];refine A0 (A4 ?_);rw[A7 (by decide)];refine A0 (Tuple_ (thn (ha _ pins s σ H _ I h) fun us s1 ⟨vs,H1,I1,r1,q1⟩=>?_));obtain⟨v,w,e1,q1⟩:=q1;subst e1
 obtain⟨u1,u2,rfl,rv,rw'⟩:∃u1 u2,us=[u1,u2]/\RelV v u1/\RelV w u2:=by
  cases r1 with
  |cons p q=>
   cases q with
   |cons p' q'=>
    cases q';exact⟨_,_,rfl,p,p'⟩
 refine E1 ?_ (by show 2<=sizeLine;decide);have I2:Inv X pins σ H1 { s1 with heap:=s1.heap.push { cls:=.type "tuple",data:=.seq [u1,u2].toArray } }:=I1.kept (t':=s1.toks) fun b o e=>B3 _ e;rw[hw];refine A0 (A4 ?_);show wpAny (model X.prog X.w) X.A (do rule "assign.swapped-stores";let items <- unpackItems (.ref s1.heap.objs.size) 2 none;assignInOrder [fun v=>bindName X.env y v,fun v=>bindName X.env x v] items.reverse;pure Flow.next) _ _ _;refine A0 (wpAny_rule (A0 (unpackItems_tuple (items:=#[u1,u2]) (I.ok.hd hc) (IsTup.new s1.heap _) fun h' hx'=>?_)));have I3:=I2.kept (h':=h') (t':=s1.toks) fun b o e=>hx' b o (B8 (B2 e)) e;show wpAny _ _ (assignInOrder [fun v=>bindName X.env y v,fun v=>bindName X.env x v] [u2,u1] >>= fun _=>pure Flow.next) _ _ _;refine A0 (assignInOrder_cons (wpAny_bindName (pH I3 hN hj (.inl hy) rw' (fun s2 I4=>?_) (.inr hy))));refine assignInOrder_cons (wpAny_bindName (pH I4 hN hi (.inl hx) rv (fun s3 I5=>assignInOrder_nil (A4 ?_)) (.inr hx)));rw[List.set_comm _ _ (L7 hij)]at I5;exact⟨_,H1,I5,q1⟩
end
section
variable{X:Cx}{pos:Pos}
noncomputable def NH(c:TT)(tb:TS):TS:=fun D σ H=>∃W:Nat->St->Hp->Prop,(∃m,W m σ H)/\∀m σ H,W m σ H->
 c σ H fun b H1=>if b=true then ∃N:St->Hp->Prop,(∀σ' H',N σ' H'->∃m',m'<m/\W m' σ' H')/\tb { D with nx:=N,ct:=N,bk:=D.nx } σ H1 else D.nx σ H1
theorem QL{c:Expr}{body:List Stmt}{tc:TT}{tb:TS}(hp:PassesOwn (model X.prog X.w) X.A X.env X.xe)(hc:PT X c tc)(hb:PSs X body tb):PS X (.While c body [] pos) (NH tc tb):=by
 intro pins s σ H D I h;obtain⟨W,⟨m0,w0⟩,turn⟩:=h;refine wpAny_While (codeAny_whileLoop (fun n s'=>∃σ' H',Inv X pins σ' H' s'/\W n σ' H') ?_ m0 ⟨σ,H,I,w0⟩);rintro n s1 ⟨σ1,H1,I1,w1⟩;refine O0 hp (thn (hc pins s1 σ1 H1 _ I1 (turn n σ1 H1 w1)) fun b s2 ⟨H2,I2,q2⟩=>?_);cases b with
 |true=>
  obtain⟨N,hN,q2⟩:=q2;rw[A3 rfl];refine O0 hp (thn (hb pins s2 σ1 H2 _ I2 q2) fun f s3 q3=>?_);cases f with
  |next=>
   obtain⟨σ3,H3,I3,n3⟩:=q3;obtain⟨m',hm,w3⟩:=hN σ3 H3 n3;exact⟨m',hm,σ3,H3,I3,w3⟩
  |cont=>
   obtain⟨σ3,H3,I3,n3⟩:=q3;obtain⟨m',hm,w3⟩:=hN σ3 H3 n3;exact⟨m',hm,σ3,H3,I3,w3⟩
  |brk=>exact q3
  |ret v=>exact q3
 |false=>
  rw[A7 A5];exact Y1 ⟨σ1,H2,I2,q2⟩
end
structure It where
 go:Nat->Hp->Prop
 yld:Nat->Hp->V->Hp->Prop
 stop:Nat->Hp->Prop
noncomputable def qD(X:Cx)(pins:List (Addr×Obj))(H:Hp)(b:Addr):Prop:=
 H b=none/\b≠X.env.locals/\b∉X.fs/\(b∈X.ex\/X.s₀.heap.objs.size<=b)/\(∀x c,X.env.cells.lookup x=some c->c≠b)/\∀p∈X.pn++pins,p.1≠b
theorem Inv.fpOk{X:Cx}{pins:List (Addr×Obj)}{H':Hp}{b:Addr}(I:Inv X pins σ H s)(hb:s.heap.objs.size<=b)(hn:H' b=none):qD X pins H' b:=by
 refine⟨hn,O4 (A8 I.lt hb),I.nofs hb,.inr (C9 I.sz hb),fun x c e z=>?_,fun p hp z=>?_⟩
 .obtain⟨v,q⟩:=I.cell x c e;exact absurd (A8 q.lt (by rw[z];exact hb)) (E2 _)
 .exact absurd (A8 (B2 (I.pin p hp).1) (by rw[z];exact hb)) (E2 _)
structure Turn(P:Program)(w:World)(K:Fg)(tg:Expr)(J:It)(fp:List Addr)(it:Addr)(tn:Nat->Heap->Prop):Prop where
 mem:it∈fp
 obj:∀i h,tn i h->∀b∈fp,∃o,h.get? b=some o/\∀v,o.data≠.cell v
 keep:∀i h h',tn i h->(∀b∈fp,∀o,h.get? b=some o->h'.get? b=some o)->tn i h'
 item:∀(X:Cx),X.prog=P->X.w=w->X.K=K->X.calm=true->∀(i:Nat)(pins:List (Addr×Obj))(s:Shared)(σ:St)(H:Hp)(E:Value->Shared->Prop),Inv X pins σ H s->(∀b∈fp,qD X pins H b)->tn i s.heap->J.go i H->
  wpAny (model P w) X.A (pyNext (.ref it)) (fun r s1=>∃u,r=some u /\
   wpAny (model P w) X.A (letOwnedTupleGo tg (.ref it) u) (fun _ s2=>∃x H',Inv X pins σ H' s2/\RelV x u/\J.yld i H x H'/\tn (i+1) s2.heap/\∀b∈fp,H' b=none) E s1) E s
 done:∀(X:Cx),X.prog=P->X.w=w->X.K=K->X.calm=true->∀(i:Nat)(pins:List (Addr×Obj))(s:Shared)(σ:St)(H:Hp)(E:Value->Shared->Prop),Inv X pins σ H s->(∀b∈fp,qD X pins H b)->tn i s.heap->J.stop i H->
  wpAny (model P w) X.A (pyNext (.ref it)) (fun r s1=>r=none/\Inv X pins σ H s1) E s
 self:∀(A:Around)(i:Nat)(s:Shared)(Q:Value->Shared->Prop)(E:Value->Shared->Prop),tn i s.heap->Q (.ref it) s->wpAny (model P w) A (pyIter (.ref it)) Q E s
noncomputable abbrev TI:=St->Hp->(It->Hp->Prop)->Prop
noncomputable def PIE(X:Cx)(pins:List (Addr×Obj))(σ:St)(tg:Expr)(R:It->Hp->Prop)(itv:Value)(s2:Shared):Prop:=
 ∃(it:Addr)(fp:List Addr)(tn:Nat->Heap->Prop)(J:It)(H':Hp),itv=.ref it/\Inv X pins σ H' s2/\Turn X.prog X.w X.K tg J fp it tn/\tn 0 s2.heap/\(∀b∈fp,qD X pins H' b)/\R J H'
noncomputable def PI(X:Cx)(tg iter:Expr)(wi:TI):Prop:=
 ∀(pins:List (Addr×Obj))(s:Shared)(σ:St)(H:Hp)(R:It->Hp->Prop),Inv X pins σ H s->wi σ H R->
  wpAny (model X.prog X.w) X.A (eval iter X.env) (fun v s1=>wpAny (model X.prog X.w) X.A (pyIter v) (PIE X pins σ tg R) X.xe s1) X.xe s
theorem HZ{M:Model}{A:Around}{E:Value->Shared->Prop}{tg:Expr}{it:Addr}{u:Value}{o:Obj}{n:String}{vs:Array Value}{Q:Unit->Shared->Prop}(ho:s.heap.get? it=some o)(hc:o.cls=.type n)(hd:o.data=.fields vs)
 (hn:["enumerate","zip","dict_itemiterator","dict_reverseitemiterator","odict_iterator","itertools.zip_longest","itertools.pairwise"].contains n=false) (hQ:Q () s):wpAny M A (letOwnedTupleGo tg (.ref it) u) Q E s:=by
 unfold letOwnedTupleGo
 cases tg<;>first
  |exact A4 hQ
  |(cases u<;>first
   |exact A4 hQ
   | (refine A0 (wpAny_load ho ?_)
      rw[hc,hd];show wpAny M A (if (["enumerate","zip","dict_itemiterator","dict_reverseitemiterator","odict_iterator","itertools.zip_longest","itertools.pairwise"].contains n&&vs[0]?==some (rawInt _))=true then _ else _) Q E s;rw[A7 (by intro h;rw[hn,Bool.false_and]at h;cases h)];exact A4 hQ))
noncomputable def Itl(K:Fg)(a:Addr):It:=
 ⟨fun i H=>∃xs x,SqL K H a xs/\xs[i]?=some x,fun i H x H'=>H'=H/\∀xs,SqL K H a xs->xs[i]?=some x,fun i H=>∃xs,SqL K H a xs/\xs.length<=i⟩
noncomputable def Itt(K:Fg)(a:Addr):It:=
 ⟨fun i H=>∃xs x,SqT K H a xs/\xs[i]?=some x,fun i H x H'=>H'=H/\∀xs,SqT K H a xs->xs[i]?=some x,fun i H=>∃xs,SqT K H a xs/\xs.length<=i⟩
noncomputable def Itr(lo:Int)(n:Nat):It:=⟨fun i _=>i<n,fun i H x H'=>H'=H/\x=.int (lo+i),fun i _=>n<=i⟩
theorem KW{P:Program}{w:World}{tg:Expr}(a it:Addr):Turn P w K tg (Itl K a) [it] it (fun i h=>h.IsListIter it a i) where
 mem:=by simp
 obj:=fun i h st b hb=>by
  have e:b=it:=by simpa using hb
  subst e;obtain⟨o,e,c,d⟩:=st;exact⟨o,e,fun v z=>by rw[d]at z;cases z⟩
 keep:=fun i h h' st k=>st.at fun o e=>k it (by simp) o e
 item:=by
  intro X hP hw hK hc i pins s σ H E I hf st hg;subst hP hw hK;obtain⟨xs,x,hq,hx⟩:=hg;obtain⟨its,rv,p,hz⟩:=I.list hq;obtain⟨u,hu,ru⟩:=rv.get hx;obtain⟨f0,f1,f2,f3,f4,f5⟩:=hf it (by simp);refine wpAny_pyNext_list_item st p.isList (x:=u) (by simpa using hu) fun h' st' sb=>?_;have I1:Inv X pins σ H { s with heap:=h' }:=I.turned (t':=s.toks) (fun b o hb e=>(sb.2 b hb).trans e) f0 f1 f3 f4 f5;obtain⟨o,e,c,d⟩:=id st';exact⟨u,rfl,HZ (s:={ s with heap:=h' }) e c d (by decide) ⟨x,H,I1,ru,⟨rfl,fun ys hy=>by rw[I.list_inj hy hq];exact hx⟩,st',fun b hb=>(hf b hb).1⟩⟩
 done:=by
  intro X hP hw hK hc i pins s σ H E I hf st hg;subst hP hw hK;obtain⟨xs,hq,hx⟩:=hg;obtain⟨its,rv,p,hz⟩:=I.list hq;obtain⟨f0,f1,f2,f3,f4,f5⟩:=hf it (by simp);have hl:=rv.length;exact wpAny_pyNext_list_end (I.ok.hd hc) st p.isList (by simp;omega) fun h' eb=>⟨rfl,I.turned (t':=s.toks) (fun b o hb e=>eb b o hb e) f0 f1 f3 f4 f5⟩
 self:=fun _ _ _ _ _ st h=>wpAny_pyIter_listiter st h
theorem GN{P:Program}{w:World}{tg:Expr}(a it:Addr):Turn P w K tg (Itt K a) [it] it (fun i h=>h.IsTupleIter it a i) where
 mem:=by simp
 obj:=fun i h st b hb=>by
  have e:b=it:=by simpa using hb
  subst e;obtain⟨o,e,c,d⟩:=st;exact⟨o,e,fun v z=>by rw[d]at z;cases z⟩
 keep:=fun i h h' st k=>st.at fun o e=>k it (by simp) o e
 item:=by
  intro X hP hw hK hc i pins s σ H E I hf st hg;subst hP hw hK;obtain⟨xs,x,hq,hx⟩:=hg;obtain⟨its,rv,p,hz⟩:=I.tuple hq;obtain⟨u,hu,ru⟩:=rv.get hx;obtain⟨f0,f1,f2,f3,f4,f5⟩:=hf it (by simp);refine wpAny_pyNext_tuple_item st (show s.heap.IsTuple a its.toArray from p) (x:=u) (by simpa using hu) fun h' st' sb=>?_;have I1:Inv X pins σ H { s with heap:=h' }:=I.turned (t':=s.toks) (fun b o hb e=>(sb.2 b hb).trans e) f0 f1 f3 f4 f5;obtain⟨o,e,c,d⟩:=id st';exact⟨u,rfl,HZ (s:={ s with heap:=h' }) e c d (by decide) ⟨x,H,I1,ru,⟨rfl,fun ys hy=>by rw[I.tuple_inj hy hq];exact hx⟩,st',fun b hb=>(hf b hb).1⟩⟩
 done:=by
  intro X hP hw hK hc i pins s σ H E I hf st hg;subst hP hw hK;obtain⟨xs,hq,hx⟩:=hg;obtain⟨its,rv,p,hz⟩:=I.tuple hq;obtain⟨f0,f1,f2,f3,f4,f5⟩:=hf it (by simp);have hl:=rv.length;exact wpAny_pyNext_tuple_end (I.ok.hd hc) st (show s.heap.IsTuple a its.toArray from p) (by simp;omega) fun h' eb=>⟨rfl,I.turned (t':=s.toks) (fun b o hb e=>eb b o hb e) f0 f1 f3 f4 f5⟩
 self:=fun _ _ _ _ _ st h=>wpAny_pyIter_tupleiter st h
theorem GZ{P:Program}{w:World}{tg:Expr}(it:Addr)(lo:Int)(n:Nat):Turn P w K tg (Itr lo n) [it] it (fun i h=>IsRangeIter h it (lo+(i:Nat)*1) ((n:Int)-(i:Nat)) 1) where
 mem:=by simp
 obj:=fun i h st b hb=>by
  have e:b=it:=by simpa using hb
  subst e
  exact⟨_,st,fun v z=>by
   have z':Data.fields _=Data.cell v:=z;cases z'⟩
 keep:=fun i h h' st k=>k it (by simp) _ st
 item:=by
  intro X hP hw hK hc i pins s σ H E I hf st hg;subst hP hw hK;obtain⟨f0,f1,f2,f3,f4,f5⟩:=hf it (by simp);have W:=Walks.range (prog:=X.prog) (w:=X.w) (I.ok.hd hc) it lo 1 n;refine W.item i s _ _ hg st fun v h' tk hv st' kk=>?_;obtain⟨t,rfl⟩:=hv;have I1:Inv X pins σ H { s with heap:=h',toks:=tk }:=I.turned (fun b o hb e=>kk b o (by simpa using hb) e) f0 f1 f3 f4 f5;refine⟨_,rfl,HZ (s:={ s with heap:=h',toks:=tk }) (n:="range_iterator") st' rfl rfl (by decide) ⟨.int (lo+i),H,I1,⟨t,?_⟩,⟨rfl,rfl⟩,st',fun b hb=>(hf b hb).1⟩⟩;rw[Int.mul_one]
 done:=by
  intro X hP hw hK hc i pins s σ H E I hf st hg;subst hP hw hK;obtain⟨f0,f1,f2,f3,f4,f5⟩:=hf it (by simp);exact wpAny_pyNext_range_end (I.ok.hd hc) st (by have:n<=i:=hg;omega) fun h' eb=>⟨rfl,I.turned (t':=s.toks) (fun b o hb e=>eb b o hb e) f0 f1 f3 f4 f5⟩
 self:=fun _ _ _ _ _ st h=>wpAny_pyIter_rangeiter st h
section
variable{X:Cx}{tg:Expr}
theorem MJ{pins:List (Addr×Obj)}{R:It->Hp->Prop}{E:Value->Shared->Prop}{lo hi:Int}{t u v:Tok}{tk:Nat}(I:Inv X pins σ H s)(h1:-(2 ^ 62)<=lo)(h2:lo<2 ^ 62)(h3:-(2 ^ 62)<=hi)(h4:hi<2 ^ 62)
 (q:R (Itr lo (hi-lo).toNat) H):wpAny (model X.prog X.w) X.A (pyIter (.ref s.heap.objs.size)) (PIE X pins σ tg R) E { s with heap:=s.heap.push { cls:=.type "range",data:=.fields #[.int lo t,.int hi u,.int 1 v] },toks:=tk }:=by
 refine wpAny_pyIter_range (IsRange.new ..) (small_one h1 h2 h3 h4) ?_;have I1:Inv X pins σ H { s with heap:=s.heap.push { cls:=.type "range",data:=.fields #[.int lo t,.int hi u,.int 1 v] },toks:=tk }:=I.kept fun b o e=>B3 _ e
 refine⟨(s.heap.push { cls:=.type "range",data:=.fields #[.int lo t,.int hi u,.int 1 v] }).objs.size,[(s.heap.push { cls:=.type "range",data:=.fields #[.int lo t,.int hi u,.int 1 v] }).objs.size],_,_,H,rfl,
  I1.kept (t':=tk) fun b o e=>B3 _ e,GZ _ lo (hi-lo).toNat,?_,fun b hb=>?_,q⟩
 .have e1:lo+((0:Nat):Int)*1=lo:=by simp
  have e2:(((hi-lo).toNat:Nat):Int)-((0:Nat):Int)=Builtin.Range.rangeSize lo hi 1:=by rw[rangeSize_one];split<;>omega
  show IsRangeIter _ _ (lo+((0:Nat):Int)*1) ((((hi-lo).toNat:Nat):Int)-((0:Nat):Int)) 1;rw[e1,e2];exact C6 _ rfl
 .have e:b=(s.heap.push { cls:=.type "range",data:=.fields #[.int lo t,.int hi u,.int 1 v] }).objs.size:=by simpa using hb
  subst e;exact I1.fpOk (A6 _) (I1.hok.fresh (A6 _))
noncomputable def aAf(ta:TA):TI:=fun σ H R=>ta σ H fun vs H1=>∃j:Int,vs=[.int j]/\-(2 ^ 62)<=j/\j<2 ^ 62/\R (Itr 0 j.toNat) H1
theorem LC{a:Expr}{ta:TA}{p:Pos}(hg:Gl X "range")(hm:X.mg "range"=none)(ha:PA X [a] ta)(hs:starEach [a] X.env=[(false,eval a X.env)]:=by rfl):PI X tg (.Call (.Name "range" p) [a] [] pos) (aAf ta):=by
 intro pins s σ H R I h;refine Call_ (wR I hg hm boot_range (PyProof.Rows.callWith_type1 (thn (ha pos pins s σ H _ I h) fun us s1 ⟨vs,H1,I1,r1,q1⟩=>?_) hs rfl));obtain⟨j,e,q1,q2,q⟩:=q1;subst e;cases r1 with
 |cons r rr=>
  cases rr;obtain⟨t,rfl⟩:=r;exact call_range_1 (MJ I1 (by omega) (by omega) q1 q2 (by simpa using q))
noncomputable def aDY(wi:TI)(g:TG)(tb:TS):TS:=fun D σ H=>wi σ H fun J H1=>∃W:Nat->Nat->St->Hp->Prop,(∃m,W 0 m σ H1)/\∀i m σ H,W i m σ H->
 (J.stop i H/\D.nx σ H)\/(J.go i H/\∃N:St->Hp->Prop,(∀σ' H',N σ' H'->∃m',m'<m/\W (i+1) m' σ' H')/\∀x H',J.yld i H x H'->g x σ H' fun σ2 H2=>tb { D with nx:=N,ct:=N,bk:=D.nx } σ2 H2)
noncomputable def qW(fp:List Addr)(h:Heap):List (Addr×Obj):=fp.filterMap fun b=>(h.get? b).map fun o=>(b,o)
theorem eR{fp:List Addr}{h:Heap}{b:Addr}{o:Obj}(hb:b∈fp)(e:h.get? b=some o):(b,o)∈qW fp h:=List.mem_filterMap.mpr ⟨b,hb,by rw[e];rfl⟩
theorem JM{fp:List Addr}{h:Heap}{p:Addr×Obj}(hp:p∈qW fp h):p.1∈fp/\h.get? p.1=some p.2:=by
 obtain⟨b,hb,e⟩:=List.mem_filterMap.mp hp;cases q:h.get? b with
 |none=>rw[q]at e;cases e
 |some o=>
  rw[q]at e;have e':(b,o)=p:=C4 e;subst e';exact⟨hb,q⟩
theorem Inv.pinned{pins:List (Addr×Obj)}{fp:List Addr}(I:Inv X pins σ H s)(hf:∀b∈fp,qD X pins H b)(ho:∀b∈fp,∃o,s.heap.get? b=some o/\∀v,o.data≠.cell v):Inv X (pins++qW fp s.heap) σ H s:=
 I.pins_of fun p hp=>(List.mem_append.mp hp).elim (fun z=>I.pin p (B5 _ z)) fun z=>by
  obtain⟨hb,e⟩:=JM z;obtain⟨f0,f1,f2,_⟩:=hf p.1 hb;obtain⟨o,e',d⟩:=ho p.1 hb;rw[e]at e';cases e';exact⟨e,f0,f1,f2,d⟩
theorem Inv.unpinned{pins pl:List (Addr×Obj)}(I:Inv X (pins++pl) σ H s):Inv X pins σ H s:=I.pins_of fun p hp=>I.pin p (B5 _ (C5 _ hp))
theorem aBL{iter:Expr}{body:List Stmt}{wi:TI}{g:TG}{tb:TS}{pos:Pos}(hp:PassesOwn (model X.prog X.w) X.A X.env X.xe)(hc:X.calm=true)(hi:PI X tg iter wi)(hg:PG X tg g)(hb:PSs X body tb)
 (hs:∀x,foldedSetIterable iter X.env x=pure x:=by intro _;rfl):PS X (.For tg iter body [] pos) (aDY wi g tb):=by
 intro pins s σ H D I h;refine wpAny_For (thn (hi pins s σ H _ I h) fun v s1 h1=>thn h1 fun itv s2 h2=>?_) hs;obtain⟨it,fp,tn,J,H2,e,I2,T,st2,f2,W,⟨m0,w0⟩,turn⟩:=h2;subst e;have stat:∀{H':Hp},(∀b∈fp,H' b=none)->∀b∈fp,qD X pins H' b:=fun hn b hb=>⟨hn b hb,(f2 b hb).2⟩;refine codeAny_forLoop_any (fun n s'=>∃i σ' H',Inv X pins σ' H' s'/\tn i s'.heap/\(∀b∈fp,H' b=none)/\W i n σ' H') ?_ m0 ⟨0,σ,H2,I2,st2,fun b hb=>(f2 b hb).1,w0⟩;rintro n s3 ⟨i,σ3,H3,I3,st3,fr3,w3⟩;rcases turn i n σ3 H3 w3 with⟨stop,qn⟩|⟨go,N,hN,step⟩
 .refine O0 hp (thn (T.done X rfl rfl rfl hc i pins s3 σ3 H3 X.xe I3 (stat fr3) st3 stop) fun r s4 ⟨hr,I4⟩=>?_);subst hr;exact Y1 ⟨σ3,H3,I4,qn⟩
 .refine O0 hp (thn (T.item X rfl rfl rfl hc i pins s3 σ3 H3 X.xe I3 (stat fr3) st3 go) fun r s4 ⟨u,hr,h4⟩=>?_);subst hr;refine O0 hp (thn h4 fun _ s5 ⟨x,H5,I5,r5,y5,st5,fr5⟩=>?_);have I5':=I5.pinned (stat fr5) (T.obj _ _ st5);refine O0 hp (thn (hg _ s5 σ3 H5 x u _ I5' r5 (step x H5 y5)) fun _ s6 ⟨σ6,H6,I6,q6⟩=>?_);refine O0 hp (thn (hb _ s6 σ6 H6 _ I6 q6) fun f s7 q7=>?_)
  have again:∀{σ7:St}{H7:Hp},Inv X (pins++qW fp s5.heap) σ7 H7 s7->N σ7 H7->∃m,m<n/\∃i σ' H',Inv X pins σ' H' s7/\tn i s7.heap/\(∀b∈fp,H' b=none)/\W i m σ' H':=fun{σ7 H7} I7 n7=>by
   obtain⟨m',hm,w7⟩:=hN σ7 H7 n7;refine⟨m',hm,i+1,σ7,H7,I7.unpinned,T.keep _ _ _ st5 fun b hb o e=>(I7.pin (b,o) (B5 _ (B5 _ (eR hb e)))).1,fun b hb=>?_,w7⟩;obtain⟨o,e,d⟩:=T.obj _ _ st5 b hb;exact(I7.pin (b,o) (B5 _ (B5 _ (eR hb e)))).2.1
  cases f with
  |next=>obtain⟨σ7,H7,I7,n7⟩:=q7;exact again I7 n7
  |cont=>obtain⟨σ7,H7,I7,n7⟩:=q7;exact again I7 n7
  |brk=>obtain⟨σ7,H7,I7,q7⟩:=q7;exact⟨σ7,H7,I7.unpinned,q7⟩
  |ret v=>obtain⟨x7,σ7,H7,I7,r7,q7⟩:=q7;exact⟨x7,σ7,H7,I7.unpinned,r7,q7⟩
end
noncomputable abbrev R2:=V->V->Hp->VK->Prop
noncomputable def OpR(X:Cx)(f:Value->Value->Sem Value)(r:R2):Prop:=
 ∀(pins:List (Addr×Obj))(s:Shared)(σ:St)(H:Hp)(x y:V)(v u:Value)(Q:VK),Inv X pins σ H s->RelV x v->RelV y u->r x y H Q->
  wpAny (model X.prog X.w) X.A (f v u) (EP X pins σ Q) X.xe s
noncomputable def UnR(X:Cx)(f:Value->Sem Value)(r:V->Hp->VK->Prop):Prop:=
 ∀(pins:List (Addr×Obj))(s:Shared)(σ:St)(H:Hp)(x:V)(v:Value)(Q:VK),Inv X pins σ H s->RelV x v->r x H Q->
  wpAny (model X.prog X.w) X.A (f v) (EP X pins σ Q) X.xe s
noncomputable def eO(X:Cx)(f:Value)(r:List V->Hp->VK->Prop):Prop:=
 ∀(pins:List (Addr×Obj))(s:Shared)(σ:St)(H:Hp)(xs:List V)(us:List Value)(Q:VK),Inv X pins σ H s->bJ xs us->r xs H Q->
  wpAny (model X.prog X.w) X.A (call f us) (EP X pins σ Q) X.xe s
noncomputable def aGf(X:Cx)(r:V->Hp->(Bool->Hp->Prop)->Prop):Prop:=
 ∀(pins:List (Addr×Obj))(s:Shared)(σ:St)(H:Hp)(x:V)(v:Value)(Q:Bool->Hp->Prop),Inv X pins σ H s->RelV x v->r x H Q->
  wpAny (model X.prog X.w) X.A (truthy v) (TP X pins σ Q) X.xe s
noncomputable def tOp(r:R2)(ta tb:TE):TE:=fun σ H Q=>ta σ H fun x H1=>tb σ H1 fun y H2=>r x y H2 Q
noncomputable def tUn(r:V->Hp->VK->Prop)(ta:TE):TE:=fun σ H Q=>ta σ H fun x H1=>r x H1 Q
noncomputable def rI(C:Int->Int->Prop)(g:Int->Int->V):R2:=fun x y H Q=>∃i j,x=.int i/\y=.int j/\C i j/\Q (g i j) H
noncomputable def rI0(g:Int->Int->V):R2:=fun x y H Q=>∃i j,x=.int i/\y=.int j/\Q (g i j) H
noncomputable def rU(g:Int->V):V->Hp->VK->Prop:=fun x H Q=>∃i,x=.int i/\Q (g i) H
section
variable{X:Cx}{a b c:Expr}{ta tb tc:TE}{pos:Pos}
theorem aCv(ha:PE X a ta)(hb:PE X b tb){pins:List (Addr×Obj)}{R:V->V->Hp->Prop}(I:Inv X pins σ H s)
 (h:ta σ H fun x H1=>tb σ H1 fun y H2=>R x y H2) {Q:Value->Shared->Prop} {f:Value->Value->Sem Value}
 (hf:∀v u s2 x y H2,Inv X pins σ H2 s2->RelV x v->RelV y u->R x y H2->wpAny (model X.prog X.w) X.A (f v u) Q X.xe s2):
 wpAny (model X.prog X.w) X.A (eval a X.env) (fun v s₁=>wpAny (model X.prog X.w) X.A (eval b X.env) (fun u s₂=>wpAny (model X.prog X.w) X.A (f v u) Q X.xe s₂) X.xe s₁) X.xe s:=by
 refine thn (ha pins s σ H _ I h) fun v s1 ⟨x,H1,I1,r1,q1⟩=>?_;refine thn (hb pins s1 σ H1 _ I1 q1) fun u s2 ⟨y,H2,I2,r2,q2⟩=>?_;exact hf v u s2 x y H2 I2 r1 r2 q2
theorem aFr{op:Operator}{r:R2}(ho:OpR X (binaryOp op) r)(ha:PE X a ta)(hb:PE X b tb):PE X (.BinOp a op b pos) (tOp r ta tb):=by
 intro pins s σ H Q I h;exact wpAny_BinOp (aCv ha hb I h fun v u s2 x y H2 I2 rx ry q=>ho pins s2 σ H2 x y v u Q I2 rx ry q)
theorem aFc{op:UnaryOp}{r:V->Hp->VK->Prop}(ho:UnR X (unaryOp op) r)(ha:PE X a ta):PE X (.UnaryOp op a pos) (tUn r ta):=by
 intro pins s σ H Q I h;exact UnaryOp_ (thn (ha pins s σ H _ I h) fun v s1 ⟨x,H1,I1,r1,q1⟩=>ho pins s1 σ H1 x v Q I1 r1 q1)
theorem opI{f:Value->Value->Sem Value}{C:Int->Int->Prop}{g:Int->Int->Int}
 (rule:∀(i j:Int)(t u:Tok)(s:Shared)(Q:Value->Shared->Prop)(E:Value->Shared->Prop),C i j->Q (.int (g i j) s.toks) { s with toks:=s.toks+1 }->wpAny (model X.prog X.w) X.A (f (.int i t) (.int j u)) Q E s):
 OpR X f (rI C fun i j=>.int (g i j)):=by
 intro pins s σ H x y v u Q I rx ry h;obtain⟨i,j,rfl,rfl,hc,q⟩:=h;obtain⟨t,rfl⟩:=rx;obtain⟨t',rfl⟩:=ry;exact rule i j t t' s _ _ hc ⟨.int (g i j),H,I.tok _,⟨_,rfl⟩,q⟩
theorem aEM{f:Value->Value->Sem Value}{g:Int->Int->Int}
 (rule:∀(i j:Int)(t u:Tok)(s:Shared)(Q:Value->Shared->Prop)(E:Value->Shared->Prop),Q (.int (g i j) s.toks) { s with toks:=s.toks+1 }->wpAny (model X.prog X.w) X.A (f (.int i t) (.int j u)) Q E s):
 OpR X f (rI0 fun i j=>.int (g i j)):=by
 intro pins s σ H x y v u Q I rx ry h;obtain⟨i,j,rfl,rfl,q⟩:=h;obtain⟨t,rfl⟩:=rx;obtain⟨t',rfl⟩:=ry;exact rule i j t t' s _ _ ⟨.int (g i j),H,I.tok _,⟨_,rfl⟩,q⟩
theorem VZ{f:Value->Value->Sem Value}{g:Int->Int->Bool}
 (rule:∀(i j:Int)(t u:Tok)(s:Shared)(Q:Value->Shared->Prop)(E:Value->Shared->Prop),Q (.bool (g i j)) s->wpAny (model X.prog X.w) X.A (f (.int i t) (.int j u)) Q E s):
 OpR X f (rI0 fun i j=>.bl (g i j)):=by
 intro pins s σ H x y v u Q I rx ry h;obtain⟨i,j,rfl,rfl,q⟩:=h;obtain⟨t,rfl⟩:=rx;obtain⟨t',rfl⟩:=ry;exact rule i j t t' s _ _ ⟨.bl (g i j),H,I,rfl,q⟩
noncomputable def aFv(i j:Int):Prop:=0<=j/\j<=1000000/\i.natAbs<2 ^ 64
noncomputable def aBP(i j:Int):Prop:=(-(2 ^ 64)<i/\i<2 ^ 64)\/(-(2 ^ 64)<j/\j<2 ^ 64)
theorem aBP.ok{i j:Int}(h:aBP i j):IntMulOk i j:=by
 rcases h with⟨h1,h2⟩|⟨h1,h2⟩
 .exact .of_left (intBits_le_64 h1 h2)
 .exact .of_right (intBits_le_64 h1 h2)
theorem op_add:OpR X (binaryOp .Add) (rI0 fun i j=>.int (i+j)):=aEM fun _ _ _ _ _ _ _ q=>add_int q
theorem aBQ:OpR X (binaryOp .Sub) (rI0 fun i j=>.int (i-j)):=aEM fun _ _ _ _ _ _ _ q=>sub_int q
theorem aCL:OpR X (binaryOp .Mod) (rI (fun _ j=>0<j) fun i j=>.int (i % j)):=opI fun i j _ _ _ _ _ hc q=>by
 have h1:(0:Int)<j:=hc;exact mod_int' (by omega) (by rw[Int.fmod_eq_emod_of_nonneg i (by omega)];exact q)
theorem aDK:OpR X (binaryOp .Pow) (rI aFv fun i j=>.int (i ^ j.toNat)):=opI fun _ _ _ _ _ _ _ hc q=>pow_int_small hc.1 hc.2.1 hc.2.2 q
theorem unI{f:Value->Sem Value}{g:Int->Int}
 (rule:∀(i:Int)(t:Tok)(s:Shared)(Q:Value->Shared->Prop)(E:Value->Shared->Prop),Q (.int (g i) s.toks) { s with toks:=s.toks+1 }->wpAny (model X.prog X.w) X.A (f (.int i t)) Q E s):
 UnR X f (rU fun i=>.int (g i)):=by
 intro pins s σ H x v Q I rx h;obtain⟨i,rfl,q⟩:=h;obtain⟨t,rfl⟩:=rx;exact rule i t s _ _ ⟨.int (g i),H,I.tok _,⟨_,rfl⟩,q⟩
theorem aBR:UnR X (unaryOp .USub) (rU fun i=>.int (-i)):=unI fun _ _ _ _ _ q=>neg_int q
end
noncomputable def aEX:V->V->Bool
 |.non,.non=>true|.non,.int _=>true|.int _,.non=>true|.non,.bl _=>true|.bl _,.non=>true|.non,.str _=>true|.str _,.non=>true
 |.int _,.int _=>true|.bl _,.bl _=>true|.str _,.str _=>true|.byt _,.byt _=>true
 |.int _,.str _=>true|.str _,.int _=>true|.bl _,.str _=>true|.str _,.bl _=>true
 |_,_=>false
noncomputable def rEq:R2:=fun x y H Q=>aEX x y=true/\Q (.bl (decide (x=y))) H
noncomputable def rNe:R2:=fun x y H Q=>aEX x y=true/\Q (.bl (!decide (x=y))) H
theorem HI{i j:Int}:decide (V.int i=V.int j)=(i==j):=by
 rw[I0];simp
theorem QH{i j:Bool}:decide (V.bl i=V.bl j)=(i==j):=by
 rw[I0];simp
theorem IA{i j:Str}:decide (V.str i=V.str j)=(i==j):=by
 rw[I0];simp
theorem HA{i j:Array UInt8}:decide (V.byt i=V.byt j)=(i.toList==j.toList):=by
 rw[I0];cases i;cases j;simp
section
variable{X:Cx}{a b c:Expr}{ta tb tc:TE}{pos:Pos}
theorem bW{pins:List (Addr×Obj)}{Q:VK}{k k':Bool}(I:Inv X pins σ H s)(q:Q (.bl k) H)(e:k=k'):EP X pins σ Q (.bool k') s:=by
 subst e;exact⟨.bl k,H,I,rfl,q⟩
theorem op_eq:OpR X (compareOp .Eq) rEq:=by
 intro pins s σ H x y v u Q I rx ry h;obtain⟨hs,q⟩:=h;cases x with
 |non=>
  cases rx;cases y with
  |non=>cases ry;exact PySem.EqNone.eq_none_none (bW I q (by simp))
  |bl j=>cases ry;exact PySem.EqNone.eq_none_bool (bW I q (by simp))
  |int j=>obtain⟨t',rfl⟩:=ry;exact PySem.EqNone.eq_none_int (bW I q (by simp))
  |str j=>obtain⟨t',rfl⟩:=ry;exact PySem.EqNone.eq_none_str (bW I q (by simp))
  |_=>exact absurd (show false=true from hs) A5
 |bl i=>
  cases rx;cases y with
  |non=>cases ry;exact PySem.EqNone.eq_bool_none (bW I q (by simp))
  |bl j=>cases ry;exact eq_bool (bW I q QH)
  |str j=>obtain⟨t',rfl⟩:=ry;exact PySem.EqMixed.eq_bool_str (bW I q (by simp))
  |_=>exact absurd (show false=true from hs) A5
 |int i=>
  obtain⟨t,rfl⟩:=rx;cases y with
  |non=>cases ry;exact PySem.EqNone.eq_int_none (bW I q (by simp))
  |int j=>obtain⟨t',rfl⟩:=ry;exact eq_int (bW I q HI)
  |str j=>obtain⟨t',rfl⟩:=ry;exact PySem.EqMixed.eq_int_str (bW I q (by simp))
  |_=>exact absurd (show false=true from hs) A5
 |str i=>
  obtain⟨t,rfl⟩:=rx;cases y with
  |non=>cases ry;exact PySem.EqNone.eq_str_none (bW I q (by simp))
  |bl j=>cases ry;exact PySem.EqMixed.eq_str_bool (bW I q (by simp))
  |int j=>obtain⟨t',rfl⟩:=ry;exact PySem.EqMixed.eq_str_int (bW I q (by simp))
  |str j=>obtain⟨t',rfl⟩:=ry;exact eq_str (bW I q IA)
  |_=>exact absurd (show false=true from hs) A5
 |byt i=>
  obtain⟨t,rfl⟩:=rx;cases y with
  |byt j=>obtain⟨t',rfl⟩:=ry;exact PySem.W.eq_bytes (bW I q HA)
  |_=>exact absurd (show false=true from hs) A5
 |_=>cases y<;>exact absurd (show false=true from hs) A5
theorem op_ne:OpR X (compareOp .NotEq) rNe:=by
 intro pins s σ H x y v u Q I rx ry h;obtain⟨hs,q⟩:=h;cases x with
 |non=>
  cases rx;cases y with
  |non=>cases ry;exact PySem.EqNone.ne_none_none (bW I q (by simp))
  |bl j=>cases ry;exact PySem.EqNone.ne_none_bool (bW I q (by simp))
  |int j=>obtain⟨t',rfl⟩:=ry;exact PySem.EqNone.ne_none_int (bW I q (by simp))
  |str j=>obtain⟨t',rfl⟩:=ry;exact PySem.EqNone.ne_none_str (bW I q (by simp))
  |_=>exact absurd (show false=true from hs) A5
 |bl i=>
  cases rx;cases y with
  |non=>cases ry;exact PySem.EqNone.ne_bool_none (bW I q (by simp))
  |bl j=>cases ry;exact ne_bool (bW I q (L5 not QH))
  |str j=>obtain⟨t',rfl⟩:=ry;exact PySem.EqMixed.ne_bool_str (bW I q (by simp))
  |_=>exact absurd (show false=true from hs) A5
 |int i=>
  obtain⟨t,rfl⟩:=rx;cases y with
  |non=>cases ry;exact PySem.EqNone.ne_int_none (bW I q (by simp))
  |int j=>obtain⟨t',rfl⟩:=ry;exact ne_int (bW I q (L5 not HI))
  |str j=>obtain⟨t',rfl⟩:=ry;exact PySem.EqMixed.ne_int_str (bW I q (by simp))
  |_=>exact absurd (show false=true from hs) A5
 |str i=>
  obtain⟨t,rfl⟩:=rx;cases y with
  |non=>cases ry;exact PySem.EqNone.ne_str_none (bW I q (by simp))
  |bl j=>cases ry;exact PySem.EqMixed.ne_str_bool (bW I q (by simp))
  |int j=>obtain⟨t',rfl⟩:=ry;exact PySem.EqMixed.ne_str_int (bW I q (by simp))
  |str j=>obtain⟨t',rfl⟩:=ry;exact ne_str (bW I q (L5 not IA))
  |_=>exact absurd (show false=true from hs) A5
 |byt i=>
  obtain⟨t,rfl⟩:=rx;cases y with
  |byt j=>obtain⟨t',rfl⟩:=ry;exact PySem.W.ne_bytes (bW I q (L5 not HA))
  |_=>exact absurd (show false=true from hs) A5
 |_=>cases y<;>exact absurd (show false=true from hs) A5
theorem aFu:OpR X (compareOp .Lt) (rI0 fun i j=>.bl (decide (i<j))):=VZ fun _ _ _ _ _ _ _ q=>lt_int q
theorem aFk:OpR X (compareOp .LtE) (rI0 fun i j=>.bl (decide (i<=j))):=VZ fun _ _ _ _ _ _ _ q=>le_int q
theorem aEv:OpR X (compareOp .Gt) (rI0 fun i j=>.bl (decide (j<i))):=VZ fun _ _ _ _ _ _ _ q=>gt_int q
theorem aEV:OpR X (compareOp .GtE) (rI0 fun i j=>.bl (decide (j<=i))):=VZ fun _ _ _ _ _ _ _ q=>ge_int q
theorem OpR.or{f:Value->Value->Sem Value}{r r':R2}(h:OpR X f r)(h':OpR X f r'):OpR X f (fun x y H Q=>r x y H Q\/r' x y H Q):=by
 intro pins s σ H x y v u Q I rx ry q;rcases q with q|q
 .exact h pins s σ H x y v u Q I rx ry q
 .exact h' pins s σ H x y v u Q I rx ry q
theorem WV{op:CmpOp}{r:R2}(ho:OpR X (compareOp op) r)(ha:PE X a ta)(hb:PE X b tb)(hm:behindInMarks op b=false):PE X (.Compare a [op] [b] pos) (tOp r ta tb):=by
 intro pins s σ H Q I h;exact wpAny_Compare1 (aCv ha hb I h fun v u s2 x y H2 I2 rx ry q=>ho pins s2 σ H2 x y v u Q I2 rx ry q) hm
noncomputable def aAn(t:TE):TT:=fun σ H Q=>t σ H fun x H'=>∃k,x=.bl k/\Q k H'
theorem YW{op:CmpOp}{r:R2}(ho:OpR X (compareOp op) r)(ha:PE X a ta)(hb:PE X b tb)(hm:behindInMarks op b=false):PT X (.Compare a [op] [b] pos) (aAn (tOp r ta tb)):=by
 intro pins s σ H Q I h
 refine wpAny_isTrue_Compare1 (thn (ha pins s σ H _ I h) fun v s1 ⟨x,H1,I1,r1,q1⟩=>thn (hb pins s1 σ H1 _ I1 q1) fun u s2 ⟨y,H2,I2,r2,q2⟩=>
  thn (ho pins s2 σ H2 x y v u _ I2 r1 r2 q2) fun c s3 ⟨z,H3,I3,r3,k,e,q3⟩=>?_) hm
 subst e;cases r3;exact F4 ⟨H3,I3,q3⟩
noncomputable def NC(r r':R2)(ta tb tc:TE):TE:=fun σ H Q=>ta σ H fun x H1=>tb σ H1 fun y H2=>r x y H2 fun z H3=>∃k,z=.bl k /\
 (if k=true then tc σ H3 fun w' H4=>r' y w' H4 Q else Q (.bl false) H3)
theorem NP{op op':CmpOp}{r r':R2}(ho:OpR X (compareOp op) r)(ho':OpR X (compareOp op') r')(ha:PE X a ta)(hb:PE X b tb)(hc:PE X c tc)
 (hm:lastMarks [op,op'] [b,c]=false:=by with_unfolding_all rfl):PE X (.Compare a [op,op'] [b,c] pos) (NC r r' ta tb tc):=by
 intro pins s σ H Q I h
 refine Compare_chain (thn (ha pins s σ H _ I h) fun v s1 ⟨x,H1,I1,r1,q1⟩=>chain_link (thn (hb pins s1 σ H1 _ I1 q1) fun u s2 ⟨y,H2,I2,r2,q2⟩=>
  thn (ho pins s2 σ H2 x y v u _ I2 r1 r2 q2) fun d s3 ⟨z,H3,I3,r3,k,e,q3⟩=>?_)) hm
 subst e;cases r3;refine F4 ?_;cases k with
 |false=>exact ite_ff ⟨.bl false,H3,I3,rfl,q3⟩
 |true=>exact ite_tt (chain_last (thn (hc pins s3 σ H3 _ I3 q3) fun w' s4 ⟨z',H4,I4,r4,q4⟩=>ho' pins s4 σ H4 y z' u w' Q I4 r2 r4 q4))
noncomputable def YN(K:Fg)(x:V)(H:Hp)(k:Bool):Prop:=
 match x with
 |.non=>k=false
 |.bl b=>k=b
 |.int i=>k=(i != 0)
 |.str y=>y.length<=sizeLine/\k=((y.length:Int) != 0)
 |.byt y=>y.size<=sizeLine/\k=((y.size:Int) != 0)
 |.ref p=>(∃xs,SqL K H p xs/\k=!xs.isEmpty)\/(∃xs,SqT K H p xs/\k=!xs.isEmpty)\/∃kvs,H p=some (.dK kvs)/\k=!kvs.isEmpty
 |_=>False
theorem FJ{κ:Type}{kvs:List (κ×V)}{vs:List (κ×Value)}(r:KV kvs vs):(!vs.isEmpty)=!kvs.isEmpty:=by
 cases r<;>rfl
theorem vX{xs:List V}{its:List Value}(r:bJ xs its):(!its.toArray.isEmpty)=!xs.isEmpty:=by
 cases r<;>simp
theorem tJ:(sizeLine:Nat)<2 ^ 63:=by rw[J8];decide
theorem aBk:aGf X (fun x H Q=>∃k,YN X.K x H k/\Q k H):=by
 intro pins s σ H x v Q I rx h;obtain⟨k,e,q⟩:=h;have hl:=tJ;have hs:sizeLine=16777216:=J8;cases x with
 |non=>
  cases rx;have e':k=false:=e;subst e';exact truthy_none ⟨H,I,q⟩
 |bl b=>
  cases rx;have e':k=b:=e;subst e';exact F4 ⟨H,I,q⟩
 |int i=>
  obtain⟨t,rfl⟩:=rx;have e':k=(i != 0):=e;subst e';exact PySem.P.truthy_int ⟨H,I,q⟩
 |str y=>
  obtain⟨t,rfl⟩:=rx;obtain⟨hy,e'⟩:y.length<=sizeLine/\k=((y.length:Int) != 0):=e;subst e';exact PySem.P.truthy_str (by omega) ⟨H,I.tok _,q⟩
 |byt y=>
  obtain⟨t,rfl⟩:=rx;obtain⟨hy,e'⟩:y.size<=sizeLine/\k=((y.size:Int) != 0):=e;subst e';exact PySem.W.truthy_bytes (by omega) ⟨H,I.tok _,q⟩
 |ref p=>
  cases rx;have e':(∃xs,SqL X.K H p xs/\k=!xs.isEmpty)\/(∃xs,SqT X.K H p xs/\k=!xs.isEmpty)\/∃kvs,H p=some (.dK kvs)/\k=!kvs.isEmpty:=e;rcases e' with⟨xs,hx,e'⟩|⟨xs,hx,e'⟩|⟨kvs,hx,e'⟩
  .subst e';obtain⟨its,r,pl,hz⟩:=I.list hx;have hlen:=r.length;exact wpAny_truthy_list pl.isList (by simp only[List.size_toArray];omega) ⟨H,I.tok _,by rw[vX r];exact q⟩
  .subst e';obtain⟨its,r,pl,hz⟩:=I.tuple hx;have hlen:=r.length;exact truthy_tuple pl (by simp only[List.size_toArray];omega) ⟨H,I.tok _,by rw[vX r];exact q⟩
  .subst e';obtain⟨hz,hS,vs,r,m⟩:kvs.length<=sizeLine/\(p==sysModules)=false/\∃vs,KV kvs vs/\s.heap.DictOf (cI X.prog X.w) p vs:=I.hok p _ hx;have hlen:kvs.length=vs.length:=Paired.length r;exact wpAny_truthy_dict hS m (by omega) ⟨H,I.tok _,by rw[FJ r];exact q⟩
 |_=>exact(show False from e).elim
theorem PK(ha:PE X a ta)(he:∀whole,isTrue a X.env whole=(do let v <- whole;standAt a.pos;holding [v] (truthy v))):
 PT X a (fun σ H Q=>ta σ H fun x H'=>∃k,YN X.K x H' k/\Q k H'):=by
 intro pins s σ H Q I h;exact isTrue_plain (thn (ha pins s σ H _ I h) fun v s1 ⟨x,H1,I1,r1,q1⟩=>aBk pins s1 σ H1 x v Q I1 r1 q1) (he _)
theorem vals1{x:V}{us:List Value}(r:bJ [x] us):∃u,us=[u]/\RelV x u:=by
 cases r with
 |cons r1 r2=>cases r2;exact⟨_,rfl,r1⟩
theorem vals2{x y:V}{us:List Value}(r:bJ [x,y] us):∃u w',us=[u,w']/\RelV x u/\RelV y w':=by
 cases r with
 |cons r1 r2=>
  cases r2 with
  |cons r3 r4=>cases r4;exact⟨_,_,rfl,r1,r3⟩
theorem JX(hc:X.calm=true):eO X (.builtin "max") (fun xs H Q=>∃i j,xs=[.int i,.int j]/\Q (.int (if j > i then j else i)) H):=by
 intro pins s σ H xs us Q I r h;obtain⟨i,j,rfl,q⟩:=h;obtain⟨u,w',rfl,⟨t,rfl⟩,⟨t',rfl⟩⟩:=vals2 r;refine max_two_ints (I.ok.hd hc) fun h' tk k=>⟨_,H,I.kept k,?_,q⟩;by_cases hj:j > i
 .rw[A3 hj,A3 hj];exact⟨_,rfl⟩
 .rw[A7 hj,A7 hj];exact⟨_,rfl⟩
theorem JV:eO X (.type "int") (fun xs H Q=>(∃i,xs=[.int i]/\Q (.int i) H)\/∃k,xs=[.bl k]/\Q (.int (if k then 1 else 0)) H):=by
 intro pins s σ H xs us Q I r h;rcases h with⟨i,rfl,q⟩|⟨k,rfl,q⟩
 .obtain⟨u,rfl,t,rfl⟩:=vals1 r;exact call_int_int ⟨.int i,H,I,⟨_,rfl⟩,q⟩
 .obtain⟨u,rfl,r1⟩:=vals1 r;cases r1;exact call_int_bool ⟨.int (if k then 1 else 0),H,I.tok _,⟨_,rfl⟩,q⟩
end
theorem DC.some_of{v:V}{o:Option Value}(r:DC (some v) o):∃u,o=some u/\RelV v u:=by
 cases o with
 |none=>exact(show False from r).elim
 |some u=>exact⟨u,rfl,r⟩
structure cX(k:Nat)(A:Around)(q:Bool:=true):Prop where
 hd:q=true->A.handled=none
 dp:A.depth+3*k+5<recursionLimit
 un:A.units+16*k+200<cLine
 gd:A.guards=some []
theorem cX.mono{j k:Nat}{q:Bool}(r:cX k A q)(h:j<=k):cX j A q:=⟨r.hd,by have:=r.dp;omega,by have:=r.un;omega,r.gd⟩
theorem cX.deeper{k:Nat}{q:Bool}(r:cX (k+1) A q)(env:Env):cX k (A.deeper env) q:=
 ⟨r.hd,by have:=r.dp;show A.depth+1+3*k+5<_;omega,by have:=r.un;show A.units+3+16*k+200<_;omega,r.gd⟩
theorem cX.depth{k:Nat}{q:Bool}(r:cX k A q):A.depth<recursionLimit:=by have:=r.dp;omega
theorem cX.units{k:Nat}{q:Bool}(r:cX k A q):A.units+64<cLine:=by have:=r.un;omega
noncomputable def FL:TA:=fun _ H Q=>Q [] H
noncomputable def oD(ta:TE)(tr:TA):TA:=fun σ H Q=>ta σ H fun x H1=>tr σ H1 fun xs H2=>Q (x::xs) H2
section
variable{X:Cx}{e:Expr}{es:List Expr}{te:TE}{t:TA}{pos:Pos}
theorem tR:PA X [] FL:=fun _ _ _ _ H Q I h=>Calls.spliced_nil ⟨[],H,I,.nil,h⟩
theorem hE(ha:PE X e te)(hr:PA X es t)(hs:starEach (e::es) X.env=(false,eval e X.env)::starEach es X.env:=by rfl):PA X (e::es) (oD te t):=by
 intro pos pins s σ H Q I h;rw[hs];show wpAny _ _ (spliced ((false,eval e X.env)::backTo pos (starEach es X.env))) _ _ s;refine Calls.spliced_cons (thn (ha pins s σ H _ I h) fun u s1 ⟨x,H1,I1,r1,q1⟩=>?_);exact thn (hr pos pins s1 σ H1 _ I1 q1) fun us s2 ⟨xs,H2,I2,r2,q2⟩=>⟨x::xs,H2,I2,.cons r1 r2,q2⟩
noncomputable def VL(t:TA):TE:=fun σ H Q=>t σ H fun xs H1=>xs.length<=sizeLine/\∀p,H1 p=none->Q (.ref p) (upd H1 p (.tup xs))
noncomputable def aCE(t:TA):TE:=fun σ H Q=>t σ H fun xs H1=>xs.length<=sizeLine/\∀p,H1 p=none->Q (.ref p) (upd H1 p (.lst xs))
theorem FT{x1}(h:PA X es t):PE X (.Tuple es x1 pos) (VL t):=by
 intro pins s σ H Q I hq;refine wpAny_Tuple_spliced (thn (h pos pins s σ H _ I hq) fun us s1 ⟨xs,H1,I1,r,z,q⟩=>⟨by rw[<- r.length];exact z,?_⟩);have hf:H1 s1.heap.objs.size=none:=I1.hok.fresh (A6 _);refine⟨.ref s1.heap.objs.size,upd H1 s1.heap.objs.size (.tup xs),I1.laid (t':=s1.toks) (fun b u e=>B3 _ e) (A6 _) ?_,rfl,q _ hf⟩;exact⟨z,us,r,⟨_,C6 _ rfl,rfl,_,rfl⟩⟩
theorem SJ(h:PA X es t):PE X (.List es pos) (aCE t):=by
 intro pins s σ H Q I hq;refine wpAny_List_spliced (thn (h pos pins s σ H _ I hq) fun us s1 ⟨xs,H1,I1,r,z,q⟩=>⟨by rw[<- r.length];exact z,?_⟩);have hf:H1 s1.heap.objs.size=none:=I1.hok.fresh (A6 _);refine⟨.ref s1.heap.objs.size,upd H1 s1.heap.objs.size (.lst xs),I1.laid (t':=s1.toks) (fun b u e=>B3 _ e) (A6 _) ?_,rfl,q _ hf⟩;exact⟨z,us,0,r,C6 _ rfl⟩
end
noncomputable abbrev Sp:=List V->Hp->VK->XK->Prop
noncomputable abbrev CXT:=List Env->Hp->Shared->XK->Value->Shared->Prop
structure ZQ(P:Program)(w:World)(K:Fg)(mg:Str->Option Value)(base:Heap)(A:Around)(outer:List Env)(s:Shared)(H:Hp):Prop where
 frames:A.frames=some outer
 mod:Mod K mg base
 bs:∀b o,base.get? b=some o->s.heap.get? b=some o/\H b=none
 bsz:base.objs.size<=s.heap.objs.size
 funs:s.heap.FunFrames base outer
 frf:∀b∈frs outer,H b=none
 hok:HOk P w H s.heap
 bare:AllBare s.gens
noncomputable def CE(outer:List Env)(P:Program)(w:World)(H:Hp)(s:Shared)(Q:VK)(u:Value)(s':Shared):Prop:=
 ∃v H',s'.os=s.os/\AllBare s'.gens/\Un (frs outer) [] H H' s.heap s'.heap/\HOk P w H' s'.heap/\RelV v u/\Q v H'
noncomputable def CR(CX:CXT)(outer:List Env)(P:Program)(w:World)(H:Hp)(s:Shared)(Q:VK)(E:XK)(r:Result)(s':Shared):Prop:=
 match r with
 |.ok (.ret u)=>CE outer P w H s Q u s'
 |.ok _=>False
 |.error e=>CX outer H s E e s'
structure mY(P:Program)(w:World)(K:Fg)(mg:Str->Option Value)(base:Heap)(CX:CXT)(k:Nat)(f:Addr)(fd:FuncData)(ps:List Str)(sp:Sp)(q:Bool:=true):Prop where
 len:∀vs H Q E,sp vs H Q E->vs.length=ps.length
 run:∀(A:Around)(outer:List Env)(s:Shared)(H:Hp)(args:Args)(us:List Value)(vs:List V)(Q:VK)(E:XK),cX k A q->ZQ P w K mg base A outer s H->BindsTo s fd args (ps.zip us)->bJ vs us->sp vs H Q E->
  codeAny (model P w) A (.call (.ref f) args) (CR CX outer P w H s Q E) s
theorem mY.mono{P:Program}{w:World}{mg:Str->Option Value}{base:Heap}{CX:CXT}{j k:Nat}{f:Addr}{fd:FuncData}{ps:List Str}{sp:Sp}{q:Bool}(F:mY P w K mg base CX j f fd ps sp q)(h:j<=k):
 mY P w K mg base CX k f fd ps sp q:=⟨F.len,fun A outer s H args us vs Q E hr=>F.run A outer s H args us vs Q E (hr.mono h)⟩
section
variable{X:Cx}{pins:List (Addr×Obj)}{σ:St}{H:Hp}{s s':Shared}
theorem Inv.env0(I:Inv X pins σ H s):ZQ X.prog X.w X.K X.mg X.base X.A X.stack s H:=
 ⟨I.ok.frames,I.ok.mod,I.bs,C9 I.ok.bsz I.sz,I.stack,I.stkFree,I.hok,I.bare⟩
theorem Inv.after{Q:VK}{u:Value}(I:Inv X pins σ H s)(h:CE X.stack X.prog X.w H s Q u s'):EP X pins σ Q u s':=by
 obtain⟨v,H',os,bare,un,hok,r,q⟩:=h;obtain⟨hh,g,d,t,os'⟩:=s';obtain rfl:os'=s.os:=os;exact⟨v,H',I.call (h':=hh) (g':=g) (d':=d) (t':=t) (ch:=[]) un hok bare (fun b z=>absurd z (by simp)),r,q⟩
end
noncomputable def SH(sp:Sp)(dvs:List V)(E:XK)(t:TA):TE:=fun σ H Q=>t σ H fun vs H1=>sp (vs++dvs) H1 Q E
noncomputable def Binds(K:Fg)(fd:FuncData)(ps:List Str)(ds:List Value):Prop:=
 ∀(s:Shared)(us:List Value),K.In s.heap->(us++ds).length=ps.length->BindsTo s fd ⟨us,[]⟩ (ps.zip (us++ds))
theorem Binds.all{fd:FuncData}{ps:List Str}(h:∀us:List Value,us.length=ps.length->bindArgs fd ⟨us,[]⟩=pure (ps.zip us)):Binds K fd ps []:=fun s us _ hl=>by
 rw[D1]at hl ⊢;exact .of_eq (h us hl)
noncomputable def GP(CX:CXT)(X:Cx)(E:XK):Prop:=∀(pins:List (Addr×Obj))(σ:St)(H:Hp)(s:Shared)(e:Value)(s':Shared),Inv X pins σ H s->CX X.stack H s E e s'->X.xe e s'
section
variable{X:Cx}{CX:CXT}{k:Nat}{f C:Addr}{fd:FuncData}{ps:List Str}{sp:Sp}{dvs:List V}{ds:List Value}{E:XK}{x m:Str}{p pos apos:Pos}{e o:Expr}{es:List Expr}{ta:TE}{t:TA}
theorem aDI{pins:List (Addr×Obj)}{σ:St}{H:Hp}{s:Shared}{Q:VK}{us:List Value}{vs:List V}{q:Bool}(F:mY X.prog X.w X.K X.mg X.base CX k f fd ps sp q)(hr:cX k X.A q)(hb:Binds X.K fd ps ds)(hd:bJ dvs ds)(hx:GP CX X E)
 (I:Inv X pins σ H s) (r:bJ vs us) (h:sp (vs++dvs) H Q E):wpAny (model X.prog X.w) X.A (call (.ref f) us) (EP X pins σ Q) X.xe s:=by
 have r2:bJ (vs++dvs) (us++ds):=r.append hd;have hl:(us++ds).length=ps.length:=by rw[<- r2.length];exact F.len _ _ _ _ h
 refine wpAny_call (Y3 (F.run X.A X.stack s H ⟨us,[]⟩ (us++ds) (vs++dvs) Q E hr I.env0 (hb s us I.kIn hl) r2 h) fun r s' hq=>?_);cases r with
 |error e=>exact hx pins σ H s e s' I hq
 |ok fl=>
  cases fl with
  |ret u=>exact I.after hq
  |next=>exact False.elim hq
  |brk=>exact False.elim hq
  |cont=>exact False.elim hq
theorem aAd{q:Bool}(F:mY X.prog X.w X.K X.mg X.base CX k f fd ps sp q)(hr:cX k X.A q)(hg:Gl X x)(hm:X.mg x=some (.ref f))(hk:PySem.W.keepIn X.K (.ref f)=true)(hb:Binds X.K fd ps ds)(hd:bJ dvs ds)(hx:GP CX X E)
 (ha:PA X (e::es) t) (hdb:(x==("__debug__":Str))=false:=by decide) (he:starEach (e::es) X.env=(false,eval e X.env)::starEach es X.env:=by rfl) (hpl:(backTo pos (starEach es X.env)).any (·.1)=false:=by rfl):
 PE X (.Call (.Name x p) (e::es) [] pos) (SH sp dvs E t):=by
 intro pins s σ H Q I h;refine Y4 (sO I hg hm ?_ hdb);refine PySem.W.callWith_K (h₀:=X.base) I.ok.mod.kin hk (thn (ha pos pins s σ H _ I h) fun us s1 ⟨vs,H1,I1,r,q⟩=>⟨I1.kIn,?_⟩) he hpl;exact aDI F hr hb hd hx I1 r q
end
structure aT(N P:List Str)(sc:Scope):Prop where
 kind:sc.kind=.function
 co:sc.isCoroutine=false
 gen:sc.isGenerator=false
 nd:N.Nodup
 pre:N.take P.length=P
 par:∀x∈P,sc.names.lookup x=some .local\/sc.names.lookup x=some .cell
 nofree:∀y∈sc.names,y.2≠.free
theorem zQ{kindOf:Str->Option NameKind}{x:Str}:∀{binds:List (Str×Value)}{m:Str->Option Value},(∀v,(x,v)∉binds)->bindL kindOf binds m x=m x
 |[],_=>fun _=>rfl
 |(n,v)::r,m=>fun h=>by
  unfold bindL;rw[zQ fun w hw=>h w (B0 _ hw)];split
  .have:x≠n:=by rintro rfl;exact h v B7
   simp[this]
  .rfl
theorem zG{kindOf:Str->Option NameKind}{x:Str}:∀{binds:List (Str×Value)}{m:Str->Option Value},(∀v,(x,v)∉binds)->bindC kindOf binds m x=m x
 |[],_=>fun _=>rfl
 |(n,v)::r,m=>fun h=>by
  unfold bindC;rw[zG fun w hw=>h w (B0 _ hw)];split
  .rfl
  .have:x≠n:=by rintro rfl;exact h v B7
   simp[this]
theorem zO{kindOf:Str->Option NameKind}{x:Str}{v:Value}:∀{P:List Str}{vs:List Value}{i:Nat}{m:Str->Option Value},P.Nodup->P[i]?=some x->vs[i]?=some v->kindOf x=some .local->
 bindL kindOf (P.zip vs) m x=some v
 |[],_,_,_=>fun _ h _ _=>by simp at h
 |_::_,[],_,_=>fun _ _ h _=>by simp at h
 |p::P,w::vs,0,m=>fun nd h1 h2 hk=>by
  simp at h1 h2;subst h1;subst h2;show bindL kindOf ((p,w)::P.zip vs) m p=_;unfold bindL;rw[zQ fun v hv=>(List.nodup_cons.mp nd).1 (List.of_mem_zip hv).1,A3 hk];simp
 |p::P,w::vs,i+1,m=>fun nd h1 h2 hk=>by
  show bindL kindOf ((p,w)::P.zip vs) m x=_;unfold bindL;exact zO (i:=i) (List.nodup_cons.mp nd).2 (by simpa using h1) (by simpa using h2) hk
theorem zI{kindOf:Str->Option NameKind}{x:Str}{v:Value}:∀{P:List Str}{vs:List Value}{i:Nat}{m:Str->Option Value},P.Nodup->P[i]?=some x->vs[i]?=some v->kindOf x≠some .local->
 bindC kindOf (P.zip vs) m x=some v
 |[],_,_,_=>fun _ h _ _=>by simp at h
 |_::_,[],_,_=>fun _ _ h _=>by simp at h
 |p::P,w::vs,0,m=>fun nd h1 h2 hk=>by
  simp at h1 h2;subst h1;subst h2;show bindC kindOf ((p,w)::P.zip vs) m p=_;unfold bindC;rw[zG fun v hv=>(List.nodup_cons.mp nd).1 (List.of_mem_zip hv).1,A7 hk];simp
 |p::P,w::vs,i+1,m=>fun nd h1 h2 hk=>by
  show bindC kindOf ((p,w)::P.zip vs) m x=_;unfold bindC;exact zI (i:=i) (List.nodup_cons.mp nd).2 (by simpa using h1) (by simpa using h2) hk
noncomputable def start(N:List Str)(vs:List V):St:=vs.map some++List.replicate (N.length-vs.length) none
noncomputable def mK(CX:CXT)(P:Program)(w:World)(K:Fg)(mg:Str->Option Value)(base:Heap)(N:List Str)(qual:Str)(scope:Scope)(f:Addr)(cd:Value)(A:Around)(outer:List Env)(s:Shared)(H:Hp)(E:XK)(q:Bool:=true):Cx where
 prog:=P
 w:=w
 K:=K
 mg:=mg
 base:=base
 A:=A.deeper (envOfC qual scope s.heap.objs.size f cd)
 N:=N
 s₀:=s
 H₀:=H
 env:=envOfC qual scope s.heap.objs.size f cd
 outer:=outer
 stack:=envOfC qual scope s.heap.objs.size f cd::outer
 ex:=[]
 calm:=q
 fn:=fun _=>true
 pn:=[]
 xe:=fun e s'=>wpAny (model P w) (A.deeper (envOfC qual scope s.heap.objs.size f cd)) (leaving (envOfC qual scope s.heap.objs.size f cd) e) (fun _ s''=>CX outer H s E e s'') (fun e' s''=>CX outer H s E e' s'') s'
theorem DJ{sc:Scope}{n:Nat}{x:Str}(h:sc.names.lookup x=some .cell):∃c,(cellsFrom n sc.names []).lookup x=some c:=by
 have q:=PySem.W.cellsFrom_some sc.names n [] (.inl h);exact Option.isSome_iff_exists.mp q
theorem LA{CX:CXT}{P:Program}{w:World}{K:Fg}{mg:Str->Option Value}{base:Heap}{N ps:List Str}{qual:Str}{scope:Scope}{f:Addr}{cd:Value}{A:Around}{outer:List Env}{s s1:Shared}{H:Hp}{E:XK}{us:List Value}{vs:List V}{q:Bool}
 (S:aT N ps scope) (hd:q=true->A.handled=none) (e0:ZQ P w K mg base A outer s H) (hl:vs.length=ps.length) (r:bJ vs us)
 (x:InCallC s s.heap.objs.size (bindL (envOfC qual scope s.heap.objs.size f cd).kindOf (ps.zip us) fun _=>none) (cellsFrom (s.heap.objs.size+1) scope.names []) (bindC (envOfC qual scope s.heap.objs.size f cd).kindOf (ps.zip us) fun _=>none) s1):
 Inv (mK CX P w K mg base N qual scope f cd A outer s H E q) [] (start N vs) H s1:=by
 have hpl:ps.length<=N.length:=by have:=L5 List.length S.pre;rw[E4]at this;omega
 obtain⟨h1,tk,rfl,hk⟩:=x.done;have noA:∀b:Addr,b∉(mK CX P w K mg base N qual scope f cd A outer s H E q).ex:=fun b z=>absurd (show b∈([]:List Addr)from z) (by simp)
 refine⟨⟨e0.mod,S.kind,rfl,rfl,A6 _,fun y z c h1 h2=>?_,fun y hy=>?_,fun y c _ h=>?_,hd,Around.frames_deeper e0.frames,.inr ⟨rfl,rfl⟩,fun b z=>absurd z (noA b),e0.bs,e0.bsz,fun b _ _=>noA b,fun b z=>absurd z (noA b),e0.funs,e0.frf⟩,
  rfl,e0.bare,Un.kept hk,⟨_,x.toInCall.ns,fun i y v h1 h2 h3=>?_⟩,fun y c h=>⟨_,x.cell y c h⟩,e0.hok.fresh (A6 _),fun y c h=>?_,fun p hp=>absurd (show p∈([]:List (Addr×Obj))from hp) (by simp),e0.hok.kept hk,?_⟩
 .exact name_of_addr x.apart (C8 h1) (C8 h2)
 .have hy:scope.names.lookup y=some .cell\/scope.names.lookup y=some .free:=hy;rcases hy with hy|hy
  .exact DJ hy
  .exact absurd rfl (S.nofree _ (C8 hy))
 .exact Nat.le_of_lt (x.above y c (C8 h))
 .have hi:i<vs.length:=by
   unfold start at h2;by_cases hi:i<vs.length
   .exact hi
   .rw[U7 (by simpa using hi)]at h2;rw[List.getElem?_replicate]at h2;split at h2<;>cases h2
  have ha:vs[i]?=some v:=by
   unfold start at h2;rw[List.getElem?_append_left (by simpa using hi),D0]at h2;cases e:vs[i]? with
   |none=>rw[e]at h2;cases h2
   |some a=>rw[e]at h2;cases h2;rfl
  obtain⟨u,hu,rv⟩:=r.get ha
  have hp:ps[i]?=some y:=by
   rw[<- S.pre,List.getElem?_take_of_lt (by omega)];exact h1
  have ndP:ps.Nodup:=by rw[<- S.pre];exact S.nd.sublist (List.take_sublist _ _)
  refine⟨u,rv,?_⟩;rcases S.par y (F8 hp)with k|k
  .exact .inl ⟨k,zO ndP hp hu k⟩
  .obtain⟨c,e⟩:=DJ (n:=s.heap.objs.size+1) k;refine .inr ⟨.inl k,c,e,?_⟩;have q:=x.cell y c e;rw[zI ndP hp hu (by show scope.names.lookup y≠_;rw[k];decide)]at q;exact q
 .exact e0.hok.fresh (Nat.le_of_lt (x.above y c (C8 h)))
 .unfold start;show _=N.length;rw[B4,A2,List.length_replicate];omega
theorem aAi{CX:CXT}{P:Program}{w:World}{K:Fg}{mg:Str->Option Value}{base:Heap}{k:Nat}{f:Addr}{name qual:Str}{params:Arguments}{body:List Stmt}{scope:Scope}{dV kV doc pm cdv ct oc:Value}{an od:Option Addr}
 {osl:Array (Option Value)} {N ps:List Str} {sp:Sp} {q:Bool} (lk:K.lookup f=some ⟨oc,od,.func (PySem.W.fnOf name qual params body scope dV kV doc pm an cdv ct),osl⟩) (hcd:PySem.W.codeIn K cdv qual=true) (S:aT N ps scope)
 (len:∀vs H Q E,sp vs H Q E->vs.length=ps.length)
 (hbody:∀(A:Around)(outer:List Env)(s:Shared)(H:Hp)(vs:List V)(Q:VK)(E:XK),cX k (A.deeper (envOfC qual scope s.heap.objs.size f cdv)) q->sp vs H Q E->
  ∃t,PSs (mK CX P w K mg base N qual scope f cdv A outer s H E q) body t/\t { nx:=fun _ H'=>Q .non H',rt:=Q } (start N vs) H):
 mY P w K mg base CX (k+1) f (PySem.W.fnOf name qual params body scope dV kV doc pm an cdv ct) ps sp q:=by
 refine⟨len,fun A outer s H args us vs Q E hr e0 hb r hsp=>?_⟩;have hl:=len _ _ _ _ hsp;have KX:K.In s.heap:=e0.mod.kin.keeps fun b o e=>(e0.bs b o e).1;have lim:s.heap.NoLimit:=e0.mod.nolimit.keeps fun b o e=>(e0.bs b o e).1
 have hkind:∀y∈ps.zip us,scope.names.lookup y.1=some .local\/(scope.names.lookup y.1=some .cell/\((cellsFrom (s.heap.objs.size+1) scope.names []).lookup y.1).isSome=true):=fun⟨n,v⟩ hy=>by
  rcases S.par n (List.of_mem_zip hy).1 with q|q
  .exact .inl q
  .exact .inr ⟨q,PySem.W.cellsFrom_some _ _ _ (.inl q)⟩
 refine codeAny_call_function hr.depth (KX _ _ lk) rfl S.co S.gen rfl (PySem.W.codeRec_of KX hcd) (hb _ _ _ _ ?_);refine wpAny_newFunctionEnv_cells S.kind hkind fun env he s1 x=>?_;subst he;refine⟨lim.keeps x.toInCall.keep,codeAny_func ?_⟩;obtain⟨t,ht,hq⟩:=hbody A outer s H vs Q E (hr.deeper _) hsp;have I:Inv (mK CX P w K mg base N qual scope f cdv A outer s H E q) [] (start N vs) H s1:=LA S hr.hd e0 hl r x;refine D5 (ht [] s1 (start N vs) H _ I hq) (fun fl s' hs=>?_) fun e s' hs=>hs
 have fin:∀{σ':St}{H':Hp}{v:V}{u:Value},Inv (mK CX P w K mg base N qual scope f cdv A outer s H E q) [] σ' H' s'->RelV v u->Q v H'->CE outer P w H s Q u s':=
  fun{σ' H' v u} J rv q=>⟨v,H',J.os,J.bare,J.base,J.hok,rv,q⟩
 cases fl with
 |ret u=>
  obtain⟨v,σ',H',J,rv,q⟩:=hs;exact fin J rv q
 |next=>
  obtain⟨σ',H',J,q⟩:=hs;exact fin (v:=V.non) (u:=Value.none) J rfl q
 |brk=>
  obtain⟨_,_,_,q⟩:=hs;exact False.elim q
 |cont=>
  obtain⟨_,_,_,q⟩:=hs;exact False.elim q
section
variable{X:Cx}{x:Str}{p pos:Pos}{e:Expr}{es:List Expr}{t:TA}{id T:String}{r:List V->Hp->VK->Prop}
noncomputable def tCB(r:List V->Hp->VK->Prop)(t:TA):TE:=fun σ H Q=>t σ H fun vs H1=>r vs H1 Q
theorem oE(hc:eO X (.builtin id) r)(hg:Gl X x)(hm:X.mg x=none)(hv:bootBuiltins x=some (.builtin id))(ha:PA X (e::es) t)(hn:x≠"__name__":=by decide)(hdb:(x==("__debug__":Str))=false:=by decide)
 (he:starEach (e::es) X.env=(false,eval e X.env)::starEach es X.env:=by rfl) (hpl:(backTo pos (starEach es X.env)).any (·.1)=false:=by rfl):PE X (.Call (.Name x p) (e::es) [] pos) (tCB r t):=by
 intro pins s σ H Q I h;refine Y4 (wR I hg hm hv ?_ hn hdb);exact PyProof.Rows.callWith_builtin1 (thn (ha pos pins s σ H _ I h) fun us s1 ⟨vs,H1,I1,r1,q1⟩=>hc pins s1 σ H1 vs us Q I1 r1 q1) he hpl
theorem JY(hc:eO X (.type T) r)(hg:Gl X x)(hm:X.mg x=none)(hv:bootBuiltins x=some (.type T))(ha:PA X (e::es) t)(hn:x≠"__name__":=by decide)(hdb:(x==("__debug__":Str))=false:=by decide)
 (he:starEach (e::es) X.env=(false,eval e X.env)::starEach es X.env:=by rfl) (hpl:(backTo pos (starEach es X.env)).any (·.1)=false:=by rfl):PE X (.Call (.Name x p) (e::es) [] pos) (tCB r t):=by
 intro pins s σ H Q I h;refine Y4 (wR I hg hm hv ?_ hn hdb);exact PyProof.Rows.callWith_type1 (thn (ha pos pins s σ H _ I h) fun us s1 ⟨vs,H1,I1,r1,q1⟩=>hc pins s1 σ H1 vs us Q I1 r1 q1) he hpl
end
end L2
namespace HT
open PySem PyProof.Rows
section
variable{prog:Program}{w:World}{A:Around}{E:Value->Shared->Prop}{s:Shared}
theorem cat_tup{t b:Addr}{vs ws:List Value}{Q:Value->Shared->Prop}(ht:IsTup s.heap t vs.toArray)(hb:IsTup s.heap b ws.toArray)(hv:vs≠[])
 (h1:ws=[]->Q (.ref t) s) (h2:ws≠[]->Q (.ref s.heap.objs.size) { s with heap:=s.heap.push { cls:=.type "tuple",data:=.seq (vs++ws).toArray } })
 (hsz:vs.length+ws.length<=sizeLine):wpAny (model prog w) A (binaryOp .Add (.ref t) (.ref b)) Q E s:=by
 obtain⟨⟨cls,dd,data,sl⟩,ho,hc,n,hd⟩:=id ht;obtain⟨⟨cls2,dd2,data2,sl2⟩,ho2,hc2,n2,hd2⟩:=id hb;simp only at hc hd hc2 hd2;subst hc hd hc2 hd2;have e:vs.toArray++ws.toArray=(vs++ws).toArray:=by simp
 by_cases hw:ws=[]
 .exact concat_meets ⟨_,ho,rfl⟩ ⟨_,ho2,rfl⟩ noFill_tuple_add seq_tuple_add PySem.F.slot_tuple_add PySem.F.entry_tuple_add (PySem.F.args_tuple_add_2 _ _)
   (tuple_addW1 t b vs.toArray ws.toArray n n2 dd dd2 sl sl2 (by simpa using hv) (by simp[hw])) ⟨ho,ho2,h1 hw⟩
 .refine concat_meets ⟨_,ho,rfl⟩ ⟨_,ho2,rfl⟩ noFill_tuple_add seq_tuple_add PySem.F.slot_tuple_add PySem.F.entry_tuple_add (PySem.F.args_tuple_add_2 _ _)
   (tuple_addW2 t b vs.toArray ws.toArray n n2 dd dd2 sl sl2 (by simpa using hv) (by simpa using hw) (by rw[C1,C1];exact hsz)) ⟨ho,ho2,?_⟩
  rw[e];exact h2 hw
noncomputable def sIx(n d:Nat):Option Int->Nat
 |none=>d
 |some v=>if v<0 then(v+(n:Int)).toNat else min v.toNat n
theorem sIx_none(n d:Nat):sIx n d none=d:=rfl
theorem sIx_nat(n d k:Nat):sIx n d (some (k:Int))=min k n:=by
 show(if (k:Int)<0 then((k:Int)+(n:Int)).toNat else min (k:Int).toNat n)=min k n;rw[A7 (by omega),O9]
theorem aCQ(n d:Nat)(hd:d<=n)(o:Option Int):sIx n d o<=n:=by
 cases o with
 |none=>exact hd
 |some v=>
  show(if v<0 then(v+(n:Int)).toNat else min v.toNat n)<=n;by_cases hv:v<0
  .rw[A3 hv];omega
  .rw[A7 hv];exact Nat.min_le_right _ _
theorem HQ(v:Int)(n d:Nat):(if v<0 then max (v+(n:Int)) 0 else min v (n:Int))=((sIx n d (some v):Nat):Int):=by
 show(if v<0 then max (v+(n:Int)) 0 else min v (n:Int))=(((if v<0 then(v+(n:Int)).toNat else min v.toNat n):Nat):Int);by_cases hv:v<0
 .simp only[if_pos hv];omega
 .simp only[if_neg hv];omega
theorem FP(lo hi:Option Int)(n:Nat):Builtin.Slice.sliceAdjust lo hi 1 (n:Int)=(((sIx n 0 lo:Nat):Int),((sIx n n hi:Nat):Int)):=by
 have h1:¬((1:Int)<0):=by omega
 unfold Builtin.Slice.sliceAdjust;simp only[h1,if_false];refine Prod.ext ?_ ?_
 .cases lo with
  |none=>rfl
  |some v=>exact HQ v n 0
 .cases hi with
  |none=>rfl
  |some v=>exact HQ v n n
theorem FW(i j:Nat):Builtin.Slice.slicePlaces (i:Int) (j:Int) 1=j-i:=by
 unfold Builtin.Slice.slicePlaces;have h1:(1:Int) > 0:=by omega
 simp only[h1,if_true,Int.ediv_one];split<;>omega
theorem wK{v:Value}{o:Option Int}{Q:Option Int->Shared->Prop}(p:IsPart v o)(h:Q o s):wpAny (model prog w) A (Builtin.Slice.slicePartIndex v) Q E s:=by
 cases p with
 |none=>exact slicePart_none h
 |int i t=>exact slicePart_int h
theorem lK{sl:Addr}{vl vu:Value}{lo hi:Option Int}{n:Nat}{Q:Int×Int×Nat->Shared->Prop}(hs:s.heap.IsSliceOf sl vl vu .none)(pl:IsPart vl lo)(pu:IsPart vu hi)
 (h:Q (((sIx n 0 lo:Nat):Int),1,sIx n n hi-sIx n 0 lo) s):wpAny (model prog w) A (Builtin.Slice.sliceApplied (.ref sl) (pure (n:Int))) Q E s:=by
 obtain⟨os,hos,hcs,hds⟩:=id hs;unfold Builtin.Slice.sliceApplied Builtin.Slice.sliceFields;refine A0 (A0 (L8 hos hds (x:=vl) rfl (A0 (L8 hos hds (x:=vu) rfl (A0 (L8 hos hds (x:=.none) rfl (A4 ?_)))))));refine A0 (slicePart_none ?_);show wpAny _ _ (if ((1:Int)==0)=true then _ else _) _ _ s;rw[A7 (by decide)];refine A0 (wK pl (A0 (wK pu (A0 (A4 ?_)))));show wpAny _ _ (match Builtin.Slice.sliceAdjust lo hi 1 (n:Int)with|(lo,hi)=>pure (lo,(1:Int),Builtin.Slice.slicePlaces lo hi 1)) _ _ s;rw[FP lo hi n];show wpAny _ _ (pure (((sIx n 0 lo:Nat):Int),(1:Int),Builtin.Slice.slicePlaces ((sIx n 0 lo:Nat):Int) ((sIx n n hi:Nat):Int) 1)) _ _ s;rw[FW];exact A4 h
theorem PD(xs:Array Value)(i k:Nat):((List.range k).filterMap fun(m:Nat)=>xs[((i:Int)+(m:Int)*1).toNat]?).toArray=((xs.toList.drop i).take k).toArray:=by
 have e:(fun(m:Nat)=>xs[((i:Int)+(m:Int)*1).toNat]?)=fun m=>xs[i+m]?:=by
  funext m;have:((i:Int)+(m:Int)*1).toNat=i+m:=by omega
  rw[this]
 rw[e];have:=pick_run xs i k;rw[List.filterMap_map]at this;have e2:((fun x=>xs[x]?) ∘ fun x=>i+x)=fun m=>xs[i+m]?:=rfl;rw[e2]at this;rw[this]
theorem getItem_tuple_cut{t sl:Addr}{items:Array Value}{vl vu:Value}{lo hi:Option Int}{Q:Value->Shared->Prop}(ht:IsTup s.heap t items)(hs:s.heap.IsSliceOf sl vl vu .none)(pl:IsPart vl lo)(pu:IsPart vu hi)
 (hw:¬(sIx items.size 0 lo=0/\sIx items.size items.size hi=items.size))
 (h:Q (.ref s.heap.objs.size) { s with heap:=s.heap.push { cls:=.type "tuple",data:=.seq ((items.toList.drop (sIx items.size 0 lo)).take (sIx items.size items.size hi-sIx items.size 0 lo)).toArray } })
 (hsz:items.size<=sizeLine):wpAny (model prog w) A (getItem (.ref t) (.ref sl)) Q E s:=by
 have htake:sizeOk (.seq ((items.toList.drop (sIx items.size 0 lo)).take (sIx items.size items.size hi-sIx items.size 0 lo)).toArray):=by
  show((items.toList.drop (sIx items.size 0 lo)).take (sIx items.size items.size hi-sIx items.size 0 lo)).toArray.size<=sizeLine;rw[C1,E4,F5,D3];omega
 have hj:sIx items.size items.size hi<=items.size:=aCQ _ _ (A6 _) hi;obtain⟨os,hos,hcs,hds⟩:=id hs;have hTs:s.TypeIs (.ref sl) "slice":=⟨os,hos,hcs⟩;unfold getItem
 try with_reducible refine E6 ?_
 first|refine A0 (A4 ?_)|skip
 refine A0 (wpAny_sequenceKey ht.typeIs (by decide) ?_)
 refine A0 (wpAny_callSpecial?_slot (name:=Str.ofString "__getitem__") ht.typeIs J5
  (wpAny_call_entry J5 ht.typeIs entry_tuple_getitem ?_ (args_tuple_getitem _ _)))
 show wpAny _ _ (Builtin.Tuple.tupleItemsOf (.ref t) >>= _) _ _ s;refine A0 (tupleItemsOf_ ht ?_);refine A0 (wpAny_typeOf hTs ?_);rw[A3 (by decide)];refine A0 (lK hs pl pu ?_)
 have hno:¬((((sIx items.size 0 lo:Nat):Int)==0&&(1:Int)==1&&(sIx items.size items.size hi-sIx items.size 0 lo)==items.size)=true):=by
  intro q;rw[B6,B6]at q;have q1:((sIx items.size 0 lo:Nat):Int)=0:=eq_of_beq q.1.1;have q2:sIx items.size items.size hi-sIx items.size 0 lo=items.size:=eq_of_beq q.2;exact hw ⟨by omega,by omega⟩
 show wpAny _ _ (if (((sIx items.size 0 lo:Nat):Int)==0&&(1:Int)==1&&(sIx items.size items.size hi-sIx items.size 0 lo)==items.size)=true then _ else _) _ _ s;rw[A7 hno,PD]
 first
  |exact A0 (m:=Builtin.Tuple.tupleExact _) (E1 (A4 ⟨_,rfl,A4 h⟩) htake)
  |exact A0 (m:=Builtin.Tuple.tupleExact _) (E1 (A0 (A4 (A4 ⟨_,rfl,A4 h⟩))) htake)
  |exact A0 (A0 (m:=Builtin.Tuple.tupleExact _) (E1 (A4 (A4 ⟨_,rfl,A4 h⟩)) htake))
  |exact A0 (A0 (m:=Builtin.Tuple.tupleExact _) (E1 (A4 ⟨_,rfl,A4 h⟩) htake))
end
end HT
namespace L2
variable{H:Hp}{σ:St}{s:Shared}{pos:Pos}
open PySem PySem.Spec PyProof.Rows
noncomputable abbrev TO:=St->Hp->(Option Int->Hp->Prop)->Prop
noncomputable def PO(X:Cx)(e:Option Expr)(t:TO):Prop:=
 ∀(pins:List (Addr×Obj))(s:Shared)(σ:St)(H:Hp)(Q:Option Int->Hp->Prop),Inv X pins σ H s->t σ H Q->
  wpAny (model X.prog X.w) X.A (evalPart e X.env) (fun u s'=>∃o H',Inv X pins σ H' s'/\IsPart u o/\Q o H') X.xe s
noncomputable def HY:TO:=fun _ H Q=>Q none H
noncomputable def aAG(t:TE):TO:=fun σ H Q=>t σ H fun x H1=>∃i,x=.int i/\Q (some i) H1
theorem intsAre_of{ns:List Int}:∀{us:List Value},bJ (ns.map V.int) us->IntsAre us ns:=by
 induction ns with
 |nil=>intro us r;rw[List.map_nil]at r;cases r;exact .nil
 |cons n ns ih=>
  intro us r;rw[A9]at r;cases r with
  |cons r1 r2=>
   obtain⟨t,e⟩:=r1;subst e;exact .cons n t (ih r2)
section
variable{X:Cx}{e:Expr}{te:TE}{lo hi:Option Expr}{tl th:TO}{pos p2:Pos}
theorem YL:PO X none HY:=by
 intro pins s σ H Q I h;rw[evalPart_none];exact A4 ⟨none,H,I,.none,h⟩
theorem XG(h:PE X e te):PO X (some e) (aAG te):=by
 intro pins s σ H Q I hw;rw[evalPart_some];refine thn (h pins s σ H _ I hw) fun u s1 ⟨x,H1,I1,r1,q1⟩=>?_;obtain⟨i,rfl,q⟩:=q1;obtain⟨t,rfl⟩:=r1;exact⟨some i,H1,I1,.int i t,q⟩
noncomputable def SlR(X:Cx)(r:V->Option Int->Option Int->Hp->VK->Prop):Prop:=
 ∀(pins:List (Addr×Obj))(s:Shared)(σ:St)(H:Hp)(x:V)(v vl vu:Value)(lo hi:Option Int)(sl:Addr)(Q:VK),Inv X pins σ H s->RelV x v->s.heap.IsSliceOf sl vl vu .none->IsPart vl lo->IsPart vu hi->r x lo hi H Q->
  ∃T id,typeLookup (.type T) "__getitem__"=pure (some (.builtin id))/\s.TypeIs v T/\wpAny (model X.prog X.w) X.A (getItem v (.ref sl)) (EP X pins σ Q) X.xe s
theorem SlR.or{r r':V->Option Int->Option Int->Hp->VK->Prop}(h:SlR X r)(h':SlR X r'):SlR X (fun x lo hi H Q=>r x lo hi H Q\/r' x lo hi H Q):=by
 intro pins s σ H x v vl vu lo hi sl Q I rx hs pl pu q;rcases q with q|q
 .exact h pins s σ H x v vl vu lo hi sl Q I rx hs pl pu q
 .exact h' pins s σ H x v vl vu lo hi sl Q I rx hs pl pu q
noncomputable def tSl(r:V->Option Int->Option Int->Hp->VK->Prop)(te:TE)(tl th:TO):TE:=fun σ H Q=>te σ H fun x H1=>tl σ H1 fun l H2=>th σ H2 fun u H3=>r x l u H3 Q
theorem OL{r:V->Option Int->Option Int->Hp->VK->Prop}(hr:SlR X r)(he:PE X e te)(hl:PO X lo tl)(hu:PO X hi th):PE X (.Subscript e (.Slice lo hi none p2) pos) (tSl r te tl th):=by
 intro pins s σ H Q I h;refine Subscript_ (thn (he pins s σ H _ I h) fun v s1 ⟨x,H1,I1,r1,q1⟩=>?_);refine wpAny_Slice (thn (hl pins s1 σ H1 _ I1 q1) fun vl s2 ⟨l,H2,I2,pl,q2⟩=>thn (hu pins s2 σ H2 _ I2 q2) fun vu s3 ⟨u,H3,I3,pu,q3⟩=>?_);rw[evalPart_none];refine A4 ?_;have I4:Inv X pins σ H3 { s3 with heap:=s3.heap.push { cls:=.type "slice",data:=.fields #[vl,vu,.none] } }:=I3.kept (t':=s3.toks) fun b ob q=>B3 _ q;obtain⟨T,id,hT,ht,hg⟩:=hr pins { s3 with heap:=s3.heap.push { cls:=.type "slice",data:=.fields #[vl,vu,.none] } } σ H3 x v vl vu l u s3.heap.objs.size Q I4 r1 (Heap.IsSliceOf.new ..) pl pu q3;show wpAny (model X.prog X.w) X.A (subscriptTail e (.Slice lo hi none p2) v (.ref s3.heap.objs.size)) (EP X pins σ Q) X.xe { s3 with heap:=s3.heap.push { cls:=.type "slice",data:=.fields #[vl,vu,.none] } };exact tail_any (ops:=[.ref s3.heap.objs.size,v]) ht hT hg (by with_unfolding_all rfl)
noncomputable def tW(xs:List V)(lo hi:Option Int):List V:=(xs.drop (HT.sIx xs.length 0 lo)).take (HT.sIx xs.length xs.length hi-HT.sIx xs.length 0 lo)
theorem uB(xs:List V)(lo hi:Option Int):(tW xs lo hi).length<=xs.length:=by
 unfold tW;rw[E4,F5];omega
noncomputable def aEu(K:Fg):V->Option Int->Option Int->Hp->VK->Prop:=fun x lo hi H Q=>∃a xs,x=.ref a/\SqT K H a xs /\
 ¬(HT.sIx xs.length 0 lo=0/\HT.sIx xs.length xs.length hi=xs.length)/\∀p,H p=none->Q (.ref p) (upd H p (.tup (tW xs lo hi)))
theorem sl_tup:SlR X (aEu X.K):=by
 intro pins s σ H x v vl vu lo hi sl Q I rx hs pl pu h;obtain⟨a,xs,rfl,hx,hw,q⟩:=h;cases rx;obtain⟨its,r,ht,hz⟩:=I.tuple hx;have hlen:its.toArray.size=xs.length:=by rw[C1];exact r.length.symm
 refine⟨"tuple",_,PyProof.Rows.slot_tuple_getitem.lookup,ht.typeIs,?_⟩;refine HT.getItem_tuple_cut ht hs pl pu (by rw[hlen];exact hw) ?_ (by rw[hlen];exact hz);rw[hlen];refine⟨.ref s.heap.objs.size,_,I.laid (t':=s.toks) (o:=.tup (tW xs lo hi)) (fun b ob q=>B3 _ q) (A6 _) ?_,rfl,q _ (I.hok.fresh (A6 _))⟩;exact⟨C9 (uB xs lo hi) hz,_,(r.drop (HT.sIx xs.length 0 lo)).take (HT.sIx xs.length xs.length hi-HT.sIx xs.length 0 lo),IsTup.new _ _⟩
noncomputable def MM(K:Fg):R2:=fun x y H Q=>∃a b xs ys,x=.ref a/\y=.ref b/\SqT K H a xs/\SqT K H b ys/\xs≠[]/\xs.length+ys.length<=sizeLine /\
 (ys=[]->Q (.ref a) H)/\(ys≠[]->∀p,H p=none->Q (.ref p) (upd H p (.tup (xs++ys))))
theorem bJ.nil_iff{xs:List V}{us:List Value}(r:bJ xs us):us=[]↔xs=[]:=by
 cases r with
 |nil=>simp
 |cons _ _=>simp
theorem VY:OpR X (binaryOp .Add) (MM X.K):=by
 intro pins s σ H x y v u Q I rx ry h;obtain⟨a,b,xs,ys,rfl,rfl,ha,hb,hx,hz,q1,q2⟩:=h;cases rx;cases ry;obtain⟨its,r1,p1,_⟩:=I.tuple ha;obtain⟨its2,r2,p2,_⟩:=I.tuple hb;refine HT.cat_tup p1 p2 (fun z=>hx (r1.nil_iff.mp z)) (fun z=>⟨.ref a,H,I,rfl,q1 (r2.nil_iff.mp z)⟩) (fun z=>?_) (by rw[<- r1.length,<- r2.length];exact hz);refine⟨.ref s.heap.objs.size,_,I.laid (t':=s.toks) (o:=.tup (xs++ys)) (fun b ob q=>B3 _ q) (A6 _) ?_,rfl,q2 (fun w=>z (r2.nil_iff.mpr w)) _ (I.hok.fresh (A6 _))⟩;exact⟨by rw[B4];exact hz,_,r1.append r2,IsTup.new _ _⟩
end
noncomputable def ixN(n:Nat)(i:Int):Option Nat:=if 0<=i then(if i<n then some i.toNat else none)else if -(n:Int)<=i then some (i+n).toNat else none
noncomputable def atI{α:Type}(xs:List α)(i:Int):Option α:=(ixN xs.length i).bind fun j=>xs[j]?
theorem IG{n:Nat}{i:Int}{j:Nat}(h:ixN n i=some j):seqIndex? i n=some j/\j<n/\-(n:Int)<=i/\i<n:=by
 unfold ixN at h;by_cases h0:0<=i
 .rw[A3 h0]at h;by_cases h1:i<n
  .rw[A3 h1]at h;have e:i.toNat=j:=C4 h;exact⟨by rw[seqIndex_of h0 h1,e],by omega,by omega,h1⟩
  .rw[A7 h1]at h;cases h
 .rw[A7 h0]at h;by_cases h1:-(n:Int)<=i
  .rw[A3 h1]at h;have e:(i+n).toNat=j:=C4 h;exact⟨by rw[seqIndex_neg (by omega) h1,e],by omega,h1,by omega⟩
  .rw[A7 h1]at h;cases h
theorem BK{α:Type}{xs:List α}{i:Int}{v:α}(h:atI xs i=some v):∃j,seqIndex? i xs.length=some j/\xs[j]?=some v/\j<xs.length/\-(xs.length:Int)<=i/\i<xs.length:=by
 unfold atI at h;cases e:ixN xs.length i with
 |none=>rw[e]at h;cases h
 |some j=>
  rw[e]at h;obtain⟨h1,h2,h3,h4⟩:=IG e;exact⟨j,h1,h,h2,h3,h4⟩
theorem HD{α:Type}{xs:List α}{j:Nat}{v:α}(h:xs[j]?=some v):atI xs (j:Int)=some v:=by
 have hj:j<xs.length:=(List.getElem?_eq_some_iff.mp h).1
 have e:ixN xs.length (j:Int)=some j:=by
  unfold ixN;rw[A3 (by omega),A3 (by omega)];simp
 unfold atI;rw[e];exact h
noncomputable def HJ(b:Expr):Prop:=∀o i,subscripted b false o i=operate [o,i] (getItem o i)
noncomputable def IxR(X:Cx)(r:R2):Prop:=
 ∀(value slice:Expr)(pins:List (Addr×Obj))(s:Shared)(σ:St)(H:Hp)(x y:V)(v u:Value)(Q:VK),Inv X pins σ H s->RelV x v->RelV y u->r x y H Q->
  subscripted slice false v u=operate [v,u] (getItem v u)->wpAny (model X.prog X.w) X.A (subscriptTail value slice v u) (EP X pins σ Q) X.xe s
noncomputable def MtR(X:Cx)(id:String)(r:V->List V->Hp->VK->Prop):Prop:=
 ∀(pins:List (Addr×Obj))(s:Shared)(σ:St)(H:Hp)(x:V)(xs:List V)(v:Value)(us:List Value)(Q:VK),Inv X pins σ H s->RelV x v->bJ xs us->r x xs H Q->
  wpAny (model X.prog X.w) X.A (call (.builtin id) (v::us)) (EP X pins σ Q) X.xe s
section
variable{X:Cx}{a b:Expr}{ta tb:TE}{pos:Pos}
theorem IxR.or{r r':R2}(h:IxR X r)(h':IxR X r'):IxR X (fun x y H Q=>r x y H Q\/r' x y H Q):=by
 intro value slice pins s σ H x y v u Q I rx ry q hs;rcases q with q|q
 .exact h value slice pins s σ H x y v u Q I rx ry q hs
 .exact h' value slice pins s σ H x y v u Q I rx ry q hs
theorem aEB{r:R2}(hr:IxR X r)(ha:PE X a ta)(hb:PE X b tb)(hs:HJ b):PE X (.Subscript a b pos) (tOp r ta tb):=by
 intro pins s σ H Q I h;exact Subscript_ (aCv ha hb I h fun v u s2 x y H2 I2 rx ry q=>hr a b pins s2 σ H2 x y v u Q I2 rx ry q (hs _ _))
noncomputable def aFo(K:Fg):R2:=fun x y H Q=>∃p xs i v,x=.ref p/\y=.int i/\SqL K H p xs/\atI xs i=some v/\Q v H
noncomputable def aFl(K:Fg):R2:=fun x y H Q=>∃p xs i v,x=.ref p/\y=.int i/\SqT K H p xs/\atI xs i=some v/\Q v H
noncomputable def aFj:R2:=fun x y H Q=>∃z i c,x=.str z/\y=.int i/\z.length<=sizeLine/\atI z.cps.toList i=some c/\Q (.str ⟨#[c]⟩) H
theorem ix_list:IxR X (aFo X.K):=by
 intro value slice pins s σ H x y v u Q I rx ry h hs;obtain⟨p,xs,i,z,rfl,rfl,hq,he,q⟩:=h;cases rx;obtain⟨t,rfl⟩:=ry;obtain⟨its,r,pl,hz⟩:=I.list hq;obtain⟨j,h1,h2,h3,h4,h5⟩:=BK he;obtain⟨w,ew,rw'⟩:=r.get h2;have hl:=r.length;have hn:=tJ;have fin:EP X pins σ Q w s:=⟨z,H,I,rw',q⟩;by_cases h0:0<=i
 .have hj:i.toNat=j:=by
   rw[seqIndex_of h0 h5]at h1;exact C4 h1
  exact item_listR pl.isList h0 (by omega) (by rw[hj];simpa using ew) fin hs
 .have hj:(i+(its.toArray.size:Int)).toNat=j:=by
   rw[seqIndex_neg (by omega) h4]at h1;rw[C1,<- hl];exact C4 h1
  exact subscriptTail_builtinR (x:=w) pl.isList.typeIs slot_list_getitem.lookup
   (wpAny_getItem_list_neg (Q:=fun r s'=>r=w/\EP X pins σ Q r s') pl.isList (by omega) (by rw[C1]<;>omega) (by omega) (by rw[hj];simpa using ew) ⟨rfl,fin⟩) hs
theorem ix_tup:IxR X (aFl X.K):=by
 intro value slice pins s σ H x y v u Q I rx ry h hs;obtain⟨p,xs,i,z,rfl,rfl,hq,he,q⟩:=h;cases rx;obtain⟨t,rfl⟩:=ry;obtain⟨its,r,pl,hz⟩:=I.tuple hq;obtain⟨j,h1,h2,h3,h4,h5⟩:=BK he;obtain⟨w,ew,rw'⟩:=r.get h2;have hl:=r.length;have hn:=tJ;have fin:EP X pins σ Q w s:=⟨z,H,I,rw',q⟩
 exact subscriptTail_builtinR (x:=w) pl.typeIs slot_tuple_getitem.lookup
  (getItem_tuple (j:=j) (Q:=fun r s'=>r=w/\EP X pins σ Q r s') pl (by omega) (by omega) (by rw[C1,<- hl];exact h1) (by simpa using ew) ⟨rfl,fin⟩) hs
theorem aDm:IxR X aFj:=by
 intro value slice pins s σ H x y v u Q I rx ry h hs;obtain⟨z,i,c,rfl,rfl,hz,he,q⟩:=h;obtain⟨t,rfl⟩:=rx;obtain⟨t',rfl⟩:=ry;obtain⟨j,h1,h2,h3,h4,h5⟩:=BK he;have hl:z.cps.toList.length=z.length:=by simp[Str.length]
 rw[hl]at h1 h4 h5;have hn:=tJ
 exact tail_any (typeIs_str s z t) slot_str_getitem.lookup (getItem_str (c:=c) (by
  have e1:decide (i < -(2 ^ 63:Int))=false:=D4 (by omega);have e2:decide (i>=2 ^ 63)=false:=D4 (by omega);rw[e1,e2,Bool.or_false]) (by rw[h1];simpa using h2) ⟨.str ⟨#[c]⟩,H,I.tok _,⟨_,rfl⟩,q⟩) hs
noncomputable def rIx(K:Fg):R2:=fun x y H Q=>aFo K x y H Q\/aFl K x y H Q\/aFj x y H Q
theorem aDM:IxR X (rIx X.K):=ix_list.or (ix_tup.or aDm)
theorem GU(its:List Value)(n j:Nat)(u:Value):Obj.mapSeq (·.setIfInBounds j u) { cls:=.type "list",data:=.seq its.toArray n }={ cls:=.type "list",data:=.seq (its.set j u).toArray n }:=by
 simp[Obj.mapSeq]
theorem Inv.lst{pins:List (Addr×Obj)}{p:Addr}{xs:List V}(I:Inv X pins σ H s)(h:H p=some (.lst xs)):
 ∃(its:List Value)(n:Nat),bJ xs its/\s.heap.get? p=some { cls:=.type "list",data:=.seq its.toArray n }/\xs.length<=sizeLine:=by
 obtain⟨z,its,n,r,e⟩:=I.hok p _ h;exact⟨its,n,r,e,z⟩
theorem Inv.lstUpd{pins:List (Addr×Obj)}{p:Addr}{xs ys:List V}{its its':List Value}{n n':Nat}{f:Obj->Obj}(I:Inv X pins σ H s)(h:H p=some (.lst xs))
 (ho:s.heap.get? p=some { cls:=.type "list",data:=.seq its.toArray n }) (hf:f { cls:=.type "list",data:=.seq its.toArray n }={ cls:=.type "list",data:=.seq its'.toArray n' }) (r:bJ ys its') (hz:ys.length<=sizeLine) (t:Nat):
 Inv X pins σ (upd H p (.lst ys)) { s with heap:=s.heap.update p f,toks:=t }:=by
 have e:(s.heap.update p f).get? p=some { cls:=.type "list",data:=.seq its'.toArray n' }:=by
  rw[O5 f ho (by rw[hf]<;>rfl),hf]
 refine I.write (x:=p) (e:=p) (by rw[h];trivial) (.inl rfl) (fun b u hb q=>(J2 _ _ (L7 hb)).trans q) ⟨_,e⟩ ?_;exact⟨hz,its',n',r,e⟩
noncomputable def aAg:V->V->V->Hp->(Hp->Prop)->Prop:=fun o i v H Q=>∃p xs k j,o=.ref p/\i=.int k/\H p=some (.lst xs)/\ixN xs.length k=some j/\Q (upd H p (.lst (xs.set j v)))
theorem set_list:aBa X aAg:=by
 intro pins s σ H o i v ov iv u Q I ro ri rv h;obtain⟨p,xs,k,j,rfl,rfl,hp,hj,q⟩:=h;cases ro;obtain⟨t,rfl⟩:=ri;obtain⟨its,n,r,ho,hz⟩:=I.lst hp;obtain⟨h1,h2,h3,h4⟩:=IG hj;have hl:=r.length;have hn:=tJ
 have I':Inv X pins σ (upd H p (.lst (xs.set j v))) { s with heap:=s.heap.update p (Obj.mapSeq (·.setIfInBounds j u)) }:=
  I.lstUpd hp ho (GU its n j u) (r.set rv j) (by rw[List.length_set];exact hz) s.toks
 by_cases h0:0<=k
 .have hk:k.toNat=j:=by
   rw[seqIndex_of h0 h4]at h1;exact C4 h1
  exact PySem.W.ki_setAt ho h0 (by omega) (by rw[C1,<- hl];exact h4) (by rw[hk];exact⟨_,I',q⟩)
 .have hk:(k+(its.toArray.size:Int)).toNat=j:=by
   rw[seqIndex_neg (by omega) h3]at h1;rw[C1,<- hl];exact C4 h1
  exact PySem.W.ki_setBack ho (by omega) (by rw[C1,<- hl];exact h3) (by omega) (by rw[hk];exact⟨_,I',q⟩)
theorem BJ(lo hi:Option Int)(n:Nat):(sliceBounds lo hi none n).1=((HT.sIx n 0 lo:Nat):Int)/\(sliceBounds lo hi none n).2.1=((HT.sIx n n hi:Nat):Int)/\(sliceBounds lo hi none n).2.2=1:=by
 refine⟨?_,?_,rfl⟩
 .cases lo with
  |none=>simp[sliceBounds,HT.sIx]
  |some i=>
   simp only[sliceBounds,HT.sIx,Option.getD_none,show(1:Int) > 0 by decide,if_true];by_cases h:i<0
   .simp only[h,if_true]<;>omega
   .simp only[h,if_false]<;>omega
 .cases hi with
  |none=>simp[sliceBounds,HT.sIx]
  |some i=>
   simp only[sliceBounds,HT.sIx,Option.getD_none,show(1:Int) > 0 by decide,if_true];by_cases h:i<0
   .simp only[h,if_true]<;>omega
   .simp only[h,if_false]<;>omega
theorem yE(its:List Value)(lo hi:Option Int):slicePick its.toArray lo hi none=((its.drop (HT.sIx its.length 0 lo)).take (HT.sIx its.length its.length hi-HT.sIx its.length 0 lo)).toArray:=by
 obtain⟨h1,h2,h3⟩:=BJ lo hi its.toArray.size;unfold slicePick;rw[h1,h2,h3];simp only[sliceRange_one,pick_run,List.size_toArray]<;>rfl
noncomputable def aFB(K:Fg):V->Option Int->Option Int->Hp->VK->Prop:=fun x lo hi H Q=>∃a xs,x=.ref a/\SqL K H a xs/\∀p,H p=none->Q (.ref p) (upd H p (.lst (tW xs lo hi)))
theorem sl_list:SlR X (aFB X.K):=by
 intro pins s σ H x v vl vu lo hi sl Q I rx hs pl pu h;obtain⟨a,xs,rfl,hx,q⟩:=h;cases rx;obtain⟨its,r,ht,hz⟩:=I.list hx;have hlen:=r.length;refine⟨"list",_,slot_list_getitem.lookup,ht.isList.typeIs,?_⟩;refine wpAny_getItem_list_slice ht.isList hs pl pu .none (by simp) ?_ (by rw[C1]<;>omega);rw[yE,<- hlen];refine⟨.ref s.heap.objs.size,_,I.laid (t':=s.toks) (o:=.lst (tW xs lo hi)) (fun b ob q=>B3 _ q) (A6 _) ?_,rfl,q _ (I.hok.fresh (A6 _))⟩;exact⟨C9 (uB xs lo hi) hz,_,0,(r.drop (HT.sIx xs.length 0 lo)).take (HT.sIx xs.length xs.length hi-HT.sIx xs.length 0 lo),C6 _ rfl⟩
theorem AI:eO X (.builtin "len") (fun xs H Q=>∃p ys,xs=[.ref p]/\(SqL X.K H p ys\/SqT X.K H p ys)/\Q (.int ys.length) H):=by
 intro pins s σ H xs us Q I r h;obtain⟨p,ys,rfl,hq,q⟩:=h;obtain⟨u,rfl,rx⟩:=vals1 r;cases rx;have hn:=tJ;rcases hq with hq|hq
 .obtain⟨its,r',pl,hz⟩:=I.list hq;have hlen:=r'.length;exact Calls.call_len_list pl.isList (by simp only[List.size_toArray]<;>omega) ⟨.int ys.length,H,I.tok _,⟨s.toks+1,by rw[C1,hlen]⟩,q⟩
 .obtain⟨its,r',pl,hz⟩:=I.tuple hq;have hlen:=r'.length;exact len_tuple pl (by simp only[List.size_toArray]<;>omega) ⟨.int ys.length,H,I.tok _,⟨s.toks+1,by rw[C1,hlen]⟩,q⟩
theorem yD:eO X (.type "tuple") (fun xs H Q=>∃p ys,xs=[.ref p]/\((SqL X.K H p ys/\∀l,H l=none->Q (.ref l) (upd H l (.tup ys)))\/(SqT X.K H p ys/\Q (.ref p) H))):=by
 intro pins s σ H xs us Q I r h;obtain⟨p,ys,rfl,h⟩:=h;obtain⟨u,rfl,rx⟩:=vals1 r;cases rx;rcases h with⟨hq,q⟩|⟨hq,q⟩
 .obtain⟨its,r',pl,hz⟩:=I.list hq;have hlen:=r'.length;refine call_tuple_list pl.isList (fun h' kp=>?_) (by simp only[List.size_toArray]<;>omega);have I1:Inv X pins σ H { s with heap:=h' }:=I.kept (t':=s.toks) kp
  have I2:Inv X pins σ (upd H h'.objs.size (.tup ys)) { s with heap:=h'.push { cls:=.type "tuple",data:=.seq its.toArray } }:=
   I1.laid (t':=s.toks) (fun b o e=>B3 _ e) (A6 _) (show cS X.prog X.w _ _ _ (.tup ys)from⟨hz,its,r',IsTup.new _ _⟩)
  exact⟨.ref h'.objs.size,_,I2,rfl,q _ (I1.hok.fresh (A6 _))⟩
 .obtain⟨its,r',pl,hz⟩:=I.tuple hq;exact call_tuple_same pl ⟨.ref p,H,I,rfl,q⟩
noncomputable def tyV(K:Fg)(T:String)(x:V)(H:Hp):Prop:=match x with
 |.str _=>T="str"
 |.int _=>T="int"
 |.ref p=>(T="list"/\∃xs,SqL K H p xs)\/(T="tuple"/\∃o,K.lookup p=some o/\o.cls=.type "tuple"/\o.dict=none) \/
  (T="dict"/\((∃kvs,H p=some (.dK kvs))\/∃kvs,H p=some (.dT kvs)))\/(T="set"/\∃S n,H p=some (.set S n))
 |_=>False
theorem aDD{pins:List (Addr×Obj)}{T:String}{x:V}{v:Value}(I:Inv X pins σ H s)(r:RelV x v)(ty:tyV X.K T x H):
 s.TypeIs v T/\∀a,v=.ref a->∃ob,s.heap.get? a=some ob/\ob.dict=none:=by
 cases x with
 |str z=>
  obtain⟨t,rfl⟩:=r;cases (show T="str" from ty);exact⟨typeIs_str s z t,fun _ e=>nomatch e⟩
 |int i=>
  obtain⟨t,rfl⟩:=r;cases (show T="int" from ty);exact⟨typeIs_int s i t,fun _ e=>nomatch e⟩
 |ref p=>
  cases r;rcases ty with⟨rfl,xs,hq⟩|⟨rfl,o,hk,hc,hd⟩|⟨rfl,hk⟩|⟨rfl,S,n,hk⟩
  .obtain⟨its,_,pl,_⟩:=I.list hq;refine⟨pl.isList.typeIs,fun a e=>?_⟩;cases e;obtain⟨o,n,e,c,hd,_⟩:=pl;exact⟨o,e,hd⟩
  .refine⟨⟨o,I.kIn p o hk,hc⟩,fun a e=>?_⟩;cases e;exact⟨o,I.kIn _ o hk,hd⟩
  .have z:∃o,s.heap.get? p=some o/\o.ExactDict:=by
    rcases hk with⟨kvs,hk⟩|⟨kvs,hk⟩
    .obtain⟨_,_,_,_,o,_,_,e,ex,_⟩:=I.hok p _ hk;exact⟨o,e,ex⟩
    .obtain⟨_,_,_,_,o,_,_,e,ex,_⟩:=I.hok p _ hk;exact⟨o,e,ex⟩
   obtain⟨o,e,ex⟩:=z;refine⟨⟨o,e,ex.1⟩,fun a e2=>?_⟩;cases e2;exact⟨o,e,ex.2.1⟩
  .obtain⟨o,_,_,_,e,ex,_⟩:=I.hok p _ hk;refine⟨⟨o,e,ex.1⟩,fun a e2=>?_⟩;cases e2;exact⟨o,e,ex.2.1⟩
 |_=>exact False.elim ty
noncomputable def tBM(K:Fg)(T:String)(r:V->List V->Hp->VK->Prop)(to:TE)(t:TA):TE:=fun σ H Q=>to σ H fun x H1=>tyV K T x H1/\t σ H1 fun xs H2=>r x xs H2 Q
variable{o e:Expr}{es:List Expr}{to:TE}{t:TA}{name:Str}{apos cpos:Pos}{T id:String}{r:V->List V->Hp->VK->Prop}
theorem aFh(pa:PlainAttrs T)(slot:Slot T name id)(hty:typeOf (.builtin id)=pure (.type "method_descriptor"))(hm:MtR X id r)(ho:PE X o to)(ha:PA X (e::es) t)
 (hbase:attributeBase o name X.env (eval o X.env)=eval o X.env:=by rfl)
 (hfew:((backTo cpos (starEach (e::es) X.env)).all (fun x=>!x.1)&&(backToKw cpos (keywordEach [] X.env)).all (fun x=>x.1.isSome)
  && decide ((e::es).length+([]:List Keyword).length+(if ([]:List Keyword).isEmpty then 0 else 1)<30))=true:=by rfl)
 (hline:(apos.endLine==cpos.line)=true:=by rfl) (hs:starEach (e::es) X.env=(false,eval e X.env)::starEach es X.env:=by rfl) (hplain:(backTo cpos (starEach es X.env)).any (·.1)=false:=by rfl):
 PE X (.Call (.Attribute o name apos) (e::es) [] cpos) (tBM X.K T r to t):=by
 intro pins s σ H Q I h;refine wpAny_Call_method_late hbase hfew hline rfl (thn (ho pins s σ H _ I h) fun v s1 ⟨x,H1,I1,r1,ty,q1⟩=>?_);obtain⟨h1,h2⟩:=aDD I1 r1 ty;refine⟨T,id,pa,slot,hty,h1,h2,?_⟩;have hA:=ha cpos pins s1 σ H1 _ I1 q1;rw[hs]at hA ⊢;refine Calls.callWith_builtin (by show(false || (backTo cpos (starEach es X.env)).any (·.1))=false;rw[hplain]<;>rfl) (Calls.evalArgs_plain ?_);exact thn hA fun us s2 ⟨vs,H2,I2,r2,q2⟩=>hm pins s2 σ H2 x vs v us Q I2 r1 r2 q2
end
noncomputable def MtM(X:Cx)(id:String)(r:V->List V->Hp->VK->Prop):Prop:=
 ∀(pins:List (Addr×Obj))(s:Shared)(σ:St)(H:Hp)(x:V)(xs:List V)(v:Value)(us:List Value)(Q:VK),Inv X pins σ H s->RelV x v->bJ xs us->r x xs H Q->
  wpAny (model X.prog X.w) X.A (call (.builtin id) (v::us)) (EP X pins σ Q) X.xe s
theorem bJ.one:∀{x:V}{us:List Value},bJ [x] us->∃u,us=[u]/\RelV x u
 |_,_,.cons r .nil=>⟨_,rfl,r⟩
section
variable{X:Cx}{pins:List (Addr×Obj)}{σ:St}{H:Hp}{s:Shared}{l b:Addr}{xs ys zs:List V}
theorem Inv.lset{its its':List Value}{n:Nat}{f:Array Value->Array Value}{t':Nat}(I:Inv X pins σ H s)(hH:H l=some (.lst xs))
 (e:s.heap.get? l=some { cls:=.type "list",data:=.seq its.toArray n }) (hf:f its.toArray=its'.toArray) (hv:bJ ys its') (hz:ys.length<=sizeLine):
 Inv X pins σ (upd H l (.lst ys)) { s with heap:=s.heap.update l (Obj.mapSeq f),toks:=t' }:=by
 have q:=PySem.IsL.update e f;rw[hf]at q;refine I.write (x:=l) (e:=l) (by rw[hH];exact trivial) (.inl rfl) (fun b' u hb hu=>(J2 s.heap (Obj.mapSeq f) (L7 hb)).trans hu) ⟨_,q⟩ ?_;exact⟨hz,its',_,hv,q⟩
theorem Inv.lnew{its:List Value}{t':Nat}(I:Inv X pins σ H s)(hv:bJ ys its)(hz:ys.length<=sizeLine):
 Inv X pins σ (upd H s.heap.objs.size (.lst ys)) { s with heap:=s.heap.push { cls:=.type "list",data:=.seq its.toArray },toks:=t' }:=
 I.laid (fun _ _ q=>B3 _ q) (A6 _) ⟨hz,its,0,hv,C6 _ rfl⟩
theorem Inv.fresh(I:Inv X pins σ H s):H s.heap.objs.size=none:=I.hok.fresh (A6 _)
theorem Inv.lstM(I:Inv X pins σ H s)(hH:H l=some (.lst xs)):xs.length<=sizeLine/\∃(its:List Value)(n:Nat),bJ xs its/\xs.length=its.length/\s.heap.get? l=some { cls:=.type "list",data:=.seq its.toArray n }:=by
 obtain⟨z,its,n,r,e⟩:=I.hok l _ hH;exact⟨z,its,n,r,r.length,e⟩
end
section
variable{X:Cx}
noncomputable def IQ:V->List V->Hp->VK->Prop:=fun x vs H Q=>∃l xs y,x=.ref l/\vs=[y]/\H l=some (.lst xs)/\xs.length<sizeLine/\Q .non (upd H l (.lst (xs++[y])))
theorem LI:MtM X "list.append" IQ:=by
 intro pins s σ H x vs v us Q I rx rv h;obtain⟨l,xs,y,rfl,rfl,hH,hz,q⟩:=h;cases rx;obtain⟨u,rfl,ru⟩:=rv.one;obtain⟨z,its,n,r,hl,e⟩:=I.lstM hH;refine call_meets F.slot_list_append ⟨_,e,rfl⟩ F.entry_list_append (F.args_list_append_2 _ _) (PySem.list_append l its.toArray n u (by rw[C1];omega)) ⟨e,?_⟩;refine⟨.non,_,I.lset (its':=its++[u]) hH e (by simp) (r.append (.cons ru .nil)) ?_,rfl,q⟩;rw[B4,D7];omega
theorem len_rep{α:Type}(xs:List α)(k:Nat):(List.replicate k xs).flatten.length=k*xs.length:=by
 induction k with
 |zero=>simp
 |succ k ih=>rw[E9,F9,B4,ih,Nat.succ_mul,Nat.add_comm]
end
section
variable{κ:Type}[DecidableEq κ]
noncomputable def iN(kvs:List (κ×V))(k:κ):Option V:=(kvs.find? fun kv=>decide (kv.1=k)).map (·.2)
noncomputable def putK(kvs:List (κ×V))(k:κ)(v:V):List (κ×V):=
 if (kvs.any fun kv=>decide (kv.1=k))=true then kvs.map (fun kv=>if kv.1=k then(kv.1,v)else kv)else kvs++[(k,v)]
theorem CB{p:κ×V}{r:List (κ×V)}{k:κ}(e:p.1=k):iN (p::r) k=some p.2:=by simp[iN,List.find?_cons,e]
theorem EI{p:κ×V}{r:List (κ×V)}{k:κ}(e:¬p.1=k):iN (p::r) k=iN r k:=by simp[iN,List.find?_cons,e]
theorem wM(k:κ):∀kvs:List (κ×V),(kvs.any fun kv=>decide (kv.1=k))=(iN kvs k).isSome
 |[]=>rfl
 |p::r=>by
  rw[J4];by_cases e:p.1=k
  .simp only[CB e,decide_eq_true e,Bool.true_or,Option.isSome_some]
  .rw[EI e,D4 e,Bool.false_or];exact wM k r
theorem pE(kvs:List (κ×V))(k:κ)(v:V):(putK kvs k v).length<=kvs.length+1:=by
 unfold putK;split
 .rw[A2];omega
 .rw[B4,C3,List.length_nil];omega
theorem SZ{kvs:List (κ×V)}{k:κ}(v:V)(h:iN kvs k=none):putK kvs k v=kvs++[(k,v)]:=by
 unfold putK;rw[wM,h];exact A7 (by decide)
theorem DC.isSome_eq{o:Option V}{u:Option Value}(r:DC o u):o.isSome=u.isSome:=by
 cases o with
 |none=>cases u with
  |none=>rfl
  |some _=>exact(show False from r).elim
 |some _=>cases u with
  |none=>exact(show False from r).elim
  |some _=>rfl
theorem KV.any{kvs:List (κ×V)}{vs:List (κ×Value)}(r:KV kvs vs)(k:κ):(kvs.any fun kv=>decide (kv.1=k))=vs.any fun kv=>decide (kv.1=k):=by
 unfold KV at r
 induction r with
 |nil=>rfl
 |cons h t ih=>rw[J4,J4,ih,h.1]
theorem KV.repl{kvs:List (κ×V)}{vs:List (κ×Value)}(r:KV kvs vs)(k:κ){y:V}{u:Value}(ry:RelV y u):
 KV (kvs.map fun kv=>if kv.1=k then(kv.1,y)else kv) (vs.map fun kv=>if kv.1=k then(kv.1,u)else kv):=by
 unfold KV at r ⊢
 induction r with
 |nil=>exact .nil
 |@cons p q ps qs h t ih=>
  rw[A9,A9];refine .cons ?_ ih;obtain⟨h1,h2⟩:=h;by_cases e:p.1=k
  .rw[A3 e,A3 (h1.symm.trans e)];exact⟨h1,ry⟩
  .rw[A7 e,A7 (fun z=>e (h1.trans z))];exact⟨h1,h2⟩
theorem KV.put{kvs:List (κ×V)}{vs:List (κ×Value)}(r:KV kvs vs)(k:κ){y:V}{u:Value}(ry:RelV y u):KV (putK kvs k y) (stored vs k u):=by
 unfold putK stored;rw[r.any k];by_cases e:(vs.any fun kv=>decide (kv.1=k))=true
 .rw[A3 e,A3 e];exact r.repl k ry
 .rw[A7 e,A7 e];exact Paired.snoc r ⟨rfl,ry⟩
theorem KV.length{kvs:List (κ×V)}{vs:List (κ×Value)}(r:KV kvs vs):kvs.length=vs.length:=Paired.length r
end
theorem SN{P:Program}{w:World}{k:Key}{u:Value}(r:RelV (kV k) u):(cI P w).is k u=true:=by
 cases k with
 |inl i=>obtain⟨t,e⟩:=(show ∃t,u=Value.int i t from r);subst e;exact FF P w i t
 |inr x=>obtain⟨t,e⟩:=(show ∃t,u=Value.str x t from r);subst e;exact CI P w x t
theorem tV{P:Program}{w:World}:∀{ks:List Key}{us:List Value},bJ (ks.map kV) us->ItemsAre (cI P w) ks us
 |[],_=>fun r=>by rw[List.map_nil]at r;cases r;exact .nil
 |k::ks,_=>fun r=>by
  rw[A9]at r;cases r with
  |cons h t=>exact .cons (SN h) (tV t)
noncomputable abbrev KT(H:Hp):List (List Key×V)->List (List Key×Addr×Value)->Prop:=Paired fun p q=>p.1=q.1/\H q.2.1=some (.tup (p.1.map kV))/\RelV p.2 q.2.2
theorem KT.val{kvs:List (List Key×V)}{xs:List (List Key×Addr×Value)}(r:KT H kvs xs)(k:List Key):DC (iN kvs k) ((atKey xs k).map (·.2)):=by
 induction r with
 |nil=>exact True.intro
 |@cons p q ps qs h t ih=>
  obtain⟨h1,_,h2⟩:=h;by_cases e:p.1=k
  .have e':q.1=k:=h1.symm.trans e;have b:atKey (q::qs) k=some q.2:=by simp[atKey,List.find?_cons,e']
   rw[CB e,b];exact h2
  .have e':¬q.1=k:=fun z=>e (h1.trans z);have b:atKey (q::qs) k=atKey qs k:=by simp[atKey,List.find?_cons,e']
   rw[EI e,b];exact ih
theorem KT.repl{kvs:List (List Key×V)}{xs:List (List Key×Addr×Value)}(r:KT H kvs xs)(k:List Key){y:V}{u:Value}(ry:RelV y u):
 KT H (kvs.map fun kv=>if kv.1=k then(kv.1,y)else kv) (xs.map (putAt k u)):=by
 induction r with
 |nil=>exact .nil
 |@cons p q ps qs h t ih=>
  rw[A9,A9];refine .cons ?_ ih;obtain⟨h1,h2,h3⟩:=h;unfold putAt;by_cases e:p.1=k
  .rw[A3 e,A3 (h1.symm.trans e)];exact⟨h1,h2,ry⟩
  .rw[A7 e,A7 (fun z=>e (h1.trans z))];exact⟨h1,h2,h3⟩
theorem KT.put{kvs:List (List Key×V)}{xs:List (List Key×Addr×Value)}(r:KT H kvs xs)(k:List Key){b:Addr}{y:V}{u:Value}(hb:H b=some (.tup (k.map kV)))(ry:RelV y u):
 KT H (putK kvs k y) (storedH xs k b u):=by
 have e:(kvs.any fun kv=>decide (kv.1=k))=(atKey xs k).isSome:=by
  rw[wM,(r.val k).isSome_eq,Option.isSome_map]
 unfold putK storedH;rw[e];by_cases q:(atKey xs k).isSome=true
 .rw[A3 q,A3 q];exact r.repl k ry
 .rw[A7 q,A7 q];exact Paired.snoc r ⟨rfl,hb,ry⟩
theorem KT.keeps{H':Hp}{kvs:List (List Key×V)}{xs:List (List Key×Addr×Value)}(r:KT H kvs xs)(ht:∀b ys,H b=some (.tup ys)->H' b=some (.tup ys)):KT H' kvs xs:=
 Paired.mapP r fun _ _ z=>⟨z.1,ht _ _ z.2.1,z.2.2⟩
section
variable{P:Program}{w:World}{H:Hp}{h:Heap}{a:Addr}
theorem aAx{u:HO}(ok:HOk P w H h)(e:Rd H a u):cS P w H h a u:=e.ok ok
theorem aDX{kvs:List (Key×V)}(ok:HOk P w H h)(e:Rd H a (.dK kvs)):kvs.length<=sizeLine/\(a==sysModules)=false/\∃vs,KV kvs vs/\h.DictOf (cI P w) a vs:=
 show cS P w H h a (.dK kvs)from aAx ok e
theorem aAH{kvs:List (Key×V)}(ok:HOk P w H h)(e:H a=some (.dK kvs)):kvs.length<=sizeLine/\(a==sysModules)=false/\∃vs,KV kvs vs/\h.DictOf (cI P w) a vs:=aDX ok (.inl e)
theorem BN{ks:List Key}(ok:HOk P w H h)(e:H a=some (.tup (ks.map kV))):(tupleKind (cI P w)).is h ks a:=by
 obtain⟨_,its,r,o,h1,h2,n,h3⟩:=(show cS P w H h a (.tup (ks.map kV))from ok a _ e);exact⟨o,its.toArray,n,h1,h2,h3,by simpa using tV r⟩
theorem aAo{kvs:List (List Key×V)}(ok:HOk P w H h)(e:Rd H a (.dT kvs)):kvs.length<=sizeLine/\(a==sysModules)=false /\
 ∃xs,KT H kvs xs/\h.DictOfH (tupleKind (cI P w)) a xs:=by
 obtain⟨z,y,xs,r,o,es,ep,h1,h2,h3,h4,h5⟩:=(show cS P w H h a (.dT kvs)from aAx ok e);refine⟨z,y,xs,r,o,es,ep,h1,h2,h3,h4,fun x hx=>?_,h5⟩
 have all:∀{l:List (List Key×V)}{m:List (List Key×Addr×Value)},KT H l m->∀x∈m,(tupleKind (cI P w)).is h x.1 x.2.1:=by
  intro l m q
  induction q with
  |nil=>intro x hx;exact nomatch hx
  |@cons p q ps qs hq t ih=>
   intro x hx;rcases List.mem_cons.mp hx with e|hx
   .subst e;exact BN ok (by rw[<- hq.1];exact hq.2.1)
   .exact ih x hx
 exact all r x hx
theorem aEi{kvs:List (List Key×V)}(ok:HOk P w H h)(e:H a=some (.dT kvs)):kvs.length<=sizeLine/\(a==sysModules)=false /\
 ∃xs,KT H kvs xs/\h.DictOfH (tupleKind (cI P w)) a xs:=aAo ok (.inl e)
end
noncomputable def BG(H:Hp)(a:Addr)(y v:V)(H':Hp):Prop:=
 (∃kvs k,H a=some (.dK kvs)/\y=kV k/\kvs.length<sizeLine/\H'=upd H a (.dK (putK kvs k v))) \/
 ∃kvs k b,H a=some (.dT kvs)/\y=.ref b/\H b=some (.tup (k.map kV))/\kvs.length<sizeLine/\H'=upd H a (.dT (putK kvs k v))
theorem BG.k{a:Addr}{kvs:List (Key×V)}{k:Key}{v:V}(e:H a=some (.dK kvs))(hl:kvs.length<sizeLine):BG H a (kV k) v (upd H a (.dK (putK kvs k v))):=.inl ⟨kvs,k,e,rfl,hl,rfl⟩
theorem BG.t{a b:Addr}{kvs:List (List Key×V)}{k:List Key}{v:V}(e:H a=some (.dT kvs))(eb:H b=some (.tup (k.map kV)))(hl:kvs.length<sizeLine):
 BG H a (.ref b) v (upd H a (.dT (putK kvs k v))):=.inr ⟨kvs,k,b,e,rfl,eb,hl,rfl⟩
section
variable{X:Cx}{pins:List (Addr×Obj)}{σ:St}{H:Hp}{s:Shared}{a:Addr}{y v:V}{u r:Value}{o:Option V}{A:Around}{E:Value->Shared->Prop}
theorem Inv.big(I:Inv X pins σ H s):sysModules<s.heap.objs.size:=by
 have h:mainGlobals<s.heap.objs.size:=(I.mod.glob.keeps I.bk).lt;exact Nat.lt_trans (by decide) h
theorem vF{h':Heap}{t':Nat}{ob:HO}(I:Inv X pins σ H s)(mu:Mut (H a))(hs:Heap.SameBut a s.heap h')(he:∃q,h'.get? a=some q)(new:cS X.prog X.w (upd H a ob) h' a ob):
 Inv X pins σ (upd H a ob) { s with heap:=h',toks:=t' }:=
 I.write (x:=a) (e:=a) mu (.inl rfl) (fun b q hb z=>(hs.2 b hb).trans z) he new
theorem QO{P:Program}{w:World}{H':Hp}{h':Heap}{kvs:List (Key×V)}{vs:List (Key×Value)}(z:kvs.length<=sizeLine)(hd:(a==sysModules)=false)(rel:KV kvs vs)(dd:h'.DictOf (cI P w) a vs):
 cS P w H' h' a (.dK kvs):=⟨z,hd,vs,rel,dd⟩
theorem JU{H':Hp}{Q:Unit->Shared->Prop}(hu:A.units+1<cLine)(I:Inv X pins σ H s)(g:BG H a y v H')(ry:RelV y u)(rv:RelV v r)(h:∀s',Inv X pins σ H' s'->Q () s'):
 wpAny (model X.prog X.w) A (setItem (.ref a) u r) Q E s:=by
 rcases g with⟨kvs,k,e,ey,l,eH⟩|⟨kvs,k,b,e,ey,eb,l,eH⟩
 .subst ey eH;obtain⟨z,hd,vs,rel,dd⟩:=aAH I.hok e;have hz:vs.length<=sizeLine:=by rw[<- rel.length];exact z
  have hl:(putK kvs k v).length<=sizeLine:=by have:=pE kvs k v;omega
  refine wpAny_setItem_pairs (hsz:=hz) (SN ry) dd fun h' dd' hs=>h _ ?_;have he:∃q,h'.get? a=some q:=let⟨q,_,_,hq,_⟩:=dd';⟨q,hq⟩;exact vF I (by rw[e];exact True.intro) hs he (QO hl hd (rel.put k rv) dd')
 .subst ey eH;cases (show u=Value.ref b from ry);obtain⟨z,hd,xs,rel,dd⟩:=aEi I.hok e;have hz:xs.length<=sizeLine:=by rw[<- Paired.length rel];exact z
  have hl:(putK kvs k v).length<=sizeLine:=by have:=pE kvs k v;omega
  refine wpAny_setItem_heap (hsz:=hz) (tupleKind_room_in1 hu) (BN I.hok eb) dd fun h' dd' hs=>h _ ?_;obtain⟨q,es,ep,hq,h2,h3,h4,_,h5⟩:=dd';refine vF I (by rw[e];exact True.intro) hs ⟨q,hq⟩ ⟨hl,hd,_,(rel.put k eb rv).keeps fun c ys ec=>?_,q,es,ep,hq,h2,h3,h4,h5⟩;rw[aP (aFy ec e (fun z=>nomatch z))];exact ec
end
noncomputable def ZM(i:Expr):Prop:=∀ov iv,subscripted i false ov iv=operate [ov,iv] (getItem ov iv)
theorem WB{prog:Program}{w:World}{A:Around}{E:Value->Shared->Prop}{s:Shared}{env:Env}{value slice:Expr}{pos:Pos}{T id:String}{Q:Value->Shared->Prop}
 (hl:typeLookup (.type T) "__getitem__"=pure (some (.builtin id))) (hs:ZM slice)
 (h:wpAny (model prog w) A (eval value env) (fun o s₁=>wpAny (model prog w) A (eval slice env) (fun i s₂=>s₂.TypeIs o T/\wpAny (model prog w) A (getItem o i) Q E s₂) E s₁) E s):
 wpAny (model prog w) A (eval (.Subscript value slice pos) env) Q E s:=by
 refine Subscript_ (D5 h (fun o s₁ h₁=>D5 h₁ (fun i s₂ h₂=>?_) fun _ _ x=>x) fun _ _ x=>x);obtain⟨hT,h₂⟩:=h₂;unfold subscriptTail;refine A0 ?_;rw[getitemInPython_of_ne hT.not_modules];refine A0 (wpAny_specialOf hT hl ?_)
 have fin:wpAny (model prog w) A (subscripted slice false o i) (fun r s₃=>wpAny (model prog w) A (letTemporaryGo value o r >>= fun _=>pure r) Q E s₃) E s₂:=by
  rw[hs o i];exact wpAny_operating (D5 h₂ (fun r s₃ h₃=>A0 (wpAny_letTemporaryGo (A4 h₃))) fun _ _ x=>x)
 first
  |exact A4 (A0 fin)
  |exact A0 (A4 (A0 fin))
  |exact A0 fin
noncomputable def aAE(td ty tv:TE):TS:=fun D σ H=>tv σ H fun v H1=>td σ H1 fun x H2=>ty σ H2 fun y H3=>∃a H4,x=.ref a/\BG H3 a y v H4/\D.nx σ H4
section
variable{X:Cx}{o i e value:Expr}{pos pos' tpos:Pos}{td ty tv:TE}
theorem XX(hu:X.A.units+1<cLine)(ho:PE X o td)(hi:PE X i ty)(hv:PE X value tv)(hs:swapsWith value (some (.Subscript o i pos')) pos.line X.env=pure false):
 PS X (.Assign [.Subscript o i pos'] value pos) (aAE td ty tv):=by
 intro pins s σ H D I h;refine wpAny_Assign_Subscript (thn (hv pins s σ H _ I h) fun r s1 ⟨v,H1,I1,rv,q1⟩=>thn (ho pins s1 σ H1 _ I1 q1) fun u s2 ⟨x,H2,I2,rx,q2⟩=>thn (hi pins s2 σ H2 _ I2 q2) fun iv s3 ⟨y,H3,I3,ry,a,H4,ex,g,q3⟩=>?_) hs;subst ex;obtain rfl:u=Value.ref a:=rx;exact JU hu I3 g ry rv fun s4 I4=>⟨σ,H4,I4,q3⟩
end
theorem CH{P:Program}{w:World}(h:Heap)(hb:sysModules<h.objs.size):cS P w H (h.push { cls:=.type "dict",data:=.dict #[] }) h.objs.size (.dK []):=
 ⟨D2 _,beq_eq_false_iff_ne.mpr (L7 (B8 hb)),[],.nil,Heap.DictOf.new h⟩
theorem SC{P:Program}{w:World}(h:Heap)(hb:sysModules<h.objs.size):cS P w H (h.push { cls:=.type "dict",data:=.dict #[] }) h.objs.size (.dT []):=
 ⟨D2 _,beq_eq_false_iff_ne.mpr (L7 (B8 hb)),[],.nil,_,#[],0,C6 _ rfl,⟨rfl,rfl,rfl⟩,rfl,rfl,J9⟩
noncomputable def QW:TE:=fun _ H Q=>∀p,H p=none->Q (.ref p) (upd H p (.dK []))
noncomputable def PR:TE:=fun _ H Q=>∀p,H p=none->Q (.ref p) (upd H p (.dT []))
section
variable{X:Cx}{pos:Pos}
theorem PB:PE X (.Dict [] [] pos) QW:=fun pins s σ H Q I h=>
 wpAny_Dict_empty ⟨.ref s.heap.objs.size,_,I.laid (a:=s.heap.objs.size) (o:=.dK []) (t':=s.toks) (fun _ _ q=>B3 _ q) (A6 _) (CH s.heap I.big),rfl,h _ (I.hok.fresh (A6 _))⟩
theorem NM:PE X (.Dict [] [] pos) PR:=fun pins s σ H Q I h=>
 wpAny_Dict_empty ⟨.ref s.heap.objs.size,_,I.laid (a:=s.heap.objs.size) (o:=.dT []) (t':=s.toks) (fun _ _ q=>B3 _ q) (A6 _) (SC s.heap I.big),rfl,h _ (I.hok.fresh (A6 _))⟩
end
noncomputable def AY:List (TE×TE)->St->Hp->(List (V×V)->Hp->Prop)->Prop
 |[],_,H,Q=>Q [] H
 |(tk,tv)::r,σ,H,Q=>tk σ H fun x H1=>tv σ H1 fun y H2=>AY r σ H2 fun ps H3=>Q ((x,y)::ps) H3
noncomputable abbrev VV:List (V×V)->List (Value×Value)->Prop:=Paired fun p q=>RelV p.1 q.1/\RelV p.2 q.2
noncomputable def PPs(X:Cx)(pos:Pos)(keys:List (Option Expr))(values:List Expr)(trs:List (TE×TE)):Prop:=
 ∀(pins:List (Addr×Obj))(s:Shared)(σ:St)(H:Hp)(Q:List (V×V)->Hp->Prop),Inv X pins σ H s->AY trs σ H Q->
  wpAny (model X.prog X.w) X.A (evalPairs (pairTrees keys values X.env pos)) (fun vs s'=>∃ps H',Inv X pins σ H' s'/\VV ps vs/\Q ps H') X.xe s
theorem YF{X:Cx}:PPs X pos [] [] []:=fun pins s σ H Q I h=>pairTrees_nil_walk ⟨[],H,I,.nil,h⟩
theorem UA{X:Cx}{k v:Expr}{ks:List (Option Expr)}{vs:List Expr}{tk tv:TE}{trs:List (TE×TE)}(hk:PE X k tk)(hv:PE X v tv)(hr:PPs X pos ks vs trs):
 PPs X pos (some k::ks) (v::vs) ((tk,tv)::trs):=fun pins s σ H Q I h=>
 pairTrees_cons_walk (thn (hk pins s σ H _ I h) fun u s1 ⟨x,H1,I1,rx,q1⟩=>thn (hv pins s1 σ H1 _ I1 q1) fun w2 s2 ⟨y,H2,I2,ry,q2⟩=>
  thn (hr pins s2 σ H2 _ I2 q2) fun ws s3 ⟨ps,H3,I3,rel,q3⟩=>⟨(x,y)::ps,H3,I3,.cons ⟨rx,ry⟩ rel,q3⟩)
noncomputable def pC(kvs more:List (Key×V)):List (Key×V):=more.foldl (fun acc kv=>putK acc kv.1 kv.2) kvs
theorem KV.merge:∀{more:List (Key×V)}{rs:List (Key×Value)}{kvs:List (Key×V)}{vs:List (Key×Value)},KV more rs->KV kvs vs->KV (pC kvs more) (merged vs rs):=by
 intro more rs kvs vs r;unfold KV at r
 induction r generalizing kvs vs with
 |nil=>intro q;exact q
 |@cons p q ps qs h t ih=>
  intro r0
  have e:KV (putK kvs p.1 p.2) (stored vs q.1 q.2):=by
   have:=r0.put p.1 h.2;rw[<- h.1];exact this
  exact ih e
theorem qK:∀(more kvs:List (Key×V)),(pC kvs more).length<=kvs.length+more.length
 |[]=>fun kvs=>by show kvs.length<=kvs.length+0;omega
 |p::r=>fun kvs=>by
  have h1:=qK r (putK kvs p.1 p.2);have h2:=pE kvs p.1 p.2;show(pC (putK kvs p.1 p.2) r).length<=_;rw[C3];omega
theorem xC{P:Program}{w:World}:∀{kvs:List (Key×V)}{ws:List (Value×Value)},VV (kvs.map fun kv=>(kV kv.1,kv.2)) ws->∃rs,Carries (cI P w) ws rs/\KV kvs rs
 |[],_=>fun r=>by rw[List.map_nil]at r;cases r;exact⟨[],True.intro,.nil⟩
 |p::kvs,_=>fun r=>by
  rw[A9]at r;cases r with
  |@cons a b as bs h t=>
   obtain⟨rs,c,q⟩:=xC (P:=P) (w:=w) t;obtain⟨b1,b2⟩:=b;exact⟨(p.1,b2)::rs,⟨SN h.1,rfl,c⟩,.cons ⟨rfl,h.2⟩ q⟩
noncomputable def aAN(trs:List (TE×TE)):TE:=fun σ H Q=>∀p,H p=none->AY trs σ (upd H p (.dK [])) fun ps H2=>H2 p=some (.dK [])/\∃kvs:List (Key×V),ps=kvs.map (fun kv=>(kV kv.1,kv.2))/\kvs.length<=15/\Q (.ref p) (upd H2 p (.dK (pC [] kvs)))
theorem YV{X:Cx}{keys:List (Option Expr)}{values:List Expr}{trs:List (TE×TE)}(h:PPs X pos keys values trs)(hall:keys.all (·.isSome)=true)(hl:keys.length=values.length)(h0:keys≠[])
 (h15:keys.length<=15):PE X (.Dict keys values pos) (aAN trs):=by
 intro pins s σ H Q I q;have hn:=I.hok.fresh (A6 s.heap.objs.size);have I1:=I.laid (a:=s.heap.objs.size) (o:=.dK []) (h':=s.heap.push { cls:=.type "dict",data:=.dict #[] }) (t':=s.toks) (fun _ _ q=>B3 _ q) (A6 _) (CH s.heap I.big);refine wpAny_Dict_walk (knd:=cI X.prog X.w) hall hl h0 h15 (thn (h pins _ σ _ _ I1 (q _ hn)) fun ws s2 ⟨ps,H2,I2,rel,e,kvs,ep,lk,q2⟩=>?_);subst ep;obtain⟨rs,c,rk⟩:=xC (P:=X.prog) (w:=X.w) rel;obtain⟨z,hd,vs0,r0,dd⟩:=aAH I2.hok e;cases r0;refine⟨rs,c,dd,fun h' dd' hs=>⟨.ref s.heap.objs.size,_,?_,rfl,q2⟩⟩
 have hz:(pC [] kvs).length<=sizeLine:=by
  have h1:=qK kvs [];rw[List.length_nil]at h1;rw[J8];omega
 have he:∃q,h'.get? s.heap.objs.size=some q:=let⟨q,_,_,hq,_⟩:=dd';⟨q,hq⟩;exact vF I2 (by rw[e];exact True.intro) hs he (QO hz hd (rk.merge .nil) dd')
structure M1(X:Cx)(o:Expr)(m:Str)(apos:Pos)(e:Expr)(cpos:Pos):Prop where
 base:attributeBase o m X.env (eval o X.env)=eval o X.env
 few:((backTo cpos (starEach [e] X.env)).all (fun x=>!x.1)&&(backToKw cpos (keywordEach [] X.env)).all (fun x=>x.1.isSome)
  && decide (([e]:List Expr).length+([]:List Keyword).length+(if ([]:List Keyword).isEmpty then 0 else 1)<30))=true
 line:(apos.endLine==cpos.line)=true
 trees:backTo cpos (starEach [e] X.env)=[(false,eval e X.env)]
structure M2(X:Cx)(o:Expr)(m:Str)(apos:Pos)(e f:Expr)(cpos:Pos):Prop where
 base:attributeBase o m X.env (eval o X.env)=eval o X.env
 few:((backTo cpos (starEach [e,f] X.env)).all (fun x=>!x.1)&&(backToKw cpos (keywordEach [] X.env)).all (fun x=>x.1.isSome)
  && decide (([e,f]:List Expr).length+([]:List Keyword).length+(if ([]:List Keyword).isEmpty then 0 else 1)<30))=true
 line:(apos.endLine==cpos.line)=true
 trees:backTo cpos (starEach [e,f] X.env)=[(false,eval e X.env),(false,eval f X.env)]
end L2
namespace Att
open PySem PySem.W PySem.Calls PyProof.Rows
theorem uZ{P:Params}{h:Heap}:∀(ns:List Int)(vs:List Value),WellAll P h vs (ns.map WData.int)->IntsAre vs ns:=by
 intro ns
 induction ns with
 |nil=>
  intro vs w;rw[List.map_nil]at w;cases w;exact .nil
 |cons n ns ih=>
  intro vs w;rw[A9]at w;cases w with
  |cons a b=>
   cases a;exact .cons _ _ (ih _ b)
theorem KS{l:OpenLaw}{n:Nat}(hn:l.most=some n){P:Params}{h:Heap}{args:List WData}{vals:List Value}
 (hpre:l.row.toRowW.claim.pre args=true) (hwl:WellAll P h vals args):
 ∃a vs ns,vals=[Value.ref a]/\args=[WData.list (ns.map WData.int)]/\h.get? a=some { cls:=.type "list",data:=.seq vs.toArray }/\IntsAre vs ns/\ns.length<=n:=by
 have hsh:WShape.hasAll [] args [.list .int]=true:=(pre_splitW hpre).1;have hc:l.pre.holds [] { args:=args }=true:=(pre_splitW hpre).2;obtain⟨d,r,rfl,h1,h2⟩:=hasAllW_cons hsh;obtain rfl:=hasAllW_nil h2;obtain⟨xs,rfl,h3⟩:=hasW_list h1;obtain⟨ns,rfl⟩:=items_int h3
 have hlen:ns.length<=n:=by
  unfold OpenLaw.pre at hc
  have h4:(WTm.not (.lt (.lit (.int (n:Int))) (.len (.arg 0)))).holds [] { args:=[.list (ns.map .int)] }=true:=by
   have h4:=(holds_andW hc).1;rw[hn]at h4;exact h4
  have h5:=condW_of h4 (w_not (w_lt w_lit (w_len_list (w_arg rfl))));rw[A2]at h5;refine Nat.le_of_not_lt fun q=>?_;have q':(n:Int)<((ns.length:Nat):Int):=by omega
  first
   |(rw[C2 q']at h5;exact absurd h5 (by decide))
   |(simp at h5;omega)
 cases hwl with
 |cons w1 w2=>
  cases w2;cases w1 with
  |list ho hall=>exact⟨_,_,ns,rfl,rfl,ho,uZ ns _ hall,hlen⟩
theorem LM(l:OpenLaw)(args:List WData):l.row.toRowW.claim.post args (.bool true) args=true:=
 postW_of (r:=l.row.toRowW) (X:=(true==true))
  (show WShape.has [] (.bool true) .bool=true by first|rfl|decide|simp[WShape.has,WShape.arms,WShape.armsAll])
  (show(WTm.eq .res (.lit (.bool true))).value [] { args:=args,res:=some (.bool true),after:=args }=some (.bool (true==true))from w_eq_bool (w_res rfl) w_lit) rfl
theorem attach_call{l:OpenLaw}{n:Nat}{q:Program}{loose:List Str}{XP:(Str->Option Value)->Heap->Prop}{YP:World->Heap->Prop}{d:DefRec}
 (hn:l.most=some n) (hdf:d.params.defaults=[])
 (call:∀(w:World)(s₀ s₁:Shared)(mg mb:Str->Option Value)(fa:Addr)(o:Obj)(pm cd doc:Value)(a:Addr)(vs:List Value)(ns:List Int),
  Ground q loose [] XP w s₀ mg mb s₁.heap->YP w s₁.heap->
  s₁.heap.get? fa=some o->o.data=.func (docDef d.name d.params d.body d.scope pm cd doc)->s₁.heap.CodeRec cd d.name->mg d.name=some (.ref fa)->
  s₁.heap.get? a=some { cls:=.type "list",data:=.seq vs.toArray }->IntsAre vs ns->ns.length<=n->s₁.gens=#[]->
  codeAny (model l.prog w) callerA (.call (.ref fa) ⟨[.ref a],[]⟩) (fun r s'=>r=.ok (.ret (.bool true))/\OldK s₁.heap s'.heap/\s'.os=s₁.os/\AllBare s'.gens) s₁):
 WalkO q loose XP YP l.row.toRowW d [] (fun f vs=>PySem.call f vs):=by
 intro w s₀ s₁ mg mb G Y fa o pm cd doc dV kV ho hd hcd hD hmg hg args vals as hpre hlay hrd hwl hlo;obtain rfl:dV=.none:=Dflts.none hD hdf;obtain rfl:kV=.none:=Dflts.noKw hD;obtain⟨a,vs,ns,rfl,rfl,hobj,hints,hlen⟩:=KS hn hpre hwl;refine enter_call (Y3 (call w s₀ s₁ mg mb fa o pm cd doc a vs ns G Y ho (fd_plain hd) hcd hmg hobj hints hlen hg) fun r s' hq=>?_);obtain⟨rfl,h2,h3,h4⟩:=hq;exact⟨.inl ⟨.bool true,.bool true,[],rfl,fun _=>rfl,.bool true,LM l _,fun _=>⟨List.Pairwise.nil,fun _ hm=>(nomatch hm)⟩⟩,h2,h3,h4⟩
section
variable{prog:Program}{w:World}{A:Around}{E:Value->Shared->Prop}{s:Shared}{K:Frag}
end
end Att
namespace L2
open PySem PySem.Spec PyProof.Rows
theorem zN:∀{vs:List Value}{ns:List Int},IntsAre vs ns->bJ (ns.map V.int) vs
 |_,_,.nil=>.nil
 |_,_,.cons n t h=>.cons ⟨t,rfl⟩ (zN h)
noncomputable def aDA(H:Hp):Prop:=∀b,H b=none\/∃o xs,H b=some (.frz o (.lst xs))
theorem OB{P:Program}{w:World}{K:Fg}{mg mb:Str->Option Value}{CX:CXT}{k:Nat}{fa a:Addr}{fd:FuncData}{x:Str}{sp:Sp}{s₁:Shared}{vs:List Value}{ns:List Int}
 (KX:K.In s₁.heap) (hns:s₁.heap.Ns mainGlobals mg) (hb:s₁.heap.Ns builtinsNs mb) (hbb:∀x:Str,x≠"__name__"->mb x=bootBuiltins x) (hlim:s₁.heap.NoLimit) (hsm:∃mm,s₁.heap.Ns sysModules mm) (hg:s₁.gens=#[])
 (ha:s₁.heap.get? a=some { cls:=.type "list",data:=.seq vs.toArray }) (hi:IntsAre vs ns) (hl:ns.length<=sizeLine) (hr:cX k callerA)
 (F:∀base:Heap,K.In base->base.Ns mainGlobals mg->mY P w K mg base CX k fa fd [x] sp) (hbind:∀(s:Shared)(u:Value),BindsTo s fd ⟨[u],[]⟩ [(x,u)])
 (hsp:∀H:Hp,aDA H->SqL K H a (ns.map V.int)->sp [.ref a] H (fun v _=>v=.bl true) fun _ _ _=>False)
 (hCX:∀H e s',CX [] H s₁ (fun _ _ _=>False) e s'->False):
 codeAny (model P w) callerA (.call (.ref fa) ⟨[.ref a],[]⟩) (fun r s'=>r=.ok (.ret (.bool true))/\OldK s₁.heap s'.heap/\s'.os=s₁.os/\AllBare s'.gens) s₁:=by
 have rv:=zN hi;have lenV:=hi.length
 have core:∀H:Hp,aDA H->SqL K H a (ns.map V.int)->HOk P w H s₁.heap->(∀b,H b≠none->b=a)->(H a≠none->K.lookup a=none)->
  codeAny (model P w) callerA (.call (.ref fa) ⟨[.ref a],[]⟩) (fun r s'=>r=.ok (.ret (.bool true))/\OldK s₁.heap s'.heap/\s'.os=s₁.os/\AllBare s'.gens) s₁:=by
  intro H hO hS hok hA hK;have base_of:∀{b:Addr}{o:Obj},s₁.heap.get? b=some o->H b=none->(BO s₁.heap H).get? b=some o:=fun e n=>PJ e n
  have noA:∀{b:Addr}{o:Obj}{es:Array DictEntry}{ep:Nat},s₁.heap.get? b=some o->o.data=.dict es ep->H b=none:=fun{b o es ep} e d=>by
   cases q:H b with
   |none=>rfl
   |some u=>
    have e':b=a:=hA b (by rw[q];simp);subst e';rw[ha]at e;cases e;have d':Data.seq vs.toArray _=Data.dict es ep:=d;cases d'
  have nsK:∀{b:Addr}{m:Str->Option Value},s₁.heap.Ns b m->(BO s₁.heap H).Ns b m:=fun{b m} ⟨o,es,ep,e,d,r⟩=>⟨o,es,ep,base_of e (noA e d),d,r⟩
  have hKb:K.In (BO s₁.heap H):=fun b o e=>base_of (KX b o e) (by
   cases q:H b with
   |none=>rfl
   |some u=>
    have e':b=a:=hA b (by rw[q];simp);subst e';rw[hK (by rw[q];simp)]at e;cases e)
  have hM:Mod K mg (BO s₁.heap H):=⟨hKb,nsK hns,⟨mb,nsK hb,hbb⟩,(let⟨mc,h1,h2⟩:=hlim;⟨mc,nsK h1,h2⟩),(let⟨mm,hmm⟩:=hsm;let⟨o,es,ep,h1,h2,_⟩:=nsK hmm;⟨o,es,ep,h1,h2⟩)⟩;have e0:ZQ P w K mg (BO s₁.heap H) callerA [] s₁ H:=⟨rfl,hM,fun b o e=>XE e,Nat.le_of_eq (LH _ _),trivial,fun b hb=>absurd (show b∈([]:List Addr)from hb) (by simp),hok,.of_eq hg⟩;refine Y3 ((F _ hKb (nsK hns)).run callerA [] s₁ H ⟨[.ref a],[]⟩ [.ref a] [.ref a] _ _ hr e0 (hbind s₁ (.ref a)) (.cons rfl .nil) (hsp H hO hS)) fun r s' h=>?_;cases r with
  |error e=>exact(hCX H e s' h).elim
  |ok fl=>
   cases fl with
   |next=>exact False.elim h
   |brk=>exact False.elim h
   |cont=>exact False.elim h
   |ret u=>
    obtain⟨v,H',os,bare,un,hok',r',q⟩:=h;have q':v=.bl true:=q;subst q';obtain rfl:u=Value.bool true:=r';refine⟨rfl,OldK.of_keep fun b o e=>?_,os,bare⟩;cases q:H b with
    |none=>exact un.keep b o e q (by intro z;exact absurd (show b∈([]:List Addr)from z) (by simp)) (by simp)
    |some u=>
     rcases hO b with z|⟨ob,xs,z⟩
     .rw[q]at z;cases z
     .have z2:=un.frzs b ob _ z;obtain⟨e1,_⟩:=hok b _ z;obtain⟨e2,_⟩:=hok' b _ z2;rw[e]at e1;cases e1;exact e2
 cases hk:K.lookup a with
 |some o=>
  have e:=KX a o hk;rw[ha]at e;cases e;refine core (fun _=>none) (fun _=>.inl rfl) (.inr ⟨_,vs.toArray,_,hk,rfl,rfl,rfl,by rw[C1,lenV];exact hl,by simpa using rv⟩) (fun b u z=>by have z':(none:Option HO)=some u:=z;cases z') (fun b z=>absurd rfl z) fun z=>absurd rfl z
 |none=>
  refine core (fun b=>if b=a then some (.frz { cls:=.type "list",data:=.seq vs.toArray } (.lst (ns.map V.int)))else none) (fun b=>?_) (.inl (.inr ⟨{ cls:=.type "list",data:=.seq vs.toArray },A3 rfl⟩)) (fun b u z=>?_) (fun b z=>?_) fun _=>hk
  .by_cases hb:b=a
   .exact .inr ⟨_,_,A3 hb⟩
   .exact .inl (A7 hb)
  .by_cases hb:b=a
   .have z':=(A3 hb).symm.trans z;cases z';subst hb;exact⟨ha,by rw[A2];exact hl,vs,_,rv,ha⟩
   .have z':=(A7 hb).symm.trans z;cases z'
  .by_cases hb:b=a
   .exact hb
   .exact absurd (A7 hb) z
noncomputable abbrev KOf{K:Fg}{h:Heap}(_:K.In h):Fg:=K
theorem walk_of{l:PySem.W.OpenLaw}{n k:Nat}{q:Program}(hq:PyProof.Rows.importsNone q=true){loose:List Str}{XP:(Str->Option Value)->Heap->Prop}{YP:World->Heap->Prop}{d:DefRec}{K:Params->Fg}{CX:World->CXT}{sp:World->Sp}{x:Str}
 (hn:l.most=some n) (hn2:n<=sizeLine) (hdf:d.params.defaults=[]) (hr:cX k callerA)
 (hY:∀(w:World)(h:Heap),YP w h->(K w.params).In h)
 (F:∀(w:World)(mg:Str->Option Value)(fa:Addr)(h:Heap),(K w.params).In h->h.Ns mainGlobals mg->mg d.name=some (.ref fa)->
  ∃fd:FuncData,(∀(s:Shared)(u:Value),BindsTo s fd ⟨[u],[]⟩ [(x,u)]) /\
   ∀base:Heap,(K w.params).In base->base.Ns mainGlobals mg->mY l.prog w (K w.params) mg base (CX w) k fa fd [x] (sp w))
 (hsp:∀(w:World)(H:Hp)(a:Addr)(ns:List Int),ns.length<=n->aDA H->SqL (K w.params) H a (ns.map V.int)->sp w [.ref a] H (fun v _=>v=.bl true) fun _ _ _=>False)
 (hCX:∀(w:World)(H:Hp)(s:Shared)(e:Value)(s':Shared),CX w [] H s (fun _ _ _=>False) e s'->False):
 PySem.W.WalkO q loose XP YP l.row.toRowW d [] (fun f vs=>PySem.call f vs):=by
 refine Att.attach_call hn hdf fun w s₀ s₁ mg mb fa o pm cd doc a vs ns G Y ho hd hcd hmg hobj hints hlen hg=>?_;have KX:=hY w _ Y;obtain⟨fd,hb,hF⟩:=F w mg fa _ KX G.T.g hmg;exact OB KX G.T.g G.T.b G.T.builtins G.T.nolimit (let⟨mm,hmm,_⟩:=(G.T.seer hq).mods;⟨mm,hmm⟩) hg hobj hints (C9 hlen hn2) hr hF hb (fun H hO hS=>hsp w H a ns hlen hO hS) fun H e s'=>hCX w H s₁ e s'
end L2
namespace L2
variable{H H':Hp}{W:Wd}{M:Sto}{K:Fg}{γ:Ga}
open PySem PySem.Spec PyProof.Rows
noncomputable def fN(s:Stmt):Arguments:=match s with
 |.FunctionDef _ a _ _ _ _ _ _ _ _=>a
 |_=>{ posonlyargs:=[],args:=[],vararg:=none,kwonlyargs:=[],kw_defaults:=[],kwarg:=none,defaults:=[] }
noncomputable def cE(s:Stmt):List Stmt:=match s with
 |.FunctionDef _ _ b _ _ _ _ _ _ _=>b
 |_=>[]
noncomputable def aG(s:Stmt):Scope:=match s with
 |.FunctionDef _ _ _ _ _ _ sc _ _ _=>sc
 |_=>{ kind:=.function,names:=[],isGenerator:=false,isCoroutine:=false }
noncomputable abbrev CX0:CXT:=fun _ _ _ _ _ _=>False
noncomputable abbrev E0:XK:=fun _ _ _=>False
theorem aFE{X:Cx}:GP CX0 X E0:=fun _ _ _ _ _ _ _ h=>h.elim
structure Fun(K:Fg)(x qual:Str)(st:Stmt)(f:Addr)(fd:FuncData):Prop where
 ex:∃(oc:Value)(od:Option Addr)(kV doc pm:Value)(an:Option Addr)(cdv ct:Value)(osl:Array (Option Value)),
  fd=PySem.W.fnOf x qual (fN st) (cE st) (aG st) .none kV doc pm an cdv ct/\K.lookup f=some ⟨oc,od,.func fd,osl⟩/\PySem.W.codeIn K cdv qual=true
 kp:PySem.W.keepIn K (.ref f)=true
section
variable{P:Program}{w:World}{K:Fg}{mg:Str->Option Value}{base:Heap}
theorem Fun.ok{x qual:Str}{st:Stmt}{f:Addr}{fd:FuncData}{N ps:List Str}{k:Nat}{sp:Sp}{q:Bool}(F:Fun K x qual st f fd)(S:aT N ps (aG st))(len:∀vs H Q E,sp vs H Q E->vs.length=ps.length)
 (hbody:∀(cdv:Value)(A:Around)(outer:List Env)(s:Shared)(H:Hp)(vs:List V)(Q:VK)(E:XK),cX k (A.deeper (envOfC qual (aG st) s.heap.objs.size f cdv)) q->sp vs H Q E->
  ∃t,PSs (mK CX0 P w K mg base N qual (aG st) f cdv A outer s H E q).nox (cE st) t/\t { nx:=fun _ H'=>Q .non H',rt:=Q } (start N vs) H):mY P w K mg base CX0 (k+1) f fd ps sp q:=by
 obtain⟨oc,od,kV,doc,pm,an,cdv,ct,osl,rfl,lk,hcd⟩:=F.ex;refine aAi lk hcd S len fun A outer s H vs Q E hr hsp=>?_;obtain⟨t,h,z⟩:=hbody cdv A outer s H vs Q E hr hsp;exact⟨t,h.nox,z⟩
theorem Fun.binds{x qual:Str}{st:Stmt}{f:Addr}{fd:FuncData}{ps:List Str}(F:Fun K x qual st f fd)
 (h:∀(kV doc pm:Value)(an:Option Addr)(cdv ct:Value)(us:List Value),us.length=ps.length->bindArgs (PySem.W.fnOf x qual (fN st) (cE st) (aG st) .none kV doc pm an cdv ct) ⟨us,[]⟩=pure (ps.zip us)):Binds K fd ps []:=by
 obtain⟨oc,od,kV,doc,pm,an,cdv,ct,osl,rfl,lk,hcd⟩:=F.ex;exact .all (h kV doc pm an cdv ct)
theorem aCt{x qual:Str}{st:Stmt}{f:Addr}{oc:Value}{od an:Option Addr}{osl:Array (Option Value)}{kV doc pm cdv ct:Value}(l:K.lookup f=some ⟨oc,od,.func (PySem.W.fnOf x qual (fN st) (cE st) (aG st) .none kV doc pm an cdv ct),osl⟩)
 (c:PySem.W.codeIn K cdv qual=true) (k:PySem.W.keepIn K (.ref f)=true):Fun K x qual st f (PySem.W.fnOf x qual (fN st) (cE st) (aG st) .none kV doc pm an cdv ct):=⟨⟨oc,od,kV,doc,pm,an,cdv,ct,osl,rfl,l,c⟩,k⟩
end
noncomputable def gU(H H':Hp):Prop:=∀b o,H b=some o->H' b=some o
theorem gU.refl(H:Hp):gU H H:=fun _ _ h=>h
theorem gU.trans{H1 H2:Hp}(a:gU H H1)(b:gU H1 H2):gU H H2:=fun c o h=>b c o (a c o h)
theorem gU.free(e:gU H H'){l:Addr}(h:H' l=Option.none):H l=Option.none:=by
 cases q:H l with
 |none=>rfl
 |some o=>
  rw[e l o q]at h;cases h
theorem gU.seq{a:Addr}{xs:List V}(e:gU H H')(h:SqL K H a xs):SqL K H' a xs:=by
 rcases h with(h|⟨o,h⟩)|h
 .exact .inl (.inl (e _ _ h))
 .exact .inl (.inr ⟨o,e _ _ h⟩)
 .exact .inr h
noncomputable def bV(env:Env):List (Str×NameKind)->List (Str×Addr)->List (Str×Addr)
 |[],cs=>cs
 |y::r,cs=>bV env r (if (y.2==NameKind.free)=true then(y.1,(env.cells.lookup y.1).getD 0)::cs else cs)
theorem rM{env:Env}:∀(l:List (Str×NameKind))(cs:List (Str×Addr)),(∀y∈l,y.2=.free->∃c,env.cells.lookup y.1=some c)->
 (forIn l cs fun(x:Str×NameKind)(r:List (Str×Addr))=>if (x.2==NameKind.free)=true then(do
  let a <- cellOf env x.1
  pure (ForInStep.yield ((x.1,a)::r)))else pure (ForInStep.yield r))=(pure (bV env l cs):Sem (List (Str×Addr)))
 |[]=>fun cs _=>rfl
 |y::l=>fun cs h=>by
  rw[List.forIn_cons];by_cases hk:(y.2==NameKind.free)=true
  .obtain⟨c,hc⟩:=h y B7 (by simpa using hk);have e1:cellOf env y.1=pure c:=by unfold cellOf;rw[hc]
   rw[A3 hk,e1];show(forIn l ((y.1,c)::cs) _:Sem _)=_;rw[rM l _ fun z hz=>h z (B0 _ hz)]
   conv=>rhs;unfold bV
   rw[A3 hk,hc];rfl
  .rw[A7 hk];show(forIn l cs _:Sem _)=_;rw[rM l _ fun z hz=>h z (B0 _ hz)]
   conv=>rhs;unfold bV
   rw[A7 hk]
theorem rH{scope:Scope}{env:Env}(h:∀y∈scope.names,y.2=.free->∃c,env.cells.lookup y.1=some c):closureFor scope env=pure (bV env scope.names []):=by
 have e:=rM (env:=env) scope.names [] h;unfold closureFor
 show((forIn scope.names ([]:List (Str×Addr)) fun(x:Str×NameKind)(r:List (Str×Addr))=>if (x.2==NameKind.free)=true then(do
  let a <- cellOf env x.1
  pure (ForInStep.yield ((x.1,a)::r)))else pure (ForInStep.yield r)) >>= fun z=>pure z:Sem (List (Str×Addr)))=_
 rw[e];rfl
theorem tE{env:Env}:∀(l:List (Str×NameKind))(cs:List (Str×Addr)),(∀y∈l,y.2=.free->∃c,env.cells.lookup y.1=some c)->(∀x c,cs.lookup x=some c->env.cells.lookup x=some c)->
 ∀x c,(bV env l cs).lookup x=some c->env.cells.lookup x=some c
 |[]=>fun cs _ h x c e=>h x c e
 |y::l=>fun cs hf h x c e=>by
  unfold bV at e;refine tE l _ (fun z hz=>hf z (B0 _ hz)) ?_ x c e;intro z d ez;by_cases hk:(y.2==NameKind.free)=true
  .rw[A3 hk]at ez;obtain⟨c',hc'⟩:=hf y B7 (by simpa using hk);rw[hc']at ez;rw[C7]at ez;by_cases hz:(z==y.1)=true
   .rw[hz]at ez;have hz':z=y.1:=by simpa using hz
    rw[hz',hc'];exact ez
   .have hz':(z==y.1)=false:=by simpa using hz
    rw[hz']at ez;exact h z d ez
  .rw[A7 hk]at ez;exact h z d ez
theorem lX{env:Env}:∀(l:List (Str×NameKind))(cs:List (Str×Addr))(x:Str),((x,NameKind.free)∈l\/∃c,cs.lookup x=some c)->∃c,(bV env l cs).lookup x=some c
 |[]=>fun cs x h=>by
  rcases h with h|h
  .exact absurd h (by simp)
  .exact h
 |y::l=>fun cs x h=>by
  unfold bV;refine lX l _ x ?_;rcases h with h|⟨c,hc⟩
  .rcases List.mem_cons.mp h with e|e
   .subst e;refine .inr ?_;rw[A3 (by rfl)];exact⟨(env.cells.lookup x).getD 0,by rw[C7];simp⟩
   .exact .inl e
  .refine .inr ?_;by_cases hk:(y.2==NameKind.free)=true
   .rw[A3 hk,C7];by_cases hz:(x==y.1)=true
    .rw[hz];exact⟨_,rfl⟩
    .have hz':(x==y.1)=false:=by simpa using hz
     rw[hz'];exact⟨c,hc⟩
   .rw[A7 hk];exact⟨c,hc⟩
theorem jX{env:Env}:∀{names:List (Str×NameKind)}{x:Str}{k:NameKind},
 (names.map fun(y:Str×NameKind)=>if (y.2==NameKind.free&&env.scope.kind==.function&&env.kindOf y.1==some .cell)=true then(y.1,NameKind.cell)else(y.1,y.2)).lookup x=some k->
 (names.lookup x=some k)\/(names.lookup x=some .free/\k=.cell)
 |[],x,k=>fun h=>by simp at h
 |y::r,x,k=>fun h=>by
  rw[A9]at h;by_cases hx:(x==y.1)=true
  .by_cases hc:(y.2==NameKind.free&&env.scope.kind==.function&&env.kindOf y.1==some .cell)=true
   .rw[A3 hc,C7,hx]at h;rw[C7,hx];have:y.2=.free:=by simp at hc;exact hc.1.1
    refine .inr ⟨by rw[this],?_⟩;cases h;rfl
   .rw[A7 hc,C7,hx]at h;rw[C7,hx];exact .inl h
  .have hx':(x==y.1)=false:=by simpa using hx
   have h':(r.map fun(y:Str×NameKind)=>if (y.2==NameKind.free&&env.scope.kind==.function&&env.kindOf y.1==some .cell)=true then(y.1,NameKind.cell)else(y.1,y.2)).lookup x=some k:=by
    by_cases hc:(y.2==NameKind.free&&env.scope.kind==.function&&env.kindOf y.1==some .cell)=true
    .rw[A3 hc,C7,hx']at h;exact h
    .rw[A7 hc,C7,hx']at h;exact h
   rw[C7,hx'];exact jX h'
theorem rC{env:Env}:∀{names:List (Str×NameKind)}{x:Str},names.lookup x=some .free->
 (names.map fun(y:Str×NameKind)=>if (y.2==NameKind.free&&env.scope.kind==.function&&env.kindOf y.1==some .cell)=true then(y.1,NameKind.cell)else(y.1,y.2)).lookup x=some .cell \/
 (names.map fun(y:Str×NameKind)=>if (y.2==NameKind.free&&env.scope.kind==.function&&env.kindOf y.1==some .cell)=true then(y.1,NameKind.cell)else(y.1,y.2)).lookup x=some .free
 |[],x=>fun h=>by simp at h
 |y::r,x=>fun h=>by
  rw[A9];by_cases hx:(x==y.1)=true
  .rw[C7,hx]at h;have hy:y.2=.free:=C4 h;by_cases hc:(y.2==NameKind.free&&env.scope.kind==.function&&env.kindOf y.1==some .cell)=true
   .rw[A3 hc,C7,hx];exact .inl rfl
   .rw[A7 hc,C7,hx];exact .inr (by rw[hy])
  .have hx':(x==y.1)=false:=by simpa using hx
   rw[C7,hx']at h;have ih:=rC (env:=env) h;by_cases hc:(y.2==NameKind.free&&env.scope.kind==.function&&env.kindOf y.1==some .cell)=true
   .rw[A3 hc,C7,hx'];exact ih
   .rw[A7 hc,C7,hx'];exact ih
noncomputable def yB(X:Cx)(ifs:List Expr)(t:TT):Prop:=
 ∀(pins:List (Addr×Obj))(s:Shared)(σ:St)(H:Hp)(Q:Bool->Hp->Prop),Inv X pins σ H s->t σ H Q->
  wpAny (model X.prog X.w) X.A (forIn ifs true fun c r=>if r=true then(do
   let ok <- isTrue c X.env (eval c X.env)
   pure (ForInStep.yield ok))else pure (ForInStep.yield r)) (TP X pins σ Q) X.xe s
noncomputable def aDU:TT:=fun _ H Q=>Q true H
theorem RZ{X:Cx}:yB X [] aDU:=fun _ _ _ H _ I h=>wpAny_tests_nil ⟨H,I,h⟩
theorem QA{X:Cx}{c:Expr}{t:TT}(h:PT X c t):yB X [c] t:=fun pins s σ H Q I hq=>wpAny_tests_one (h pins s σ H Q I hq)
section
variable{prog:Program}{w:World}{A:Around}{R:Result->Shared->Prop}{s:Shared}
theorem HF{elt target iter:Expr}{ifs:List Expr}{scope:Scope}{pos:Pos}{it acc:Value}{env:Env}(I:Nat->Shared->Prop)
 (turn:∀n s,I n s->wpAny (model prog w) A (pyNext it) (fun r s1=>(r=none/\R (.ok .next) s1)\/∃v,r=some v /\
  wpAny (model prog w) A (letOwnedTupleGo target it v) (fun _ s2=>wpAny (model prog w) A (assign target env v) (fun _ s3=>
   wpAny (model prog w) A (forIn ifs true fun c r=>if r=true then(do
    let ok <- isTrue c env (eval c env)
    pure (ForInStep.yield ok))else pure (ForInStep.yield r)) (fun ok s4=>
     (ok=true/\wpAny (model prog w) A (eval elt env) (fun x s5=>wpAny (model prog w) A (call (.builtin "list.append") [acc,x]) (fun _ s6=>∃m,m<n/\I m s6) (fun _ _=>False) s5) (fun _ _=>False) s4) \/
     (ok=false/\∃m,m<n/\I m s4)) (fun _ _=>False) s3) (fun _ _=>False) s2) (fun _ _=>False) s1) (fun _ _=>False) s)
 (n:Nat) (h:I n s):codeAny (model prog w) A (.compLoop (.ListComp elt [⟨target,iter,ifs,0⟩] scope pos) 0 it acc env) R s:=by
 refine codeAny_loop rfl I (fun n s hI=>?_) n h
 show wpAny _ A ((compTurn (.ListComp elt [⟨target,iter,ifs,0⟩] scope pos) 0 it acc env).onRaise fun x=>do
  noteFrame x env
  theTreesLotGoes x) _ _ s
 refine wpAny_noted ?_;rw[compTurn_list];refine A0 (O3 (A0 (D5 (turn n s hI) (fun r s1 h1=>?_) fun _ _ f=>f.elim)));rcases h1 with⟨rfl,h1⟩|⟨v,rfl,h1⟩
 .exact A4 h1
 .refine A0 (D5 h1 (fun _ s2 h2=>?_) fun _ _ f=>f.elim);refine A0 (D5 h2 (fun _ s3 h3=>?_) fun _ _ f=>f.elim);refine A0 (D5 h3 (fun ok s4 h4=>?_) fun _ _ f=>f.elim);rcases h4 with⟨rfl,h4⟩|⟨rfl,h4⟩
  .refine A0 (A0 (D5 h4 (fun x s5 h5=>?_) fun _ _ f=>f.elim));exact A0 (D5 h5 (fun _ s6 h6=>A4 (A4 ⟨rfl,h6⟩)) fun _ _ f=>f.elim)
  .exact A4 ⟨rfl,h4⟩
end
noncomputable def eW(X:Cx)(N':List Str)(scope:Scope)(C:Addr)(s2:Shared)(H2:Hp)(fp:List Addr)(pn:List (Addr×Obj)):Cx:=
 { X with N:=N',s₀:=s2,H₀:=H2,env:=compEnvC scope (bV X.env scope.names []) C X.env,outer:=X.stack,stack:=X.stack,ex:=fp,fn:=fun _=>false,pn:=X.pn++pn,xe:=fun _ _=>False }
noncomputable def mO(cap:List (Option Nat))(σ:St):St:=cap.map fun o=>o.bind fun j=>(σ[j]?).join
structure nP(X:Cx)(N':List Str)(cap:List (Option Nat))(scope:Scope):Prop where
 nocell:∀y∈scope.names,y.2≠.cell
 kind:scope.kind=.function
 names:∀y∈scope.names,y.2=.local->scope.names.lookup y.1=some .local
 frees:∀y∈scope.names,y.2=.free->X.env.kindOf y.1=some .cell\/X.env.kindOf y.1=some .free
 len:cap.length=N'.length
 cap:∀(i j:Nat),cap[i]?=some (some j)->∃x,N'[i]?=some x/\X.N[j]?=some x/\scope.names.lookup x=some .free
section
variable{X:Cx}{N':List Str}{cap:List (Option Nat)}{scope:Scope}{pins:List (Addr×Obj)}{σ:St}{H:Hp}{s:Shared}
theorem nP.cells(S:nP X N' cap scope)(ok:X.Ok):∀y∈scope.names,y.2=.free->∃c,X.env.cells.lookup y.1=some c:=fun y hy hk=>ok.has y.1 (S.frees y hy hk)
theorem nP.sub(S:nP X N' cap scope)(ok:X.Ok):∀x c,(bV X.env scope.names []).lookup x=some c->X.env.cells.lookup x=some c:=
 tE scope.names [] (S.cells ok) fun x c e=>by simp at e
theorem nP.kinds(S:nP X N' cap scope){C:Addr}{cl:List (Str×Addr)}{x:Str}(h:(compEnvC scope cl C X.env).kindOf x=some .cell\/(compEnvC scope cl C X.env).kindOf x=some .free):scope.names.lookup x=some .free:=by
 rcases h with h|h
 .rcases jX (names:=scope.names) h with q|⟨q,_⟩
  .exact absurd rfl (S.nocell _ (C8 q))
  .exact q
 .rcases jX (names:=scope.names) h with q|⟨q,_⟩
  .exact q
  .exact q
theorem Inv.stkAll(I:Inv X pins σ H s){b:Addr}(h1:b≠X.env.locals)(h2:b∉X.fs):b∉frs X.stack:=fun hb=>(List.mem_cons.mp (I.stkSub b hb)).elim h1 h2
theorem DH(S:nP X N' cap scope)(I:Inv X pins σ H s){fp:List Addr}{h4:Heap}{C:Addr}{tk:Nat}(hf:∀b∈fp,qD X pins H b)(hlt:∀b∈fp,b<s.heap.objs.size)
 (hC:s.heap.objs.size<=C) (hn:h4.Ns C fun _=>none) (hk:∀b o,s.heap.get? b=some o->h4.get? b=some o):
 Inv (eW X N' scope C s H fp pins) [] (mO cap σ) H { s with heap:=h4,toks:=tk }:=by
 have cellLt:∀x c,X.env.cells.lookup x=some c->c<s.heap.objs.size:=fun x c e=>by
  obtain⟨v,q⟩:=I.cell x c e;exact q.lt
 have fresh:H C=none:=I.hok.fresh hC
 have ok:(eW X N' scope C s H fp pins).Ok:=by
  refine⟨I.ok.mod,S.kind,I.ok.glob,I.ok.blt,hC,fun x y c h1 h2=>?_,fun x hx=>?_,fun x c hx _=>?_,I.ok.hd,I.ok.frames,.inl rfl,fun b hb=>⟨?_,fun x c e=>?_⟩,I.bs,C9 I.ok.bsz I.sz,fun b o e hb=>?_,fun b hb=>?_,I.stack,I.stkFree⟩
  .exact I.ok.inj x y c (S.sub I.ok x c h1) (S.sub I.ok y c h2)
  .exact lX scope.names [] x (.inl (C8 (S.kinds hx)))
  .exact absurd hx (by show ¬(false=true);decide)
  .exact B8 (A8 (hlt b hb) hC)
  .exact(hf b hb).2.2.2.2.1 x c (S.sub I.ok x c e)
  .rcases (hf b hb).2.2.2.1 with z|z
   .exact I.ok.noex b o e z
   .exact absurd (A8 (B2 (I.ok.bs b o e).1) z) (E2 _)
  .exact I.stkAll (hf b hb).2.1 (hf b hb).2.2.1
 refine⟨ok,rfl,I.bare,Un.kept hk,⟨_,hn,fun i x v h1 h2 h3=>?_⟩,fun x c e=>?_,fresh,fun x c e=>I.freeC x c (S.sub I.ok x c e),fun p hp=>?_,I.hok.kept hk,?_⟩
 .-- a name that is caught
  have h2':(cap[i]?).map (fun o=>o.bind fun j=>(σ[j]?).join)=some (some v):=by
   have:(mO cap σ)[i]?=some (some v):=h2;unfold mO at this;rw[D0]at this;exact this
  cases e:cap[i]? with
  |none=>rw[e]at h2';simp at h2'
  |some o=>
   cases o with
   |none=>rw[e]at h2';simp at h2'
   |some j=>
    rw[e]at h2';obtain⟨x',a1,a2,a3⟩:=S.cap i j e
    have ex:x'=x:=by
     have:N'[i]?=some x:=h1;rw[a1]at this;exact C4 this
    subst ex
    have sv:σ[j]?=some (some v):=by
     have q:(σ[j]?).join=some v:=C4 h2';cases f:σ[j]? with
     |none=>rw[f]at q;simp at q
     |some o=>rw[f]at q;cases o with
      |none=>simp at q
      |some v'=>simp at q;rw[q]
    have hv:X.env.kindOf x'=some .cell\/X.env.kindOf x'=some .free:=S.frees _ (C8 a3) rfl;obtain⟨m,hm,hl⟩:=I.loc;obtain⟨u,r,l⟩:=hl j x' v a2 sv (hv.elim (fun z=>.inr (.inl z)) fun z=>.inr (.inr z));refine⟨u,r,.inr ⟨?_,?_⟩⟩
    .exact rC (env:=X.env) (names:=scope.names) a3
    .rcases l with⟨hk',_⟩|⟨_,c,hc,o,ho,hd⟩
     .rcases hv with z|z<;>rw[z]at hk'<;>cases hk'
     .obtain⟨c',hc'⟩:=lX (env:=X.env) scope.names [] x' (.inl (C8 a3));have:=S.sub I.ok x' c' hc';rw[hc]at this;cases this;exact⟨c,hc',o,hk c o ho,hd⟩
 .obtain⟨v,o,ho,hd⟩:=I.cell x c (S.sub I.ok x c e);exact⟨v,o,hk c o ho,hd⟩
 .have hp':p∈X.pn++pins:=by
   rcases List.mem_append.mp hp with z|z
   .exact z
   .exact absurd z (by simp)
  obtain⟨e,n,ne,nf,d⟩:=I.pin p hp';exact⟨hk _ _ e,n,B8 (A8 (B2 e) hC),I.stkAll ne nf,d⟩
 .show(mO cap σ).length=N'.length;unfold mO;rw[A2];exact S.len
end
noncomputable def tLc(cap:List (Option Nat))(wi:TI)(g:TG)(tc:TT)(te:TE):TE:=fun σ H Q=>wi σ H fun J H1=>∃W:Nat->Nat->List V->St->Hp->Prop,(∃m,W 0 m [] (mO cap σ) H1)/\∀i m acc σ' H',W i m acc σ' H'->
 (J.stop i H'/\∀p,H' p=none->Q (.ref p) (upd H' p (.lst acc))) \/
 (J.go i H'/\acc.length<sizeLine/\∃N:List V->St->Hp->Prop,(∀acc' σ2 H2,N acc' σ2 H2->∃m',m'<m/\W (i+1) m' acc' σ2 H2)/\∀x H2,J.yld i H' x H2->g x σ' H2 fun σ2 H3=>tc σ2 H3 fun b H4=>(b=true/\te σ2 H4 fun v H5=>N (acc++[v]) σ2 H5)\/(b=false/\N acc σ2 H4))
section
variable{X:Cx}{N':List Str}{cap:List (Option Nat)}{scope:Scope}
theorem TC{elt tg iter:Expr}{ifs:List Expr}{pos:Pos}{wi:TI}{g:TG}{tc:TT}{te:TE}(hc:X.calm=true)(S:nP X N' cap scope)(hi:PI X tg iter wi)
 (hg:∀C s H fp pn,PG (eW X N' scope C s H fp pn) tg g) (hif:∀C s H fp pn,yB (eW X N' scope C s H fp pn) ifs tc) (he:∀C s H fp pn,PE (eW X N' scope C s H fp pn) elt te)
 (hs:∀x,foldedSetIterable iter X.env x=pure x) {pins:List (Addr×Obj)} {s:Shared} {σ:St} {H:Hp} {Q:VK} (I:Inv X pins σ H s) (h:tLc cap wi g tc te σ H Q)
 {use:Option (Value->Sem Unit)} {QQ:Value->Shared->Prop}
 (post:∀(D C:Addr)(H':Hp)(acc:List V)(s':Shared),D≠C->(∃m,s'.heap.Ns C m)->(∀h',Heap.SameBut C s'.heap h'->Inv X pins σ (upd H' D (.lst acc)) { s' with heap:=h' })->qD X pins (upd H' D (.lst acc)) C->Q (.ref D) (upd H' D (.lst acc))->compPost (model X.prog X.w) X.A X.xe use QQ (.ref D) C (.ok .next) s'):
 wpAny (model X.prog X.w) X.A (comprehension (.ListComp elt [⟨tg,iter,ifs,0⟩] scope pos) scope X.env (firstIterPos [⟨tg,iter,ifs,0⟩] pos) (newList []) false (firstIter [⟨tg,iter,ifs,0⟩] X.env) use) QQ X.xe s:=by
 refine wpAny_comprehension_free (e:=.ListComp elt [⟨tg,iter,ifs,0⟩] scope pos) (g:=⟨tg,iter,ifs,0⟩) (gs:=[]) rfl hs (rH (S.cells I.ok)) S.kind S.names ?_;refine thn (hi pins s σ H _ I h) fun v s1 h1=>thn h1 fun itv s2 h2=>?_;obtain⟨it,fp,tn,J,H2,e,I2,T,st2,f2,W,⟨m0,w0⟩,turn⟩:=h2;subst e
 have fplt:∀b∈fp,b<s2.heap.objs.size:=fun b hb=>by
  obtain⟨o,e,_⟩:=T.obj _ _ st2 b hb;exact B2 e
 refine E1 (wpAny_newFunctionEnv S.nocell (fun y hy=>by simp at hy) (fun h1' hns hsb=>?_) S.kind);dsimp only at hns hsb ⊢;generalize hP:s2.heap.push { cls:=.type "list",dict:=none,data:=.seq ([]:List Value).toArray }=P2 at hns hsb ⊢;have hsz:P2.objs.size=s2.heap.objs.size+1:=by rw[<- hP,S4]
 have hDC:s2.heap.objs.size≠P2.objs.size:=by rw[hsz];exact B8 (E7 _)
 have hC:s2.heap.objs.size<=P2.objs.size:=by rw[hsz];exact Nat.le_succ _
 have keepP:∀b o,P2.get? b=some o->b≠P2.objs.size->h1'.get? b=some o:=fun b o e hb=>hsb.extBut b o hb (B3 _ e);have old:∀b o,s2.heap.get? b=some o->h1'.get? b=some o:=fun b o e=>keepP b o (by rw[<- hP];exact B3 _ e) (B8 (A8 (B2 e) hC));have hD0:h1'.get? s2.heap.objs.size=some { cls:=.type "list",data:=.seq #[] 0 }:=keepP _ _ (by rw[<- hP];exact C6 _ rfl) hDC
 have I4:Inv (eW X N' scope P2.objs.size s2 H2 fp pins) [] (mO cap σ) H2 { s2 with heap:=h1',toks:=s2.toks+([]:List (Str×Value)).length }:=
  DH S I2 f2 fplt hC (by simpa using hns) old
 have loop:∀s4:Shared,s4={ s2 with heap:=h1',toks:=s2.toks+([]:List (Str×Value)).length }->
  codeAny (model X.prog X.w) X.A (.compLoop (.ListComp elt [⟨tg,iter,ifs,0⟩] scope pos) 0 (.ref it) (.ref s2.heap.objs.size) (compEnvC scope (bV X.env scope.names []) P2.objs.size X.env)) (compPost (model X.prog X.w) X.A X.xe use QQ (.ref s2.heap.objs.size) P2.objs.size) s4:=by
  rintro s4 rfl
  have hfrD:s2.heap.objs.size∉frs X.stack:=fun hb=>by
   obtain⟨_,o,ho,_⟩:=I2.stack.mem hb;exact absurd (B2 ho) (E2 _)
  have cne:∀x c,(bV X.env scope.names []).lookup x=some c->c<s2.heap.objs.size:=fun x c e=>by
   obtain⟨v,q⟩:=I2.cell x c (S.sub I2.ok x c e);exact q.lt
  have stat:∀{Hx:Hp}{ob:Obj},(∀b∈fp,Hx b=none)->∀b∈fp,qD (eW X N' scope P2.objs.size s2 H2 fp pins) [(s2.heap.objs.size,ob)] Hx b:=fun{Hx ob} hn b hb=>by
   refine⟨hn b hb,B8 (A8 (fplt b hb) hC),I2.stkAll (f2 b hb).2.1 (f2 b hb).2.2.1,.inl hb,fun x c e=>(f2 b hb).2.2.2.2.1 x c (S.sub I2.ok x c e),fun p hp=>?_⟩;rcases List.mem_append.mp hp with z|z
   .exact(f2 b hb).2.2.2.2.2 p z
   .rw[List.mem_singleton.mp z];exact O4 (fplt b hb)
  refine HF (fun n s'=>∃(i:Nat)(σ':St)(H':Hp)(acc:List V)(its:List Value)(nn:Nat),Inv (eW X N' scope P2.objs.size s2 H2 fp pins) [] σ' H' s'/\tn i s'.heap/\(∀b∈fp,H' b=none)/\H' s2.heap.objs.size=none /\
   s'.heap.get? s2.heap.objs.size=some { cls:=.type "list",data:=.seq its.toArray nn }/\bJ acc its/\acc.length<=sizeLine/\W i n acc σ' H') ?_ m0
   ⟨0,mO cap σ,H2,[],[],0,I4,T.keep _ _ _ st2 fun b _ o e=>old b o e,fun b hb=>(f2 b hb).1,I2.hok.fresh (A6 _),hD0,.nil,D2 _,w0⟩
  rintro n s5 ⟨i,σ',H',acc,its,nn,I5,t5,fr5,d5,g5,va,la,w5⟩
  have I5p:Inv (eW X N' scope P2.objs.size s2 H2 fp pins) [(s2.heap.objs.size,{ cls:=.type "list",data:=.seq its.toArray nn })] σ' H' s5:=I5.pins_of fun p hp=>by
   rw[List.mem_singleton.mp hp];exact⟨g5,d5,hDC,hfrD,fun v z=>by cases z⟩
  rcases turn i n acc σ' H' w5 with⟨stop,q⟩|⟨go,lt,N,hN,step⟩
  .refine thn (T.done (eW X N' scope P2.objs.size s2 H2 fp pins) rfl rfl rfl hc i _ s5 σ' H' _ I5p (stat fr5) t5 stop) fun r s6 ⟨hr,I6⟩=>.inl ⟨hr,?_⟩;have d6:=(I6.pin (s2.heap.objs.size,{ cls:=.type "list",data:=.seq its.toArray nn }) (by simp)).1;have nC:H' P2.objs.size=none:=I6.free;refine post _ _ H' acc s6 hDC (let⟨m,hn,_⟩:=I6.loc;⟨m,hn⟩) (fun h' hs'=>?_) (I2.fpOk hC (by rw[aP hDC.symm];exact nC)) (q _ d5);have up:∀b o,b≠P2.objs.size->s6.heap.get? b=some o->h'.get? b=some o:=fun b o hb e=>hs'.extBut b o hb e;have ltC:∀b o,s2.heap.get? b=some o->b≠P2.objs.size/\b≠s2.heap.objs.size:=fun b o e=>⟨B8 (A8 (B2 e) hC),B8 (B2 e)⟩;have u6:Un (frs X.stack) fp H2 H' s2.heap s6.heap:=I6.base
   have u7:Un (frs X.stack) fp H2 (upd H' s2.heap.objs.size (.lst acc)) s2.heap h':=by
    refine⟨fun b o e n hb hx=>up b o (ltC b o e).1 (u6.keep b o e n hb hx),fun b o e n hb hx=>?_,fun b o e n hx=>?_,fun b o e hx=>?_,fun b xs e=>?_,fun b o u e=>?_,fun b ps e=>?_⟩
    .obtain⟨sl,q⟩:=u6.slot b o e n hb hx;exact⟨sl,up b _ (ltC b o e).1 q⟩
    .rw[aP (ltC b o e).2];exact u6.free b o e n hx
    .obtain⟨o',q⟩:=u6.there b o e hx;exact⟨o',up b o' (ltC b o e).1 q⟩
    .have z:=u6.tups b xs e;rw[aP (aO z d5)];exact z
    .have z:=u6.frzs b o u e;rw[aP (aO z d5)];exact z
    .obtain⟨more,z⟩:=u6.tbls b ps e;exact⟨more,by rw[aP (aO z d5)];exact z⟩
   have ok7:HOk X.prog X.w (upd H' s2.heap.objs.size (.lst acc)) h':=fun b u e=>by
    by_cases hb:b=s2.heap.objs.size
    .subst hb;rw[aX]at e;cases e;exact⟨la,its,nn,va,up _ _ hDC d6⟩
    .rw[aP hb]at e;refine(I6.hok b u e).stay (fun c v hc' z=>up c v ?_ z) (fun c z=>by rw[aP (aO z d5)];exact z) fun c xs z=>by rw[aP (aO z d5)];exact z
     rcases hc' with rfl|z
     .exact aO e nC
     .exact aO z nC
   have os6:s6.os=s2.os:=I6.os;have ba6:=I6.bare;obtain⟨hh,gg,dd,tt,oo⟩:=s6;subst os6;have z7:=I2.call (s:=s2) (h':=h') (g':=gg) (d':=dd) (t':=tt) (ch:=fp) u7 ok7 ba6 fun b hb=>⟨(f2 b hb).2.2.2.1,(f2 b hb).2.1,(f2 b hb).2.2.2.2.1,(f2 b hb).2.2.2.2.2⟩;exact z7
  .refine thn (T.item (eW X N' scope P2.objs.size s2 H2 fp pins) rfl rfl rfl hc i _ s5 σ' H' _ I5p (stat fr5) t5 go) fun r s6 ⟨u,hr,h6⟩=>.inr ⟨u,hr,?_⟩;refine thn h6 fun _ s7 ⟨x,H7,I7,r7,y7,t7,fr7⟩=>?_;have I7':=I7.pinned (stat fr7) (T.obj _ _ t7)
   have back:∀{σx:St}{Hx:Hp}{sx:Shared},Inv (eW X N' scope P2.objs.size s2 H2 fp pins) ([(s2.heap.objs.size,{ cls:=.type "list",data:=.seq its.toArray nn })]++qW fp s7.heap) σx Hx sx->
    (∀b∈fp,∀o,s7.heap.get? b=some o->sx.heap.get? b=some o)/\(∀b∈fp,Hx b=none)/\sx.heap.get? s2.heap.objs.size=some { cls:=.type "list",data:=.seq its.toArray nn }/\Hx s2.heap.objs.size=none:=fun{σx Hx sx} Ix=>by
    refine⟨fun b hb o e=>(Ix.pin (b,o) (B5 _ (B5 _ (eR hb e)))).1,fun b hb=>?_,?_,?_⟩
    .obtain⟨o,e,_⟩:=T.obj _ _ t7 b hb;exact(Ix.pin (b,o) (B5 _ (B5 _ (eR hb e)))).2.1
    .exact(Ix.pin (s2.heap.objs.size,_) (B5 _ (C5 _ (List.mem_singleton.mpr rfl)))).1
    .exact(Ix.pin (s2.heap.objs.size,{ cls:=.type "list",data:=.seq its.toArray nn }) (B5 _ (C5 _ (List.mem_singleton.mpr rfl)))).2.1
   refine thn (hg _ _ _ _ _ _ s7 σ' H7 x u _ I7' r7 (step x H7 y7)) fun _ s8 ⟨σ8,H8,I8,q8⟩=>?_;refine thn (hif _ _ _ _ _ _ s8 σ8 H8 _ I8 q8) fun b s9 ⟨H9,I9,q9⟩=>?_;rcases q9 with⟨rfl,q9⟩|⟨rfl,n9⟩
   .refine .inl ⟨rfl,thn (he _ _ _ _ _ _ s9 σ8 H9 _ I9 q9) fun uv s10 ⟨v,H10,I10,rv,n10⟩=>?_⟩;obtain⟨m',hm,w10⟩:=hN _ _ _ n10;obtain⟨b1,b2,b3,b4⟩:=back I10;refine wpAny_list_append_plain ⟨nn,b3⟩ (fun h' hp hs'=>?_) (by rw[C1,<- va.length];exact la);obtain⟨n2,e2⟩:=hp;have up:∀b o,b≠s2.heap.objs.size->s10.heap.get? b=some o->h'.get? b=some o:=fun b o hb e=>hs'.extBut b o hb e;have I10':Inv (eW X N' scope P2.objs.size s2 H2 fp pins) [] σ8 H10 s10:=I10.pins_of fun p hp=>absurd hp (by simp);refine⟨m',hm,i+1,σ8,H10,acc++[v],its++[uv],n2,I10'.turned (t':=s10.toks) up b4 hDC (.inr (A6 _)) (fun x c e=>B8 (cne x c e)) (fun p hp=>?_),T.keep _ _ _ t7 fun b hb o e=>up b o (B8 (fplt b hb)) (b1 b hb o e),b2,b4,?_,va.append (.cons rv .nil),?_,w10⟩
    .have hp':p∈X.pn++pins:=by
      rcases List.mem_append.mp hp with z|z
      .exact z
      .exact absurd z (by simp)
     exact B8 (B2 (I2.pin p hp').1)
    .rw[e2];simp
    .rw[B4,D7];exact lt
   .obtain⟨m',hm,w9⟩:=hN _ _ _ n9;obtain⟨b1,b2,b3,b4⟩:=back I9;exact .inr ⟨rfl,m',hm,i+1,σ8,H9,acc,its,nn,I9.pins_of fun p hp=>absurd hp (by simp),T.keep _ _ _ t7 b1,b2,b4,b3,va,la,w9⟩
 exact codeAny_compStart_list (loop _ rfl) (T.self _ 0 _ _ _ (T.keep _ _ _ st2 fun b _ o e=>old b o e) (loop _ rfl))
theorem aER{elt tg iter:Expr}{ifs:List Expr}{pos:Pos}{wi:TI}{g:TG}{tc:TT}{te:TE}(hc:X.calm=true)(S:nP X N' cap scope)(hi:PI X tg iter wi)
 (hg:∀C s H fp pn,PG (eW X N' scope C s H fp pn) tg g) (hif:∀C s H fp pn,yB (eW X N' scope C s H fp pn) ifs tc) (he:∀C s H fp pn,PE (eW X N' scope C s H fp pn) elt te)
 (hs:∀x,foldedSetIterable iter X.env x=pure x:=by intro _;rfl):PE X (.ListComp elt [⟨tg,iter,ifs,0⟩] scope pos) (tLc cap wi g tc te):=by
 intro pins s σ H Q I h;rw[eval_ListComp];refine TC (use:=none) (Q:=Q) hc S hi hg hif he hs I h fun D C H' acc s' hDC ⟨m,hn⟩ hI _ hq=>⟨m,hn,fun h' hs'=>?_⟩;exact⟨.ref D,_,hI h' hs',rfl,hq⟩
theorem OE{i:Nat}{x:Str}{elt tg iter:Expr}{ifs:List Expr}{pos pos' pos'':Pos}{wi:TI}{g:TG}{tc:TT}{te:TE}(hN:X.N.Nodup)(hix:X.N[i]?=some x)(hc:X.calm=true)(S:nP X N' cap scope)(hi:PI X tg iter wi)
 (hg:∀C s H fp pn,PG (eW X N' scope C s H fp pn) tg g) (hif:∀C s H fp pn,yB (eW X N' scope C s H fp pn) ifs tc) (he:∀C s H fp pn,PE (eW X N' scope C s H fp pn) elt te)
 (hsw:swapsWith (.ListComp elt [⟨tg,iter,ifs,0⟩] scope pos) (some (.Name x pos')) pos''.line X.env=pure true:=by rfl) (hx:X.env.scope.names.lookup x=some .local:=by rfl)
 (hs:∀x,foldedSetIterable iter X.env x=pure x:=by intro _;rfl):PS X (.Assign [.Name x pos'] (.ListComp elt [⟨tg,iter,ifs,0⟩] scope pos) pos'') (TQ (tLc cap wi g tc te) (EL i)):=by
 intro pins s σ H D I h;rw[exec_Assign_Name_used _ _ _ _ hsw];refine A0 (O3 (A0 ?_));show wpAny _ _ (comprehension (.ListComp elt [⟨tg,iter,ifs,0⟩] scope pos) scope X.env _ (newList []) false (firstIter [⟨tg,iter,ifs,0⟩] X.env) (some (assign (.Name x pos') X.env)) >>= fun _=>pure ()) _ _ s;refine A0 (thn (TC (use:=some (assign (.Name x pos') X.env)) (QQ:=fun _ s'=>∃σ' H',Inv X pins σ' H' s'/\D.nx σ' H') (Q:=fun v H1=>EL i v σ H1 D.nx) hc S hi hg hif he hs I h fun E C H' acc s' hDC ⟨m,hn⟩ hI fC hq=>?_) fun _ s' hz=>A4 (A4 hz));have I1:Inv X pins σ (upd H' E (.lst acc)) s':=hI s'.heap (Heap.SameBut.refl ..);have I1:Inv X pins σ (upd H' E (.lst acc)) s':=I1;refine wpAny_assign_Name (zM (M:=model X.prog X.w) (A:=X.A) (E:=X.xe) I1 hN hix (.inl hx) (v:=.ref E) (u:=.ref E) rfl (fun s2 I2 hsb=>?_) (.inr hx));obtain⟨a,hs2,ha⟩:=hsb
 have hne:C≠a:=by
  rcases ha with z|z
  .rw[z];exact fC.2.1
  .exact fun w=>fC.2.2.2.2.1 x a z w.symm
 refine⟨m,hn.extBut hs2.extBut hne,fun h' hs'=>?_⟩;exact⟨_,_,I2.turned (t':=s2.toks) (fun b o hb e=>hs'.extBut b o hb e) fC.1 fC.2.1 fC.2.2.2.1 fC.2.2.2.2.1 fC.2.2.2.2.2,hq⟩
end
noncomputable def JS:Key->PyData
 |.inl i=>.int i
 |.inr x=>.str x
mutual
noncomputable def Rep(K:Fg)(H:Hp):PyData->V->Prop
 |.none,v=>v=.non
 |.bool b,v=>v=.bl b
 |.int i,v=>v=.int i
 |.str x,v=>v=.str x
 |.list xs,v=>∃a vs,v=.ref a/\SqL K H a vs/\aM K H xs vs
 |.tuple xs,v=>∃a vs,v=.ref a/\SqT K H a vs/\aM K H xs vs
 |.dict kvs,v=>∃a ks,v=.ref a/\H a=some (.dK ks)/\lQ K H kvs ks
noncomputable def aM(K:Fg)(H:Hp):List PyData->List V->Prop
 |[],vs=>vs=[]
 |d::ds,vs=>∃v r,vs=v::r/\Rep K H d v/\aM K H ds r
noncomputable def lQ(K:Fg)(H:Hp):List (PyData×PyData)->List (Key×V)->Prop
 |[],ks=>ks=[]
 |(k,d)::kvs,ks=>∃k' v r,ks=(k',v)::r/\k=JS k'/\Rep K H d v/\lQ K H kvs r
end
theorem gU.seqT{a:Addr}{xs:List V}(e:gU H H')(h:SqT K H a xs):SqT K H' a xs:=by
 rcases h with h|h
 .refine .inl ?_;rcases h with h|⟨o,h⟩
  .exact .inl (e _ _ h)
  .exact .inr ⟨o,e _ _ h⟩
 .exact .inr h
mutual
theorem Rep.same{K:Fg}{H H':Hp}(e:gU H H'):∀(d:PyData)(v:V),Rep K H d v->Rep K H' d v
 |.none=>fun v h=>h
 |.bool b=>fun v h=>h
 |.int i=>fun v h=>h
 |.str x=>fun v h=>h
 |.list xs=>fun v h=>by
  obtain⟨a,vs,h1,h2,h3⟩:=h;exact⟨a,vs,h1,e.seq h2,aM.same e xs vs h3⟩
 |.tuple xs=>fun v h=>by
  obtain⟨a,vs,h1,h2,h3⟩:=h;exact⟨a,vs,h1,e.seqT h2,aM.same e xs vs h3⟩
 |.dict kvs=>fun v h=>by
  obtain⟨a,ks,h1,h2,h3⟩:=h;exact⟨a,ks,h1,e _ _ h2,lQ.same e kvs ks h3⟩
theorem aM.same{K:Fg}{H H':Hp}(e:gU H H'):∀(ds:List PyData)(vs:List V),aM K H ds vs->aM K H' ds vs
 |[]=>fun vs h=>h
 |d::ds=>fun vs h=>by
  obtain⟨v,r,h1,h2,h3⟩:=h;exact⟨v,r,h1,Rep.same e d v h2,aM.same e ds r h3⟩
theorem lQ.same{K:Fg}{H H':Hp}(e:gU H H'):∀(kvs:List (PyData×PyData))(ks:List (Key×V)),lQ K H kvs ks->lQ K H' kvs ks
 |[]=>fun ks h=>h
 |(k,d)::kvs=>fun ks h=>by
  obtain⟨k',v,r,h1,h2,h3,h4⟩:=h;exact⟨k',v,r,h1,h2,Rep.same e d v h3,lQ.same e kvs r h4⟩
end
theorem aM.length{K:Fg}{H:Hp}:∀{ds:List PyData}{vs:List V},aM K H ds vs->ds.length=vs.length
 |[],vs=>fun h=>by rw[show vs=[]from h];rfl
 |d::ds,vs=>fun h=>by
  obtain⟨v,r,h1,_,h3⟩:=h;rw[h1,C3,C3,aM.length h3]
theorem aM.get{K:Fg}{H:Hp}:∀{ds:List PyData}{vs:List V}{i:Nat}{v:V},aM K H ds vs->vs[i]?=some v->∃d,ds[i]?=some d/\Rep K H d v
 |[],vs,i,v=>fun h e=>by rw[show vs=[]from h]at e;simp at e
 |d::ds,vs,0,v=>fun h e=>by
  obtain⟨w,r,h1,h2,h3⟩:=h;rw[h1]at e;simp at e;subst e;exact⟨d,rfl,h2⟩
 |d::ds,vs,i+1,v=>fun h e=>by
  obtain⟨w,r,h1,h2,h3⟩:=h;rw[h1]at e;exact aM.get (i:=i) h3 (by simpa using e)
theorem aM.app{K:Fg}{H:Hp}:∀{ds es:List PyData}{vs ws:List V},aM K H ds vs->aM K H es ws->aM K H (ds++es) (vs++ws)
 |[],es,vs,ws=>fun h k=>by rw[show vs=[]from h];exact k
 |d::ds,es,vs,ws=>fun h k=>by
  obtain⟨v,r,h1,h2,h3⟩:=h;exact⟨v,r++ws,by rw[h1];rfl,h2,aM.app h3 k⟩
section
variable{X:Cx}{pins:List (Addr×Obj)}{σ:St}{H:Hp}{s:Shared}
theorem Inv.sysN(I:Inv X pins σ H s):H sysModules=none:=by
 obtain⟨o,es,ep,h,_⟩:=I.mod.sysm;exact(I.bs _ _ h).2
theorem Inv.sysL(I:Inv X pins σ H s){a:Addr}{xs:List V}(h:SqL X.K H a xs):sysModules≠a:=by
 intro e;subst e;have hn:=I.sysN;rcases h with(h|⟨o,h⟩)|⟨o,its,n,hk,_,_,hd,_⟩
 .rw[hn]at h;cases h
 .rw[hn]at h;cases h
 .obtain⟨o',es,ep,h',hd'⟩:=I.mod.sysm;have:=I.mod.kin _ _ hk;rw[h']at this;cases this;rw[hd]at hd';cases hd'
mutual
theorem Rep.reads'(I:Inv X pins σ H s):∀(d:PyData)(v:V)(u:Value),Rep X.K H d v->RelV v u->∃as,Reads s.heap u d as/\sysModules∉as
 |.none=>fun v u r q=>by
  rw[show v=.non from r]at q;rw[show u=Value.none from q];exact⟨_,.none,by simp⟩
 |.bool b=>fun v u r q=>by
  rw[show v=.bl b from r]at q;rw[show u=Value.bool b from q];exact⟨_,.bool b,by simp⟩
 |.int i=>fun v u r q=>by
  rw[show v=.int i from r]at q;obtain⟨t,rfl⟩:=(show ∃t,u=Value.int i t from q);exact⟨_,.int i t,by simp⟩
 |.str x=>fun v u r q=>by
  rw[show v=.str x from r]at q;obtain⟨t,rfl⟩:=(show ∃t,u=Value.str x t from q);exact⟨_,.str x t,by simp⟩
 |.list xs=>fun v u r q=>by
  obtain⟨a,vs,rfl,h2,h3⟩:=r;rw[show u=Value.ref a from q];obtain⟨its,hv,⟨o,n,hg,hc,_,hd⟩,_⟩:=I.list h2;obtain⟨as,ha,hs⟩:=aM.reads' I xs vs its h3 hv;exact⟨_,.list hg hc hd (by simpa using ha),fun z=>(List.mem_cons.mp z).elim (I.sysL h2) hs⟩
 |.tuple xs=>fun v u r q=>by
  obtain⟨a,vs,rfl,h2,h3⟩:=r;rw[show u=Value.ref a from q];obtain⟨its,hv,⟨o,hg,hc,n,hd⟩,_⟩:=I.tuple h2;obtain⟨as,ha,hs⟩:=aM.reads' I xs vs its h3 hv;exact⟨_,.tuple hg hc hd (by simpa using ha),hs⟩
 |.dict kvs=>fun v u r q=>by
  obtain⟨a,ks,rfl,h2,h3⟩:=r;rw[show u=Value.ref a from q];obtain⟨_,hS,vs,hkv,o,es,ep,hg,hex,hd,_,hp,_⟩:=(show cS X.prog X.w H s.heap a (.dK ks)from I.hok a _ h2);obtain⟨as,bs,h4,h5,n1,n2⟩:=lQ.reads' I kvs ks vs es.toList h3 hkv hp;refine⟨_,.dict hg hex.1 hd h4 h5,fun z=>?_⟩;rcases List.mem_append.mp z with z|z
  .rcases List.mem_cons.mp z with z|z
   .rw[z]at hS;simp at hS
   .exact n1 z
  .exact n2 z
theorem aM.reads'(I:Inv X pins σ H s):∀(ds:List PyData)(vs:List V)(us:List Value),aM X.K H ds vs->bJ vs us->∃as,ReadsAll s.heap us ds as/\sysModules∉as
 |[]=>fun vs us r q=>by
  rw[show vs=[]from r]at q;cases q;exact⟨_,.nil,by simp⟩
 |d::ds=>fun vs us r q=>by
  obtain⟨v,t,rfl,h2,h3⟩:=r;cases q with
  |cons q1 q2=>
   obtain⟨as,ha,n1⟩:=Rep.reads' I d v _ h2 q1;obtain⟨bs,hb,n2⟩:=aM.reads' I ds t _ h3 q2;exact⟨_,.cons ha hb,fun z=>(List.mem_append.mp z).elim n1 n2⟩
theorem lQ.reads'(I:Inv X pins σ H s):∀(kvs:List (PyData×PyData))(ks:List (Key×V))(vs:List (Key×Value))(es:List DictEntry),lQ X.K H kvs ks->KV ks vs->Pairs (cI X.prog X.w) es vs->
 ∃as bs,ReadsAll s.heap (es.map (·.key)) (kvs.map (·.1)) as/\ReadsAll s.heap (es.map (·.val)) (kvs.map (·.2)) bs/\sysModules∉as/\sysModules∉bs
 |[]=>fun ks vs es r q p=>by
  rw[show ks=[]from r]at q;cases q;cases p;exact⟨_,_,.nil,.nil,by simp,by simp⟩
 |(k,d)::kvs=>fun ks vs es r q p=>by
  obtain⟨k',v,t,rfl,h1,h2,h3⟩:=r;cases q with
  |@cons _ kv _ vs' q1 q2=>
   cases p with
   |@cons e _ es' _ p1 p2 p3=>
    obtain⟨as,bs,ha,hb,n1,n2⟩:=lQ.reads' I kvs t _ _ h3 q2 p3;obtain⟨cs,hc,n3⟩:=Rep.reads' I d v _ h2 q1.2
    have hkey:Reads s.heap e.key k []:=by
     rw[h1];have p1':uA kv.1 e.key=true:=p1;rw[<- show k'=kv.1 from q1.1]at p1';rcases cQ p1' with⟨i,t',rfl,he⟩|⟨x,t',rfl,he⟩
     .rw[he];exact .int i t'
     .rw[he];exact .str x t'
    refine⟨_,_,.cons hkey ha,.cons (show Reads s.heap e.val d cs by rw[p2];exact hc) hb,by simpa using n1,fun z=>(List.mem_append.mp z).elim n3 n2⟩
end
theorem Rep.reads(I:Inv X pins σ H s)(d:PyData)(v:V)(u:Value)(r:Rep X.K H d v)(q:RelV v u):∃as,Reads s.heap u d as:=let⟨as,h,_⟩:=Rep.reads' I d v u r q;⟨as,h⟩
theorem aM.reads(I:Inv X pins σ H s)(ds:List PyData)(vs:List V)(us:List Value)(r:aM X.K H ds vs)(q:bJ vs us):∃as,ReadsAll s.heap us ds as:=let⟨as,h,_⟩:=aM.reads' I ds vs us r q;⟨as,h⟩
end
section
variable{X:Cx}
noncomputable def OI(K:Fg)(neg:Bool):R2:=fun x y H Q=>∃dx dy,Rep K H dx x/\Rep K H dy y/\SeqAt.shaped dx=true/\SeqAt.shaped dy=true/\Q (.bl (if neg then !PyData.eqv dx dy else PyData.eqv dx dy)) H
theorem aDl(hu:X.A.units+64<cLine):OpR X (compareOp .Eq) (OI X.K false):=by
 intro pins s σ H x y v u Q I rx ry h;obtain⟨dx,dy,hx,hy,sx,sy,q⟩:=h;obtain⟨as,ha⟩:=Rep.reads I dx x v hx rx;obtain⟨bs,hb⟩:=Rep.reads I dy y u hy ry;exact eq_dataH ha hb sx sy hu ⟨.bl _,H,I,rfl,q⟩
theorem aCu(hu:X.A.units+64<cLine):OpR X (compareOp .NotEq) (OI X.K true):=by
 intro pins s σ H x y v u Q I rx ry h;obtain⟨dx,dy,hx,hy,sx,sy,q⟩:=h;obtain⟨as,ha⟩:=Rep.reads I dx x v hx rx;obtain⟨bs,hb⟩:=Rep.reads I dy y u hy ry;exact ne_dataH ha hb sx sy hu ⟨.bl _,H,I,rfl,q⟩
open Classical in
noncomputable def yL(h:Heap)(dv:PyData)(u:Value):Bool:=if ∃d as,Reads h u d as/\PyData.eqv d dv=true then true else false
theorem WC{h:Heap}{dv d:PyData}{u:Value}{as:List Addr}(r:Reads h u d as)(hc:d.canLay0=true):yL h dv u=PyData.eqv d dv:=by
 unfold yL;by_cases e:PyData.eqv d dv=true
 .rw[A3 ⟨d,as,r,e⟩,e]
 .rw[A7,Bool.eq_false_iff.mpr e];rintro⟨d',as',r',e'⟩;have:=SeqAt.Reads.unique d d' u as as' hc r r';subst this;exact e e'
theorem xW{A:Around}{s:Shared}{v:Value}{dv:PyData}{av:List Addr}(hv:Reads s.heap v dv av)(sv:SeqAt.shaped dv=true)(hu:A.units+64<cLine):
 ∀(us:List Value)(ds:List PyData)(as:List Addr),ReadsAll s.heap us ds as->ds.all SeqAt.shaped=true->(∀y∈us,SeqAt.EqAt A s y v (yL s.heap dv y))/\us.any (yL s.heap dv)=ds.any fun d=>PyData.eqv d dv
 |[]=>fun ds as r _=>by
  cases r;exact⟨fun y hy=>absurd hy (by simp),rfl⟩
 |y::us=>fun ds as r hs=>by
  cases r with
  |@cons _ _ d ds' as1 bs1 r1 r2=>
   rw[List.all_cons,B6]at hs;obtain⟨h1,h2⟩:=xW hv sv hu us _ _ r2 hs.2;have e:=WC (dv:=dv) r1 (SeqAt.canLay_of_shaped hs.1);have hy:SeqAt.EqAt A s y v (PyData.eqv d dv):=SeqAt.eqAt_reads d dv A s y v _ _ r1 hv (SeqAt.canLay_of_shaped hs.1) (SeqAt.canLay_of_shaped sv) (SeqAt.room_of_shaped hs.1 hu);refine⟨fun z hz=>?_,by rw[J4,J4,e,h2]⟩;rcases List.mem_cons.mp hz with q|q
   .rw[q,e];exact hy
   .exact h1 z q
noncomputable def WU(K:Fg)(neg:Bool):R2:=fun x y H Q=>∃dx ds p vs,Rep K H dx x/\y=.ref p/\(SqL K H p vs\/SqT K H p vs)/\aM K H ds vs/\SeqAt.shaped dx=true/\ds.all SeqAt.shaped=true /\
 Q (.bl (if neg then !ds.any fun d=>PyData.eqv d dx else ds.any fun d=>PyData.eqv d dx)) H
theorem aDg(hu:X.A.in1.units+64<cLine):OpR X (compareOp .In) (WU X.K false):=by
 intro pins s σ H x y v u Q I rx ry h;obtain⟨dx,ds,p,vs,hx,rfl,hp,hds,sx,sds,q⟩:=h;cases ry;obtain⟨as,ha⟩:=Rep.reads I dx x v hx rx;rcases hp with hp|hp
 .obtain⟨its,r,pl,hz⟩:=I.list hp;obtain⟨bs,hb⟩:=aM.reads I ds vs its hds r;obtain⟨h1,h2⟩:=xW (A:=X.A.in1) ha sx hu its ds bs hb sds;refine SeqAt.in_listAt (yL s.heap dx) pl.isList (fun w hw=>h1 w (by simpa using hw)) ⟨.bl _,H,I,rfl,?_⟩;rw[show its.toArray.any (yL s.heap dx)=its.any (yL s.heap dx)by simp,h2];exact q
 .obtain⟨its,r,pl,hz⟩:=I.tuple hp;obtain⟨bs,hb⟩:=aM.reads I ds vs its hds r;obtain⟨h1,h2⟩:=xW (A:=X.A.in1) ha sx hu its ds bs hb sds;refine SeqAt.in_tupleAt (yL s.heap dx) pl (fun w hw=>h1 w (by simpa using hw)) ⟨.bl _,H,I,rfl,?_⟩;rw[show its.toArray.any (yL s.heap dx)=its.any (yL s.heap dx)by simp,h2];exact q
theorem bJ.types:∀{Ts:List String}{its:List Value},bJ (Ts.map V.ty) its->its=Ts.map Value.type
 |[],_=>fun h=>by cases h;rfl
 |t::Ts,its=>fun h=>by
  cases h with
  |cons r1 r2=>rw[show _=Value.type t from r1,bJ.types r2];rfl
theorem bJ.bools:∀{bs:List Bool}{its:List Value},bJ (bs.map V.bl) its->its=bs.map Value.bool
 |[],_=>fun h=>by cases h;rfl
 |b::bs,its=>fun h=>by
  cases h with
  |cons r1 r2=>rw[show _=Value.bool b from r1,bJ.bools r2];rfl
theorem all_range(bs:List Bool):(List.range bs.length).all (fun i=>bs.getD i false)=bs.all id:=by
 rw[I0];simp only[List.all_eq_true,List.mem_range,id];constructor
 .intro h b hb;obtain⟨i,hi,rfl⟩:=List.mem_iff_getElem.mp hb;have:=h i hi;rw[J1,B9 hi]at this;exact this
 .intro h i hi;rw[J1,B9 hi];exact h _ (List.getElem_mem hi)
theorem DX{prog:Program}{w:World}{A:Around}{bs:List Bool}:TruthOf prog w A (fun i v=>(bs.map Value.bool).toArray[i]?=some v) (fun i=>bs.getD i false):=by
 intro i v s Q E hP hQ;rw[List.getElem?_toArray,D0]at hP;cases e:bs[i]? with
 |none=>rw[e]at hP;cases hP
 |some b=>
  rw[e]at hP;cases hP;have hb:bs.getD i false=b:=by rw[J1,e];rfl
  have hQ':Q (bs.getD i false) s:=hQ;rw[hb]at hQ';exact F4 hQ'
noncomputable def uL:Nat:=2 ^ 8000
noncomputable def RG(i:Int):Prop:=i.natAbs<uL
theorem CT{j:Int}(h:RG j):j.natAbs.log2<9000:=by
 by_cases h0:j.natAbs=0
 .rw[h0];decide +kernel
 .exact Nat.lt_trans ((Nat.log2_lt h0).mpr h) (by decide)
noncomputable def aDW(i j:Int):Prop:=RG i/\RG j
theorem zC{j:Int}(h:RG j):Builtin.Int.intBits j<=2 ^ 20:=by
 unfold Builtin.Int.intBits;by_cases h0:(j==0)=true
 .rw[A3 h0];exact D2 _
 .rw[A7 h0];have:=CT h;omega
end
structure Callee(P:Program)(w:World)(K:Fg)(mg:Str->Option Value)(base:Heap)(k:Nat)(x:Str)(ps:List Str)(sp:Sp)(q:Bool:=true):Prop where
 ex:∃f fd,mY P w K mg base CX0 k f fd ps sp q/\mg x=some (.ref f)/\PySem.W.keepIn K (.ref f)=true/\Binds K fd ps []
structure Def(K:Fg)(mg:Str->Option Value)(x:Str)(st:Stmt):Prop where
 ex:∃f fd,Fun K x x st f fd/\mg x=some (.ref f)
section
variable{P:Program}{w:World}{K:Fg}{mg:Str->Option Value}{base:Heap}{X:Cx}
theorem Def.ok{x:Str}{st:Stmt}{N ps:List Str}{k:Nat}{sp:Sp}{q:Bool}(D:Def K mg x st)(S:aT N ps (aG st))
 (hb:∀(kV doc pm:Value)(an:Option Addr)(cdv ct:Value)(us:List Value),us.length=ps.length->bindArgs (PySem.W.fnOf x x (fN st) (cE st) (aG st) .none kV doc pm an cdv ct) ⟨us,[]⟩=pure (ps.zip us))
 (len:∀vs H Q E,sp vs H Q E->vs.length=ps.length)
 (hbody:∀(f:Addr)(cdv:Value)(A:Around)(outer:List Env)(s:Shared)(H:Hp)(vs:List V)(Q:VK)(E:XK),cX k (A.deeper (envOfC x (aG st) s.heap.objs.size f cdv)) q->sp vs H Q E->
  ∃t,PSs (mK CX0 P w K mg base N x (aG st) f cdv A outer s H E q).nox (cE st) t/\t { nx:=fun _ H'=>Q .non H',rt:=Q } (start N vs) H):Callee P w K mg base (k+1) x ps sp q:=by
 obtain⟨f,fd,F,m⟩:=D.ex;exact⟨f,fd,F.ok S len fun cdv A outer s H vs Q E hr h=>hbody f cdv A outer s H vs Q E hr h,m,F.kp,F.binds hb⟩
theorem Callee.mono{j k:Nat}{x:Str}{ps:List Str}{sp:Sp}(C:Callee P w K mg base j x ps sp)(h:j<=k):Callee P w K mg base k x ps sp:=by
 obtain⟨f,fd,F,r⟩:=C.ex;exact⟨f,fd,F.mono h,r⟩
theorem def_mk{x:Str}{st:Stmt}{h:Heap}{f:Addr}{oc:Value}{od an:Option Addr}{osl:Array (Option Value)}{kV doc pm cdv ct:Value}(X:K.In h)(G:h.Ns mainGlobals mg)(a:PySem.W.nsIn K mainGlobals x=some (some (.ref f)))
 (l:K.lookup f=some ⟨oc,od,.func (PySem.W.fnOf x x (fN st) (cE st) (aG st) .none kV doc pm an cdv ct),osl⟩) (c:PySem.W.codeIn K cdv x=true) (k:PySem.W.keepIn K (.ref f)=true):Def K mg x st:=
 ⟨f,_,aCt l c k,J0 X G a⟩
theorem aDr{k:Nat}{x:Str}{ps:List Str}{sp:Sp}{p pos:Pos}{e:Expr}{es:List Expr}{t:TA}{q:Bool}(C:Callee X.prog X.w X.K X.mg X.base k x ps sp q)(hr:cX k X.A q)(ha:PA X (e::es) t)(hg:Gl X x:=by rfl)
 (hdb:(x==("__debug__":Str))=false:=by decide) (he:starEach (e::es) X.env=(false,eval e X.env)::starEach es X.env:=by rfl) (hpl:(backTo pos (starEach es X.env)).any (·.1)=false:=by rfl):
 PE X (.Call (.Name x p) (e::es) [] pos) (SH sp [] E0 t):=by
 obtain⟨f,fd,F,m,kp,b⟩:=C.ex;exact aAd F hr hg m kp b .nil aFE ha hdb he hpl
theorem cX.units1{k:Nat}{A:Around}(r:cX k A):A.in1.units+64<cLine:=by have:=r.un;show A.units+1+64<_;omega
noncomputable def KM(mg:Str->Option Value)(xs:List Str):Prop:=∀x∈xs,mg x=none
theorem KM.of{xs:List Str}(h:KM mg xs)(x:Str)(hx:x∈xs:=by decide +kernel):mg x=none:=h x hx
theorem SR:KM mg []:=fun _ h=>absurd h (by simp)
theorem cY{x:Str}{xs:List Str}(h:mg x=none)(hr:KM mg xs):KM mg (x::xs):=fun y hy=>(List.mem_cons.mp hy).elim (fun e=>e▸h) (hr y)
noncomputable def EZ(i j:Int):Prop:=aBP i j\/aDW i j
theorem EZ.ok{i j:Int}(h:EZ i j):IntMulOk i j:=by
 rcases h with h|h
 .exact h.ok
 .exact IntMulOk.of_bits (zC h.1) (zC h.2)
theorem ZV:OpR X (binaryOp .Mult) (rI EZ fun i j=>.int (i*j)):=opI fun _ _ _ _ _ _ _ hc q=>mul_int q hc.ok
noncomputable def aAp(_ j:Int):Prop:=0<j/\RG j
theorem LY:OpR X (binaryOp .FloorDiv) (rI aAp fun i j=>.int (i / j)):=opI fun i j _ _ _ _ _ hc q=>by
 refine floordiv_int (Int.ne_of_gt hc.1) ?_ (.inl (PyProof.noPylong_of_log2 (CT hc.2)));rw[Int.fdiv_eq_ediv_of_nonneg _ (Int.le_of_lt hc.1)];exact q
end
noncomputable def SL(sc0:Scope)(N N':List Str)(cap:List (Option Nat))(scope:Scope):Bool:=
 scope.names.all (fun y=>y.2 != .cell)&&(scope.kind==.function)&&scope.names.all (fun y=>y.2 != .local || scope.names.lookup y.1==some .local) &&
 scope.names.all (fun y=>y.2 != .free || (sc0.names.lookup y.1==some .cell || sc0.names.lookup y.1==some .free))&&(cap.length==N'.length) &&
 (List.range cap.length).all fun i=>match cap[i]? with
  |some (some j)=>(match N'[i]?,N[j]? with
   |some x,some y=>x==y&&scope.names.lookup x==some .free
   |_,_=>false)
  |_=>true
theorem sF{X:Cx}{sc0 scope:Scope}{N N':List Str}{cap:List (Option Nat)}(h1:X.env.scope=sc0)(h2:X.N=N)(h:SL sc0 N N' cap scope=true):nP X N' cap scope:=by
 unfold SL at h;simp only[Bool.and_eq_true,List.all_eq_true,beq_iff_eq,bne_iff_ne,ne_eq,Bool.or_eq_true,List.mem_range]at h;obtain⟨⟨⟨⟨⟨a,b⟩,c⟩,d⟩,e⟩,f⟩:=h;refine⟨a,b,fun y hy hk=>?_,fun y hy hk=>?_,e,fun i j hij=>?_⟩
 .rcases c y hy with z|z
  .exact absurd hk z
  .exact z
 .show X.env.scope.names.lookup y.1=_\/X.env.scope.names.lookup y.1=_;rw[h1];rcases d y hy with z|z
  .exact absurd hk z
  .exact z
 .have hi:i<cap.length:=(List.getElem?_eq_some_iff.mp hij).1;have g:=f i hi;rw[hij]at g;dsimp only at g;rw[h2];split at g
  .rename_i x y ex ey;rw[B6,beq_iff_eq,beq_iff_eq]at g;exact⟨x,ex,by rw[ey,g.1],g.2⟩
  .cases g
noncomputable def tyName:PyData->String
 |.none=>"NoneType"
 |.bool _=>"bool"
 |.int _=>"int"
 |.str _=>"str"
 |.list _=>"list"
 |.tuple _=>"tuple"
 |.dict _=>"dict"
noncomputable def asked:List String:=["int","bool","str","list","tuple","dict"]
noncomputable def isT(T S:String):Bool:=T==S || (T=="int"&&S=="bool")
noncomputable def rR(T:String)(d:PyData):Bool:=isT T (tyName d)
noncomputable def aEe(S T:String):Option Bool:=if (Value.type S==Value.type T)=true then some true else if PySem.W.kitMeta T=true then(PySem.fastBuiltinMro S).map (·.contains (Value.type T))else none
theorem UD:(["NoneType","bool","int","str","list","tuple","dict"].all fun S=>asked.all fun T=>aEe S T==some (isT T S))=true:=by decide +kernel
theorem OV{T:String}{d:PyData}(h:T∈asked):PySem.W.kitOne K (.type (tyName d)) (.type T)=some (rR T d):=by
 have e:PySem.W.kitOne K (.type (tyName d)) (.type T)=aEe (tyName d) T:=rfl;rw[e];have hk:=UD;rw[List.all_eq_true]at hk;have h1:=hk (tyName d) (by cases d<;>simp[tyName]);rw[List.all_eq_true]at h1;exact eq_of_beq (h1 T h)
theorem IU{K:Fg}{d:PyData}:∀{Ts:List String},(∀T∈Ts,T∈asked)->PySem.W.kitAny K (.type (tyName d)) (Ts.map Value.type)=some (Ts.any fun T=>rR T d)
 |[]=>fun _=>rfl
 |T::Ts=>fun h=>by
  rw[A9];unfold PySem.W.kitAny;rw[OV (h T B7),J4];cases rR T d with
  |true=>rfl
  |false=>rw[Bool.false_or];exact IU fun U hU=>h U (B0 _ hU)
section
variable{X:Cx}
theorem JG{pins:List (Addr×Obj)}{σ:St}{H:Hp}{s:Shared}(I:Inv X pins σ H s):∀{d:PyData}{v:V}{u:Value},Rep X.K H d v->RelV v u->∃Hc:Heap->Prop,PySem.W.KitX X.K u (.type (tyName d)) Hc/\Hc s.heap/\u≠.builtin "__main__.__loader__#opaque"
 |.none,v,u=>fun h r=>by
  rw[show v=.non from h]at r;cases (show u=Value.none from r);exact⟨_,PySem.W.kitx_none,True.intro,fun z=>nomatch z⟩
 |.bool b,v,u=>fun h r=>by
  rw[show v=.bl b from h]at r;cases (show u=Value.bool b from r);exact⟨_,PySem.W.kitx_bool,True.intro,fun z=>nomatch z⟩
 |.int i,v,u=>fun h r=>by
  rw[show v=.int i from h]at r;obtain⟨t,q⟩:=(show ∃t,u=Value.int i t from r);cases q;exact⟨_,PySem.W.kitx_int,True.intro,fun z=>nomatch z⟩
 |.str x,v,u=>fun h r=>by
  rw[show v=.str x from h]at r;obtain⟨t,q⟩:=(show ∃t,u=Value.str x t from r);cases q;exact⟨_,PySem.W.kitx_str,True.intro,fun z=>nomatch z⟩
 |.list xs,v,u=>fun h r=>by
  obtain⟨a,vs,rfl,h2,_⟩:=h;cases (show u=Value.ref a from r);obtain⟨its,hv,⟨o,n,hg,hc,_,hd⟩,_⟩:=I.list h2;exact⟨_,PySem.W.kitx_list,⟨o,hg,hc⟩,fun z=>nomatch z⟩
 |.tuple xs,v,u=>fun h r=>by
  obtain⟨a,vs,rfl,h2,_⟩:=h;cases (show u=Value.ref a from r);obtain⟨its,hv,⟨o,hg,hc,n,hd⟩,_⟩:=I.tuple h2;exact⟨_,PySem.W.kitx_tuple,⟨o,hg,hc⟩,fun z=>nomatch z⟩
 |.dict kvs,v,u=>fun h r=>by
  obtain⟨a,ks,rfl,h2,_⟩:=h;cases (show u=Value.ref a from r);obtain⟨_,_,vs,_,o,es,ep,h1,hx,_⟩:=(show cS X.prog X.w H s.heap a (.dK ks)from I.hok a _ h2);exact⟨_,PySem.W.kitx_dict,⟨o,h1,hx.1⟩,fun z=>nomatch z⟩
noncomputable def aDp(K:Fg):List V->Hp->VK->Prop:=fun xs H Q=>∃x T d,xs=[x,.ty T]/\T∈asked/\Rep K H d x/\Q (.bl (rR T d)) H
theorem LK:eO X (.builtin "isinstance") (aDp X.K):=by
 intro pins s σ H xs us Q I r h;obtain⟨x,T,d,rfl,hT,hd,q⟩:=h;obtain⟨u,u',rfl,ru,ru'⟩:=vals2 r;cases (show u'=Value.type T from ru');obtain⟨Hc,Z,hh,hne⟩:=JG I hd ru;exact PySem.W.kia_one Z I.kIn hh (OV hT) hne fun tk=>⟨.bl _,H,I.tok tk,rfl,q⟩
noncomputable def RV(K:Fg):List V->Hp->VK->Prop:=fun xs H Q=>∃(x:V)(p:Addr)(Ts:List String)(d:PyData),xs=[x,.ref p]/\H p=some (.tup (Ts.map V.ty))/\(∀T∈Ts,T∈asked)/\Rep K H d x/\Q (.bl (Ts.any fun T=>rR T d)) H
theorem GM:eO X (.builtin "isinstance") (RV X.K):=by
 intro pins s σ H xs us Q I r h;obtain⟨x,p,Ts,d,rfl,hp,hT,hd,q⟩:=h;obtain⟨u,u',rfl,ru,ru'⟩:=vals2 r;cases (show u'=Value.ref p from ru');obtain⟨_,its,rv,o,hg,hcl,n,hd'⟩:=(show cS X.prog X.w H s.heap p (.tup (Ts.map V.ty))from I.hok p _ hp);have hits:its=Ts.map Value.type:=bJ.types rv;subst hits;obtain⟨oc,od,odt,osl⟩:=o;dsimp only at hcl hd';subst hcl hd';obtain⟨Hc,Z,hh,hne⟩:=JG I hd ru;exact PySem.W.kia_tup Z I.kIn hh hg (IU hT) hne fun tk=>⟨.bl _,H,I.tok tk,rfl,q⟩
end
theorem gU.upd{p:Addr}{o:HO}(h:H p=none):gU H (upd H p o):=fun b u e=>by rw[aP (aO e h)];exact e
noncomputable def aW:PyData->Option (List PyData)
 |.list xs=>some xs
 |.tuple xs=>some xs
 |_=>none
theorem pX{K:Fg}{H:Hp}:∀{d:PyData}{v:V}{ds:List PyData},Rep K H d v->aW d=some ds->∃a vs,v=.ref a/\(SqL K H a vs\/SqT K H a vs)/\aM K H ds vs
 |.list xs,v,ds=>fun h e=>by
  obtain⟨a,vs,h1,h2,h3⟩:=h;cases e;exact⟨a,vs,h1,.inl h2,h3⟩
 |.tuple xs,v,ds=>fun h e=>by
  obtain⟨a,vs,h1,h2,h3⟩:=h;cases e;exact⟨a,vs,h1,.inr h2,h3⟩
 |.none,_,_=>fun _ e=>by cases e
 |.bool _,_,_=>fun _ e=>by cases e
 |.int _,_,_=>fun _ e=>by cases e
 |.str _,_,_=>fun _ e=>by cases e
 |.dict _,_,_=>fun _ e=>by cases e
section
variable{X:Cx}{tg:Expr}
noncomputable def aBm(K:Fg)(tl:TE):TI:=fun σ H R=>tl σ H fun x H1=>∃a,x=.ref a/\((∃xs,SqL K H1 a xs/\R (Itl K a) H1)\/(∃xs,SqT K H1 a xs/\R (Itt K a) H1))
theorem aCP{l:Expr}{tl:TE}(hl:PE X l tl):PI X tg l (aBm X.K tl):=by
 intro pins s σ H R I h;refine thn (hl pins s σ H _ I h) fun v s1 hz=>?_;obtain⟨x,H1,I1,r1,a,e,q1⟩:=hz;subst e;cases r1
 have fp:∀b∈[s1.heap.objs.size],qD X pins H1 b:=fun b hb=>by
  have e:b=s1.heap.objs.size:=List.mem_singleton.mp hb;subst e;exact I1.fpOk (A6 _) (I1.hok.fresh (A6 _))
 rcases q1 with⟨xs,hq,q⟩|⟨xs,hq,q⟩
 .obtain⟨its,rv,p,hz⟩:=I1.list hq;refine wpAny_pyIter_list p.isList ?_;exact⟨s1.heap.objs.size,[s1.heap.objs.size],_,_,H1,rfl,I1.kept (t':=s1.toks) fun b o e=>B3 _ e,KW a _,⟨_,C6 _ rfl,rfl,rfl⟩,fp,q⟩
 .obtain⟨its,rv,p,hz⟩:=I1.tuple hq;refine wpAny_pyIter_tuple (show s1.heap.IsTuple a its.toArray from p) ?_;exact⟨s1.heap.objs.size,[s1.heap.objs.size],_,_,H1,rfl,I1.kept (t':=s1.toks) fun b o e=>B3 _ e,GN a _,⟨_,C6 _ rfl,rfl,rfl⟩,fp,q⟩
end
inductive CD where
 |d (x:PyData)
 |c (n:Nat)
 |t (xs:List (PyData ⊕ Nat))
 |f (kvs:List (List Key×PyData))
 |g (nm:Str)
inductive Cell where
 |lst (xs:List CD)
 |dk (kvs:List (Key×CD))
 |dt (kvs:List (List Key×CD))
 |obj (nm:Str) (fs:List (Str×CD))
 |exc (fr:Bool) (nm:Str) (fs:List (Str×CD))
 |dead
structure Wd where
 F:Hp
 α:Nat->Addr
 n:Nat
structure Wd.Ext(W W':Wd):Prop where
 ff:gU W.F W'.F
 ln:W.n<=W'.n
 al:∀i,i<W.n->W'.α i=W.α i
theorem Wd.Ext.refl(W:Wd):W.Ext W:=⟨gU.refl _,A6 _,fun _ _=>rfl⟩
theorem Wd.Ext.trans{W1 W2:Wd}(a:W.Ext W1)(b:W1.Ext W2):W.Ext W2:=⟨a.ff.trans b.ff,C9 a.ln b.ln,fun i h=>(b.al i (A8 h a.ln)).trans (a.al i h)⟩
noncomputable def JL(K:Fg)(W:Wd):PyData ⊕ Nat->V->Prop
 |.inl x,v=>Rep K W.F x v
 |.inr i,v=>i<W.n/\v=.ref (W.α i)
noncomputable def cdA:PyData ⊕ Nat->CD
 |.inl x=>.d x
 |.inr i=>.c i
noncomputable def cB(K:Fg)(nm:Str):Addr:=match PySem.W.nsIn K mainGlobals nm with
 |some (some (.ref C))=>C
 |_=>0
noncomputable def cF(K:Fg)(W:Wd):CD->V->Prop
 |.d x,v=>Rep K W.F x v
 |.c i,v=>i<W.n/\v=.ref (W.α i)
 |.t xs,v=>∃a vs,v=.ref a/\W.F a=some (.tup vs)/\Paired (JL K W) xs vs
 |.f kvs,v=>∃a o us,v=.ref a/\W.F a=some (.frz o (.dT us))/\Paired (fun p q=>p.1=q.1/\Rep K W.F p.2 q.2) kvs us
 |.g nm,v=>v=.ref (cB K nm)
noncomputable abbrev cC(K:Fg)(W:Wd):List CD->List V->Prop:=Paired (cF K W)
noncomputable def LB(K:Fg)(W:Wd):Option CD->Option V->Prop
 |none,none=>True
 |some x,some v=>cF K W x v
 |_,_=>False
noncomputable abbrev cL(K:Fg)(W:Wd):List (Option CD)->St->Prop:=Paired (LB K W)
noncomputable def CM(a:Addr)(c:Value)(dx:Option Addr)(fr:Bool)(h:Heap):Prop:=∃o vs,h.get? a=some o/\o.cls=c/\o.dict=dx/\o.data=.fields vs/\(fr=true->1<vs.size/\vs[1]?=some .none)
noncomputable def DP(K:Fg)(W:Wd)(dx:Option Addr)(fs:List (Str×CD)):Prop:=match dx with
 |none=>fs=[]
 |some d=>fs≠[]/\∃us,W.F d=some (.xd us)/\Paired (fun p q=>p.1=q.1/\cF K W p.2 q.2) fs us
noncomputable def JO(K:Fg)(W:Wd)(a:Addr):Cell->HO->Prop
 |.lst xs,.lst vs=>cC K W xs vs
 |.dk kvs,.dK us=>Paired (fun p q=>p.1=q.1/\cF K W p.2 q.2) kvs us
 |.dt kvs,.dT us=>Paired (fun p q=>p.1=q.1/\cF K W p.2 q.2) kvs us
 |.obj nm fs,.ins C _ us=>C=cB K nm/\Paired (fun p q=>p.1=q.1/\cF K W p.2 q.2) fs us
 |.exc fr nm fs,.ext φ=>∃dx,φ=CM a (.ref (cB K nm)) dx fr/\DP K W dx fs
 |_,_=>False
structure Good(K:Fg)(W:Wd)(M:List Cell)(H:Hp):Prop where
 fh:gU W.F H
 n:W.n=M.length
 cs:∀i c,M[i]?=some c->c≠.dead->W.F (W.α i)=none/\∃o,H (W.α i)=some o/\JO K W (W.α i) c o
 inj:∀i j c c',M[i]?=some c->M[j]?=some c'->c≠.dead->c'≠.dead->W.α i=W.α j->i=j
section
variable{K:Fg}{W W':Wd}{M M':List Cell}{H H':Hp}
theorem JL.up{x:PyData ⊕ Nat}{v:V}(h:JL K W x v)(e:W.Ext W'):JL K W' x v:=by
 cases x with
 |inl x=>exact Rep.same e.ff _ _ h
 |inr i=>exact⟨A8 h.1 e.ln,by rw[e.al i h.1];exact h.2⟩
theorem cF.up{x:CD}{v:V}(h:cF K W x v)(e:W.Ext W'):cF K W' x v:=by
 cases x with
 |d x=>exact Rep.same e.ff _ _ h
 |c i=>exact⟨A8 h.1 e.ln,by rw[e.al i h.1];exact h.2⟩
 |t xs=>
  obtain⟨a,vs,h1,h2,h3⟩:=h;exact⟨a,vs,h1,e.ff _ _ h2,Paired.mapP h3 fun _ _ r=>JL.up r e⟩
 |f kvs=>
  obtain⟨a,o,us,h1,h2,h3⟩:=h;exact⟨a,o,us,h1,e.ff _ _ h2,Paired.mapP h3 fun _ _ r=>⟨r.1,Rep.same e.ff _ _ r.2⟩⟩
 |g nm=>exact h
theorem cC.up{xs:List CD}{vs:List V}(h:cC K W xs vs)(e:W.Ext W'):cC K W' xs vs:=Paired.mapP h fun _ _ r=>cF.up r e
theorem cL.up{γ:List (Option CD)}{σ:St}(h:cL K W γ σ)(e:W.Ext W'):cL K W' γ σ:=Paired.mapP h fun a b r=>by
 cases a<;>cases b
 .exact True.intro
 .exact False.elim r
 .exact False.elim r
 .exact cF.up r e
theorem DP.up{dx:Option Addr}{fs:List (Str×CD)}(h:DP K W dx fs)(e:W.Ext W'):DP K W' dx fs:=by
 cases dx with
 |none=>exact h
 |some d=>
  obtain⟨h0,us,h1,h2⟩:=h;exact⟨h0,us,e.ff _ _ h1,Paired.mapP h2 fun _ _ r=>⟨r.1,cF.up r.2 e⟩⟩
theorem JO.up{a:Addr}{c:Cell}{o:HO}(h:JO K W a c o)(e:W.Ext W'):JO K W' a c o:=by
 cases c<;>cases o<;>first|exact(let⟨dx,h1,h2⟩:=h;⟨dx,h1,h2.up e⟩)|exact False.elim h|exact cC.up h e|exact Paired.mapP h fun _ _ r=>⟨r.1,cF.up r.2 e⟩|exact⟨h.1,Paired.mapP h.2 fun _ _ r=>⟨r.1,cF.up r.2 e⟩⟩
theorem Good.lay(g:Good K W M H){p:Addr}{o:HO}(hp:H p=none):W.Ext { W with F:=upd W.F p o }/\Good K { W with F:=upd W.F p o } M (upd H p o):=by
 have fp:W.F p=none:=g.fh.free hp;have e:W.Ext { W with F:=upd W.F p o }:=⟨gU.upd fp,A6 _,fun _ _=>rfl⟩;refine⟨e,?_,g.n,fun i c hi hc=>?_,g.inj⟩
 .intro b u hb;have hb:upd W.F p o b=some u:=hb;by_cases q:b=p
  .subst q;rw[aX]at hb;rw[aX];exact hb
  .rw[aP q]at hb;rw[aP q];exact g.fh b u hb
 .obtain⟨h1,o',h2,h3⟩:=g.cs i c hi hc;have ne:W.α i≠p:=aO h2 hp;exact⟨by show upd W.F p o (W.α i)=none;rw[aP ne];exact h1,o',by rw[aP ne];exact h2,h3.up e⟩
noncomputable def Wd.more(W:Wd)(p:Addr):Wd:={ W with α:=fun i=>if i=W.n then p else W.α i,n:=W.n+1 }
theorem Wd.ext_more(W:Wd)(p:Addr):W.Ext (W.more p):=⟨gU.refl _,Nat.le_succ _,fun i h=>A7 (B8 h)⟩
theorem Good.new(g:Good K W M H){p:Addr}{c:Cell}{o:HO}(hp:H p=none)(r:JO K W p c o):Good K (W.more p) (M++[c]) (upd H p o):=by
 have e:=W.ext_more p
 have at_:∀i c',(M++[c])[i]?=some c'->(i<M.length/\M[i]?=some c')\/(i=M.length/\c'=c):=fun i c' h=>by
  by_cases q:i<M.length
  .rw[List.getElem?_append_left q]at h;exact .inl ⟨q,h⟩
  .rw[U7 (Nat.le_of_not_lt q)]at h
   have h':i-M.length=0:=by
    cases k:i-M.length with
    |zero=>rfl
    |succ m=>rw[k]at h;simp at h
   rw[h']at h;refine .inr ⟨by omega,?_⟩;simpa using h.symm
 have al:∀i,i<M.length->(W.more p).α i=W.α i:=fun i h=>e.al i (by rw[g.n];exact h);have an:(W.more p).α M.length=p:=by show(if M.length=W.n then p else _)=p;rw[A3 g.n.symm]
 have nep:∀i c',M[i]?=some c'->c'≠.dead->W.α i≠p:=fun i c' h hc=>by
  obtain⟨_,o',h2,_⟩:=g.cs i c' h hc;exact aO h2 hp
 refine⟨?_,?_,fun i c' hi hc=>?_,fun i j c1 c2 hi hj d1 d2 he=>?_⟩
 .intro b u hb;have:=g.fh b u hb;rw[aP (aO this hp)];exact this
 .show W.n+1=_;rw[g.n,B4];rfl
 .rcases at_ i c' hi with⟨q,h⟩|⟨rfl,rfl⟩
  .obtain⟨h1,o',h2,h3⟩:=g.cs i c' h hc;rw[al i q];exact⟨h1,o',by rw[aP (nep i c' h hc)];exact h2,h3.up e⟩
  .rw[an];exact⟨g.fh.free hp,o,aX,r.up e⟩
 .rcases at_ i c1 hi with⟨q,h⟩|⟨rfl,rfl⟩
  .rcases at_ j c2 hj with⟨q',h'⟩|⟨rfl,rfl⟩
   .rw[al i q,al j q']at he;exact g.inj i j c1 c2 h h' d1 d2 he
   .rw[al i q,an]at he;exact absurd he (nep i c1 h d1)
  .rcases at_ j c2 hj with⟨q',h'⟩|⟨rfl,rfl⟩
   .rw[an,al j q']at he;exact absurd he.symm (nep j c2 h' d2)
   .rfl
theorem Good.set(g:Good K W M H){i:Nat}{c c':Cell}{o':HO}(hi:M[i]?=some c)(hc:c≠.dead)(r:JO K W (W.α i) c' o'):Good K W (M.set i c') (upd H (W.α i) o'):=by
 obtain⟨h1,o,h2,h3⟩:=g.cs i c hi hc;have lt:i<M.length:=(List.getElem?_eq_some_iff.mp hi).1
 have at_:∀j d,(M.set i c')[j]?=some d->(j=i/\d=c')\/(j≠i/\M[j]?=some d):=fun j d h=>by
  by_cases q:i=j
  .subst q;rw[E3 lt]at h;exact .inl ⟨rfl,(C4 h).symm⟩
  .rw[F7 q]at h;exact .inr ⟨fun z=>q z.symm,h⟩
 refine⟨?_,by rw[g.n,List.length_set],fun j d hj hd=>?_,fun j k d1 d2 hj hk e1 e2 he=>?_⟩
 .intro b u hb;rw[aP (aO hb h1)];exact g.fh b u hb
 .rcases at_ j d hj with⟨rfl,rfl⟩|⟨q,h⟩
  .exact⟨h1,o',aX,r⟩
  .obtain⟨k1,u,k2,k3⟩:=g.cs j d h hd;have ne:W.α j≠W.α i:=fun z=>q (g.inj j i d c h hi hd hc z);exact⟨k1,u,by rw[aP ne];exact k2,k3⟩
 .rcases at_ j d1 hj with⟨rfl,rfl⟩|⟨q,h⟩<;>rcases at_ k d2 hk with⟨rfl,rfl⟩|⟨q',h'⟩
  .rfl
  .exact g.inj _ k c d2 hi h' hc e2 he
  .exact g.inj j _ d1 c h hi e1 hc he
  .exact g.inj j k d1 d2 h h' e1 e2 he
end
noncomputable abbrev Ga:=List (Option CD)
noncomputable abbrev Sto:=List Cell
noncomputable abbrev EF:=Ga->Sto->Option (CD×Sto)
noncomputable abbrev TF:=Ga->Sto->Option (Bool×Sto)
noncomputable abbrev AF:=Ga->Sto->Option (List CD×Sto)
inductive Out where
 |nx (γ:Ga)|bk (γ:Ga)|ct (γ:Ga)|rt (x:CD)
noncomputable abbrev SF:=Ga->Sto->Option (Out×Sto)
noncomputable abbrev GF:=CD->Ga->Sto->Option (Ga×Sto)
noncomputable abbrev GsF:=List CD->Ga->Sto->Option (Ga×Sto)
noncomputable abbrev F1:=CD->Sto->Option (CD×Sto)
noncomputable abbrev F2:=CD->CD->Sto->Option (CD×Sto)
noncomputable abbrev FN:=List CD->Sto->Option (CD×Sto)
section
variable(K:Fg)
noncomputable def SE(t:TE)(f:EF):Prop:=∀γ M x M',f γ M=some (x,M')->∀(W:Wd)(H:Hp)(σ:St)(Q:VK),Good K W M H->cL K W γ σ->(∀v W' H',W.Ext W'->Good K W' M' H'->cF K W' x v->Q v H')->t σ H Q
noncomputable def STt(t:TT)(f:TF):Prop:=∀γ M b M',f γ M=some (b,M')->∀(W:Wd)(H:Hp)(σ:St)(Q:Bool->Hp->Prop),Good K W M H->cL K W γ σ->(∀W' H',W.Ext W'->Good K W' M' H'->Q b H')->t σ H Q
noncomputable def SA(t:TA)(f:AF):Prop:=∀γ M xs M',f γ M=some (xs,M')->∀(W:Wd)(H:Hp)(σ:St)(Q:List V->Hp->Prop),Good K W M H->cL K W γ σ->(∀vs W' H',W.Ext W'->Good K W' M' H'->cC K W' xs vs->Q vs H')->t σ H Q
noncomputable def TN(D:Ends)(W:Wd)(H:Hp):Out->Prop
 |.nx γ=>∀σ,cL K W γ σ->D.nx σ H
 |.bk γ=>∀σ,cL K W γ σ->D.bk σ H
 |.ct γ=>∀σ,cL K W γ σ->D.ct σ H
 |.rt x=>∀v,cF K W x v->D.rt v H
noncomputable def SS(t:TS)(f:SF):Prop:=∀γ M o M',f γ M=some (o,M')->∀(W:Wd)(H:Hp)(σ:St)(D:Ends),Good K W M H->cL K W γ σ->(∀W' H',W.Ext W'->Good K W' M' H'->TN K D W' H' o)->t D σ H
noncomputable def SG(t:TG)(f:GF):Prop:=∀x γ M γ' M',f x γ M=some (γ',M')->∀(W:Wd)(H:Hp)(σ:St)(v:V)(Q:St->Hp->Prop),Good K W M H->cL K W γ σ->cF K W x v->(∀σ' W' H',W.Ext W'->Good K W' M' H'->cL K W' γ' σ'->Q σ' H')->t v σ H Q
noncomputable def SGs(t:TGs)(f:GsF):Prop:=∀xs γ M γ' M',f xs γ M=some (γ',M')->∀(W:Wd)(H:Hp)(σ:St)(vs:List V)(Q:St->Hp->Prop),Good K W M H->cL K W γ σ->cC K W xs vs->(∀σ' W' H',W.Ext W'->Good K W' M' H'->cL K W' γ' σ'->Q σ' H')->t vs σ H Q
noncomputable def P2(r:R2)(f:F2):Prop:=∀x y M z M',f x y M=some (z,M')->∀(W:Wd)(H:Hp)(v u:V)(Q:VK),Good K W M H->cF K W x v->cF K W y u->(∀w W' H',W.Ext W'->Good K W' M' H'->cF K W' z w->Q w H')->r v u H Q
noncomputable def P1(r:V->Hp->VK->Prop)(f:F1):Prop:=∀x M z M',f x M=some (z,M')->∀(W:Wd)(H:Hp)(v:V)(Q:VK),Good K W M H->cF K W x v->(∀w W' H',W.Ext W'->Good K W' M' H'->cF K W' z w->Q w H')->r v H Q
noncomputable def PN(r:List V->Hp->VK->Prop)(f:FN):Prop:=∀xs M z M',f xs M=some (z,M')->∀(W:Wd)(H:Hp)(vs:List V)(Q:VK),Good K W M H->cC K W xs vs->(∀w W' H',W.Ext W'->Good K W' M' H'->cF K W' z w->Q w H')->r vs H Q
noncomputable def spM(f:FN):Sp:=fun vs H Q _=>∃xs M W y M',Good K W M H/\cC K W xs vs/\f xs M=some (y,M')/\∀v W' H',W.Ext W'->Good K W' M' H'->cF K W' y v->Q v H'
end
noncomputable def aD(i:Nat):EF:=fun γ M=>match γ[i]? with
 |some (some x)=>some (x,M)
 |_=>none
noncomputable def fC(x:PyData):EF:=fun _ M=>some (.d x,M)
noncomputable def fOp(h:F2)(f g:EF):EF:=fun γ M=>(f γ M).bind fun r=>(g γ r.2).bind fun q=>h r.1 q.1 q.2
noncomputable def fUn(h:F1)(f:EF):EF:=fun γ M=>(f γ M).bind fun r=>h r.1 r.2
noncomputable def asB:CD->Option Bool
 |.d (.bool b)=>some b
 |_=>none
noncomputable def kS(f g:EF):EF:=fun γ M=>(f γ M).bind fun r=>(asB r.1).bind fun b=>if b=true then g γ r.2 else some (.d (.bool false),r.2)
noncomputable def fOr(f g:EF):EF:=fun γ M=>(f γ M).bind fun r=>(asB r.1).bind fun b=>if b=true then some (.d (.bool true),r.2)else g γ r.2
noncomputable def CQ(f:EF):EF:=fun γ M=>(f γ M).bind fun r=>(asB r.1).bind fun b=>some (.d (.bool (!b)),r.2)
noncomputable def fIf(t:TF)(f g:EF):EF:=fun γ M=>(t γ M).bind fun r=>if r.1=true then f γ r.2 else g γ r.2
noncomputable def aGg(f g:TF):TF:=fun γ M=>(f γ M).bind fun r=>if r.1=true then g γ r.2 else some (false,r.2)
noncomputable def gOr(f g:TF):TF:=fun γ M=>(f γ M).bind fun r=>if r.1=true then some (true,r.2)else g γ r.2
noncomputable def gN(f:TF):TF:=fun γ M=>(f γ M).bind fun r=>some (!r.1,r.2)
noncomputable def gB(f:EF):TF:=fun γ M=>(f γ M).bind fun r=>(asB r.1).bind fun b=>some (b,r.2)
noncomputable def wA(h h':F2)(f g e:EF):EF:=fun γ M=>(f γ M).bind fun r=>(g γ r.2).bind fun q=>(h r.1 q.1 q.2).bind fun z=>(asB z.1).bind fun b=>if b=true then(e γ z.2).bind fun w=>h' q.1 w.1 w.2 else some (.d (.bool false),z.2)
noncomputable def aH:AF:=fun _ M=>some ([],M)
noncomputable def aB(f:EF)(g:AF):AF:=fun γ M=>(f γ M).bind fun r=>(g γ r.2).bind fun q=>some (r.1::q.1,q.2)
noncomputable def lP:List CD->Option (List PyData)
 |[]=>some []
 |.d x::r=>(lP r).map (x::·)
 |.c _::_=>none
 |.t _::_=>none
 |.f _::_=>none
 |.g _::_=>none
noncomputable def dH(f:AF):EF:=fun γ M=>(f γ M).bind fun r=>(lP r.1).bind fun ds=>if ds.length<=sizeLine then some (.d (.tuple ds),r.2)else none
noncomputable def iK(f:AF):EF:=fun γ M=>(f γ M).bind fun r=>(lP r.1).bind fun ds=>if ds.length<=sizeLine then some (.d (.list ds),r.2)else none
noncomputable def xZ(f:AF):EF:=fun γ M=>(f γ M).bind fun r=>if r.1.length<=sizeLine then some (.c r.2.length,r.2++[.lst r.1])else none
noncomputable def aI(h:FN)(f:AF):EF:=fun γ M=>(f γ M).bind fun r=>h r.1 r.2
noncomputable def bQ:SF:=fun γ M=>some (.nx γ,M)
noncomputable def bB(f g:SF):SF:=fun γ M=>(f γ M).bind fun r=>match r.1 with
 |.nx γ'=>g γ' r.2
 |o=>some (o,r.2)
noncomputable def IJ(f:EF):SF:=fun γ M=>(f γ M).bind fun r=>some (.nx γ,r.2)
noncomputable def bD(f:EF):SF:=fun γ M=>(f γ M).bind fun r=>some (.rt r.1,r.2)
noncomputable def aEx:SF:=fun _ M=>some (.rt (.d .none),M)
noncomputable def sIf(c:TF)(f g:SF):SF:=fun γ M=>(c γ M).bind fun r=>if r.1=true then f γ r.2 else g γ r.2
noncomputable def bR(f:EF)(g:GF):SF:=fun γ M=>(f γ M).bind fun r=>(g r.1 γ r.2).bind fun q=>some (.nx q.1,q.2)
noncomputable def hName(i:Nat):GF:=fun x γ M=>some (γ.set i (some x),M)
noncomputable def yI:GsF:=fun xs γ M=>match xs with
 |[]=>some (γ,M)
 |_=>none
noncomputable def eG(f:GF)(g:GsF):GsF:=fun xs γ M=>match xs with
 |x::r=>(f x γ M).bind fun q=>g r q.1 q.2
 |[]=>none
noncomputable def aCw(n:Nat)(g:GsF):GF:=fun x γ M=>match x with
 |.d (.tuple ds)=>if ds.length=n then g (ds.map .d) γ M else none
 |.t xs=>if xs.length=n then g (xs.map cdA) γ M else none
 |_=>none
noncomputable abbrev F3:=CD->CD->CD->Sto->Option Sto
noncomputable def hSub(fo fi:EF)(s:F3):GF:=fun x γ M=>(fo γ M).bind fun r=>(fi γ r.2).bind fun q=>(s r.1 q.1 x q.2).bind fun M'=>some (γ,M')
noncomputable def DT(i j:Nat)(f:AF):SF:=fun γ M=>(f γ M).bind fun r=>match r.1 with
 |[x,y]=>some (.nx ((γ.set i (some x)).set j (some y)),r.2)
 |_=>none
noncomputable def gT(g:GF)(b:SF):List CD->Ga->Sto->Option (Out×Sto)
 |[],γ,M=>some (.nx γ,M)
 |x::xs,γ,M=>(g x γ M).bind fun r=>(b r.1 r.2).bind fun q=>match q.1 with
  |.nx γ'=>gT g b xs γ' q.2
  |.ct γ'=>gT g b xs γ' q.2
  |.bk γ'=>some (.nx γ',q.2)
  |.rt x=>some (.rt x,q.2)
noncomputable def rZ(f:AF)(g:GF)(b:SF):SF:=fun γ M=>(f γ M).bind fun r=>gT g b r.1 γ r.2
noncomputable def fE(c:TF)(b:SF):Nat->Ga->Sto->Option (Out×Sto)
 |0,_,_=>none
 |n+1,γ,M=>(c γ M).bind fun r=>if r.1=true then(b γ r.2).bind fun q=>match q.1 with
  |.nx γ'=>fE c b n γ' q.2
  |.ct γ'=>fE c b n γ' q.2
  |.bk γ'=>some (.nx γ',q.2)
  |.rt x=>some (.rt x,q.2)else some (.nx γ,r.2)
open Classical in
noncomputable def rF(c:TF)(b:SF):SF:=fun γ M=>if h:∃n,(fE c b n γ M).isSome=true then fE c b h.choose γ M else none
noncomputable def lcF(g:GF)(c:TF)(e:EF):List CD->Ga->Sto->Option (List CD×Sto)
 |[],γ,M=>some ([],M)
 |x::xs,γ,M=>(g x γ M).bind fun a=>(c a.1 a.2).bind fun b=>if b.1=true then(e a.1 b.2).bind fun r=>(lcF g c e xs a.1 r.2).bind fun q=>some (r.1::q.1,q.2)else lcF g c e xs a.1 b.2
noncomputable def vB(cap:List (Option Nat))(γ:Ga):Ga:=cap.map fun o=>o.bind fun j=>(γ[j]?).join
noncomputable def kY:TF:=fun _ M=>some (true,M)
noncomputable def qQ(cap:List (Option Nat))(f:AF)(g:GF)(c:TF)(e:EF):AF:=fun γ M=>(f γ M).bind fun r=>if r.1.length<=sizeLine then lcF g c e r.1 (vB cap γ) r.2 else none
noncomputable def fLc(cap:List (Option Nat))(f:AF)(g:GF)(c:TF)(e:EF):EF:=iK (qQ cap f g c e)
noncomputable def fnF(ps N:Nat)(b:SF):FN:=fun xs M=>if xs.length=ps then(b (xs.map some++List.replicate (N-xs.length) none) M).bind fun r=>match r.1 with
 |.rt x=>some (x,r.2)
 |.nx _=>some (.d .none,r.2)
 |_=>none else none
theorem aJ{α β:Type}{o:Option α}{k:α->Option β}{r:β}(h:o.bind k=some r):∃a,o=some a/\k a=some r:=by
 cases o with
 |none=>cases h
 |some a=>exact⟨a,rfl,h⟩
theorem Paired.get{α β:Type}{R:α->β->Prop}:∀{xs:List α}{ys:List β}{i:Nat}{x:α},Paired R xs ys->xs[i]?=some x->∃y,ys[i]?=some y/\R x y
 |_,_,_,_,.nil=>fun e=>by simp at e
 |_,_,0,_,.cons r _=>fun e=>by simp at e;subst e;exact⟨_,rfl,r⟩
 |_,_,i+1,x,.cons _ t=>fun e=>by
  obtain⟨u,h1,h2⟩:=Paired.get (i:=i) (x:=x) t (by simpa using e);exact⟨u,by simpa using h1,h2⟩
theorem Paired.set{α β:Type}{R:α->β->Prop}{x:α}{y:β}(r:R x y):∀{xs:List α}{ys:List β}(i:Nat),Paired R xs ys->Paired R (xs.set i x) (ys.set i y)
 |_,_,_,.nil=>.nil
 |_,_,0,.cons _ t=>.cons r t
 |_,_,i+1,.cons q t=>.cons q (Paired.set r i t)
theorem Paired.app{α β:Type}{R:α->β->Prop}:∀{xs xs':List α}{ys ys':List β},Paired R xs ys->Paired R xs' ys'->Paired R (xs++xs') (ys++ys')
 |_,_,_,_,.nil=>fun s=>s
 |_,_,_,_,.cons r t=>fun s=>.cons r (Paired.app t s)
theorem Paired.len{α β:Type}{R:α->β->Prop}{xs:List α}{ys:List β}(p:Paired R xs ys):xs.length=ys.length:=Paired.length p
section
variable{K:Fg}
theorem fR{W:Wd}:∀{xs:List CD}{ds:List PyData}{vs:List V},lP xs=some ds->cC K W xs vs->aM K W.F ds vs
 |[],ds,vs=>fun e h=>by
  cases e;cases h;rfl
 |.c _::_,ds,vs=>fun e h=>by cases e
 |.t _::_,ds,vs=>fun e h=>by cases e
 |.f _::_,ds,vs=>fun e h=>by cases e
 |.g _::_,ds,vs=>fun e h=>by cases e
 |.d x::r,ds,vs=>fun e h=>by
  cases h with
  |@cons _ v _ vs' h1 h2=>
   unfold lP at e;cases q:lP r with
   |none=>rw[q]at e;cases e
   |some es=>
    rw[q]at e;cases e;exact⟨v,vs',rfl,h1,fR q h2⟩
theorem HB{xs:List (PyData ⊕ Nat)}{vs:List V}(h:Paired (JL K W) xs vs):cC K W (xs.map cdA) vs:=by
 induction h with
 |nil=>exact .nil
 |@cons x v _ _ r _ ih=>exact .cons (by cases x<;>exact r) ih
theorem lW{W:Wd}:∀{ds:List PyData}{vs:List V},aM K W.F ds vs->cC K W (ds.map .d) vs
 |[],vs=>fun h=>by rw[show vs=[]from h];exact .nil
 |d::ds,vs=>fun h=>by
  obtain⟨v,r,rfl,h1,h2⟩:=h;exact .cons h1 (lW h2)
theorem EO:∀{xs:List CD}{ds:List PyData},lP xs=some ds->ds.length=xs.length
 |[],ds=>fun e=>by cases e;rfl
 |.c _::_,ds=>fun e=>by cases e
 |.t _::_,ds=>fun e=>by cases e
 |.f _::_,ds=>fun e=>by cases e
 |.g _::_,ds=>fun e=>by cases e
 |.d x::r,ds=>fun e=>by
  unfold lP at e;cases q:lP r with
  |none=>rw[q]at e;cases e
  |some es=>
   rw[q]at e;cases e;rw[C3,C3,EO q]
theorem aAT{i:Nat}:SE K (aFg i) (aD i):=by
 intro γ M x M' h W H σ Q g r k;unfold aD at h;cases e:γ[i]? with
 |none=>rw[e]at h;cases h
 |some o=>
  cases o with
  |none=>rw[e]at h;cases h
  |some y=>
   rw[e]at h;cases h;obtain⟨v,hv,rv⟩:=Paired.get r e;cases v with
   |none=>exact False.elim rv
   |some v=>exact⟨v,hv,k v W H (.refl _) g rv⟩
theorem QU{i:Int}:SE K (tC (.int i)) (fC (.int i)):=by
 intro γ M x M' h W H σ Q g r k;cases h;exact k _ W H (.refl _) g rfl
theorem aEy{b:Bool}:SE K (tC (.bl b)) (fC (.bool b)):=by
 intro γ M x M' h W H σ Q g r k;cases h;exact k _ W H (.refl _) g rfl
theorem aCi:SE K (tC .non) (fC .none):=by
 intro γ M x M' h W H σ Q g r k;cases h;exact k _ W H (.refl _) g rfl
theorem aCO{x:Str}:SE K (tC (.str x)) (fC (.str x)):=by
 intro γ M x M' h W H σ Q g r k;cases h;exact k _ W H (.refl _) g rfl
variable{ta tb tc:TE}{f g e:EF}{tt uu:TT}{ft gt:TF}{tA:TA}{fa:AF}
theorem JC{r:R2}{h:F2}(p:P2 K r h)(a:SE K ta f)(b:SE K tb g):SE K (tOp r ta tb) (fOp h f g):=by
 intro γ M x M' hh W H σ Q G R k;obtain⟨⟨y,M1⟩,h1,hh⟩:=aJ hh;obtain⟨⟨z,M2⟩,h2,hh⟩:=aJ hh;refine a _ _ _ _ h1 W H σ _ G R fun v W1 H1 e1 G1 r1=>?_;refine b _ _ _ _ h2 W1 H1 σ _ G1 (R.up e1) fun u W2 H2 e2 G2 r2=>?_;exact p _ _ _ _ _ hh W2 H2 v u Q G2 (r1.up e2) r2 fun w W3 H3 e3 G3 r3=>k w W3 H3 ((e1.trans e2).trans e3) G3 r3
theorem aEf{r:V->Hp->VK->Prop}{h:F1}(p:P1 K r h)(a:SE K ta f):SE K (tUn r ta) (fUn h f):=by
 intro γ M x M' hh W H σ Q G R k;obtain⟨⟨y,M1⟩,h1,hh⟩:=aJ hh;refine a _ _ _ _ h1 W H σ _ G R fun v W1 H1 e1 G1 r1=>?_;exact p _ _ _ _ hh W1 H1 v Q G1 r1 fun w W3 H3 e3 G3 r3=>k w W3 H3 (e1.trans e3) G3 r3
theorem xP{x:CD}{b:Bool}(h:asB x=some b):x=.d (.bool b):=by
 cases x with
 |c n=>cases h
 |t n=>cases h
 |f n=>cases h
 |g _=>cases h
 |d x=>cases x<;>first|cases h;rfl|cases h
theorem aBC(a:SE K ta f)(b:SE K tb g):SE K (aAF ta tb) (kS f g):=by
 intro γ M x M' hh W H σ Q G R k;obtain⟨⟨y,M1⟩,h1,hh⟩:=aJ hh;obtain⟨c,h2,hh⟩:=aJ hh;refine a _ _ _ _ h1 W H σ _ G R fun v W1 H1 e1 G1 r1=>?_;have hy:y=_:=xP h2;subst hy;refine⟨c,r1,?_⟩;cases c with
 |true=>rw[A3 rfl];rw[A3 rfl]at hh;exact b _ _ _ _ hh W1 H1 σ Q G1 (R.up e1) fun w W3 H3 e3 G3 r3=>k w W3 H3 (e1.trans e3) G3 r3
 |false=>
  rw[A7 A5];rw[A7 A5]at hh;cases hh;exact k _ W1 H1 e1 G1 rfl
theorem aFD(a:SE K ta f)(b:SE K tb g):SE K (aEF ta tb) (fOr f g):=by
 intro γ M x M' hh W H σ Q G R k;obtain⟨⟨y,M1⟩,h1,hh⟩:=aJ hh;obtain⟨c,h2,hh⟩:=aJ hh;refine a _ _ _ _ h1 W H σ _ G R fun v W1 H1 e1 G1 r1=>?_;have hy:y=_:=xP h2;subst hy;refine⟨c,r1,?_⟩;cases c with
 |true=>
  rw[A3 rfl];rw[A3 rfl]at hh;cases hh;exact k _ W1 H1 e1 G1 rfl
 |false=>rw[A7 A5];rw[A7 A5]at hh;exact b _ _ _ _ hh W1 H1 σ Q G1 (R.up e1) fun w W3 H3 e3 G3 r3=>k w W3 H3 (e1.trans e3) G3 r3
theorem aCh(a:SE K ta f):SE K (aAK ta) (CQ f):=by
 intro γ M x M' hh W H σ Q G R k;obtain⟨⟨y,M1⟩,h1,hh⟩:=aJ hh;obtain⟨c,h2,hh⟩:=aJ hh;refine a _ _ _ _ h1 W H σ _ G R fun v W1 H1 e1 G1 r1=>?_;have hy:y=_:=xP h2;subst hy;cases hh;exact⟨c,r1,k _ W1 H1 e1 G1 rfl⟩
theorem aEp(t:STt K tt ft)(a:SE K ta f)(b:SE K tb g):SE K (tIf tt ta tb) (fIf ft f g):=by
 intro γ M x M' hh W H σ Q G R k;obtain⟨⟨c,M1⟩,h1,hh⟩:=aJ hh;refine t _ _ _ _ h1 W H σ _ G R fun W1 H1 e1 G1=>?_;cases c with
 |true=>rw[A3 rfl];rw[A3 rfl]at hh;exact a _ _ _ _ hh W1 H1 σ Q G1 (R.up e1) fun w W3 H3 e3 G3 r3=>k w W3 H3 (e1.trans e3) G3 r3
 |false=>rw[A7 A5];rw[A7 A5]at hh;exact b _ _ _ _ hh W1 H1 σ Q G1 (R.up e1) fun w W3 H3 e3 G3 r3=>k w W3 H3 (e1.trans e3) G3 r3
theorem MU{r r':R2}{h h':F2}(p:P2 K r h)(p':P2 K r' h')(a:SE K ta f)(b:SE K tb g)(c:SE K tc e):SE K (NC r r' ta tb tc) (wA h h' f g e):=by
 intro γ M x M' hh W H σ Q G R k;obtain⟨⟨y,M1⟩,h1,hh⟩:=aJ hh;obtain⟨⟨z,M2⟩,h2,hh⟩:=aJ hh;obtain⟨⟨w,M3⟩,h3,hh⟩:=aJ hh;obtain⟨q,h4,hh⟩:=aJ hh;refine a _ _ _ _ h1 W H σ _ G R fun v W1 H1 e1 G1 r1=>?_;refine b _ _ _ _ h2 W1 H1 σ _ G1 (R.up e1) fun u W2 H2 e2 G2 r2=>?_;refine p _ _ _ _ _ h3 W2 H2 v u _ G2 (r1.up e2) r2 fun t W3 H3 e3 G3 r3=>?_;have hy:w=_:=xP h4;subst hy;refine⟨q,r3,?_⟩;have e13:=(e1.trans e2).trans e3;cases q with
 |true=>
  rw[A3 rfl];rw[A3 rfl]at hh;obtain⟨⟨m,M4⟩,h5,hh⟩:=aJ hh;refine c _ _ _ _ h5 W3 H3 σ _ G3 (R.up e13) fun o W4 H4 e4 G4 r4=>?_;exact p' _ _ _ _ _ hh W4 H4 u o Q G4 (r2.up (e3.trans e4)) r4 fun w W5 H5 e5 G5 r5=>k w W5 H5 ((e13.trans e4).trans e5) G5 r5
 |false=>
  rw[A7 A5];rw[A7 A5]at hh;cases hh;exact k _ W3 H3 e13 G3 rfl
theorem aEH(a:STt K tt ft)(b:STt K uu gt):STt K (tOr tt uu) (gOr ft gt):=by
 intro γ M x M' hh W H σ Q G R k;obtain⟨⟨c,M1⟩,h1,hh⟩:=aJ hh;refine a _ _ _ _ h1 W H σ _ G R fun W1 H1 e1 G1=>?_;cases c with
 |true=>rw[A3 rfl];rw[A3 rfl]at hh;cases hh;exact k W1 H1 e1 G1
 |false=>rw[A7 A5];rw[A7 A5]at hh;exact b _ _ _ _ hh W1 H1 σ Q G1 (R.up e1) fun W3 H3 e3 G3=>k W3 H3 (e1.trans e3) G3
theorem aDH(a:STt K tt ft):STt K (aEC tt) (gN ft):=by
 intro γ M x M' hh W H σ Q G R k;obtain⟨⟨c,M1⟩,h1,hh⟩:=aJ hh;cases hh;exact a _ _ _ _ h1 W H σ _ G R fun W1 H1 e1 G1=>k W1 H1 e1 G1
theorem aDV(a:SE K ta f):STt K (tB ta) (gB f):=by
 intro γ M x M' hh W H σ Q G R k;obtain⟨⟨y,M1⟩,h1,hh⟩:=aJ hh;obtain⟨c,h2,hh⟩:=aJ hh;refine a _ _ _ _ h1 W H σ _ G R fun v W1 H1 e1 G1 r1=>?_;have hy:y=_:=xP h2;subst hy;cases hh;exact⟨_,r1,k W1 H1 e1 G1⟩
theorem VF(a:SE K ta f):STt K (aAn ta) (gB f):=aDV a
theorem aCc:SA K FL aH:=by
 intro γ M x M' hh W H σ Q G R k;cases hh;exact k [] W H (.refl _) G .nil
theorem aAb(a:SE K ta f)(b:SA K tA fa):SA K (oD ta tA) (aB f fa):=by
 intro γ M x M' hh W H σ Q G R k;obtain⟨⟨y,M1⟩,h1,hh⟩:=aJ hh;obtain⟨⟨ys,M2⟩,h2,hh⟩:=aJ hh;cases hh;refine a _ _ _ _ h1 W H σ _ G R fun v W1 H1 e1 G1 r1=>?_;exact b _ _ _ _ h2 W1 H1 σ _ G1 (R.up e1) fun vs W2 H2 e2 G2 r2=>k _ W2 H2 (e1.trans e2) G2 (.cons (r1.up e2) r2)
theorem aDC(b:SA K tA fa):SE K (VL tA) (dH fa):=by
 intro γ M x M' hh W H σ Q G R k;obtain⟨⟨ys,M1⟩,h1,hh⟩:=aJ hh;obtain⟨ds,h2,hh⟩:=aJ hh;by_cases hl:ds.length<=sizeLine
 .rw[A3 hl]at hh;cases hh;refine b _ _ _ _ h1 W H σ _ G R fun vs W1 H1 e1 G1 r1=>?_;have ra:=fR h2 r1;refine⟨by rw[<- ra.length];exact hl,fun p hp=>?_⟩;obtain⟨e2,G2⟩:=G1.lay (o:=.tup vs) hp;exact k _ _ _ (e1.trans e2) G2 ⟨p,vs,rfl,SqT.of aX,aM.same e2.ff _ _ ra⟩
 .rw[A7 hl]at hh;cases hh
theorem aBU(b:SA K tA fa):SE K (aCE tA) (iK fa):=by
 intro γ M x M' hh W H σ Q G R k;obtain⟨⟨ys,M1⟩,h1,hh⟩:=aJ hh;obtain⟨ds,h2,hh⟩:=aJ hh;by_cases hl:ds.length<=sizeLine
 .rw[A3 hl]at hh;cases hh;refine b _ _ _ _ h1 W H σ _ G R fun vs W1 H1 e1 G1 r1=>?_;have ra:=fR h2 r1;refine⟨by rw[<- ra.length];exact hl,fun p hp=>?_⟩;obtain⟨e2,G2⟩:=G1.lay (o:=.lst vs) hp;exact k _ _ _ (e1.trans e2) G2 ⟨p,vs,rfl,SqL.of aX,aM.same e2.ff _ _ ra⟩
 .rw[A7 hl]at hh;cases hh
theorem Good.newV(g:Good K W M H){p:Addr}:cF K (W.more p) (.c M.length) (.ref p):=by
 refine⟨?_,?_⟩
 .show M.length<W.n+1;rw[g.n];exact E7 _
 .show V.ref p=.ref (if M.length=W.n then p else W.α M.length);rw[A3 g.n.symm]
theorem aCe(b:SA K tA fa):SE K (aCE tA) (xZ fa):=by
 intro γ M x M' hh W H σ Q G R k;obtain⟨⟨ys,M1⟩,h1,hh⟩:=aJ hh;by_cases hl:ys.length<=sizeLine
 .have hh:(if ys.length<=sizeLine then some (CD.c M1.length,M1++[Cell.lst ys])else none)=some (x,M'):=hh;rw[A3 hl]at hh;cases hh;refine b _ _ _ _ h1 W H σ _ G R fun vs W1 H1 e1 G1 r1=>?_;refine⟨by rw[<- Paired.len r1];exact hl,fun p hp=>?_⟩;exact k _ _ _ (e1.trans (W1.ext_more p)) (G1.new hp (c:=.lst ys) (o:=.lst vs) r1) G1.newV
 .have hh:(if ys.length<=sizeLine then some (CD.c M1.length,M1++[Cell.lst ys])else none)=some (x,M'):=hh;rw[A7 hl]at hh;cases hh
theorem WL{h:FN}(b:SA K tA fa):SE K (SH (spM K h) [] E0 tA) (aI h fa):=by
 intro γ M x M' hh W H σ Q G R k;obtain⟨⟨ys,M1⟩,h1,hh⟩:=aJ hh;refine b _ _ _ _ h1 W H σ _ G R fun vs W1 H1 e1 G1 r1=>?_;rw[D1];exact⟨ys,M1,W1,x,M',G1,r1,hh,fun v W2 H2 e2 G2 r2=>k v W2 H2 (e1.trans e2) G2 r2⟩
theorem aAC{r:List V->Hp->VK->Prop}{h:FN}(p:PN K r h)(b:SA K tA fa):SE K (tCB r tA) (aI h fa):=by
 intro γ M x M' hh W H σ Q G R k;obtain⟨⟨ys,M1⟩,h1,hh⟩:=aJ hh;refine b _ _ _ _ h1 W H σ _ G R fun vs W1 H1 e1 G1 r1=>?_;exact p _ _ _ _ hh W1 H1 vs Q G1 r1 fun v W2 H2 e2 G2 r2=>k v W2 H2 (e1.trans e2) G2 r2
end
section
variable{K:Fg}{ta tb tc:TE}{f g e:EF}{tt uu:TT}{ft gt:TF}{tA:TA}{fa:AF}{t u:TS}{p q:SF}{tg:TG}{hg:GF}{tgs:TGs}{hgs:GsF}
theorem ZR:SS K aAt bQ:=by
 intro γ M o M' hh W H σ D G R k;cases hh;exact k W H (.refl _) G σ R
theorem aDx(a:SS K t p)(b:SS K u q):SS K (aDO t u) (bB p q):=by
 intro γ M o M' hh W H σ D G R k;obtain⟨⟨o1,M1⟩,h1,hh⟩:=aJ hh;refine a _ _ _ _ h1 W H σ _ G R fun W1 H1 e1 G1=>?_;cases o1 with
 |nx γ1=>
  intro σ1 R1;exact b _ _ _ _ hh W1 H1 σ1 D G1 R1 fun W2 H2 e2 G2=>k W2 H2 (e1.trans e2) G2
 |bk γ1=>cases hh;exact k W1 H1 e1 G1
 |ct γ1=>cases hh;exact k W1 H1 e1 G1
 |rt x=>cases hh;exact k W1 H1 e1 G1
theorem WN(a:SE K ta f):SS K (UP ta) (IJ f):=by
 intro γ M o M' hh W H σ D G R k;obtain⟨⟨y,M1⟩,h1,hh⟩:=aJ hh;cases hh;exact a _ _ _ _ h1 W H σ _ G R fun v W1 H1 e1 G1 r1=>k W1 H1 e1 G1 σ (R.up e1)
theorem aBD(a:SE K ta f):SS K (aFn ta) (bD f):=by
 intro γ M o M' hh W H σ D G R k;obtain⟨⟨y,M1⟩,h1,hh⟩:=aJ hh;cases hh;exact a _ _ _ _ h1 W H σ _ G R fun v W1 H1 e1 G1 r1=>k W1 H1 e1 G1 v r1
theorem aFs(c:STt K tt ft)(a:SS K t p)(b:SS K u q):SS K (aBb tt t u) (sIf ft p q):=by
 intro γ M o M' hh W H σ D G R k;obtain⟨⟨c1,M1⟩,h1,hh⟩:=aJ hh;refine c _ _ _ _ h1 W H σ _ G R fun W1 H1 e1 G1=>?_;cases c1 with
 |true=>rw[A3 rfl];rw[A3 rfl]at hh;exact a _ _ _ _ hh W1 H1 σ D G1 (R.up e1) fun W3 H3 e3 G3=>k W3 H3 (e1.trans e3) G3
 |false=>rw[A7 A5];rw[A7 A5]at hh;exact b _ _ _ _ hh W1 H1 σ D G1 (R.up e1) fun W3 H3 e3 G3=>k W3 H3 (e1.trans e3) G3
theorem GJ(a:SE K ta f)(b:SG K tg hg):SS K (TQ ta tg) (bR f hg):=by
 intro γ M o M' hh W H σ D G R k;obtain⟨⟨y,M1⟩,h1,hh⟩:=aJ hh;obtain⟨⟨γ1,M2⟩,h2,hh⟩:=aJ hh;cases hh;refine a _ _ _ _ h1 W H σ _ G R fun v W1 H1 e1 G1 r1=>?_;exact b _ _ _ _ _ h2 W1 H1 σ v _ G1 (R.up e1) r1 fun σ' W2 H2 e2 G2 R2=>k W2 H2 (e1.trans e2) G2 σ' R2
theorem cL.set{σ:St}{x:CD}{v:V}(R:cL K W γ σ)(i:Nat)(r:cF K W x v):cL K W (γ.set i (some x)) (σ.set i (some v)):=Paired.set (R:=LB K W) (show LB K W (some x) (some v)from r) i R
theorem vO{i:Nat}:SG K (EL i) (hName i):=by
 intro x γ M γ' M' hh W H σ v Q G R r k;cases hh;exact k _ W H (.refl _) G (cL.set R i r)
theorem VX:SGs K aFm yI:=by
 intro xs γ M γ' M' hh W H σ vs Q G R r k;cases r with
 |nil=>cases hh;exact⟨rfl,k σ W H (.refl _) G R⟩
 |cons _ _=>cases hh
theorem TM(a:SG K tg hg)(b:SGs K tgs hgs):SGs K (aAL tg tgs) (eG hg hgs):=by
 intro xs γ M γ' M' hh W H σ vs Q G R r k;cases r with
 |nil=>cases hh
 |@cons x v xs vs r1 r2=>
  obtain⟨⟨γ1,M1⟩,h1,hh⟩:=aJ (show(hg x γ M).bind _=_ from hh);refine⟨v,vs,rfl,a _ _ _ _ _ h1 W H σ v _ G R r1 fun σ1 W1 H1 e1 G1 R1=>?_⟩;exact b _ _ _ _ _ hh W1 H1 σ1 vs _ G1 R1 (cC.up r2 e1) fun σ2 W2 H2 e2 G2 R2=>k σ2 W2 H2 (e1.trans e2) G2 R2
theorem aBT{n:Nat}(b:SGs K tgs hgs):SG K (XB K n tgs) (aCw n hgs):=by
 intro x γ M γ' M' hh W H σ v Q G R r k;cases x with
 |c _=>cases hh
 |f _=>cases hh
 |g _=>cases hh
 |t xs=>
  have hh:(if xs.length=n then hgs (xs.map cdA) γ M else none)=some (γ',M'):=hh;by_cases hl:xs.length=n
  .rw[A3 hl]at hh;obtain⟨a,vs,rfl,h2,h3⟩:=r;have hp:=HB h3;exact⟨a,vs,rfl,SqT.of (G.fh _ _ h2),by rw[<- hl];simpa using(Paired.len h3).symm,b _ _ _ _ _ hh W H σ vs Q G R hp k⟩
  .rw[A7 hl]at hh;cases hh
 |d x=>
  cases x with
  |tuple ds=>
   have hh:(if ds.length=n then hgs (ds.map .d) γ M else none)=some (γ',M'):=hh;by_cases hl:ds.length=n
   .rw[A3 hl]at hh;obtain⟨a,vs,rfl,h2,h3⟩:=(show ∃a vs,v=.ref a/\SqT K W.F a vs/\aM K W.F ds vs from r);exact⟨a,vs,rfl,G.fh.seqT h2,by rw[<- h3.length];exact hl,b _ _ _ _ _ hh W H σ vs Q G R (lW h3) k⟩
   .rw[A7 hl]at hh;cases hh
  |_=>cases hh
noncomputable def P3(K:Fg)(r:V->V->V->Hp->(Hp->Prop)->Prop)(f:F3):Prop:=∀x y z M M',f x y z M=some M'->∀(W:Wd)(H:Hp)(v u w:V)(Q:Hp->Prop),Good K W M H->cF K W x v->cF K W y u->cF K W z w->(∀W' H',W.Ext W'->Good K W' M' H'->Q H')->r v u w H Q
theorem aAR{r:ZA}{s:F3}(p:P3 K r s)(a:SE K ta f)(b:SE K tb g):SG K (aFw ta tb r) (hSub f g s):=by
 intro x γ M γ' M' hh W H σ v Q G R rv k;obtain⟨⟨o,M1⟩,h1,hh⟩:=aJ hh;obtain⟨⟨i,M2⟩,h2,hh⟩:=aJ hh;obtain⟨M3,h3,hh⟩:=aJ hh;cases hh;refine a _ _ _ _ h1 W H σ _ G R fun v1 W1 H1 e1 G1 r1=>?_;refine b _ _ _ _ h2 W1 H1 σ _ G1 (R.up e1) fun v2 W2 H2 e2 G2 r2=>?_;exact p _ _ _ _ _ h3 W2 H2 v1 v2 v _ G2 (r1.up e2) r2 (rv.up (e1.trans e2)) fun W3 H3 e3 G3=>k σ W3 H3 ((e1.trans e2).trans e3) G3 (R.up ((e1.trans e2).trans e3))
theorem aCN{i j:Nat}(b:SA K tA fa):SS K (aET i j tA) (DT i j fa):=by
 intro γ M o M' hh W H σ D G R k;obtain⟨⟨ys,M1⟩,h1,hh⟩:=aJ hh;refine b _ _ _ _ h1 W H σ _ G R fun vs W1 H1 e1 G1 r1=>?_;rcases r1 with _|⟨a1,_|⟨a2,_|_⟩⟩
 .cases hh
 .cases hh
 .cases hh;exact⟨_,_,rfl,k W1 H1 e1 G1 _ (cL.set (cL.set (R.up e1) i a1) j a2)⟩
 .cases hh
noncomputable def QV(K:Fg)(J:It)(xs:List CD)(W:Wd):Prop:=∀W' M' H',W.Ext W'->Good K W' M' H'->
 (∀i x,xs[i]?=some x->J.go i H'/\∀y H'',J.yld i H' y H''->∃W'',W'.Ext W''/\Good K W'' M' H''/\cF K W'' x y)/\J.stop xs.length H'
noncomputable def SI(K:Fg)(wi:TI)(f:AF):Prop:=∀γ M xs M',f γ M=some (xs,M')->∀(W:Wd)(H:Hp)(σ:St)(R:It->Hp->Prop),Good K W M H->cL K W γ σ->(∀J W' H',W.Ext W'->Good K W' M' H'->QV K J xs W'->R J H')->wi σ H R
noncomputable def dD(f:EF):AF:=fun γ M=>(f γ M).bind fun r=>match r.1 with
 |.d x=>(aW x).bind fun ds=>some (ds.map .d,r.2)
 |_=>none
theorem aBw(a:SE K ta f):SI K (aBm K ta) (dD f):=by
 intro γ M xs M' hh W H σ R G Rs k;obtain⟨⟨y,M1⟩,h1,hh⟩:=aJ hh;cases y with
 |c _=>cases hh
 |t _=>cases hh
 |f _=>cases hh
 |g _=>cases hh
 |d y=>
  obtain⟨ds,h2,hh⟩:=aJ (show(aW y).bind _=_ from hh);cases hh;refine a _ _ _ _ h1 W H σ _ G Rs fun v W1 H1 e1 G1 r1=>?_;obtain⟨p,vs,rfl,hs,hr⟩:=pX (show Rep K W1.F y v from r1) h2;refine⟨p,rfl,?_⟩
  have item:∀(i:Nat)(x:CD)(W2:Wd),W1.Ext W2->(ds.map CD.d)[i]?=some x->∃u,vs[i]?=some u/\cF K W2 x u:=fun i x W2 e2 hx=>by
   obtain⟨u,hu,ru⟩:=Paired.get (lW hr) hx;exact⟨u,hu,ru.up e2⟩
  have hlen:(ds.map CD.d).length=vs.length:=by rw[A2];exact hr.length
  rcases hs with hs|hs
  .refine .inl ⟨vs,G1.fh.seq hs,k _ W1 H1 e1 G1 fun W2 M2 H2 e2 G2=>?_⟩;have hs2:SqL K H2 p vs:=G2.fh.seq (e2.ff.seq hs);refine⟨fun i x hx=>?_,?_⟩
   .obtain⟨u,hu,ru⟩:=item i x W2 e2 hx;refine⟨⟨vs,u,hs2,hu⟩,fun y' H'' hy=>⟨W2,.refl _,by rw[hy.1];exact G2,?_⟩⟩;have:=hy.2 vs hs2;rw[hu]at this;cases this;exact ru
   .rw[hlen];exact⟨vs,hs2,A6 _⟩
  .refine .inr ⟨vs,G1.fh.seqT hs,k _ W1 H1 e1 G1 fun W2 M2 H2 e2 G2=>?_⟩;have hs2:SqT K H2 p vs:=G2.fh.seqT (e2.ff.seqT hs);refine⟨fun i x hx=>?_,?_⟩
   .obtain⟨u,hu,ru⟩:=item i x W2 e2 hx;refine⟨⟨vs,u,hs2,hu⟩,fun y' H'' hy=>⟨W2,.refl _,by rw[hy.1];exact G2,?_⟩⟩;have:=hy.2 vs hs2;rw[hu]at this;cases this;exact ru
   .rw[hlen];exact⟨vs,hs2,A6 _⟩
noncomputable def lH(lo:Int)(n:Nat):List CD:=(List.range n).map fun i=>.d (.int (lo+(i:Nat)))
theorem FD{lo:Int}{n i:Nat}{x:CD}(h:(lH lo n)[i]?=some x):i<n/\x=.d (.int (lo+i)):=by
 unfold lH at h;rw[D0]at h;by_cases hi:i<n
 .rw[O7 hi]at h;exact⟨hi,(C4 h).symm⟩
 .rw[List.getElem?_eq_none_iff.mpr (by simpa using hi)]at h;cases h
noncomputable def gI(i:Int):Bool:=decide (-(2 ^ 62)<=i)&&decide (i<2 ^ 62)
noncomputable def jK(f:AF):AF:=fun γ M=>(f γ M).bind fun r=>match r.1 with
 |[.d (.int j)]=>if gI j=true then some (lH 0 j.toNat,r.2)else none
 |_=>none
theorem LR{lo:Int}{n:Nat}:QV K (Itr lo n) (lH lo n) W:=fun W' M' H' e G=>
 ⟨fun i x hx=>⟨(FD hx).1,fun y H'' hy=>⟨W',.refl _,by rw[hy.1];exact G,by rw[(FD hx).2];exact hy.2⟩⟩,by show n<=_;simp[lH]⟩
theorem wI{i:Int}(h:gI i=true):-(2 ^ 62)<=i/\i<2 ^ 62:=by
 unfold gI at h;rw[B6]at h;exact⟨C0 h.1,C0 h.2⟩
theorem VM(b:SA K tA fa):SI K (aAf tA) (jK fa):=by
 intro γ M xs M' hh W H σ R G Rs k;obtain⟨⟨ys,M1⟩,h1,hh⟩:=aJ hh;refine b _ _ _ _ h1 W H σ _ G Rs fun vs W1 H1 e1 G1 r1=>?_;revert hh;dsimp only;split
 .rename_i j;intro hh;by_cases hs:gI j=true
  .rw[A3 hs]at hh;cases hh;cases r1 with
   |cons r r'=>
    cases r';exact⟨j,by rw[show _=V.int j from r],(wI hs).1,(wI hs).2,k _ W1 H1 e1 G1 LR⟩
  .rw[A7 hs]at hh;cases hh
 .intro hh;cases hh
theorem aCq{wi:TI}(i:SI K wi fa)(a:SG K tg hg)(b:SS K t p):SS K (aDY wi tg t) (rZ fa hg p):=by
 intro γ M o M' hh W H σ D G R k;obtain⟨⟨xs,M1⟩,h1,hh⟩:=aJ hh;have hh:gT hg p xs γ M1=some (o,M'):=hh;refine i _ _ _ _ h1 W H σ _ G R fun J W1 H1 e1 G1 gv=>?_;refine⟨fun j m σ' H'=>∃γ' M2 W2,j<=xs.length/\m=xs.length-j/\W1.Ext W2/\Good K W2 M2 H'/\cL K W2 γ' σ'/\gT hg p (xs.drop j) γ' M2=some (o,M'),⟨_,γ,M1,W1,D2 _,rfl,.refl _,G1,R.up e1,hh⟩,?_⟩;rintro j m σ' H' ⟨γ',M2,W2,hj,rfl,e2,G2,R2,h2⟩;obtain⟨gv1,gv2⟩:=gv W2 M2 H' e2 G2;by_cases hlt:j<xs.length
 .obtain⟨go,yl⟩:=gv1 j xs[j] (B9 hlt);rw[List.drop_eq_getElem_cons hlt]at h2;refine .inr ⟨go,fun σ3 H3=>∃γ3 M3 W3,W2.Ext W3/\Good K W3 M3 H3/\cL K W3 γ3 σ3/\gT hg p (xs.drop (j+1)) γ3 M3=some (o,M'),?_,fun y H3 hy=>?_⟩
  .rintro σ3 H3 ⟨γ3,M3,W3,e3,G3,R3,h3⟩;exact⟨_,by omega,γ3,M3,W3,hlt,rfl,e2.trans e3,G3,R3,h3⟩
  .obtain⟨W8,e8,G8,ry⟩:=yl y H3 hy;obtain⟨⟨γ4,M4⟩,h4,h2⟩:=aJ (show(hg xs[j] γ' M2).bind _=_ from h2);obtain⟨⟨o5,M5⟩,h5,h2⟩:=aJ h2;refine a _ _ _ _ _ h4 W8 _ σ' y _ G8 (R2.up e8) ry fun σ4 W4 H4 e4 G4 R4=>?_;refine b _ _ _ _ h5 W4 H4 σ4 _ G4 R4 fun W5 H5 e5 G5=>?_;have e25:=(e8.trans e4).trans e5;cases o5 with
   |nx γ5=>exact fun σ5 R5=>⟨γ5,M5,W5,e25,G5,R5,h2⟩
   |ct γ5=>exact fun σ5 R5=>⟨γ5,M5,W5,e25,G5,R5,h2⟩
   |bk γ5=>cases h2;exact k W5 H5 ((e1.trans e2).trans e25) G5
   |rt x=>cases h2;exact k W5 H5 ((e1.trans e2).trans e25) G5
 .have e:j=xs.length:=by omega
  subst e;rw[List.drop_length]at h2;cases h2;exact .inl ⟨gv2,k W2 H' (e1.trans e2) G2 σ' R2⟩
theorem OM(c:STt K tt ft)(b:SS K t p):SS K (NH tt t) (rF ft p):=by
 intro γ M o M' hh W H σ D G R k;unfold rF at hh;by_cases hex:∃n,(fE ft p n γ M).isSome=true
 .rw[dif_pos hex]at hh;generalize hex.choose=n at hh;refine⟨fun m σ' H'=>∃γ' M2 W2,W.Ext W2/\Good K W2 M2 H'/\cL K W2 γ' σ'/\fE ft p m γ' M2=some (o,M'),⟨n,γ,M,W,.refl _,G,R,hh⟩,?_⟩;rintro m σ' H' ⟨γ',M2,W2,e2,G2,R2,h2⟩;cases m with
  |zero=>cases h2
  |succ m=>
   obtain⟨⟨c3,M3⟩,h3,h2⟩:=aJ (show(ft γ' M2).bind _=_ from h2);refine c _ _ _ _ h3 W2 H' σ' _ G2 R2 fun W3 H3 e3 G3=>?_;cases c3 with
   |true=>
    rw[A3 rfl];rw[A3 rfl]at h2;obtain⟨⟨o4,M4⟩,h4,h2⟩:=aJ h2;refine⟨fun σ4 H4=>∃γ4 M4 W4,W2.Ext W4/\Good K W4 M4 H4/\cL K W4 γ4 σ4/\fE ft p m γ4 M4=some (o,M'),?_,?_⟩
    .rintro σ4 H4 ⟨γ4,M4,W4,e4,G4,R4,h4⟩;exact⟨m,E7 _,γ4,M4,W4,e2.trans e4,G4,R4,h4⟩
    .refine b _ _ _ _ h4 W3 H3 σ' _ G3 (R2.up e3) fun W5 H5 e5 G5=>?_;have e25:=e3.trans e5;cases o4 with
     |nx γ5=>exact fun σ5 R5=>⟨γ5,M4,W5,e25,G5,R5,h2⟩
     |ct γ5=>exact fun σ5 R5=>⟨γ5,M4,W5,e25,G5,R5,h2⟩
     |bk γ5=>cases h2;exact k W5 H5 (e2.trans e25) G5
     |rt x=>cases h2;exact k W5 H5 (e2.trans e25) G5
   |false=>
    rw[A7 A5];rw[A7 A5]at h2;cases h2;exact k W3 H3 (e2.trans e3) G3 σ' (R2.up e3)
 .rw[dif_neg hex]at hh;cases hh
theorem kL{c:TF}{b:SF}:∀{n m:Nat}{γ:Ga}{M:Sto}{r:Out×Sto},fE c b n γ M=some r->n<=m->fE c b m γ M=some r
 |0,_,_,_,_=>fun h _=>by cases h
 |n+1,0,_,_,_=>fun _ h=>by omega
 |n+1,m+1,γ,M,r=>fun h hl=>by
  obtain⟨⟨b1,M1⟩,h1,h⟩:=aJ (show(c γ M).bind _=_ from h);show(c γ M).bind _=_;rw[h1];show(if b1=true then _ else _)=_;cases b1 with
  |false=>exact h
  |true=>
   rw[A3 rfl];rw[A3 rfl]at h;obtain⟨⟨o,M2⟩,h2,h⟩:=aJ h;rw[h2];cases o with
   |nx γ'=>exact kL (n:=n) (m:=m) h (by omega)
   |ct γ'=>exact kL (n:=n) (m:=m) h (by omega)
   |bk γ'=>exact h
   |rt x=>exact h
theorem DI{c:TF}{b:SF}{n:Nat}{r:Out×Sto}(h:fE c b n γ M=some r):rF c b γ M=some r:=by
 unfold rF;have hex:∃n,(fE c b n γ M).isSome=true:=⟨n,by rw[h];rfl⟩;rw[dif_pos hex];have hs:=hex.choose_spec;cases q:fE c b hex.choose γ M with
 |none=>rw[q]at hs;cases hs
 |some r'=>
  rcases Nat.le_total n hex.choose with z|z
  .rw[kL h z]at q;exact q.symm▸rfl
  .rw[kL q z]at h;exact h
theorem AH{W:Wd}{γ:Ga}{σ:St}(R:cL K W γ σ):∀cap:List (Option Nat),cL K W (vB cap γ) (mO cap σ)
 |[]=>.nil
 |none::r=>.cons True.intro (AH R r)
 |some j::r=>by
  refine .cons ?_ (AH R r);show LB K W ((γ[j]?).join) ((σ[j]?).join);cases e:γ[j]? with
  |none=>
   have:σ[j]?=none:=by
    have hl:=Paired.len R;exact List.getElem?_eq_none_iff.mpr (by have:=List.getElem?_eq_none_iff.mp e;omega)
   rw[this];exact True.intro
  |some x=>
   obtain⟨y,hy,r'⟩:=Paired.get R e;rw[hy];exact r'
theorem aBg{wi:TI}{cap:List (Option Nat)}{te:TE}{fe:EF}(i:SI K wi fa)(a:SG K tg hg)(c:STt K tt ft)(b:SE K te fe){xs:List CD}{M':Sto}(hh:qQ cap fa hg ft fe γ M=some (xs,M'))
 {W:Wd} {H:Hp} {σ:St} {Q:VK} (G:Good K W M H) (R:cL K W γ σ) (k:∀vs W' H',W.Ext W'->Good K W' M' H'->cC K W' xs vs->∀p,H' p=none->Q (.ref p) (upd H' p (.lst vs))):tLc cap wi tg tt te σ H Q:=by
 obtain⟨⟨ys,M1⟩,h1,hh⟩:=aJ hh;have hh:(if ys.length<=sizeLine then lcF hg ft fe ys (vB cap γ) M1 else none)=some (xs,M'):=hh;by_cases hl:ys.length<=sizeLine
 .rw[A3 hl]at hh;refine i _ _ _ _ h1 W H σ _ G R fun J W1 H1 e1 G1 gv=>?_
  refine⟨fun j m acc σ' H'=>∃γ' M2 W2 pre suf,j<=ys.length/\m=ys.length-j/\acc.length<=j/\W1.Ext W2/\Good K W2 M2 H'/\cL K W2 γ' σ'/\cC K W2 pre acc/\pre++suf=xs/\lcF hg ft fe (ys.drop j) γ' M2=some (suf,M'),
   ⟨_,vB cap γ,M1,W1,[],xs,D2 _,rfl,D2 _,.refl _,G1,AH (R.up e1) cap,.nil,rfl,hh⟩,?_⟩
  rintro j m acc σ' H' ⟨γ',M2,W2,pre,suf,hj,rfl,hacc,e2,G2,R2,rp,hx,h2⟩;obtain⟨gv1,gv2⟩:=gv W2 M2 H' e2 G2;by_cases hlt:j<ys.length
  .obtain⟨go,yl⟩:=gv1 j ys[j] (B9 hlt);rw[List.drop_eq_getElem_cons hlt]at h2;refine .inr ⟨go,by omega,fun acc3 σ3 H3=>∃γ3 M3 W3 pre3 suf3,acc3.length<=j+1/\W2.Ext W3/\Good K W3 M3 H3/\cL K W3 γ3 σ3/\cC K W3 pre3 acc3/\pre3++suf3=xs/\lcF hg ft fe (ys.drop (j+1)) γ3 M3=some (suf3,M'),?_,fun y H3 hy=>?_⟩
   .rintro acc3 σ3 H3 ⟨γ3,M3,W3,pre3,suf3,hl3,e3,G3,R3,rp3,hx3,h3⟩;exact⟨_,by omega,γ3,M3,W3,pre3,suf3,hlt,rfl,hl3,e2.trans e3,G3,R3,rp3,hx3,h3⟩
   .obtain⟨W8,e8,G8,ry⟩:=yl y H3 hy;obtain⟨⟨γ4,M4⟩,h4,h2⟩:=aJ (show(hg ys[j] γ' M2).bind _=_ from h2);obtain⟨⟨b5,M5⟩,h5,h2⟩:=aJ h2;refine a _ _ _ _ _ h4 W8 _ σ' y _ G8 (R2.up e8) ry fun σ4 W4 H4 e4 G4 R4=>?_;refine c _ _ _ _ h5 W4 H4 σ4 _ G4 R4 fun W5 H5 e5 G5=>?_;have e25:=(e8.trans e4).trans e5;cases b5 with
    |true=>
     rw[A3 rfl]at h2;obtain⟨⟨z,M6⟩,h6,h2⟩:=aJ h2;obtain⟨⟨zs,M7⟩,h7,h2⟩:=aJ h2;cases h2;refine .inl ⟨rfl,b _ _ _ _ h6 W5 H5 σ4 _ G5 (R4.up e5) fun v W6 H6 e6 G6 r6=>?_⟩;refine⟨γ4,M6,W6,pre++[z],zs,by rw[B4];simp only[List.length_singleton];omega,e25.trans e6,G6,R4.up (e5.trans e6),Paired.app (cC.up rp (e25.trans e6)) (.cons r6 .nil),by rw[<- hx,D9];rfl,h7⟩
    |false=>
     rw[A7 A5]at h2;exact .inr ⟨rfl,γ4,M5,W5,pre,suf,by omega,e25,G5,R4.up e5,cC.up rp e25,hx,h2⟩
  .have e:j=ys.length:=by omega
   subst e;rw[List.drop_length]at h2;cases h2;rw[D1]at hx;subst hx;exact .inl ⟨gv2,k acc W2 H' (e1.trans e2) G2 rp⟩
 .rw[A7 hl]at hh;cases hh
theorem QB{wi:TI}{cap:List (Option Nat)}{te:TE}{fe:EF}(i:SI K wi fa)(a:SG K tg hg)(c:STt K tt ft)(b:SE K te fe):SE K (tLc cap wi tg tt te) (fLc cap fa hg ft fe):=by
 intro γ M x M' hh W H σ Q G R k;obtain⟨⟨ys,M1⟩,h1,hh⟩:=aJ hh;obtain⟨ds,h2,hh⟩:=aJ hh;by_cases hl:ds.length<=sizeLine
 .rw[A3 hl]at hh;cases hh;refine aBg i a c b h1 G R fun vs W1 H1 e1 G1 r1 p hp=>?_;obtain⟨e2,G2⟩:=G1.lay (o:=.lst vs) hp;exact k _ _ _ (e1.trans e2) G2 ⟨p,vs,rfl,SqL.of aX,aM.same e2.ff _ _ (fR h2 r1)⟩
 .rw[A7 hl]at hh;cases hh
theorem aAS:STt K aDU kY:=by
 intro γ M x M' hh W H σ Q G R k;cases hh;exact k W H (.refl _) G
theorem cC.some{W:Wd}:∀{xs:List CD}{vs:List V},cC K W xs vs->cL K W (xs.map some) (vs.map some)
 |_,_,.nil=>.nil
 |_,_,.cons r t=>.cons r (cC.some t)
theorem sE{W:Wd}:∀n:Nat,cL K W (List.replicate n none) (List.replicate n none)
 |0=>.nil
 |n+1=>.cons True.intro (sE n)
theorem Def.okM{P:Program}{w:World}{mg:Str->Option Value}{base:Heap}{x:Str}{st:Stmt}{N ps:List Str}{k:Nat}{b:SF}{q:Bool}(D:Def K mg x st)(S:aT N ps (aG st))
 (hb:∀(kV doc pm:Value)(an:Option Addr)(cdv ct:Value)(us:List Value),us.length=ps.length->bindArgs (PySem.W.fnOf x x (fN st) (cE st) (aG st) .none kV doc pm an cdv ct) ⟨us,[]⟩=pure (ps.zip us))
 (hbody:∀(f:Addr)(cdv:Value)(A:Around)(outer:List Env)(s:Shared)(H:Hp)(E:XK),cX k (A.deeper (envOfC x (aG st) s.heap.objs.size f cdv)) q->
  ∃t,PSs (mK CX0 P w K mg base N x (aG st) f cdv A outer s H E q).nox (cE st) t/\SS K t b):Callee P w K mg base (k+1) x ps (spM K (fnF ps.length N.length b)) q:=by
 have len:∀vs H Q E,spM K (fnF ps.length N.length b) vs H Q E->vs.length=ps.length:=fun vs H Q E h=>by
  obtain⟨xs,M,W,y,M',G,R,hf,_⟩:=h;by_cases hl:xs.length=ps.length
  .rw[<- Paired.len R];exact hl
  .unfold fnF at hf;rw[A7 hl]at hf;cases hf
 refine D.ok S hb len fun f cdv A outer s H vs Q E hr h=>?_;obtain⟨t,hP,hS⟩:=hbody f cdv A outer s H E hr;refine⟨t,hP,?_⟩;obtain⟨xs,M,W,y,M',G,R,hf,k⟩:=h;by_cases hl:xs.length=ps.length
 .unfold fnF at hf;rw[A3 hl]at hf;obtain⟨⟨o,M1⟩,h1,hf⟩:=aJ hf
  have hR:cL K W (xs.map some++List.replicate (N.length-xs.length) none) (start N vs):=by
   unfold start;rw[<- Paired.len R];exact Paired.app (cC.some R) (sE _)
  refine hS _ _ _ _ h1 W H _ _ G hR fun W1 H1 e1 G1=>?_;cases o with
  |rt x=>cases hf;exact fun v r=>k v W1 H1 e1 G1 r
  |nx γ=>cases hf;exact fun σ r=>k .non W1 H1 e1 G1 rfl
  |bk γ=>cases hf
  |ct γ=>cases hf
 .unfold fnF at hf;rw[A7 hl]at hf;cases hf
end
noncomputable def GV(h h':F2):F2:=fun x y M=>match h x y M with
 |some r=>some r
 |none=>h' x y M
noncomputable def pI(g:Int->Int->Option PyData):F2:=fun x y M=>match x,y with
 |.d (.int i),.d (.int j)=>(g i j).bind fun z=>some (.d z,M)
 |_,_=>none
theorem RU{g:Int->Int->Option PyData}{x y:CD}{z:CD}{M':Sto}(h:pI g x y M=some (z,M')):∃i j w,x=.d (.int i)/\y=.d (.int j)/\g i j=some w/\z=.d w/\M'=M:=by
 unfold pI at h;split at h
 .rename_i i j;obtain⟨w,h1,h⟩:=aJ h;cases h;exact⟨i,j,w,rfl,rfl,h1,rfl,rfl⟩
 .cases h
section
variable{X:Cx}{K:Fg}
theorem aAq{g:Int->Int->Int}:P2 K (rI0 fun i j=>.int (g i j)) (pI fun i j=>some (.int (g i j))):=by
 intro x y M z M' h W H v u Q G rx ry k;obtain⟨i,j,w,rfl,rfl,hw,rfl,rfl⟩:=RU h;cases hw;exact⟨i,j,rx,ry,k _ W H (.refl _) G rfl⟩
theorem JA{g:Int->Int->Bool}:P2 K (rI0 fun i j=>.bl (g i j)) (pI fun i j=>some (.bool (g i j))):=by
 intro x y M z M' h W H v u Q G rx ry k;obtain⟨i,j,w,rfl,rfl,hw,rfl,rfl⟩:=RU h;cases hw;exact⟨i,j,rx,ry,k _ W H (.refl _) G rfl⟩
noncomputable def ifS(c:Bool)(x:PyData):Option PyData:=if c=true then some x else none
theorem aDJ{c:Bool}{x y:PyData}(h:ifS c x=some y):c=true/\y=x:=by
 unfold ifS at h;cases c with
 |true=>rw[A3 rfl]at h;cases h;exact⟨rfl,rfl⟩
 |false=>rw[A7 A5]at h;cases h
theorem aAa{C:Int->Int->Prop}{c:Int->Int->Bool}{g:Int->Int->Int}(hc:∀i j,c i j=true->C i j):P2 K (rI C fun i j=>.int (g i j)) (pI fun i j=>ifS (c i j) (.int (g i j))):=by
 intro x y M z M' h W H v u Q G rx ry k;obtain⟨i,j,w,rfl,rfl,hw,rfl,rfl⟩:=RU h;obtain⟨h1,rfl⟩:=aDJ hw;exact⟨i,j,rx,ry,hc i j h1,k _ W H (.refl _) G rfl⟩
noncomputable def aBc:F2:=pI fun i j=>some (.int (i+j))
noncomputable def uW:F2:=pI fun i j=>some (.int (i-j))
noncomputable def iA(i j:Int):Bool:=decide (i.natAbs<2 ^ 64) || decide (j.natAbs<2 ^ 64) || (decide (i.natAbs<uL)&&decide (j.natAbs<uL))
noncomputable def tL:F2:=pI fun i j=>ifS (iA i j) (.int (i*j))
noncomputable def oU(_ j:Int):Bool:=decide (0<j)&&decide (j.natAbs<uL)
noncomputable def nO:F2:=pI fun i j=>ifS (oU i j) (.int (i / j))
noncomputable def pL(_ j:Int):Bool:=decide (0<j)
noncomputable def oF:F2:=pI fun i j=>ifS (pL i j) (.int (i % j))
noncomputable def wH(i j:Int):Bool:=decide (0<=j)&&decide (j<=1000000)&&decide (i.natAbs<2 ^ 64)
noncomputable def uX:F2:=pI fun i j=>ifS (wH i j) (.int (i ^ j.toNat))
theorem mulOk_of{i j:Int}(h:iA i j=true):EZ i j:=by
 unfold iA at h;simp only[Bool.or_eq_true,Bool.and_eq_true,decide_eq_true_eq]at h;rcases h with(h|h)|h
 .exact .inl (.inl ⟨by omega,by omega⟩)
 .exact .inl (.inr ⟨by omega,by omega⟩)
 .exact .inr h
noncomputable def ltI:F2:=pI fun i j=>some (.bool (decide (i<j)))
noncomputable def leI:F2:=pI fun i j=>some (.bool (decide (i<=j)))
noncomputable def gtI:F2:=pI fun i j=>some (.bool (decide (j<i)))
noncomputable def geI:F2:=pI fun i j=>some (.bool (decide (j<=i)))
noncomputable def eqD(neg:Bool):F2:=fun x y M=>match x,y with
 |.d a,.d b=>if (SeqAt.shaped a&&SeqAt.shaped b)=true then some (.d (.bool (if neg then !PyData.eqv a b else PyData.eqv a b)),M)else none
 |_,_=>none
theorem aAz{neg:Bool}:P2 K (OI K neg) (eqD neg):=by
 intro x y M z M' h W H v u Q G rx ry k;unfold eqD at h;split at h
 .rename_i a b;by_cases hs:(SeqAt.shaped a&&SeqAt.shaped b)=true
  .rw[A3 hs]at h;cases h;rw[B6]at hs;exact⟨a,b,Rep.same G.fh _ _ rx,Rep.same G.fh _ _ ry,hs.1,hs.2,k _ W H (.refl _) G rfl⟩
  .rw[A7 hs]at h;cases h
 .cases h
noncomputable def inD(neg:Bool):F2:=fun x y M=>match x,y with
 |.d a,.d b=>(aW b).bind fun ds=>if (SeqAt.shaped a&&ds.all SeqAt.shaped)=true then some (.d (.bool (if neg then !ds.any fun d=>PyData.eqv d a else ds.any fun d=>PyData.eqv d a)),M)else none
 |_,_=>none
theorem aFF{neg:Bool}:P2 K (WU K neg) (inD neg):=by
 intro x y M z M' h W H v u Q G rx ry k;unfold inD at h;split at h
 .rename_i a b;obtain⟨ds,h1,h⟩:=aJ h;by_cases hs:(SeqAt.shaped a&&ds.all SeqAt.shaped)=true
  .rw[A3 hs]at h;cases h;rw[B6]at hs;obtain⟨p,vs,rfl,hq,hr⟩:=pX (Rep.same G.fh _ _ ry) h1;exact⟨a,ds,p,vs,Rep.same G.fh _ _ rx,rfl,hq,hr,hs.1,hs.2,k _ W H (.refl _) G rfl⟩
  .rw[A7 hs]at h;cases h
 .cases h
theorem aM.nth{ds:List PyData}{vs:List V}{i:Nat}{d:PyData}(h:aM K H ds vs)(e:ds[i]?=some d):∃v,vs[i]?=some v/\Rep K H d v:=by
 have hlt:i<vs.length:=by rw[<- h.length];exact(List.getElem?_eq_some_iff.mp e).1
 have hv:vs[i]?=some vs[i]:=B9 hlt;obtain⟨d',hd',r⟩:=h.get hv;rw[e]at hd';cases hd';exact⟨_,hv,r⟩
theorem FI{α:Type}{xs:List α}{i:Int}{x:α}(h:atI xs i=some x):∃j,ixN xs.length i=some j/\xs[j]?=some x:=by
 unfold atI at h;exact aJ h
theorem AO{α:Type}{xs:List α}{i:Int}{j:Nat}{x:α}(h:ixN xs.length i=some j)(e:xs[j]?=some x):atI xs i=some x:=by
 unfold atI;rw[h];exact e
noncomputable def ixF:F2:=fun x y M=>match x,y with
 |.d a,.d (.int n)=>(aW a).bind fun ds=>(atI ds n).bind fun e=>some (.d e,M)
 |.c i,.d (.int n)=>match M[i]? with
  |some (.lst xs)=>(atI xs n).bind fun e=>some (e,M)
  |_=>none
 |.t xs,.d (.int n)=>(atI xs n).bind fun e=>some (cdA e,M)
 |_,_=>none
theorem Good.lstAt{i:Nat}{xs:List CD}(G:Good K W M H)(h:M[i]?=some (.lst xs)):∃vs,H (W.α i)=some (.lst vs)/\cC K W xs vs:=by
 obtain⟨_,o,h2,h3⟩:=G.cs i _ h (by intro z;cases z);cases o with
 |lst vs=>exact⟨vs,h2,h3⟩
 |_=>exact False.elim h3
theorem aEN:P2 K (rIx K) ixF:=by
 intro x y M z M' h W H v u Q G rx ry k;unfold ixF at h;split at h
 .rename_i a n;obtain⟨ds,h1,h⟩:=aJ h;obtain⟨e,h2,h⟩:=aJ h;cases h;obtain⟨p,vs,rfl,hq,hr⟩:=pX (Rep.same G.fh _ _ rx) h1;obtain⟨j,hj,he⟩:=FI h2;obtain⟨w,hw,rw'⟩:=hr.nth he;have hlen:=hr.length;have hat:atI vs n=some w:=AO (by rw[<- hlen];exact hj) hw;obtain⟨p',vs',e',hq',hr'⟩:=pX (show Rep K W.F a (.ref p)from rx) h1;cases e'
  have same:∀w',vs'[j]?=some w'->Rep K W.F e w':=fun w' hw'=>by
   obtain⟨w2,h3,h4⟩:=hr'.nth he;rw[hw']at h3;cases h3;exact h4
  obtain⟨w',hw',r'⟩:=hr'.nth he;have hat':atI vs' n=some w':=AO (by rw[<- hr'.length];exact hj) hw';rcases hq' with hq'|hq'
  .exact .inl ⟨p,vs',n,w',rfl,ry,G.fh.seq hq',hat',k _ W H (.refl _) G r'⟩
  .exact .inr (.inl ⟨p,vs',n,w',rfl,ry,G.fh.seqT hq',hat',k _ W H (.refl _) G r'⟩)
 .rename_i i n;split at h
  .rename_i xs hx;obtain⟨e,h2,h⟩:=aJ h;cases h;obtain⟨vs,hv,hr⟩:=G.lstAt hx;obtain⟨j,hj,he⟩:=FI h2;obtain⟨w,hw,r'⟩:=Paired.get hr he;have hat:atI vs n=some w:=AO (by rw[<- Paired.len hr];exact hj) hw;rw[show v=.ref (W.α i)from rx.2];exact .inl ⟨_,vs,n,w,rfl,ry,SqL.of hv,hat,k _ W H (.refl _) G r'⟩
  .cases h
 .rename_i xs n;obtain⟨e,h2,h⟩:=aJ h;cases h;obtain⟨a,vs,rfl,hv,hr⟩:=rx;obtain⟨j,hj,he⟩:=FI h2;obtain⟨w,hw,r'⟩:=Paired.get hr he;have hat:atI vs n=some w:=AO (by rw[<- Paired.len hr];exact hj) hw;exact .inr (.inl ⟨_,vs,n,w,rfl,ry,SqT.of (G.fh _ _ hv),hat,k _ W H (.refl _) G (by cases e<;>exact r')⟩)
 .cases h
noncomputable def iJ:FN:=fun xs M=>match xs with
 |[.d a]=>(aW a).bind fun ds=>some (.d (.int ds.length),M)
 |[.c i]=>match M[i]? with
  |some (.lst ys)=>some (.d (.int ys.length),M)
  |_=>none
 |[.t xs]=>some (.d (.int xs.length),M)
 |_=>none
theorem aCA:PN K (fun xs H Q=>∃p ys,xs=[.ref p]/\(SqL K H p ys\/SqT K H p ys)/\Q (.int ys.length) H) iJ:=by
 intro xs M z M' h W H vs Q G r k;unfold iJ at h;split at h
 .rename_i a;obtain⟨ds,h1,h⟩:=aJ h;cases h;rcases r with _|⟨r1,_|_⟩;obtain⟨p,us,rfl,hq,hr⟩:=pX (Rep.same G.fh _ _ r1) h1;refine⟨p,us,rfl,hq,?_⟩;rw[<- hr.length];exact k _ W H (.refl _) G rfl
 .rename_i i;split at h
  .rename_i ys hy;cases h;rcases r with _|⟨r1,_|_⟩;obtain⟨us,hv,hr⟩:=G.lstAt hy;rw[r1.2];refine⟨_,us,rfl,.inl (SqL.of hv),?_⟩;rw[<- Paired.len hr];exact k _ W H (.refl _) G rfl
  .cases h
 .rename_i xs;cases h;rcases r with _|⟨r1,_|_⟩;obtain⟨a,us,rfl,hv,hr⟩:=r1;refine⟨_,us,rfl,.inr (SqT.of (G.fh _ _ hv)),?_⟩;rw[<- Paired.len hr];exact k _ W H (.refl _) G rfl
 .cases h
noncomputable def listF:FN:=fun xs M=>match xs with
 |[.d a]=>(aW a).bind fun ds=>some (.d (.list ds),M)
 |[.c i]=>match M[i]? with
  |some (.lst ys)=>(lP ys).bind fun ds=>some (.d (.list ds),M)
  |_=>none
 |_=>none
noncomputable def gM:FN:=fun xs M=>match xs with
 |[.d (.list ds)]=>some (.d (.tuple ds),M)
 |[.d (.tuple ds)]=>some (.d (.tuple ds),M)
 |[.c i]=>match M[i]? with
  |some (.lst ys)=>(lP ys).bind fun ds=>some (.d (.tuple ds),M)
  |_=>none
 |_=>none
theorem UK:PN K (fun xs H Q=>∃p ys,xs=[.ref p]/\((SqL K H p ys/\∀l,H l=none->Q (.ref l) (upd H l (.tup ys)))\/(SqT K H p ys/\Q (.ref p) H))) gM:=by
 intro xs M z M' h W H vs Q G r k;unfold gM at h;split at h
 .rename_i ds;cases h;rcases r with _|⟨r1,_|_⟩;obtain⟨p,us,rfl,hq,hr⟩:=(show ∃a us,_=V.ref a/\SqL K W.F a us/\aM K W.F ds us from r1);refine⟨p,us,rfl,.inl ⟨G.fh.seq hq,fun l hl=>?_⟩⟩;obtain⟨e2,G2⟩:=G.lay (o:=.tup us) hl;exact k _ _ _ e2 G2 ⟨l,us,rfl,SqT.of aX,aM.same e2.ff _ _ hr⟩
 .rename_i ds;cases h;rcases r with _|⟨r1,_|_⟩;obtain⟨p,us,rfl,hq,hr⟩:=(show ∃a us,_=V.ref a/\SqT K W.F a us/\aM K W.F ds us from r1);exact⟨p,us,rfl,.inr ⟨G.fh.seqT hq,k _ W H (.refl _) G ⟨p,us,rfl,hq,hr⟩⟩⟩
 .rename_i i;split at h
  .rename_i ys hy;obtain⟨ds,h1,h⟩:=aJ h;cases h;rcases r with _|⟨r1,_|_⟩;obtain⟨us,hv,hr⟩:=G.lstAt hy;rw[r1.2];refine⟨_,us,rfl,.inl ⟨SqL.of hv,fun l hl=>?_⟩⟩;obtain⟨e2,G2⟩:=G.lay (o:=.tup us) hl;exact k _ _ _ e2 G2 ⟨l,us,rfl,SqT.of aX,aM.same e2.ff _ _ (fR h1 hr)⟩
  .cases h
 .cases h
noncomputable def yC(T:String)(f:EF):EF:=fun γ M=>(f γ M).bind fun r=>match r.1 with
 |.d a=>some (.d (.bool (rR T a)),r.2)
 |_=>none
theorem aBo{T:String}{ta:TE}{f:EF}(hT:T∈asked)(a:SE K ta f):SE K (tCB (aDp K) (oD ta (oD (tC (.ty T)) FL))) (yC T f):=by
 intro γ M x M' hh W H σ Q G R k;obtain⟨⟨y,M1⟩,h1,hh⟩:=aJ hh;cases y with
 |c _=>cases hh
 |t _=>cases hh
 |f _=>cases hh
 |g _=>cases hh
 |d y=>
  cases hh;refine a _ _ _ _ h1 W H σ _ G R fun v W1 H1 e1 G1 r1=>?_;exact⟨v,T,y,rfl,hT,Rep.same G1.fh _ _ r1,k _ W1 H1 e1 G1 rfl⟩
noncomputable def JE(T U:String)(f:EF):EF:=fun γ M=>(f γ M).bind fun r=>match r.1 with
 |.d a=>some (.d (.bool (rR T a || rR U a)),r.2)
 |_=>none
theorem VU{T U:String}{ta:TE}{f:EF}(hT:T∈asked)(hU:U∈asked)(a:SE K ta f):SE K (tCB (RV K) (oD ta (oD (VL (oD (tC (.ty T)) (oD (tC (.ty U)) FL))) FL))) (JE T U f):=by
 intro γ M x M' hh W H σ Q G R k;obtain⟨⟨y,M1⟩,h1,hh⟩:=aJ hh;cases y with
 |c _=>cases hh
 |t _=>cases hh
 |f _=>cases hh
 |g _=>cases hh
 |d y=>
  cases hh;refine a _ _ _ _ h1 W H σ _ G R fun v W1 H1 e1 G1 r1=>?_;refine⟨by show 2<=sizeLine;decide,fun p hp=>?_⟩;obtain⟨e2,G2⟩:=G1.lay (o:=.tup [.ty T,.ty U]) hp;refine⟨v,p,[T,U],y,rfl,aX,fun S hS=>?_,Rep.same (e2.ff.trans G2.fh) _ _ r1,?_⟩
  .rcases List.mem_cons.mp hS with rfl|hS
   .exact hT
   .rw[List.mem_singleton.mp hS];exact hU
  .have e:([T,U].any fun T=>rR T y)=(rR T y || rR U y):=by simp
   rw[e];exact k _ _ _ (e1.trans e2) G2 rfl
noncomputable def WJ(M:Sto):CD->Option Bool
 |.d .none=>some false
 |.d (.bool b)=>some b
 |.d (.int i)=>some (i != 0)
 |.d (.list ds)=>some (!ds.isEmpty)
 |.d (.tuple ds)=>some (!ds.isEmpty)
 |.c i=>match M[i]? with
  |some (.lst xs)=>some (!xs.isEmpty)
  |some (.dk kvs)=>some (!kvs.isEmpty)
  |_=>none
 |_=>none
noncomputable def GQ(f:EF):TF:=fun γ M=>(f γ M).bind fun r=>(WJ r.2 r.1).bind fun b=>some (b,r.2)
theorem kG{α β:Type}{xs:List α}{ys:List β}(h:xs.length=ys.length):xs.isEmpty=ys.isEmpty:=by
 cases xs<;>cases ys<;>simp at h ⊢
theorem aBH{ta:TE}{f:EF}(a:SE K ta f):STt K (fun σ H Q=>ta σ H fun x H'=>∃k,YN K x H' k/\Q k H') (GQ f):=by
 intro γ M b M' hh W H σ Q G R k;obtain⟨⟨y,M1⟩,h1,hh⟩:=aJ hh;obtain⟨b1,h2,hh⟩:=aJ hh;cases hh;refine a _ _ _ _ h1 W H σ _ G R fun v W1 H1 e1 G1 r1=>⟨_,?_,k W1 H1 e1 G1⟩;cases y with
 |d y=>
  cases y with
  |none=>cases h2;rw[show v=.non from r1];rfl
  |bool c=>cases h2;rw[show v=.bl _ from r1];rfl
  |int i=>cases h2;rw[show v=.int _ from r1];rfl
  |str x=>cases h2
  |list ds=>
   cases h2;obtain⟨p,us,rfl,hq,hr⟩:=(show ∃a us,_=V.ref a/\SqL K W1.F a us/\aM K W1.F ds us from r1);exact .inl ⟨us,G1.fh.seq hq,by rw[kG hr.length]⟩
  |tuple ds=>
   cases h2;obtain⟨p,us,rfl,hq,hr⟩:=(show ∃a us,_=V.ref a/\SqT K W1.F a us/\aM K W1.F ds us from r1);exact .inr (.inl ⟨us,G1.fh.seqT hq,by rw[kG hr.length]⟩)
  |dict kvs=>cases h2
 |t _=>cases h2
 |f _=>cases h2
 |g _=>cases h2
 |c i=>
  rw[r1.2];unfold WJ at h2;dsimp only at h2;split at h2
  .rename_i xs hx;cases h2;obtain⟨us,hv,hr⟩:=G1.lstAt hx;exact .inl ⟨us,SqL.of hv,by rw[kG (Paired.len hr)]⟩
  .rename_i kvs hx;cases h2;obtain⟨_,o,g2,g3⟩:=G1.cs i _ hx (by intro z;cases z);cases o with
   |dK us=>exact .inr (.inr ⟨us,g2,by rw[kG (Paired.len g3)]⟩)
   |_=>exact False.elim g3
  .cases h2
noncomputable def boolsOf:List PyData->Option (List Bool)
 |[]=>some []
 |.bool b::r=>(boolsOf r).bind fun bs=>some (b::bs)
 |_::_=>none
noncomputable def yH:FN:=fun xs M=>match xs with
 |[.d (.list ds)]=>(boolsOf ds).bind fun bs=>some (.d (.bool (bs.all id)),M)
 |_=>none
theorem zH{H:Hp}:∀{ds:List PyData}{bs:List Bool}{vs:List V},boolsOf ds=some bs->aM K H ds vs->vs=bs.map V.bl
 |[],bs,vs=>fun e h=>by cases e;exact h
 |.bool b::r,bs,vs=>fun e h=>by
  obtain⟨cs,h1,e⟩:=aJ (show(boolsOf r).bind _=_ from e);cases e;obtain⟨v,us,rfl,h2,h3⟩:=h;rw[show v=V.bl b from h2,zH h1 h3];rfl
 |.none::_,_,_=>fun e _=>by cases e
 |.int _::_,_,_=>fun e _=>by cases e
 |.str _::_,_,_=>fun e _=>by cases e
 |.list _::_,_,_=>fun e _=>by cases e
 |.tuple _::_,_,_=>fun e _=>by cases e
 |.dict _::_,_,_=>fun e _=>by cases e
theorem KQ(hc:X.calm=true):eO X (.builtin "all") (fun xs H Q=>∃(p:Addr)(bs:List Bool),xs=[.ref p]/\SqL X.K H p (bs.map V.bl)/\Q (.bl (bs.all id)) H):=by
 intro pins s σ H xs us Q I r h;obtain⟨p,bs,rfl,hp,q⟩:=h;obtain⟨u,rfl,ru⟩:=vals1 r;cases (show u=Value.ref p from ru);obtain⟨its,rv,pl,hz⟩:=I.list hp;have hits:=bJ.bools rv;subst hits;refine call_all_walk (wpAny_pyIter_list pl.isList ?_);have hlt:p<s.heap.objs.size:=pl.lt;refine⟨_,_,_,_,_,_,(fun i=>bs.getD i false),rfl,Walks.list (A:=X.A.in1) (I.ok.hd hc) s.heap.objs.size p (B8 hlt) (bs.map Value.bool).toArray,⟨⟨_,C6 _ rfl,rfl,rfl⟩,pl.isList.at fun o e=>B3 _ e⟩,DX,fun h' tk hk=>?_⟩;have e1:((bs.map Value.bool).toArray).size=bs.length:=by simp
 rw[e1,all_range];refine⟨.bl _,H,I.kept (h':=h') (t':=tk) fun b o e=>?_,rfl,q⟩;exact hk b o (fun z=>by rw[List.mem_singleton]at z;exact absurd (B2 e) (by rw[z];exact E2 _)) (B3 _ e)
theorem aAY:PN K (fun xs H Q=>∃(p:Addr)(bs:List Bool),xs=[.ref p]/\SqL K H p (bs.map V.bl)/\Q (.bl (bs.all id)) H) yH:=by
 intro xs M z M' h W H vs Q G r k;unfold yH at h;split at h
 .rename_i ds;obtain⟨bs,h1,h⟩:=aJ h;cases h;rcases r with _|⟨r1,_|_⟩;obtain⟨p,us,rfl,hq,hr⟩:=(show ∃a us,_=V.ref a/\SqL K W.F a us/\aM K W.F ds us from r1);have e:=zH h1 hr;subst e;exact⟨p,bs,rfl,G.fh.seq hq,k _ W H (.refl _) G rfl⟩
 .cases h
noncomputable def tT:F3:=fun x y z M=>match x,y with
 |.c i,.d (.int k)=>match M[i]? with
  |some (.lst xs)=>(ixN xs.length k).bind fun j=>some (M.set i (.lst (xs.set j z)))
  |_=>none
 |_,_=>none
theorem aDf:P3 K aAg tT:=by
 intro x y z M M' h W H v u w Q G rx ry rz k;unfold tT at h;split at h
 .rename_i i n;split at h
  .rename_i xs hx;obtain⟨j,h1,h⟩:=aJ h;cases h;obtain⟨us,hv,hr⟩:=G.lstAt hx;refine⟨W.α i,us,n,j,rx.2,ry,hv,by rw[<- Paired.len hr];exact h1,?_⟩;exact k W _ (.refl _) (G.set hx (by intro q;cases q) (c':=.lst (xs.set j z)) (show cC K W _ _ from Paired.set (R:=cF K W) rz j hr))
  .cases h
 .cases h
end
section
variable{X:Cx}{K:Fg}
noncomputable def SB(K:Fg):R2:=fun x y H Q=>∃l b xs zs,x=.ref l/\y=.ref b/\SqL K H l xs/\SqL K H b zs/\xs.length+zs.length<=sizeLine/\∀p,H p=none->Q (.ref p) (upd H p (.lst (xs++zs)))
theorem op_catS:OpR X (binaryOp .Add) (SB X.K):=by
 intro pins s σ H x y v u Q I rx ry h;obtain⟨l,b,xs,zs,rfl,rfl,hH,hB,hz,q⟩:=h;cases rx;cases ry;obtain⟨its,r,⟨⟨cls,dd,data,sl⟩,n,ho,hc,hdd,hd⟩,_⟩:=I.list hH;obtain⟨its2,r2,⟨⟨cls2,dd2,data2,sl2⟩,n2,ho2,hc2,hdd2,hd2⟩,_⟩:=I.list hB;simp only at hc hd hc2 hd2;subst hc hd hc2 hd2;have e1:=r.length;have e2:=r2.length;refine concat_meets ⟨_,ho,rfl⟩ ⟨_,ho2,rfl⟩ noFill_list_add seq_list_add PySem.F.slot_list_add PySem.F.entry_list_add (PySem.F.args_list_add_2 _ _) (list_addW l b its.toArray its2.toArray n n2 dd dd2 sl sl2 (by rw[C1,C1];omega)) ⟨ho,ho2,?_⟩;have ea:its.toArray++its2.toArray=(its++its2).toArray:=by simp
 rw[ea];exact⟨.ref _,_,I.lnew (t':=s.toks) (r.append r2) (by rw[B4];omega),rfl,q _ I.fresh⟩
noncomputable def DO(M:Sto):CD->Option (List CD)
 |.d (.list ds)=>some (ds.map .d)
 |.c i=>match M[i]? with
  |some (.lst xs)=>some xs
  |_=>none
 |_=>none
theorem yS{x:CD}{xs:List CD}{v:V}(G:Good K W M H)(h:DO M x=some xs)(r:cF K W x v):∃p vs,v=.ref p/\SqL K H p vs/\cC K W xs vs:=by
 unfold DO at h;split at h
 .rename_i ds;cases h;obtain⟨p,us,rfl,hq,hr⟩:=(show ∃a us,_=V.ref a/\SqL K W.F a us/\aM K W.F ds us from r);exact⟨p,us,rfl,G.fh.seq hq,lW hr⟩
 .rename_i i;split at h
  .rename_i ys hy;cases h;obtain⟨us,hv,hr⟩:=G.lstAt hy;exact⟨_,us,r.2,SqL.of hv,hr⟩
  .cases h
 .cases h
noncomputable def XM:F2:=fun x y M=>(DO M x).bind fun xs=>(DO M y).bind fun ys=>(lP (xs++ys)).bind fun ds=>if ds.length<=sizeLine then some (.d (.list ds),M)else none
theorem ZP:P2 K (SB K) XM:=by
 intro x y M z M' h W H v u Q G rx ry k;obtain⟨xs,h1,h⟩:=aJ h;obtain⟨ys,h2,h⟩:=aJ h;obtain⟨ds,h3,h⟩:=aJ h;by_cases hl:ds.length<=sizeLine
 .rw[A3 hl]at h;cases h;obtain⟨p,vs,rfl,hp,hr⟩:=yS G h1 rx;obtain⟨q,us,rfl,hq,hs⟩:=yS G h2 ry;have el:=EO h3;rw[B4]at el;refine⟨p,q,vs,us,rfl,rfl,hp,hq,by rw[<- Paired.len hr,<- Paired.len hs];omega,fun l hl=>?_⟩;obtain⟨e2,G2⟩:=G.lay (o:=.lst (vs++us)) hl;exact k _ _ _ e2 G2 ⟨l,_,rfl,SqL.of aX,aM.same e2.ff _ _ (fR h3 (Paired.app hr hs))⟩
 .rw[A7 hl]at h;cases h
noncomputable def aCH:F2:=fun x y M=>match x,y with
 |.d (.tuple xs),.d (.tuple ys)=>if xs≠[]/\xs.length+ys.length<=sizeLine then some (.d (.tuple (xs++ys)),M)else none
 |_,_=>none
theorem aM.nil_iff{ds:List PyData}{vs:List V}(r:aM K H ds vs):vs=[]↔ds=[]:=by
 have:=r.length;constructor<;>intro h<;>subst h<;>simp at this
 .exact this
 .exact List.eq_nil_of_length_eq_zero this.symm
theorem WR:P2 K (MM K) aCH:=by
 intro x y M z M' h W H v u Q G rx ry k;unfold aCH at h;split at h
 .rename_i xs ys;by_cases hc:xs≠[]/\xs.length+ys.length<=sizeLine
  .rw[A3 hc]at h;cases h;obtain⟨p,vs,rfl,hp,hr⟩:=(show ∃a us,v=V.ref a/\SqT K W.F a us/\aM K W.F xs us from rx);obtain⟨q,us,rfl,hq,hs⟩:=(show ∃a us,u=V.ref a/\SqT K W.F a us/\aM K W.F ys us from ry);refine⟨p,q,vs,us,rfl,rfl,G.fh.seqT hp,G.fh.seqT hq,fun z=>hc.1 (hr.nil_iff.mp z),by rw[<- hr.length,<- hs.length];exact hc.2,fun z=>?_,fun z l hl=>?_⟩
   .have:ys=[]:=hs.nil_iff.mp z;subst this;rw[D1]at k;exact k _ W H (.refl _) G ⟨p,vs,rfl,hp,hr⟩
   .obtain⟨e2,G2⟩:=G.lay (o:=.tup (vs++us)) hl;exact k _ _ _ e2 G2 ⟨l,_,rfl,SqT.of aX,aM.same e2.ff _ _ (aM.app hr hs)⟩
  .rw[A7 hc]at h;cases h
 .cases h
theorem P2.or{r r':R2}{h h':F2}(a:P2 K r h)(b:P2 K r' h'):P2 K (fun x y H Q=>r x y H Q\/r' x y H Q) (GV h h'):=by
 intro x y M z M' hh W H v u Q G rv ru k;unfold GV at hh;cases e:h x y M with
 |some q=>
  rw[e]at hh;cases hh;exact .inl (a _ _ _ _ _ e W H v u Q G rv ru k)
 |none=>
  rw[e]at hh;exact .inr (b _ _ _ _ _ hh W H v u Q G rv ru k)
noncomputable def GH(K:Fg):R2:=fun x y H Q=>∃a b ys,x=.ref a/\y=.ref b/\SqT K H a []/\SqT K H b ys/\Q (.ref b) H
theorem op_catT0:OpR X (binaryOp .Add) (GH X.K):=by
 intro pins s σ H x y v u Q I rx ry h;obtain⟨a,b,ys,rfl,rfl,ha,hb,q⟩:=h;cases rx;cases ry;obtain⟨its,r1,⟨⟨cls,dd,data,sl⟩,ho,hc,n,hd⟩,_⟩:=I.tuple ha;obtain⟨its2,r2,⟨⟨cls2,dd2,data2,sl2⟩,ho2,hc2,n2,hd2⟩,_⟩:=I.tuple hb;simp only at hc hd hc2 hd2;subst hc hd hc2 hd2;cases r1;exact concat_meets ⟨_,ho,rfl⟩ ⟨_,ho2,rfl⟩ noFill_tuple_add seq_tuple_add PySem.F.slot_tuple_add PySem.F.entry_tuple_add (PySem.F.args_tuple_add_2 _ _) (tuple_addW0 a b #[] its2.toArray n n2 dd dd2 sl sl2 rfl) ⟨ho,ho2,⟨.ref b,H,I,rfl,q⟩⟩
noncomputable def UI:F2:=fun x y M=>match x,y with
 |.d (.tuple []),.d (.tuple ys)=>some (.d (.tuple ys),M)
 |_,_=>none
theorem RY:P2 K (GH K) UI:=by
 intro x y M z M' h W H v u Q G rx ry k;unfold UI at h;split at h
 .rename_i ys;cases h;obtain⟨p,vs,rfl,hp,hr⟩:=(show ∃a us,v=V.ref a/\SqT K W.F a us/\aM K W.F [] us from rx);obtain⟨q,us,rfl,hq,hs⟩:=(show ∃a us,u=V.ref a/\SqT K W.F a us/\aM K W.F ys us from ry);rw[show vs=[]from hr]at hp;exact⟨p,q,us,rfl,rfl,G.fh.seqT hp,G.fh.seqT hq,k _ W H (.refl _) G ⟨q,us,rfl,hq,hs⟩⟩
 .cases h
noncomputable def dO:F2:=GV aBc (GV XM (GV UI aCH))
noncomputable def RA(K:Fg):R2:=fun x y H Q=>(rI0 fun i j=>.int (i+j)) x y H Q\/SB K x y H Q\/GH K x y H Q\/MM K x y H Q
theorem ZD:OpR X (binaryOp .Add) (RA X.K):=op_add.or (op_catS.or (op_catT0.or VY))
theorem XI:P2 K (RA K) dO:=P2.or aAq (P2.or ZP (P2.or RY WR))
noncomputable def eqS(neg:Bool):F2:=fun x y M=>match x,y with
 |.d (.str a),.d (.str b)=>some (.d (.bool (if neg then !(a==b)else a==b)),M)
 |_,_=>none
noncomputable def eqX(neg:Bool):F2:=GV (eqS neg) (eqD neg)
noncomputable def aCs(K:Fg):R2:=fun x y H Q=>rEq x y H Q\/OI K false x y H Q
noncomputable def aBI(K:Fg):R2:=fun x y H Q=>rNe x y H Q\/OI K true x y H Q
theorem QF{a b:Str}:decide (V.str a=V.str b)=(a==b):=by
 by_cases e:a=b
 .subst e;simp
 .have h:¬V.str a=V.str b:=fun q=>e (V.str.inj q);rw[D4 h,beq_eq_false_iff_ne.mpr e]
theorem aDi:P2 K rEq (eqS false):=by
 intro x y M z M' h W H v u Q G rx ry k;unfold eqS at h;split at h
 .rename_i a b;cases h;rw[show v=.str a from rx,show u=.str b from ry];refine⟨rfl,?_⟩;rw[QF];exact k _ W H (.refl _) G rfl
 .cases h
theorem aCY:P2 K rNe (eqS true):=by
 intro x y M z M' h W H v u Q G rx ry k;unfold eqS at h;split at h
 .rename_i a b;cases h;rw[show v=.str a from rx,show u=.str b from ry];refine⟨rfl,?_⟩;rw[QF];exact k _ W H (.refl _) G rfl
 .cases h
theorem aCV:P2 K (aCs K) (eqX false):=P2.or aDi aAz
theorem aBv:P2 K (aBI K) (eqX true):=P2.or aCY aAz
theorem aCf(hu:X.A.units+64<cLine):OpR X (compareOp .Eq) (aCs X.K):=op_eq.or (aDl hu)
theorem aDe(hu:X.A.units+64<cLine):OpR X (compareOp .NotEq) (aBI X.K):=op_ne.or (aCu hu)
theorem aBS:P2 K (rI0 fun i j=>.int (i-j)) uW:=aAq
theorem aDy:P2 K (rI EZ fun i j=>.int (i*j)) tL:=aAa fun _ _ h=>mulOk_of h
theorem VS:P2 K (rI aAp fun i j=>.int (i / j)) nO:=aAa fun i j h=>by
 unfold oU at h;rw[B6]at h;exact⟨C0 h.1,C0 (p:=j.natAbs<uL) h.2⟩
theorem aDL:P2 K (rI (fun _ j=>0<j) fun i j=>.int (i % j)) oF:=aAa fun i j h=>C0 h
theorem aCS:P2 K (rI aFv fun i j=>.int (i ^ j.toNat)) uX:=aAa fun i j h=>by
 unfold wH at h;rw[B6,B6]at h;exact⟨C0 h.1.1,C0 h.1.2,C0 h.2⟩
theorem aEO:P2 K (rI0 fun i j=>.bl (decide (i<j))) ltI:=JA
theorem aEU:P2 K (rI0 fun i j=>.bl (decide (i<=j))) leI:=JA
theorem aFb:P2 K (rI0 fun i j=>.bl (decide (j<i))) gtI:=JA
theorem aEQ:P2 K (rI0 fun i j=>.bl (decide (j<=i))) geI:=JA
noncomputable def DY:F1:=fun x M=>match x with
 |.d (.int i)=>some (.d (.int (-i)),M)
 |_=>none
theorem aDj:P1 K (rU fun i=>.int (-i)) DY:=by
 intro x M z M' h W H v Q G r k;unfold DY at h;split at h
 .rename_i i;cases h;exact⟨i,r,k _ W H (.refl _) G rfl⟩
 .cases h
end
section
variable{X:Cx}{K:Fg}
theorem aGe(h:X.K=K):eO X (.builtin "isinstance") (aDp K):=by subst h;exact LK
theorem aES(h:X.K=K):eO X (.builtin "isinstance") (RV K):=by subst h;exact GM
noncomputable def aFd(K:Fg):R2:=rIx K
theorem kIx(h:X.K=K):IxR X (aFd K):=by subst h;exact aDM
theorem aBA:P2 K (aFd K) ixF:=aEN
noncomputable def aAl(K:Fg):List V->Hp->VK->Prop:=fun xs H Q=>∃p ys,xs=[.ref p]/\(SqL K H p ys\/SqT K H p ys)/\Q (.int ys.length) H
theorem aFV(h:X.K=K):eO X (.builtin "len") (aAl K):=by subst h;exact AI
theorem VQ:PN K (aAl K) iJ:=aCA
noncomputable def HC(K:Fg):List V->Hp->VK->Prop:=fun xs H Q=>∃p ys,xs=[.ref p]/\((SqL K H p ys/\∀l,H l=none->Q (.ref l) (upd H l (.tup ys)))\/(SqT K H p ys/\Q (.ref p) H))
theorem aCo(h:X.K=K):eO X (.type "tuple") (HC K):=by subst h;exact yD
theorem KA:PN K (HC K) gM:=UK
noncomputable def aAO(K:Fg):List V->Hp->VK->Prop:=fun xs H Q=>∃(p:Addr)(bs:List Bool),xs=[.ref p]/\SqL K H p (bs.map V.bl)/\Q (.bl (bs.all id)) H
theorem aFP(h:X.K=K)(hc:X.calm=true):eO X (.builtin "all") (aAO K):=by subst h;exact KQ hc
theorem XO:PN K (aAO K) yH:=aAY
theorem kEq(h:X.K=K)(hu:X.A.units+64<cLine):OpR X (compareOp .Eq) (aCs K):=by subst h;exact aCf hu
theorem kNe(h:X.K=K)(hu:X.A.units+64<cLine):OpR X (compareOp .NotEq) (aBI K):=by subst h;exact aDe hu
theorem kIn(h:X.K=K)(hu:X.A.in1.units+64<cLine):OpR X (compareOp .In) (WU K false):=by subst h;exact aDg hu
theorem aGd(h:X.K=K):OpR X (binaryOp .Add) (RA K):=by subst h;exact ZD
theorem WH{tg l:Expr}{tl:TE}(h:X.K=K)(hl:PE X l tl):PI X tg l (aBm K tl):=by subst h;exact aCP hl
theorem WT{es:List Expr}{k:Nat}{t:TGs}{n:Nat}{pos:Pos}(hK:X.K=K)(hc:X.calm=true)(h:PGs X es t)
 (hn:(assignEach es X.env).length=n:=by rfl) (hst:(assignEach es X.env).findIdx? (·.1)=none:=by rfl):PG X (.Tuple es k pos) (XB K n t):=by subst hK;exact aDu hc h hn hst
noncomputable def aEG(K:Fg)(ta:TE):TT:=fun σ H Q=>ta σ H fun x H'=>∃k,YN K x H' k/\Q k H'
theorem YQ{a:Expr}{ta:TE}(hK:X.K=K)(ha:PE X a ta)(he:∀whole,isTrue a X.env whole=(do let v <- whole;standAt a.pos;holding [v] (truthy v))):PT X a (aEG K ta):=by subst hK;exact PK ha he
theorem UW{ta:TE}{f:EF}(a:SE K ta f):STt K (aEG K ta) (GQ f):=aBH a
end
section
variable{es:List Expr}{env:Env}
theorem bC{a b}:starEach (.Name a b::es) env=(false,eval (.Name a b) env)::starEach es env:=rfl
theorem vS{a b c}:starEach (.Tuple a b c::es) env=(false,eval (.Tuple a b c) env)::starEach es env:=rfl
theorem tQ{pos:Pos}:(backTo pos (starEach [] env)).any (·.1)=false:=rfl
theorem mC{pos:Pos}{e:Expr}(hs:starEach (e::es) env=(false,eval e env)::starEach es env)(h:(backTo pos (starEach es env)).any (·.1)=false):(backTo pos (starEach (e::es) env)).any (·.1)=false:=by
 rw[hs];have e1:backTo pos ((false,eval e env)::starEach es env)=(false,(do let v <- eval e env;standAt pos;pure v:Sem Value))::backTo pos (starEach es env)\/(backTo pos ((false,eval e env)::starEach es env)).any (·.1)=(backTo pos (starEach es env)).any (·.1):=.inr (by unfold backTo;simp);rcases e1 with q|q
 .rw[q,J4,h];rfl
 .rw[q];exact h
end
section
variable{P:Program}{w:World}{K:Fg}{mg:Str->Option Value}
theorem Fun.okM{base:Heap}{x:Str}{st:Stmt}{N ps:List Str}{k:Nat}{b:SF}{f:Addr}{fd:FuncData}(F:Fun K x x st f fd)(S:aT N ps (aG st))
 (hbody:∀(f:Addr)(cdv:Value)(A:Around)(outer:List Env)(s:Shared)(H:Hp)(E:XK),cX k (A.deeper (envOfC x (aG st) s.heap.objs.size f cdv))->
  ∃t,PSs (mK CX0 P w K mg base N x (aG st) f cdv A outer s H E).nox (cE st) t/\SS K t b):mY P w K mg base CX0 (k+1) f fd ps (spM K (fnF ps.length N.length b)):=by
 have len:∀vs H Q E,spM K (fnF ps.length N.length b) vs H Q E->vs.length=ps.length:=fun vs H Q E h=>by
  obtain⟨xs,M,W,y,M',G,R,hf,_⟩:=h;by_cases hl:xs.length=ps.length
  .rw[<- Paired.len R];exact hl
  .unfold fnF at hf;rw[A7 hl]at hf;cases hf
 refine F.ok S len fun cdv A outer s H vs Q E hr h=>?_;obtain⟨t,hP,hS⟩:=hbody f cdv A outer s H E hr;refine⟨t,hP,?_⟩;obtain⟨xs,M,W,y,M',G,R,hf,k⟩:=h;by_cases hl:xs.length=ps.length
 .unfold fnF at hf;rw[A3 hl]at hf;obtain⟨⟨o,M1⟩,h1,hf⟩:=aJ hf
  have hR:cL K W (xs.map some++List.replicate (N.length-xs.length) none) (start N vs):=by
   unfold start;rw[<- Paired.len R];exact Paired.app (cC.some R) (sE _)
  refine hS _ _ _ _ h1 W H _ _ G hR fun W1 H1 e1 G1=>?_;cases o with
  |rt x=>cases hf;exact fun v r=>k v W1 H1 e1 G1 r
  |nx γ=>cases hf;exact fun σ r=>k .non W1 H1 e1 G1 rfl
  |bk γ=>cases hf
  |ct γ=>cases hf
 .unfold fnF at hf;rw[A7 hl]at hf;cases hf
theorem Def.okL{x p:Str}{st:Stmt}{N:List Str}{k:Nat}{b:SF}{F:FN}(D:Def K mg x st)(S:aT N [p] (aG st))(hF:F=fnF 1 N.length b)
 (hb:∀(kV doc pm:Value)(an:Option Addr)(cdv ct:Value)(us:List Value),us.length=[p].length->bindArgs (PySem.W.fnOf x x (fN st) (cE st) (aG st) .none kV doc pm an cdv ct) ⟨us,[]⟩=pure ([p].zip us))
 (hbody:∀(base:Heap)(f:Addr)(cdv:Value)(A:Around)(outer:List Env)(s:Shared)(H:Hp)(E:XK),cX k (A.deeper (envOfC x (aG st) s.heap.objs.size f cdv))->
  ∃t,PSs (mK CX0 P w K mg base N x (aG st) f cdv A outer s H E).nox (cE st) t/\SS K t b):
 ∃f fd,mg x=some (.ref f)/\(∀(s:Shared)(u:Value),BindsTo s fd ⟨[u],[]⟩ [(p,u)])/\∀base,mY P w K mg base CX0 (k+1) f fd [p] (spM K F):=by
 subst hF;obtain⟨f,fd,Fu,m⟩:=D.ex;refine⟨f,fd,m,fun s u=>?_,fun base=>Fu.okM S (hbody base)⟩;obtain⟨oc,od,kV,doc,pm,an,cdv,ct,osl,rfl,lk,hcd⟩:=Fu.ex;exact .of_eq (hb kV doc pm an cdv ct [u] rfl)
theorem CL{H:Hp}:∀ns:List Int,aM K H (ns.map .int) (ns.map V.int)
 |[]=>rfl
 |n::ns=>⟨.int n,ns.map V.int,rfl,rfl,CL ns⟩
theorem aCj{F:FN}(hF:∀ns:List Int,ns.length<=63->∃M',F [.d (.list (ns.map .int))] []=some (.d (.bool true),M')){a:Addr}{ns:List Int}(hl:ns.length<=63)(hS:SqL K H a (ns.map V.int))(E:XK):
 spM K F [.ref a] H (fun v _=>v=.bl true) E:=by
 obtain⟨M',h⟩:=hF ns hl;refine⟨[.d (.list (ns.map .int))],[],⟨H,fun _=>0,0⟩,_,M',⟨gU.refl H,rfl,fun i c h=>by simp at h,fun i j c c' h=>by simp at h⟩,.cons (show ∃a' vs,V.ref a=.ref a'/\SqL K H a' vs/\aM K H (ns.map .int) vs from⟨a,ns.map V.int,rfl,hS,CL ns⟩) .nil,h,fun v W' H' _ _ r=>r⟩
theorem law_walk{l:PySem.W.OpenLaw}{q:Program}{loose:List Str}{XP:(Str->Option Value)->Heap->Prop}{YP:World->Heap->Prop}{d:DefRec}{K:Params->Fg}{F:FN}{k:Nat}{p:Str}(hq:PyProof.Rows.importsNone q=true)(hn:l.most=some 63)(hdf:d.params.defaults=[])(hr:cX k callerA)
 (hY:∀(w:World)(h:Heap),YP w h->(K w.params).In h)
 (hT:∀(w:World)(mg:Str->Option Value)(h:Heap),(K w.params).In h->h.Ns mainGlobals mg->∃f fd,mg d.name=some (.ref f)/\(∀(s:Shared)(u:Value),BindsTo s fd ⟨[u],[]⟩ [(p,u)])/\∀base,mY l.prog w (K w.params) mg base CX0 k f fd [p] (spM (K w.params) F))
 (hF:∀ns:List Int,ns.length<=63->∃M',F [.d (.list (ns.map .int))] []=some (.d (.bool true),M')):
 PySem.W.WalkO q loose XP YP l.row.toRowW d [] (fun f vs=>PySem.call f vs):=
 L2.walk_of hq (n:=63) (k:=k) (x:=p) (CX:=fun _=>CX0) (sp:=fun w=>spM (K w.params) F) hn (by decide) hdf hr hY
  (fun w mg fa h KX G hmg=>by
   obtain⟨f,fd,m,hb,hf⟩:=hT w mg h KX G;have e:(some (Value.ref f))=some (.ref fa):=m.symm.trans hmg;cases e;exact⟨fd,hb,fun base _ _=>hf base⟩)
  (fun w H a ns hl _ hS=>aCj hF hl hS _) fun _ _ _ _ _ z=>z
end
noncomputable def UO(e:Expr)(es:List Expr):Prop:=∀env:Env,starEach (e::es) env=(false,eval e env)::starEach es env
noncomputable def DB:List Expr->Prop
 |[]=>True
 |e::es=>UO e es/\DB es
theorem DB.plain:∀{es:List Expr},DB es->∀(env:Env)(pos:Pos),(backTo pos (starEach es env)).any (·.1)=false
 |[]=>fun _ _ _=>rfl
 |_::_=>fun h env pos=>mC (h.1 env) (h.2.plain env pos)
section
variable{ι:Type}
structure ME(K:Fg)(X:ι->Cx)(e:Expr)(f:EF):Prop where
 ex:∃t,(∀i,PE (X i) e t)/\SE K t f
structure MT(K:Fg)(X:ι->Cx)(e:Expr)(f:TF):Prop where
 ex:∃t,(∀i,PT (X i) e t)/\STt K t f
structure MW(K:Fg)(X:ι->Cx)(e:Expr)(f:TF):Prop where
 ex:∃t,(∀i,PW (X i) e t)/\STt K t f
structure MA(K:Fg)(X:ι->Cx)(es:List Expr)(f:AF):Prop where
 ex:∃t,(∀i,PA (X i) es t)/\SA K t f
 st:DB es
structure MG(K:Fg)(X:ι->Cx)(e:Expr)(f:GF):Prop where
 ex:∃t,(∀i,PG (X i) e t)/\SG K t f
structure MGs(K:Fg)(X:ι->Cx)(es:List Expr)(f:GsF):Prop where
 ex:∃t,(∀i,PGs (X i) es t)/\SGs K t f
structure MI(K:Fg)(X:ι->Cx)(tg e:Expr)(f:AF):Prop where
 ex:∃t,(∀i,PI (X i) tg e t)/\SI K t f
structure MF(K:Fg)(X:ι->Cx)(es:List Expr)(f:TF):Prop where
 ex:∃t,(∀i,yB (X i) es t)/\STt K t f
structure MS(K:Fg)(X:ι->Cx)(st:Stmt)(f:SF):Prop where
 ex:∃t,(∀i,PS (X i) st t)/\SS K t f
structure ML(K:Fg)(X:ι->Cx)(st:List Stmt)(f:SF):Prop where
 ex:∃t,(∀i,PSs (X i) st t)/\SS K t f
structure Q2(K:Fg)(X:ι->Cx)(o:Value->Value->Sem Value)(h:F2):Prop where
 ex:∃r,(∀i,OpR (X i) o r)/\P2 K r h
structure Q1(K:Fg)(X:ι->Cx)(o:Value->Sem Value)(h:F1):Prop where
 ex:∃r,(∀i,UnR (X i) o r)/\P1 K r h
structure QN(K:Fg)(X:ι->Cx)(f:Value)(h:FN):Prop where
 ex:∃r,(∀i,eO (X i) f r)/\PN K r h
structure QI(K:Fg)(X:ι->Cx)(h:F2):Prop where
 ex:∃r,(∀i,IxR (X i) r)/\P2 K r h
structure QS(K:Fg)(X:ι->Cx)(h:F3):Prop where
 ex:∃r,(∀i,aBa (X i) r)/\P3 K r h
variable{K:Fg}{X:ι->Cx}{a b c e:Expr}{es:List Expr}{f g h:EF}{ft gt:TF}{fa:AF}{pos:Pos}
theorem aC(i:Nat){x:Str}(hN:∀j,(X j).N[i]?=some x:=by intro _;rfl)(hv:∀j,Vis (X j).env.scope x:=by intro _;first|exact Or.inl rfl|exact Or.inr (Or.inl rfl)|exact Or.inr (Or.inr rfl))(hd:(x==("__debug__":Str))=false:=by decide)(hcd:(x==("__classdict__":Str))=false:=by decide):
 ME K X (.Name x pos) (aD i):=⟨_,fun j=>aBn (hN j) (hv j) hd hcd,aAT⟩
theorem aE{i:Int}{j:Nat}:ME K X (.Constant (.int i) j pos) (fC (.int i)):=⟨_,fun _=>aCZ,QU⟩
theorem gC{i:Bool}{j:Nat}:ME K X (.Constant (.bool i) j pos) (fC (.bool i)):=⟨_,fun _=>aFe,aEy⟩
theorem xX{j:Nat}:ME K X (.Constant .none j pos) (fC .none):=⟨_,fun _=>aBs,aCi⟩
theorem jN{i:Str}{j:Nat}:ME K X (.Constant (.str i) j pos) (fC (.str i)):=⟨_,fun _=>aCJ,aCO⟩
theorem lN{x:Str}{n:Int}(hm:∀i,∃t:Tok,(X i).mg x=some (.int n t))(hg:∀i,Gl (X i) x:=by intro _;rfl)(hd:(x==("__debug__":Str))=false:=by decide):ME K X (.Name x pos) (fC (.int n)):=
 ⟨_,fun i=>HW (v:=.int n) (hg i) (hm i).choose_spec ⟨_,rfl⟩ hd,QU⟩
theorem aZ{op:Operator}{k:F2}(q:Q2 K X (binaryOp op) k)(x:ME K X a f)(y:ME K X b g):ME K X (.BinOp a op b pos) (fOp k f g):=by
 obtain⟨r,q1,q2⟩:=q.ex;obtain⟨t,x1,x2⟩:=x.ex;obtain⟨u,y1,y2⟩:=y.ex;exact⟨_,fun i=>aFr (q1 i) (x1 i) (y1 i),JC q2 x2 y2⟩
theorem HP{op:UnaryOp}{k:F1}(q:Q1 K X (unaryOp op) k)(x:ME K X a f):ME K X (.UnaryOp op a pos) (fUn k f):=by
 obtain⟨r,q1,q2⟩:=q.ex;obtain⟨t,x1,x2⟩:=x.ex;exact⟨_,fun i=>aFc (q1 i) (x1 i),aEf q2 x2⟩
theorem dI{rest:List Expr}(x:ME K X a f)(y:ME K X (.BoolOp .And (b::rest) pos) g):ME K X (.BoolOp .And (a::b::rest) pos) (kS f g):=by
 obtain⟨t,x1,x2⟩:=x.ex;obtain⟨u,y1,y2⟩:=y.ex;exact⟨_,fun i=>aDQ (x1 i) (y1 i),aBC x2 y2⟩
theorem aEW{rest:List Expr}(x:ME K X a f)(y:ME K X (.BoolOp .Or (b::rest) pos) g):ME K X (.BoolOp .Or (a::b::rest) pos) (fOr f g):=by
 obtain⟨t,x1,x2⟩:=x.ex;obtain⟨u,y1,y2⟩:=y.ex;exact⟨_,fun i=>aDZ (x1 i) (y1 i),aFD x2 y2⟩
theorem gE{op:BoolOp}(x:ME K X a f):ME K X (.BoolOp op [a] pos) f:=by
 obtain⟨t,x1,x2⟩:=x.ex;exact⟨_,fun i=>aCy (x1 i),x2⟩
theorem pF(x:ME K X a f):ME K X (.UnaryOp .Not a pos) (CQ f):=by
 obtain⟨t,x1,x2⟩:=x.ex;exact⟨_,fun i=>aAW (x1 i),aCh x2⟩
theorem gO{op:CmpOp}{k:F2}(q:Q2 K X (compareOp op) k)(x:ME K X a f)(y:ME K X b g)(hm:behindInMarks op b=false:=by rfl):ME K X (.Compare a [op] [b] pos) (fOp k f g):=by
 obtain⟨r,q1,q2⟩:=q.ex;obtain⟨t,x1,x2⟩:=x.ex;obtain⟨u,y1,y2⟩:=y.ex;exact⟨_,fun i=>WV (q1 i) (x1 i) (y1 i) hm,JC q2 x2 y2⟩
theorem CU{op op':CmpOp}{k k':F2}(q:Q2 K X (compareOp op) k)(q':Q2 K X (compareOp op') k')(x:ME K X a f)(y:ME K X b g)(z:ME K X c h)(hm:lastMarks [op,op'] [b,c]=false:=by with_unfolding_all rfl):ME K X (.Compare a [op,op'] [b,c] pos) (wA k k' f g h):=by
 obtain⟨r,q1,q2⟩:=q.ex;obtain⟨r',q1',q2'⟩:=q'.ex;obtain⟨t,x1,x2⟩:=x.ex;obtain⟨u,y1,y2⟩:=y.ex;obtain⟨v,z1,z2⟩:=z.ex;exact⟨_,fun i=>NP (q1 i) (q1' i) (x1 i) (y1 i) (z1 i) hm,MU q2 q2' x2 y2 z2⟩
theorem aEE(x:MT K X c ft)(y:ME K X a f)(z:ME K X b g):ME K X (.IfExp c a b pos) (fIf ft f g):=by
 obtain⟨t,x1,x2⟩:=x.ex;obtain⟨u,y1,y2⟩:=y.ex;obtain⟨v,z1,z2⟩:=z.ex;exact⟨_,fun i=>UG (x1 i) (y1 i) (z1 i),aEp x2 y2 z2⟩
theorem aF:MA K X [] aH:=⟨⟨_,fun _=>tR,aCc⟩,trivial⟩
theorem aA(x:ME K X e f)(y:MA K X es fa)(hs:UO e es:=by intro _;rfl):MA K X (e::es) (aB f fa):=by
 obtain⟨t,x1,x2⟩:=x.ex;obtain⟨u,y1,y2⟩:=y.ex;exact⟨⟨_,fun i=>hE (x1 i) (y1 i) (hs _),aAb x2 y2⟩,hs,y.st⟩
theorem bL{k:Nat}(x:MA K X es fa):ME K X (.Tuple es k pos) (dH fa):=by
 obtain⟨t,x1,x2⟩:=x.ex;exact⟨_,fun i=>FT (x1 i),aDC x2⟩
theorem eK(x:MA K X es fa):ME K X (.List es pos) (iK fa):=by
 obtain⟨t,x1,x2⟩:=x.ex;exact⟨_,fun i=>SJ (x1 i),aBU x2⟩
theorem AV(x:MA K X es fa):ME K X (.List es pos) (xZ fa):=by
 obtain⟨t,x1,x2⟩:=x.ex;exact⟨_,fun i=>SJ (x1 i),aCe x2⟩
theorem aY{k:F2}(q:QI K X k)(x:ME K X a f)(y:ME K X b g)(hs:HJ b:=by intro _ _;rfl):ME K X (.Subscript a b pos) (fOp k f g):=by
 obtain⟨r,q1,q2⟩:=q.ex;obtain⟨t,x1,x2⟩:=x.ex;obtain⟨u,y1,y2⟩:=y.ex;exact⟨_,fun i=>aEB (q1 i) (x1 i) (y1 i) hs,JC q2 x2 y2⟩
theorem aK{k:Nat}{x:Str}{ps:List Str}{F:FN}{p:Pos}{q:Bool}(C:∀i,Callee (X i).prog (X i).w (X i).K (X i).mg (X i).base k x ps (spM K F) q)(hr:∀i,cX k (X i).A q)(y:MA K X (e::es) fa)(hg:∀i,Gl (X i) x:=by intro _;rfl)(hd:(x==("__debug__":Str))=false:=by decide):
 ME K X (.Call (.Name x p) (e::es) [] pos) (aI F fa):=by
 obtain⟨u,y1,y2⟩:=y.ex;exact⟨_,fun i=>aDr (C i) (hr i) (y1 i) (hg i) hd (y.st.1 _) (y.st.2.plain _ _),WL y2⟩
theorem bT{x:Str}{id:String}{F:FN}{p:Pos}(q:QN K X (.builtin id) F)(hm:∀i,(X i).mg x=none)(hv:bootBuiltins x=some (.builtin id))(y:MA K X (e::es) fa)(hg:∀i,Gl (X i) x:=by intro _;rfl)(hn:x≠"__name__":=by decide)(hd:(x==("__debug__":Str))=false:=by decide):
 ME K X (.Call (.Name x p) (e::es) [] pos) (aI F fa):=by
 obtain⟨r,q1,q2⟩:=q.ex;obtain⟨u,y1,y2⟩:=y.ex;exact⟨_,fun i=>oE (q1 i) (hg i) (hm i) hv (y1 i) hn hd (y.st.1 _) (y.st.2.plain _ _),aAC q2 y2⟩
theorem oS{x:Str}{id:String}{F:FN}{p:Pos}(q:QN K X (.type id) F)(hm:∀i,(X i).mg x=none)(hv:bootBuiltins x=some (.type id))(y:MA K X (e::es) fa)(hg:∀i,Gl (X i) x:=by intro _;rfl)(hn:x≠"__name__":=by decide)(hd:(x==("__debug__":Str))=false:=by decide):
 ME K X (.Call (.Name x p) (e::es) [] pos) (aI F fa):=by
 obtain⟨r,q1,q2⟩:=q.ex;obtain⟨u,y1,y2⟩:=y.ex;exact⟨_,fun i=>JY (q1 i) (hg i) (hm i) hv (y1 i) hn hd (y.st.1 _) (y.st.2.plain _ _),aAC q2 y2⟩
theorem rE{T:String}{y:Str}{p p':Pos}(hK:∀i,(X i).K=K)(hT:T∈asked)(x:ME K X a f)(hs:UO a [.Name y p'])(hm:∀i,(X i).mg "isinstance"=none)(hmy:∀i,(X i).mg y=none)(hb:bootBuiltins y=some (.type T))(hg:∀i,Gl (X i) "isinstance":=by intro _;rfl)(hgy:∀i,Gl (X i) y:=by intro _;rfl)
 (hn:y≠"__name__":=by decide) (hd:(y==("__debug__":Str))=false:=by decide):ME K X (.Call (.Name "isinstance" p) [a,.Name y p'] [] pos) (yC T f):=by
 obtain⟨t,x1,x2⟩:=x.ex;refine⟨_,fun i=>oE (aGe (hK i)) (hg i) (hm i) boot_isinstance (hE (x1 i) (hE (vQ (v:=.ty T) (hgy i) (hmy i) hb rfl hn hd) tR bC) (hs _)) (by decide) (by decide) (hs _) (mC bC tQ),aBo hT x2⟩
theorem VE{T U:String}{y z:Str}{p p' p'' p3:Pos}{k:Nat}(hK:∀i,(X i).K=K)(hT:T∈asked)(hU:U∈asked)(x:ME K X a f)(hs:UO a [.Tuple [.Name y p',.Name z p''] k p3])(hm:∀i,(X i).mg "isinstance"=none)(hmy:∀i,(X i).mg y=none)(hmz:∀i,(X i).mg z=none)
 (hb:bootBuiltins y=some (.type T)) (hbz:bootBuiltins z=some (.type U)) (hg:∀i,Gl (X i) "isinstance":=by intro _;rfl) (hgy:∀i,Gl (X i) y:=by intro _;rfl) (hgz:∀i,Gl (X i) z:=by intro _;rfl)
 (hn:y≠"__name__":=by decide) (hd:(y==("__debug__":Str))=false:=by decide) (hn':z≠"__name__":=by decide) (hd':(z==("__debug__":Str))=false:=by decide):ME K X (.Call (.Name "isinstance" p) [a,.Tuple [.Name y p',.Name z p''] k p3] [] pos) (JE T U f):=by
 obtain⟨t,x1,x2⟩:=x.ex;refine⟨_,fun i=>oE (aES (hK i)) (hg i) (hm i) boot_isinstance (hE (x1 i) (hE (FT (hE (vQ (v:=.ty T) (hgy i) (hmy i) hb rfl hn hd) (hE (vQ (v:=.ty U) (hgz i) (hmz i) hbz rfl hn' hd') tR bC) bC)) tR vS) (hs _)) (by decide) (by decide) (hs _) (mC vS tQ),VU hT hU x2⟩
theorem dX(x:MT K X a ft):MT K X (.UnaryOp .Not a pos) (gN ft):=by
 obtain⟨t,x1,x2⟩:=x.ex;exact⟨_,fun i=>aBY (x1 i),aDH x2⟩
theorem nJ{rest:List Expr}(x:MT K X a ft)(y:MW K X (.BoolOp .Or (b::rest) pos) gt):MW K X (.BoolOp .Or (a::b::rest) pos) (gOr ft gt):=by
 obtain⟨t,x1,x2⟩:=x.ex;obtain⟨u,y1,y2⟩:=y.ex;exact⟨_,fun i=>aEa (x1 i) (y1 i),aEH x2 y2⟩
theorem mJ(x:MT K X a ft):MW K X (.BoolOp .Or [a] pos) ft:=by
 obtain⟨t,x1,x2⟩:=x.ex;exact⟨_,fun i=>aCm (x1 i),x2⟩
theorem BS(x:MW K X a ft):MT K X a ft:=by
 obtain⟨t,x1,x2⟩:=x.ex;exact⟨_,fun i=>(x1 i).pt,x2⟩
theorem bX{op:CmpOp}{k:F2}(q:Q2 K X (compareOp op) k)(x:ME K X a f)(y:ME K X b g)(hm:behindInMarks op b=false:=by rfl):MT K X (.Compare a [op] [b] pos) (gB (fOp k f g)):=by
 obtain⟨r,q1,q2⟩:=q.ex;obtain⟨t,x1,x2⟩:=x.ex;obtain⟨u,y1,y2⟩:=y.ex;exact⟨_,fun i=>YW (q1 i) (x1 i) (y1 i) hm,VF (JC q2 x2 y2)⟩
theorem dN(x:ME K X a f)(he:∀(env:Env)(whole:Sem Value),isTrue a env whole=(do let v <- whole;standAt a.pos;holding [v] (truthy v)):=by intro _ _;rfl):MT K X a (gB f):=by
 obtain⟨t,x1,x2⟩:=x.ex;exact⟨_,fun i=>aCb (x1 i) (he _),aDV x2⟩
theorem aCz(hK:∀i,(X i).K=K)(x:ME K X a f)(he:∀(env:Env)(whole:Sem Value),isTrue a env whole=(do let v <- whole;standAt a.pos;holding [v] (truthy v)):=by intro _ _;rfl):MT K X a (GQ f):=by
 obtain⟨t,x1,x2⟩:=x.ex;exact⟨_,fun i=>YQ (hK i) (x1 i) (he _),UW x2⟩
theorem sG{tg:Expr}{p:Pos}(hm:∀i,(X i).mg "range"=none)(x:MA K X [a] fa)(hg:∀i,Gl (X i) "range":=by intro _;rfl):MI K X tg (.Call (.Name "range" p) [a] [] pos) (jK fa):=by
 obtain⟨t,x1,x2⟩:=x.ex;exact⟨_,fun i=>LC (hg i) (hm i) (x1 i) (x.st.1 _),VM x2⟩
theorem rJ{tg:Expr}(hK:∀i,(X i).K=K)(x:ME K X a f):MI K X tg a (dD f):=by
 obtain⟨t,x1,x2⟩:=x.ex;exact⟨_,fun i=>WH (hK i) (x1 i),aBw x2⟩
theorem dA(i:Nat){x:Str}(hN:∀j,(X j).N.Nodup)(hi:∀j,(X j).N[i]?=some x:=by intro _;rfl)(hx:∀j,Loc (X j).env.scope x:=by intro _;first|exact Or.inl rfl|exact Or.inr rfl)(hf:∀j,(X j).fn x=true\/(X j).env.scope.names.lookup x=some .local:=by intro _;first|exact .inl rfl|exact .inr rfl):
 MG K X (.Name x pos) (hName i):=⟨_,fun j=>ZX (hN j) (hi j) (hx j) (hf j),vO⟩
theorem HG:MGs K X [] yI:=⟨_,fun _=>YO,VX⟩
theorem lL{gf:GF}{gs:GsF}(x:MG K X e gf)(y:MGs K X es gs)(hs:∀env:Env,(assignEach (e::es) env).map (·.2)=assign e env::(assignEach es env).map (·.2):=by intro _;rfl):MGs K X (e::es) (eG gf gs):=by
 obtain⟨t,x1,x2⟩:=x.ex;obtain⟨u,y1,y2⟩:=y.ex;exact⟨_,fun i=>QJ (x1 i) (y1 i) (hs _),TM x2 y2⟩
theorem zY{s:F3}(q:QS K X s)(x:ME K X a f)(y:ME K X b g) (hs:∀(env:Env)(v:Value),assign (.Subscript a b pos) env v=(do
 let ov <- holding [v] (eval a env);let iv <- holding [v,ov] (eval b env)
 standAt pos
 holding [v,ov,iv] (setItem ov iv v)
 release [v,ov,iv] []):=by intro _ _;rfl):MG K X (.Subscript a b pos) (hSub f g s):=by
 obtain⟨r,q1,q2⟩:=q.ex;obtain⟨t,x1,x2⟩:=x.ex;obtain⟨u,y1,y2⟩:=y.ex;exact⟨_,fun i=>aBK (x1 i) (y1 i) (q1 i) (hs _),aAR q2 x2 y2⟩
theorem vZ:MF K X [] kY:=⟨_,fun _=>RZ,aAS⟩
theorem aCk(x:MT K X c ft):MF K X [c] ft:=by
 obtain⟨t,x1,x2⟩:=x.ex;exact⟨_,fun i=>QA (x1 i),x2⟩
noncomputable abbrev LcI(ι:Type):Type:=ι×Addr×Shared×Hp×List Addr×List (Addr×Obj)
noncomputable def rW(X:ι->Cx)(N':List Str)(scope:Scope):LcI ι->Cx:=fun j=>eW (X j.1) N' scope j.2.1 j.2.2.1 j.2.2.2.1 j.2.2.2.2.1 j.2.2.2.2.2
variable{N':List Str}{cap:List (Option Nat)}{scope:Scope}{tg iter elt:Expr}{ifs:List Expr}{gf:GF}
theorem NA(hc:∀i,(X i).calm=true)(S:∀i,nP (X i) N' cap scope)(x:MI K X tg iter fa)(y:MG K (rW X N' scope) tg gf)(z:MF K (rW X N' scope) ifs ft)(w:ME K (rW X N' scope) elt f)(hs:∀(env:Env)(x:Value),foldedSetIterable iter env x=pure x:=by intro _ _;rfl):
 ME K X (.ListComp elt [⟨tg,iter,ifs,0⟩] scope pos) (fLc cap fa gf ft f):=by
 obtain⟨t,x1,x2⟩:=x.ex;obtain⟨u,y1,y2⟩:=y.ex;obtain⟨v,z1,z2⟩:=z.ex;obtain⟨o,w1,w2⟩:=w.ex;exact⟨_,fun i=>aER (hc i) (S i) (x1 i) (fun C s H fp pn=>y1 (i,C,s,H,fp,pn)) (fun C s H fp pn=>z1 (i,C,s,H,fp,pn)) (fun C s H fp pn=>w1 (i,C,s,H,fp,pn)) (hs _),QB x2 y2 z2 w2⟩
theorem OZ(i:Nat){x':Str}{pos' pos'':Pos}(hN:∀j,(X j).N.Nodup)(hc:∀i,(X i).calm=true)(S:∀i,nP (X i) N' cap scope)(x:MI K X tg iter fa)(y:MG K (rW X N' scope) tg gf)(z:MF K (rW X N' scope) ifs ft)(w:ME K (rW X N' scope) elt f)
 (hix:∀j,(X j).N[i]?=some x':=by intro _;rfl) (hsw:∀j,swapsWith (.ListComp elt [⟨tg,iter,ifs,0⟩] scope pos) (some (.Name x' pos')) pos''.line (X j).env=pure true:=by intro _;rfl) (hx:∀j,(X j).env.scope.names.lookup x'=some .local:=by intro _;rfl) (hs:∀(env:Env)(x:Value),foldedSetIterable iter env x=pure x:=by intro _ _;rfl):
 MS K X (.Assign [.Name x' pos'] (.ListComp elt [⟨tg,iter,ifs,0⟩] scope pos) pos'') (bR (fLc cap fa gf ft f) (hName i)):=by
 obtain⟨t,x1,x2⟩:=x.ex;obtain⟨u,y1,y2⟩:=y.ex;obtain⟨v,z1,z2⟩:=z.ex;obtain⟨o,w1,w2⟩:=w.ex;exact⟨_,fun j=>OE (hN j) (hix j) (hc j) (S j) (x1 j) (fun C s H fp pn=>y1 (j,C,s,H,fp,pn)) (fun C s H fp pn=>z1 (j,C,s,H,fp,pn)) (fun C s H fp pn=>w1 (j,C,s,H,fp,pn)) (hsw j) (hx j) (hs _),GJ (QB x2 y2 z2 w2) vO⟩
variable{st:Stmt}{sts:List Stmt}{sf sg:SF}
theorem bK:ML K X [] bQ:=⟨_,fun _=>UR,ZR⟩
theorem aN(x:MS K X st sf):ML K X [st] sf:=by
 obtain⟨t,x1,x2⟩:=x.ex;exact⟨_,fun i=>IF (x1 i),x2⟩
theorem aL(x:MS K X st sf)(y:ML K X sts sg):ML K X (st::sts) (bB sf sg):=by
 obtain⟨t,x1,x2⟩:=x.ex;obtain⟨u,y1,y2⟩:=y.ex;exact⟨_,fun i=>EJ (x1 i) (y1 i),aDx x2 y2⟩
theorem aS(x:ME K X e f):MS K X (.Return (some e) pos) (bD f):=by
 obtain⟨t,x1,x2⟩:=x.ex;exact⟨_,fun i=>aAQ (x1 i),aBD x2⟩
theorem VH(x:ME K X e f)(hs:∀i,swapsWith e none pos.line (X i).env=pure false:=by intro _;rfl):MS K X (.Expr e pos) (IJ f):=by
 obtain⟨t,x1,x2⟩:=x.ex;exact⟨_,fun i=>JH (x1 i) (hs i),WN x2⟩
theorem cK{sts':List Stmt}(x:MT K X c ft)(y:ML K X sts sf)(z:ML K X sts' sg):MS K X (.If c sts sts' pos) (sIf ft sf sg):=by
 obtain⟨t,x1,x2⟩:=x.ex;obtain⟨u,y1,y2⟩:=y.ex;obtain⟨v,z1,z2⟩:=z.ex;exact⟨_,fun i=>aAM (x1 i) (y1 i) (z1 i),aFs x2 y2 z2⟩
theorem FC(hp:∀i,PassesOwn (model (X i).prog (X i).w) (X i).A (X i).env (X i).xe)(x:MT K X c ft)(y:ML K X sts sf):MS K X (.While c sts [] pos) (rF ft sf):=by
 obtain⟨t,x1,x2⟩:=x.ex;obtain⟨u,y1,y2⟩:=y.ex;exact⟨_,fun i=>QL (hp i) (x1 i) (y1 i),OM x2 y2⟩
theorem rB(hp:∀i,PassesOwn (model (X i).prog (X i).w) (X i).A (X i).env (X i).xe)(hc:∀i,(X i).calm=true)(x:MI K X tg iter fa)(y:MG K X tg gf)(z:ML K X sts sf)(hs:∀(env:Env)(x:Value),foldedSetIterable iter env x=pure x:=by intro _ _;rfl):MS K X (.For tg iter sts [] pos) (rZ fa gf sf):=by
 obtain⟨t,x1,x2⟩:=x.ex;obtain⟨u,y1,y2⟩:=y.ex;obtain⟨v,z1,z2⟩:=z.ex;exact⟨_,fun i=>aBL (hp i) (hc i) (x1 i) (y1 i) (z1 i) (hs _),aCq x2 y2 z2⟩
theorem bH(i:Nat){x':Str}{pos':Pos}(hN:∀j,(X j).N.Nodup)(x:ME K X e f)(hi:∀j,(X j).N[i]?=some x':=by intro _;rfl)(hx:∀j,Loc (X j).env.scope x':=by intro _;first|exact Or.inl rfl|exact Or.inr rfl)(hs:∀j,swapsWith e (some (.Name x' pos')) pos.line (X j).env=pure false:=by intro _;rfl)
 (hf:∀j,(X j).fn x'=true\/(X j).env.scope.names.lookup x'=some .local:=by intro _;first|exact .inl rfl|exact .inr rfl):MS K X (.Assign [.Name x' pos'] e pos) (bR f (hName i)):=by
 obtain⟨t,x1,x2⟩:=x.ex;exact⟨_,fun j=>UN (hN j) (hi j) (hx j) (x1 j) (hs j) (hf j),GJ x2 vO⟩
theorem NW(i j:Nat){x' y':Str}{px py pt pt2:Pos}{kt k2:Nat}(hc:∀j,(X j).calm=true)(hN:∀j,(X j).N.Nodup)(x:MA K X [a,b] fa)(hij:i≠j:=by decide)(hi:∀k,(X k).N[i]?=some x':=by intro _;rfl)(hj:∀k,(X k).N[j]?=some y':=by intro _;rfl)(hx:∀k,(X k).env.scope.names.lookup x'=some .local:=by intro _;rfl)(hy:∀k,(X k).env.scope.names.lookup y'=some .local:=by intro _;rfl)
 (h1:∀k,swappedStores [.Tuple [.Name x' px,.Name y' py] kt pt] (.Tuple [a,b] k2 pt2) (X k).env=pure (some [x',y']):=by intro _;rfl) (h2:∀k,swapsWithSole [.Tuple [.Name x' px,.Name y' py] kt pt] (.Tuple [a,b] k2 pt2) pos.line (X k).env=pure false:=by intro _;rfl):
 MS K X (.Assign [.Tuple [.Name x' px,.Name y' py] kt pt] (.Tuple [a,b] k2 pt2) pos) (DT i j fa):=by
 obtain⟨t,x1,x2⟩:=x.ex;exact⟨_,fun k=>aCG (hc k) (hN k) (hi k) (hj k) hij (hx k) (hy k) (x1 k) (h1 k) (h2 k),aCN x2⟩
theorem zW(x:ME K X e f)(y:MG K X tg gf)(h1:∀k,swapsWithSole [tg] e pos.line (X k).env=pure false:=by intro _;rfl)(h2:∀k,swappedStores [tg] e (X k).env=pure none:=by intro _;rfl)(h3:∀env:Env,(assignEach [tg] env).map (·.2)=[assign tg env]:=by intro _;rfl):MS K X (.Assign [tg] e pos) (bR f gf):=by
 obtain⟨t,x1,x2⟩:=x.ex;obtain⟨u,y1,y2⟩:=y.ex;exact⟨_,fun k=>aBM (x1 k) (y1 k) (h1 k) (h2 k) (h3 _),GJ x2 y2⟩
theorem eI(hK:∀i,(X i).K=K:=by intro _;rfl):Q2 K X (binaryOp .Add) dO:=⟨_,fun i=>aGd (hK i),XI⟩
theorem zB:Q2 K X (binaryOp .Sub) uW:=⟨_,fun _=>aBQ,aBS⟩
theorem uD:Q2 K X (binaryOp .Mult) tL:=⟨_,fun _=>ZV,aDy⟩
theorem qZ:Q2 K X (binaryOp .FloorDiv) nO:=⟨_,fun _=>LY,VS⟩
theorem oZ:Q2 K X (binaryOp .Mod) oF:=⟨_,fun _=>aCL,aDL⟩
theorem uP:Q2 K X (binaryOp .Pow) uX:=⟨_,fun _=>aDK,aCS⟩
theorem IY:Q1 K X (unaryOp .USub) DY:=⟨_,fun _=>aBR,aDj⟩
theorem FY:Q2 K X (compareOp .Lt) ltI:=⟨_,fun _=>aFu,aEO⟩
theorem MR:Q2 K X (compareOp .LtE) leI:=⟨_,fun _=>aFk,aEU⟩
theorem aFA:Q2 K X (compareOp .Gt) gtI:=⟨_,fun _=>aEv,aFb⟩
theorem aEo:Q2 K X (compareOp .GtE) geI:=⟨_,fun _=>aEV,aEQ⟩
theorem lC(hK:∀i,(X i).K=K)(hu:∀i,(X i).A.units+64<cLine):Q2 K X (compareOp .Eq) (eqX false):=⟨_,fun i=>kEq (hK i) (hu i),aCV⟩
theorem EB(hK:∀i,(X i).K=K)(hu:∀i,(X i).A.units+64<cLine):Q2 K X (compareOp .NotEq) (eqX true):=⟨_,fun i=>kNe (hK i) (hu i),aBv⟩
theorem aFQ(hK:∀i,(X i).K=K)(hu:∀i,(X i).A.in1.units+64<cLine):Q2 K X (compareOp .In) (inD false):=⟨_,fun i=>kIn (hK i) (hu i),aFF⟩
theorem bO(hK:∀i,(X i).K=K:=by intro _;rfl):QI K X ixF:=⟨_,fun i=>kIx (hK i),aBA⟩
theorem rV(hK:∀i,(X i).K=K:=by intro _;rfl):QN K X (.builtin "len") iJ:=⟨_,fun i=>aFV (hK i),VQ⟩
theorem vE(hK:∀i,(X i).K=K):QN K X (.type "tuple") gM:=⟨_,fun i=>aCo (hK i),KA⟩
theorem aEn(hK:∀i,(X i).K=K)(hc:∀i,(X i).calm=true):QN K X (.builtin "all") yH:=⟨_,fun i=>aFP (hK i) (hc i),XO⟩
theorem JD:QS K X tT:=⟨_,fun _=>set_list,aDf⟩
end
section
variable{P:Program}{w:World}{K:Fg}{mg:Str->Option Value}
theorem Def.okG{base:Heap}{x:Str}{st:Stmt}{N ps:List Str}{k:Nat}{b:SF}{q:Bool}(D:Def K mg x st)(S:aT N ps (aG st))
 (hb:∀(kV doc pm:Value)(an:Option Addr)(cdv ct:Value)(us:List Value),us.length=ps.length->bindArgs (PySem.W.fnOf x x (fN st) (cE st) (aG st) .none kV doc pm an cdv ct) ⟨us,[]⟩=pure (ps.zip us))
 (hbody:∀(f:Addr)(cdv:Value)(A:Around)(outer:List Env)(s:Shared)(H:Hp)(E:XK),cX k (A.deeper (envOfC x (aG st) s.heap.objs.size f cdv)) q->
  ML K (fun _:Unit=>(mK CX0 P w K mg base N x (aG st) f cdv A outer s H E q).nox) (cE st) b):Callee P w K mg base (k+1) x ps (spM K (fnF ps.length N.length b)) q:=
 D.okM S hb fun f cdv A outer s H E hr=>by
  obtain⟨t,h1,h2⟩:=(hbody f cdv A outer s H E hr).ex;exact⟨t,h1 (),h2⟩
theorem Def.okLG{x p:Str}{st:Stmt}{N:List Str}{k:Nat}{b:SF}{F:FN}(D:Def K mg x st)(S:aT N [p] (aG st))(hF:F=fnF 1 N.length b)
 (hb:∀(kV doc pm:Value)(an:Option Addr)(cdv ct:Value)(us:List Value),us.length=[p].length->bindArgs (PySem.W.fnOf x x (fN st) (cE st) (aG st) .none kV doc pm an cdv ct) ⟨us,[]⟩=pure ([p].zip us))
 (hbody:∀(base:Heap)(f:Addr)(cdv:Value)(A:Around)(outer:List Env)(s:Shared)(H:Hp)(E:XK),cX k (A.deeper (envOfC x (aG st) s.heap.objs.size f cdv))->
  ML K (fun _:Unit=>(mK CX0 P w K mg base N x (aG st) f cdv A outer s H E).nox) (cE st) b):
 ∃f fd,mg x=some (.ref f)/\(∀(s:Shared)(u:Value),BindsTo s fd ⟨[u],[]⟩ [(p,u)])/\∀base,mY P w K mg base CX0 (k+1) f fd [p] (spM K F):=
 D.okL S hF hb fun base f cdv A outer s H E hr=>by
  obtain⟨t,h1,h2⟩:=(hbody base f cdv A outer s H E hr).ex;exact⟨t,h1 (),h2⟩
end
end L2
namespace HT
open PySem PyProof.Rows PySem.Spec
section
variable{prog:Program}{w:World}{A:Around}{E:Value->Shared->Prop}{s:Shared}
theorem getItem_tuple_whole{t sl:Addr}{items:Array Value}{vl vu:Value}{lo hi:Option Int}{Q:Value->Shared->Prop}(ht:IsTup s.heap t items)(hs:s.heap.IsSliceOf sl vl vu .none)(pl:IsPart vl lo)(pu:IsPart vu hi)
 (hw:sIx items.size 0 lo=0/\sIx items.size items.size hi=items.size) (h:Q (.ref t) s):wpAny (model prog w) A (getItem (.ref t) (.ref sl)) Q E s:=by
 obtain⟨os,hos,hcs,hds⟩:=id hs;have hTs:s.TypeIs (.ref sl) "slice":=⟨os,hos,hcs⟩;unfold getItem
 try with_reducible refine E6 ?_
 first|refine A0 (A4 ?_)|skip
 refine A0 (wpAny_sequenceKey ht.typeIs (by decide) ?_)
 refine A0 (wpAny_callSpecial?_slot (name:=Str.ofString "__getitem__") ht.typeIs J5
  (wpAny_call_entry J5 ht.typeIs entry_tuple_getitem ?_ (args_tuple_getitem _ _)))
 show wpAny _ _ (Builtin.Tuple.tupleItemsOf (.ref t) >>= _) _ _ s;refine A0 (tupleItemsOf_ ht ?_);refine A0 (wpAny_typeOf hTs ?_);rw[A3 (by decide)];refine A0 (lK hs pl pu ?_)
 have hyes:(((sIx items.size 0 lo:Nat):Int)==0&&(1:Int)==1&&(sIx items.size items.size hi-sIx items.size 0 lo)==items.size)=true:=by
  rw[hw.1,hw.2];simp
 show wpAny _ _ (if (((sIx items.size 0 lo:Nat):Int)==0&&(1:Int)==1&&(sIx items.size items.size hi-sIx items.size 0 lo)==items.size)=true then _ else _) _ _ s;rw[A3 hyes];refine A0 (m:=Builtin.Tuple.tupleIsExact (.ref t)) ?_;unfold Builtin.Tuple.tupleIsExact;refine A0 (wpAny_typeOf ht.typeIs (A4 ?_));rw[A3 (by decide)];exact A0 (wpAny_rule (A4 ⟨_,rfl,A4 h⟩))
end
end HT
namespace L2
variable{W:Wd}{K:Fg}{H:Hp}{M:Sto}{pos:Pos}
open PySem PySem.Spec PyProof.Rows
noncomputable def aEk(K:Fg):V->Option Int->Option Int->Hp->VK->Prop:=fun x lo hi H Q=>∃a xs,x=.ref a/\SqT K H a xs/\(HT.sIx xs.length 0 lo=0/\HT.sIx xs.length xs.length hi=xs.length)/\Q (.ref a) H
theorem MY{X:Cx}:SlR X (aEk X.K):=by
 intro pins s σ H x v vl vu lo hi sl Q I rx hs pl pu h;obtain⟨a,xs,rfl,hx,hw,q⟩:=h;cases rx;obtain⟨its,r,ht,hz⟩:=I.tuple hx;have hlen:its.toArray.size=xs.length:=by rw[C1];exact r.length.symm
 refine⟨"tuple",_,PyProof.Rows.slot_tuple_getitem.lookup,ht.typeIs,?_⟩;exact HT.getItem_tuple_whole ht hs pl pu (by rw[hlen];exact hw) ⟨.ref a,H,I,rfl,q⟩
noncomputable def fI{α:Type}(xs:List α)(lo hi:Option Int):List α:=(xs.drop (HT.sIx xs.length 0 lo)).take (HT.sIx xs.length xs.length hi-HT.sIx xs.length 0 lo)
noncomputable abbrev OF:=Ga->Sto->Option (Option Int×Sto)
noncomputable def dB:OF:=fun _ M=>some (none,M)
noncomputable def asI:CD->Option Int
 |.d (.int i)=>some i
 |_=>none
noncomputable def iG(f:EF):OF:=fun γ M=>(f γ M).bind fun r=>(asI r.1).bind fun i=>some (some i,r.2)
noncomputable def slF(x:CD)(lo hi:Option Int)(M:Sto):Option (CD×Sto):=match x with
 |.d (.list ds)=>some (.d (.list (fI ds lo hi)),M)
 |.d (.tuple ds)=>some (.d (.tuple (fI ds lo hi)),M)
 |.c i=>match M[i]? with
  |some (.lst xs)=>(lP (fI xs lo hi)).bind fun ds=>some (.d (.list ds),M)
  |_=>none
 |_=>none
noncomputable def fSl(f:EF)(l u:OF):EF:=fun γ M=>(f γ M).bind fun r=>(l γ r.2).bind fun p=>(u γ p.2).bind fun q=>slF r.1 p.1 q.1 q.2
noncomputable def aBE(K:Fg):V->Option Int->Option Int->Hp->VK->Prop:=fun x lo hi H Q=>aFB K x lo hi H Q\/aEu K x lo hi H Q\/aEk K x lo hi H Q
theorem kSl{X:Cx}(h:X.K=K):SlR X (aBE K):=by subst h;exact sl_list.or (sl_tup.or MY)
section
variable{K:Fg}
noncomputable def SO(K:Fg)(t:TO)(f:OF):Prop:=∀γ M b M',f γ M=some (b,M')->∀(W:Wd)(H:Hp)(σ:St)(Q:Option Int->Hp->Prop),Good K W M H->cL K W γ σ->(∀W' H',W.Ext W'->Good K W' M' H'->Q b H')->t σ H Q
theorem UU:SO K HY dB:=by
 intro γ M x M' hh W H σ Q G R k;cases hh;exact k W H (.refl _) G
theorem aCp{x:CD}{i:Int}(h:asI x=some i):x=.d (.int i):=by
 cases x with
 |c n=>cases h
 |t n=>cases h
 |f n=>cases h
 |g _=>cases h
 |d x=>cases x<;>first|cases h;rfl|cases h
theorem ZF{ta:TE}{f:EF}(a:SE K ta f):SO K (aAG ta) (iG f):=by
 intro γ M x M' hh W H σ Q G R k;obtain⟨⟨y,M1⟩,h1,hh⟩:=aJ hh;obtain⟨i,h2,hh⟩:=aJ hh;cases hh;refine a _ _ _ _ h1 W H σ _ G R fun v W1 H1 e1 G1 r1=>?_;have hy:y=_:=aCp h2;subst hy;exact⟨i,r1,k W1 H1 e1 G1⟩
theorem aM.drop{H:Hp}:∀{ds:List PyData}{vs:List V}(n:Nat),aM K H ds vs->aM K H (ds.drop n) (vs.drop n)
 |_,_,0=>fun h=>h
 |[],vs,n+1=>fun h=>by rw[show vs=[]from h];rfl
 |d::ds,vs,n+1=>fun h=>by
  obtain⟨v,r,rfl,_,h3⟩:=h;exact aM.drop n h3
theorem aM.take{H:Hp}:∀{ds:List PyData}{vs:List V}(n:Nat),aM K H ds vs->aM K H (ds.take n) (vs.take n)
 |_,_,0=>fun h=>rfl
 |[],vs,n+1=>fun h=>by rw[show vs=[]from h];rfl
 |d::ds,vs,n+1=>fun h=>by
  obtain⟨v,r,rfl,h2,h3⟩:=h;exact⟨v,r.take n,rfl,h2,aM.take n h3⟩
theorem aM.cut{ds:List PyData}{vs:List V}(h:aM K H ds vs)(lo hi:Option Int):aM K H (fI ds lo hi) (tW vs lo hi):=by
 unfold fI tW;rw[h.length];exact(h.drop _).take _
theorem xE{α β:Type}{R:α->β->Prop}:∀{xs:List α}{ys:List β}(n:Nat),Paired R xs ys->Paired R (xs.drop n) (ys.drop n)
 |_,_,0,h=>h
 |_,_,_+1,.nil=>.nil
 |_,_,n+1,.cons _ t=>xE n t
theorem vU{α β:Type}{R:α->β->Prop}:∀{xs:List α}{ys:List β}(n:Nat),Paired R xs ys->Paired R (xs.take n) (ys.take n)
 |_,_,0,h=>.nil
 |_,_,_+1,.nil=>.nil
 |_,_,n+1,.cons r t=>.cons r (vU n t)
theorem LS{xs:List CD}{vs:List V}(h:cC K W xs vs)(lo hi:Option Int):cC K W (fI xs lo hi) (tW vs lo hi):=by
 unfold fI tW;rw[Paired.len h];exact vU _ (xE _ h)
theorem RM{x:CD}{lo hi:Option Int}{z:CD}{M':Sto}(h:slF x lo hi M=some (z,M')){v:V}{Q:VK}(G:Good K W M H)(rx:cF K W x v)(k:∀w W' H',W.Ext W'->Good K W' M' H'->cF K W' z w->Q w H'):aBE K v lo hi H Q:=by
 unfold slF at h;split at h
 .rename_i ds;cases h;obtain⟨p,us,rfl,hq,hr⟩:=(show ∃a us,_=V.ref a/\SqL K W.F a us/\aM K W.F ds us from rx);refine .inl ⟨p,us,rfl,G.fh.seq hq,fun l hl=>?_⟩;obtain⟨e2,G2⟩:=G.lay (o:=.lst (tW us lo hi)) hl;exact k _ _ _ e2 G2 ⟨l,_,rfl,SqL.of aX,aM.same e2.ff _ _ (hr.cut lo hi)⟩
 .rename_i ds;cases h;obtain⟨p,us,rfl,hq,hr⟩:=(show ∃a us,_=V.ref a/\SqT K W.F a us/\aM K W.F ds us from rx);by_cases hw:HT.sIx us.length 0 lo=0/\HT.sIx us.length us.length hi=us.length
  .refine .inr (.inr ⟨p,us,rfl,G.fh.seqT hq,hw,?_⟩)
   have e:fI ds lo hi=ds:=by
    unfold fI;rw[hr.length,hw.1,hw.2,<- hr.length];simp
   rw[e]at k;exact k _ W H (.refl _) G ⟨p,us,rfl,hq,hr⟩
  .refine .inr (.inl ⟨p,us,rfl,G.fh.seqT hq,hw,fun l hl=>?_⟩);obtain⟨e2,G2⟩:=G.lay (o:=.tup (tW us lo hi)) hl;exact k _ _ _ e2 G2 ⟨l,_,rfl,SqT.of aX,aM.same e2.ff _ _ (hr.cut lo hi)⟩
 .rename_i i;split at h
  .rename_i xs hx;obtain⟨ds,h1,h⟩:=aJ h;cases h;obtain⟨us,hv,hr⟩:=G.lstAt hx;rw[rx.2];refine .inl ⟨_,us,rfl,SqL.of hv,fun l hl=>?_⟩;obtain⟨e2,G2⟩:=G.lay (o:=.lst (tW us lo hi)) hl;exact k _ _ _ e2 G2 ⟨l,_,rfl,SqL.of aX,aM.same e2.ff _ _ (fR h1 (LS hr lo hi))⟩
  .cases h
 .cases h
theorem aFq{ta:TE}{f:EF}{tl th:TO}{l u:OF}(a:SE K ta f)(b:SO K tl l)(c:SO K th u):SE K (tSl (aBE K) ta tl th) (fSl f l u):=by
 intro γ M x M' hh W H σ Q G R k;obtain⟨⟨y,M1⟩,h1,hh⟩:=aJ hh;obtain⟨⟨p,M2⟩,h2,hh⟩:=aJ hh;obtain⟨⟨q,M3⟩,h3,hh⟩:=aJ hh;refine a _ _ _ _ h1 W H σ _ G R fun v W1 H1 e1 G1 r1=>?_;refine b _ _ _ _ h2 W1 H1 σ _ G1 (R.up e1) fun W2 H2 e2 G2=>?_;refine c _ _ _ _ h3 W2 H2 σ _ G2 (R.up (e1.trans e2)) fun W3 H3 e3 G3=>?_;exact RM hh G3 (r1.up (e2.trans e3)) fun w W4 H4 e4 G4 r4=>k w W4 H4 (((e1.trans e2).trans e3).trans e4) G4 r4
noncomputable def NF:FN:=fun xs M=>match xs with
 |[.d (.int i)]=>some (.d (.int i),M)
 |[.d (.bool b)]=>some (.d (.int (if b then 1 else 0)),M)
 |_=>none
theorem aCr:PN K (fun xs H Q=>(∃i,xs=[.int i]/\Q (.int i) H)\/∃k,xs=[.bl k]/\Q (.int (if k then 1 else 0)) H) NF:=by
 intro xs M z M' h W H vs Q G r k;unfold NF at h;split at h
 .rename_i i;cases h;rcases r with _|⟨r1,_|_⟩;exact .inl ⟨i,by rw[show _=V.int i from r1],k _ W H (.refl _) G rfl⟩
 .rename_i b;cases h;rcases r with _|⟨r1,_|_⟩;exact .inr ⟨b,by rw[show _=V.bl b from r1],k _ W H (.refl _) G rfl⟩
 .cases h
noncomputable def tyB(T:String)(M:Sto):CD->Bool
 |.d (.list _)=>T=="list"
 |.d (.str _)=>T=="str"
 |.c i=>match M[i]? with
  |some (.lst _)=>T=="list"
  |some (.dk _)=>T=="dict"
  |some (.dt _)=>T=="dict"
  |_=>false
 |_=>false
theorem aBf{T:String}{x:CD}{v:V}(h:tyB T M x=true)(G:Good K W M H)(r:cF K W x v):tyV K T v H:=by
 unfold tyB at h;split at h
 .rename_i ds;obtain⟨p,us,rfl,hq,hr⟩:=(show ∃a us,_=V.ref a/\SqL K W.F a us/\aM K W.F ds us from r);exact .inl ⟨eq_of_beq h,us,G.fh.seq hq⟩
 .rename_i x;rw[show v=.str x from r];exact eq_of_beq h
 .rename_i i;rw[r.2];split at h
  .rename_i xs hx;obtain⟨us,hv,hr⟩:=G.lstAt hx;exact .inl ⟨eq_of_beq h,us,SqL.of hv⟩
  .rename_i kvs hx;obtain⟨_,o,g2,g3⟩:=G.cs i _ hx (by intro z;cases z);cases o with
   |dK us=>exact .inr (.inr (.inl ⟨eq_of_beq h,.inl ⟨us,g2⟩⟩))
   |_=>exact False.elim g3
  .rename_i kvs hx;obtain⟨_,o,g2,g3⟩:=G.cs i _ hx (by intro z;cases z);cases o with
   |dT us=>exact .inr (.inr (.inl ⟨eq_of_beq h,.inr ⟨us,g2⟩⟩))
   |_=>exact False.elim g3
  .cases h
 .cases h
noncomputable abbrev FM:=CD->List CD->Sto->Option (CD×Sto)
noncomputable def IZ(T:String)(h:FM)(f:EF)(fa:AF):EF:=fun γ M=>(f γ M).bind fun r=>if tyB T r.2 r.1=true then(fa γ r.2).bind fun q=>h r.1 q.1 q.2 else none
noncomputable def PM(K:Fg)(r:V->List V->Hp->VK->Prop)(f:FM):Prop:=∀x xs M z M',f x xs M=some (z,M')->∀(W:Wd)(H:Hp)(v:V)(vs:List V)(Q:VK),Good K W M H->cF K W x v->cC K W xs vs->(∀w W' H',W.Ext W'->Good K W' M' H'->cF K W' z w->Q w H')->r v vs H Q
theorem ZW{T:String}{r:V->List V->Hp->VK->Prop}{h:FM}{ta:TE}{f:EF}{tA:TA}{fa:AF}(p:PM K r h)(a:SE K ta f)(b:SA K tA fa):SE K (tBM K T r ta tA) (IZ T h f fa):=by
 intro γ M x M' hh W H σ Q G R k;obtain⟨⟨y,M1⟩,h1,hh⟩:=aJ hh;by_cases hT:tyB T M1 y=true
 .have hh:(if tyB T M1 y=true then(fa γ M1).bind fun q=>h y q.1 q.2 else none)=some (x,M'):=hh;rw[A3 hT]at hh;obtain⟨⟨ys,M2⟩,h2,hh⟩:=aJ hh;refine a _ _ _ _ h1 W H σ _ G R fun v W1 H1 e1 G1 r1=>⟨aBf hT G1 r1,?_⟩;refine b _ _ _ _ h2 W1 H1 σ _ G1 (R.up e1) fun vs W2 H2 e2 G2 r2=>?_;exact p _ _ _ _ _ hh W2 H2 v vs Q G2 (r1.up e2) r2 fun w W3 H3 e3 G3 r3=>k w W3 H3 ((e1.trans e2).trans e3) G3 r3
 .have hh:(if tyB T M1 y=true then(fa γ M1).bind fun q=>h y q.1 q.2 else none)=some (x,M'):=hh;rw[A7 hT]at hh;cases hh
noncomputable def pW:FM:=fun x ys M=>match x,ys with
 |.c i,[y]=>match M[i]? with
  |some (.lst xs)=>if xs.length<sizeLine then some (.d .none,M.set i (.lst (xs++[y])))else none
  |_=>none
 |_,_=>none
theorem JR:PM K IQ pW:=by
 intro x ys M z M' h W H v vs Q G rx rs k;unfold pW at h;split at h
 .rename_i i y;split at h
  .rename_i xs hx;by_cases hl:xs.length<sizeLine
   .rw[A3 hl]at h;cases h;obtain⟨us,hv,hr⟩:=G.lstAt hx;rcases rs with _|⟨r1,_|_⟩;refine⟨W.α i,us,_,rx.2,rfl,hv,by rw[<- Paired.len hr];exact hl,?_⟩;exact k _ W _ (.refl _) (G.set hx (by intro q;cases q) (c':=.lst (xs++[y])) (show cC K W _ _ from Paired.app hr (.cons r1 .nil))) rfl
   .rw[A7 hl]at h;cases h
  .cases h
 .cases h
end
section
variable{ι:Type}{K:Fg}{X:ι->Cx}{a b c e o:Expr}{es:List Expr}{f g h:EF}{fa:AF}{pos:Pos}
structure MO(K:Fg)(X:ι->Cx)(e:Option Expr)(f:OF):Prop where
 ex:∃t,(∀i,PO (X i) e t)/\SO K t f
theorem hZ:MO K X none dB:=⟨_,fun _=>YL,UU⟩
theorem hJ(x:ME K X e f):MO K X (some e) (iG f):=by
 obtain⟨t,x1,x2⟩:=x.ex;exact⟨_,fun i=>XG (x1 i),ZF x2⟩
theorem qF{lo hi:Option Expr}{l u:OF}{p2:Pos}(hK:∀i,(X i).K=K)(x:ME K X a f)(y:MO K X lo l)(z:MO K X hi u):ME K X (.Subscript a (.Slice lo hi none p2) pos) (fSl f l u):=by
 obtain⟨t,x1,x2⟩:=x.ex;obtain⟨t',y1,y2⟩:=y.ex;obtain⟨t'',z1,z2⟩:=z.ex;exact⟨_,fun i=>OL (kSl (hK i)) (x1 i) (y1 i) (z1 i),aFq x2 y2 z2⟩
theorem aFC:QN K X (.type "int") NF:=⟨_,fun _=>JV,aCr⟩
theorem LF{apos cpos:Pos}(hK:∀i,(X i).K=K)(x:ME K X o f)(y:MA K X [e] fa)(hb:∀env:Env,attributeBase o "append" env (eval o env)=eval o env:=by intro _;rfl)(hl:(apos.endLine==cpos.line)=true:=by rfl):
 ME K X (.Call (.Attribute o "append" apos) [e] [] cpos) (IZ "list" pW f fa):=by
 obtain⟨t,x1,x2⟩:=x.ex;obtain⟨u,y1,y2⟩:=y.ex;refine⟨_,fun i=>?_,ZW JR x2 y2⟩;have:=aFh PySem.F.plainAttrs_list PySem.F.slot_list_append PySem.F.type_list_append LI (x1 i) (y1 i) (apos:=apos) (cpos:=cpos) (hb _) (by rw[y.st.1];rfl) hl (y.st.1 _) (y.st.2.plain _ _);rw[hK i]at this;exact this
end
noncomputable def aAy(K:Fg):List V->Hp->VK->Prop:=fun xs H Q=>∃x d,xs=[x]/\Rep K H d x/\d.showable=true/\d.depth<=64/\d.shown.length<=sizeLine/\Q (.str d.shown) H
theorem aEL{X:Cx}(hK:X.K=K)(hg:X.A.guards=some [])(hu:X.A.units+200<cLine):eO X (.builtin "repr") (aAy K):=by
 subst hK;intro pins s σ H xs us Q I r h;obtain⟨x,d,rfl,hd,hs,hp,hz,q⟩:=h;obtain⟨u,rfl,ru⟩:=vals1 r
 have big:∀a,u=.ref a->wpAny (model X.prog X.w) X.A (call (.builtin "repr") [u]) (EP X pins σ Q) X.xe s:=fun a e=>by
  subst e;obtain⟨as,hr,hn⟩:=Rep.reads' I d x _ hd ru;exact repr_of_reads' hr hs (fun _=>hn) hg (by omega) (fun _ _ e=>e) (fun h' u' tk hk=>⟨.str d.shown,H,I.kept (h':=h') (t':=tk) hk,⟨_,rfl⟩,q⟩) hz
 cases d with
 |none=>
  rw[show x=.non from hd]at ru;cases (show u=Value.none from ru);exact PySem.P.repr_of_none ⟨.str _,H,I.tok _,⟨_,rfl⟩,q⟩
 |bool b=>
  rw[show x=.bl b from hd]at ru;cases (show u=Value.bool b from ru);refine PySem.P.repr_of_bool ⟨.str _,H,I.tok _,⟨_,rfl⟩,?_⟩;cases b<;>exact q
 |int i=>
  rw[show x=.int i from hd]at ru;obtain⟨t,rfl⟩:=(show ∃t,u=Value.int i t from ru);exact PySem.P.repr_of_int (C0 hs) ⟨.str _,H,I.tok _,⟨_,rfl⟩,q⟩
 |str y=>
  rw[show x=.str y from hd]at ru;obtain⟨t,rfl⟩:=(show ∃t,u=Value.str y t from ru);exact PySem.P.repr_of_str ⟨.str _,H,I.tok _,⟨_,rfl⟩,q⟩ hz
 |list ds=>obtain⟨a,vs,e,_,_⟩:=hd;subst e;exact big a ru
 |tuple ds=>obtain⟨a,vs,e,_,_⟩:=hd;subst e;exact big a ru
 |dict ds=>obtain⟨a,vs,e,_,_⟩:=hd;subst e;exact big a ru
noncomputable def pS(d:PyData):Bool:=d.showable&&decide (d.depth<=64)&&decide (d.shown.length<=sizeLine)
noncomputable def IP:FN:=fun xs M=>match xs with
 |[.d x]=>if pS x=true then some (.d (.str x.shown),M)else none
 |_=>none
theorem cX.u200{k:Nat}{A:Around}(r:cX k A):A.units+200<cLine:=by have:=r.un;omega
theorem Def.okNone{P:Program}{w:World}{mg:Str->Option Value}{base:Heap}{x:Str}{st:Stmt}{N ps:List Str}{k:Nat}(D:Def K mg x st)(S:aT N ps (aG st))
 (hb:∀(kV doc pm:Value)(an:Option Addr)(cdv ct:Value)(us:List Value),us.length=ps.length->bindArgs (PySem.W.fnOf x x (fN st) (cE st) (aG st) .none kV doc pm an cdv ct) ⟨us,[]⟩=pure (ps.zip us)):
 Callee P w K mg base (k+1) x ps (spM K fun _ _=>none):=by
 refine D.ok S hb (fun vs H Q E h=>?_) fun f cdv A outer s H vs Q E hr h=>?_
 .obtain⟨xs,M,W,y,M',G,R,hf,_⟩:=h;cases hf
 .obtain⟨xs,M,W,y,M',G,R,hf,_⟩:=h;cases hf
theorem Good.freeze(g:Good K W M H){i:Nat}{c:Cell}{o':HO}(hi:M[i]?=some c)(hc:c≠.dead):
 W.Ext { W with F:=upd W.F (W.α i) o' }/\Good K { W with F:=upd W.F (W.α i) o' } (M.set i .dead) (upd H (W.α i) o'):=by
 obtain⟨h1,o,h2,h3⟩:=g.cs i c hi hc;have lt:i<M.length:=(List.getElem?_eq_some_iff.mp hi).1;have e:W.Ext { W with F:=upd W.F (W.α i) o' }:=⟨gU.upd h1,A6 _,fun _ _=>rfl⟩
 have at_:∀j d,(M.set i .dead)[j]?=some d->d≠.dead->j≠i/\M[j]?=some d:=fun j d h hd=>by
  by_cases q:i=j
  .subst q;rw[E3 lt]at h;exact absurd (C4 h).symm hd
  .rw[F7 q]at h;exact⟨fun z=>q z.symm,h⟩
 refine⟨e,?_,by show W.n=_;rw[g.n,List.length_set],fun j d hj hd=>?_,fun j k d1 d2 hj hk e1 e2 he=>?_⟩
 .intro b u hb;have hb:upd W.F (W.α i) o' b=some u:=hb;by_cases q:b=W.α i
  .subst q;rw[aX]at hb;rw[aX];exact hb
  .rw[aP q]at hb;rw[aP q];exact g.fh b u hb
 .obtain⟨q,h⟩:=at_ j d hj hd;obtain⟨k1,u,k2,k3⟩:=g.cs j d h hd;have ne:W.α j≠W.α i:=fun z=>q (g.inj j i d c h hi hd hc z);exact⟨by show upd W.F (W.α i) o' (W.α j)=none;rw[aP ne];exact k1,u,by rw[aP ne];exact k2,k3.up e⟩
 .exact g.inj j k d1 d2 (at_ j d1 hj e1).2 (at_ k d2 hk e2).2 e1 e2 he
noncomputable def GW:EF:=fun _ M=>some (.d (.dict []),M)
theorem QC:SE K QW GW:=by
 intro γ M x M' hh W H σ Q G R k;cases hh;intro p hp;obtain⟨e2,G2⟩:=G.lay (o:=.dK []) hp;exact k _ _ _ e2 G2 ⟨p,[],rfl,aX,rfl⟩
noncomputable def BH:List (EF×EF)->Ga->Sto->Option (List (CD×CD)×Sto)
 |[],_,M=>some ([],M)
 |(f,g)::r,γ,M=>(f γ M).bind fun a=>(g γ a.2).bind fun b=>(BH r γ b.2).bind fun q=>some ((a.1,b.1)::q.1,q.2)
noncomputable def keyOf:CD->Option Key
 |.d (.int i)=>some (.inl i)
 |.d (.str x)=>some (.inr x)
 |_=>none
noncomputable def keyed:List (CD×CD)->Option (List (Key×PyData))
 |[]=>some []
 |(k,.d x)::r=>(keyOf k).bind fun k'=>(keyed r).bind fun q=>some ((k',x)::q)
 |_=>none
noncomputable def DK(fs:List (EF×EF)):EF:=fun γ M=>(BH fs γ (M++[.dk []])).bind fun r=>match r.2[M.length]? with
 |some (.dk [])=>(keyed r.1).bind fun kvs=>if kvs.length<=15/\(kvs.map (·.1)).Nodup then some (.d (.dict (kvs.map fun p=>(JS p.1,p.2))),r.2.set M.length .dead)else none
 |_=>none
section
variable{K:Fg}
noncomputable def SPs(K:Fg):List (TE×TE)->List (EF×EF)->Prop:=Paired fun t f=>SE K t.1 f.1/\SE K t.2 f.2
theorem QT:∀{ts:List (TE×TE)}{fs:List (EF×EF)},SPs K ts fs->∀{γ:Ga}{M:Sto}{xs:List (CD×CD)}{M':Sto},BH fs γ M=some (xs,M')->∀{W:Wd}{H:Hp}{σ:St}{Q:List (V×V)->Hp->Prop},Good K W M H->cL K W γ σ->
 (∀vs W' H',W.Ext W'->Good K W' M' H'->Paired (fun a b=>cF K W' a.1 b.1/\cF K W' a.2 b.2) xs vs->Q vs H')->AY ts σ H Q
 |_,_,.nil,γ,M,xs,M',h,W,H,σ,Q,G,R,k=>by
  cases h;exact k [] W H (.refl _) G .nil
 |_,_,.cons s1 s2,γ,M,xs,M',h,W,H,σ,Q,G,R,k=>by
  obtain⟨⟨a,M1⟩,h1,h⟩:=aJ h;obtain⟨⟨b,M2⟩,h2,h⟩:=aJ h;obtain⟨⟨q,M3⟩,h3,h⟩:=aJ h;cases h;refine s1.1 _ _ _ _ h1 W H σ _ G R fun v W1 H1 e1 G1 r1=>?_;refine s1.2 _ _ _ _ h2 W1 H1 σ _ G1 (R.up e1) fun u W2 H2 e2 G2 r2=>?_;refine QT s2 h3 G2 (R.up (e1.trans e2)) fun vs W3 H3 e3 G3 r3=>?_;exact k _ W3 H3 ((e1.trans e2).trans e3) G3 (.cons ⟨r1.up (e2.trans e3),r2.up e3⟩ r3)
theorem yV{x:CD}{k:Key}{v:V}(h:keyOf x=some k)(r:cF K W x v):v=kV k:=by
 unfold keyOf at h;split at h
 .cases h;exact r
 .cases h;exact r
 .cases h
theorem yX{W:Wd}:∀{xs:List (CD×CD)}{kvs:List (Key×PyData)}{vs:List (V×V)},keyed xs=some kvs->Paired (fun a b=>cF K W a.1 b.1/\cF K W a.2 b.2) xs vs->
 ∃us:List (Key×V),vs=us.map (fun p=>(kV p.1,p.2))/\us.map (·.1)=kvs.map (·.1)/\lQ K W.F (kvs.map fun p=>(JS p.1,p.2)) us
 |[],kvs,vs,h,r=>by
  cases h;cases r;exact⟨[],rfl,rfl,rfl⟩
 |(k,.c _)::_,kvs,vs,h,r=>by cases h
 |(k,.d x)::xs,kvs,vs,h,r=>by
  obtain⟨k',h1,h⟩:=aJ (show(keyOf k).bind _=_ from h);obtain⟨q,h2,h⟩:=aJ h;cases h;cases r with
  |@cons _ b _ vs' r1 r2=>
   obtain⟨us,e1,e2,e3⟩:=yX h2 r2;refine⟨(k',b.2)::us,?_,?_,k',b.2,us,rfl,rfl,r1.2,e3⟩
   .rw[A9,<- e1,<- yV h1 r1.1]
   .rw[A9,A9,e2]
theorem yU:∀(more acc:List (Key×V)),((acc++more).map (·.1)).Nodup->pC acc more=acc++more
 |[]=>fun acc _=>by simp[pC]
 |p::more=>fun acc h=>by
  have hn:iN acc p.1=none:=by
   unfold iN;rw[Option.map_eq_none_iff,List.find?_eq_none];intro x hx hd;have:x.1=p.1:=C0 hd;rw[E5,List.nodup_append]at h;exact h.2.2 x.1 (O8 hx) p.1 (by simp) this
  show pC (putK acc p.1 p.2) more=_;rw[SZ _ hn,yU more _ (by rw[D9];exact h),D9];rfl
theorem WE{ts:List (TE×TE)}{fs:List (EF×EF)}(sp:SPs K ts fs):SE K (aAN ts) (DK fs):=by
 intro γ M x M' hh W H σ Q G R k;obtain⟨⟨xs,M1⟩,h1,hh⟩:=aJ hh;intro p hp;have G1:=G.new hp (c:=.dk []) (o:=.dK []) (show Paired _ [] []from .nil);have e1:=W.ext_more p;refine QT sp h1 G1 (R.up e1) fun vs W2 H2 e2 G2 r2=>?_;dsimp only at hh;split at hh
 .rename_i hM;obtain⟨kvs,h2,hh⟩:=aJ hh;by_cases hc:kvs.length<=15/\(kvs.map (·.1)).Nodup
  .rw[A3 hc]at hh;cases hh
   have al:W2.α M.length=p:=by
    rw[e2.al M.length (by show M.length<W.n+1;rw[G.n];exact E7 _)];show(if M.length=W.n then p else _)=p;rw[A3 G.n.symm]
   obtain⟨_,o,g2,g3⟩:=G2.cs _ _ hM (by intro z;cases z);rw[al]at g2
   have ho:o=.dK []:=by
    cases o with
    |dK us=>cases g3;rfl
    |_=>exact False.elim g3
   subst ho;obtain⟨us,z1,z2,z3⟩:=yX h2 r2;have nd:(us.map (·.1)).Nodup:=by rw[z2];exact hc.2
   have hl:us.length<=15:=by
    have:=L5 List.length z2;rw[A2,A2]at this;omega
   refine⟨g2,us,z1,hl,?_⟩;rw[yU us [] (by simpa using nd),U2];obtain⟨e3,G3⟩:=G2.freeze (o':=.dK us) hM (by intro z;cases z);rw[al]at e3 G3;exact k _ _ _ ((e1.trans e2).trans e3) G3 ⟨p,us,rfl,aX,lQ.same e3.ff _ _ z3⟩
  .rw[A7 hc]at hh;cases hh
 .cases hh
end
section
variable{ι:Type}{K:Fg}{X:ι->Cx}
structure MD(K:Fg)(X:ι->Cx)(pos:Pos)(ks:List (Option Expr))(vs:List Expr)(fs:List (EF×EF)):Prop where
 ex:∃ts,(∀i,PPs (X i) pos ks vs ts)/\SPs K ts fs
theorem aBx:MD K X pos [] [] []:=⟨_,fun _=>YF,.nil⟩
theorem IB{k v:Expr}{ks:List (Option Expr)}{vs:List Expr}{f g:EF}{fs:List (EF×EF)}(x:ME K X k f)(y:ME K X v g)(z:MD K X pos ks vs fs):MD K X pos (some k::ks) (v::vs) ((f,g)::fs):=by
 obtain⟨t,x1,x2⟩:=x.ex;obtain⟨u,y1,y2⟩:=y.ex;obtain⟨o,z1,z2⟩:=z.ex;exact⟨_,fun i=>UA (x1 i) (y1 i) (z1 i),.cons ⟨x2,y2⟩ z2⟩
theorem UZ{ks:List (Option Expr)}{vs:List Expr}{fs:List (EF×EF)}(x:MD K X pos ks vs fs)(hall:ks.all (·.isSome)=true:=by rfl)(hl:ks.length=vs.length:=by rfl)(h0:ks≠[]:=by simp)(h15:ks.length<=15:=by simp):ME K X (.Dict ks vs pos) (DK fs):=by
 obtain⟨t,x1,x2⟩:=x.ex;exact⟨_,fun i=>YV (x1 i) hall hl h0 h15,WE x2⟩
theorem UL:ME K X (.Dict [] [] pos) GW:=⟨_,fun _=>PB,QC⟩
end
mutual
noncomputable def wt:PyData->Nat
 |.none=>4
 |.bool _=>5
 |.int _=>2000
 |.str x=>(reprText x).length
 |.list xs=>gA xs+3
 |.tuple xs=>gA xs+3
 |.dict kvs=>LP kvs+3
noncomputable def gA:List PyData->Nat
 |[]=>0
 |x::xs=>wt x+2+gA xs
noncomputable def LP:List (PyData×PyData)->Nat
 |[]=>0
 |(k,v)::r=>wt k+wt v+4+LP r
end
mutual
noncomputable def oks:PyData->Bool
 |.none=>true
 |.bool _=>true
 |.int i=>decide (i.natAbs<2 ^ 1900)
 |.str _=>true
 |.list xs=>iM xs
 |.tuple xs=>iM xs
 |.dict kvs=>yO kvs
noncomputable def iM:List PyData->Bool
 |[]=>true
 |x::xs=>oks x&&iM xs
noncomputable def yO:List (PyData×PyData)->Bool
 |[]=>true
 |(k,v)::r=>oks k&&oks v&&yO r
end
theorem ZY{i:Int}(h:i.natAbs<2 ^ 1900):i.natAbs.log2<1900:=by
 by_cases h0:i.natAbs=0
 .rw[h0];decide +kernel
 .exact(Nat.log2_lt h0).mpr h
theorem VG{i:Int}(h:i.natAbs<2 ^ 1900):((toString i:String):Str).length<=2000:=by
 have h1:=int_text_length_le (k:=1900) (by decide) (ZY h);show(Str.ofString (toString i)).length<=2000;rw[PySem.ofString_length];omega
mutual
theorem shown_le:∀d:PyData,oks d=true->d.shown.length<=wt d
 |.none=>fun _=>by decide
 |.bool b=>fun _=>by cases b<;>decide
 |.int i=>fun h=>VG (C0 h)
 |.str x=>fun _=>A6 _
 |.list xs=>fun h=>by
  have:=shownAll_le xs h;have h2:=listText_len_le (PyData.shownAll xs);show(listText (PyData.shownAll xs)).length<=gA xs+3;omega
 |.tuple xs=>fun h=>by
  have:=shownAll_le xs h;have h2:=tupleText_len_le (PyData.shownAll xs);show(tupleText (PyData.shownAll xs)).length<=gA xs+3;omega
 |.dict kvs=>fun h=>by
  have:=shownKv_le kvs h;have h2:=dictText_len_le (PyData.shownKv kvs);show(dictText (PyData.shownKv kvs)).length<=LP kvs+3;omega
theorem shownAll_le:∀xs:List PyData,iM xs=true->((PyData.shownAll xs).map (·.length)).sum+2*(PyData.shownAll xs).length<=gA xs
 |[]=>fun _=>by simp[PyData.shownAll,gA]
 |x::xs=>fun h=>by
  unfold iM at h;rw[B6]at h;have h1:=shown_le x h.1;have h2:=shownAll_le xs h.2;simp only[PyData.shownAll,gA,List.map_cons,List.sum_cons,List.length_cons];omega
theorem shownKv_le:∀kvs:List (PyData×PyData),yO kvs=true->((PyData.shownKv kvs).map (·.length)).sum+2*(PyData.shownKv kvs).length<=LP kvs
 |[]=>fun _=>by simp[PyData.shownKv,LP]
 |(k,v)::r=>fun h=>by
  unfold yO at h;rw[B6,B6]at h;have h1:=shown_le k h.1.1;have h2:=shown_le v h.1.2;have h3:=shownKv_le r h.2
  have e:(PyData.shown k++": "++PyData.shown v).length=(PyData.shown k).length+2+(PyData.shown v).length:=by
   rw[strLen_append,strLen_append];rfl
  simp only[PyData.shownKv,LP,List.map_cons,List.sum_cons,List.length_cons,e];omega
end
mutual
theorem kH:∀d:PyData,oks d=true->d.showable=true
 |.none=>fun _=>rfl
 |.bool _=>fun _=>rfl
 |.int i=>fun h=>by
  have h:i.natAbs<2 ^ 1900:=C0 h;refine C2 ?_;by_cases h0:i.natAbs=0
  .rw[h0];decide +kernel
  .exact Nat.lt_trans ((Nat.log2_lt h0).mpr h) (by decide)
 |.str _=>fun _=>rfl
 |.list xs=>fun h=>showableAll_of xs h
 |.tuple xs=>fun h=>showableAll_of xs h
 |.dict kvs=>fun h=>showableKv_of kvs h
theorem showableAll_of:∀xs:List PyData,iM xs=true->PyData.showableAll xs=true
 |[]=>fun _=>rfl
 |x::xs=>fun h=>by
  unfold iM at h;rw[B6]at h;show(PyData.showable x&&PyData.showableAll xs)=true;rw[kH x h.1,showableAll_of xs h.2];rfl
theorem showableKv_of:∀kvs:List (PyData×PyData),yO kvs=true->PyData.showableKv kvs=true
 |[]=>fun _=>rfl
 |(k,v)::r=>fun h=>by
  unfold yO at h;rw[B6,B6]at h;show(PyData.showable k&&PyData.showable v&&PyData.showableKv r)=true;rw[kH k h.1.1,kH v h.1.2,showableKv_of r h.2];rfl
end
structure Fit(n m:Nat)(d:PyData):Prop where
 ok:oks d=true
 wt:wt d<=n
 dp:d.depth<=m
theorem Fit.shown{n m:Nat}{d:PyData}(f:Fit n m d)(hn:n<=sizeLine:=by decide)(hm:m<=64:=by decide):pS d=true:=by
 unfold pS;rw[kH d f.ok,C2 (C9 f.dp hm),C2 (C9 (C9 (shown_le d f.ok) f.wt) hn)];rfl
theorem Fit.mono{n m n' m':Nat}{d:PyData}(f:Fit n m d)(hn:n<=n')(hm:m<=m'):Fit n' m' d:=⟨f.ok,C9 f.wt hn,C9 f.dp hm⟩
theorem RO{n m:Nat}{d:PyData}(f:Fit n m d)(hn:n<=sizeLine:=by decide)(hm:m<=64:=by decide):IP [.d d] M=some (.d (.str d.shown),M):=by
 unfold IP;dsimp only;rw[A3 (f.shown hn hm)]
section
variable{K:Fg}
theorem Good.extra(g:Good K W M H){p:Addr}{o:HO}(hp:H p=none):Good K W M (upd H p o):=by
 refine⟨fun b u hb=>?_,g.n,fun i c hi hc=>?_,g.inj⟩
 .have:=g.fh b u hb;rw[aP (aO this hp)];exact this
 .obtain⟨h1,o',h2,h3⟩:=g.cs i c hi hc;exact⟨h1,o',by rw[aP (aO h2 hp)];exact h2,h3⟩
end
section
variable{K:Fg}
noncomputable def reverseF:FM:=fun x ys M=>match x,ys with
 |.c i,[]=>match M[i]? with
  |some (.lst xs)=>some (.d .none,M.set i (.lst xs.reverse))
  |_=>none
 |_,_=>none
noncomputable def aFt:List V->Hp->VK->Prop:=fun xs H Q=>∃i j,xs=[.int i,.int j]/\Q (.int (if j > i then j else i)) H
noncomputable def wW:FN:=fun xs M=>match xs with
 |[.d (.int i),.d (.int j)]=>some (.d (.int (if j > i then j else i)),M)
 |_=>none
theorem YH:PN K aFt wW:=by
 intro xs M z M' h W H vs Q G r k;unfold wW at h;split at h
 .rename_i i j;cases h;rcases r with _|⟨r1,_|⟨r2,_|_⟩⟩;exact⟨i,j,by rw[show _=V.int i from r1,show _=V.int j from r2],k _ W H (.refl _) G rfl⟩
 .cases h
end
section
variable{ι:Type}{K:Fg}{X:ι->Cx}{a b c e o:Expr}{es:List Expr}{f g h:EF}{fa:AF}{pos:Pos}
theorem OO(hc:∀i,(X i).calm=true):QN K X (.builtin "max") wW:=⟨_,fun i=>JX (hc i),YH⟩
end
open PySem PySem.W PyProof.Rows
end L2
namespace L2
open PySem PySem.Spec PyProof.Rows
noncomputable def nG:List PyData->Option (List Int)
 |[]=>some []
 |.int n::r=>(nG r).bind fun ns=>some (n::ns)
 |_=>none
open PySem PySem.W PyProof.Rows
end L2
namespace L2
variable{H:Hp}{W:Wd}{K:Fg}{σ:St}{M:Sto}
open PySem PySem.Spec PyProof.Rows
mutual
noncomputable def uF:PyData->Bool
 |.int _=>true
 |.tuple xs=>BL xs
 |_=>false
noncomputable def BL:List PyData->Bool
 |[]=>true
 |x::r=>uF x&&BL r
end
mutual
theorem rk{h h':Heap}(k:∀b o vs n,h.get? b=some o->o.data=.seq vs n->h'.get? b=some o):∀(d:PyData)(v:Value)(as:List Addr),uF d=true->Reads h v d as->Reads h' v d as
 |.int n=>fun _ _ _ r=>by cases r;exact .int _ _
 |.tuple xs=>fun _ _ e r=>by
  cases r with
  |tuple a b c d=>exact .tuple (k _ _ _ _ a c) b c (aAu k xs _ _ (by unfold uF at e;exact e) d)
 |.none=>fun _ _ e _=>by unfold uF at e;cases e
 |.bool _=>fun _ _ e _=>by unfold uF at e;cases e
 |.str _=>fun _ _ e _=>by unfold uF at e;cases e
 |.list _=>fun _ _ e _=>by unfold uF at e;cases e
 |.dict _=>fun _ _ e _=>by unfold uF at e;cases e
theorem aAu{h h':Heap}(k:∀b o vs n,h.get? b=some o->o.data=.seq vs n->h'.get? b=some o):∀(ds:List PyData)(vs:List Value)(as:List Addr),BL ds=true->ReadsAll h vs ds as->ReadsAll h' vs ds as
 |[]=>fun _ _ _ r=>by cases r;exact .nil
 |d::ds=>fun _ _ e r=>by
  cases r with
  |cons a b=>
   unfold BL at e;rw[B6]at e;exact .cons (rk k d _ _ e.1 a) (aAu k ds _ _ e.2 b)
end
section
variable{X:Cx}{pins:List (Addr×Obj)}{σ:St}{H:Hp}{s:Shared}{h':Heap}
theorem cS.there{P:Program}{w:World}{h:Heap}{a:Addr}{o:HO}(x:cS P w H h a o):∃u,h.get? a=some u:=by
 induction o with
 |lst xs=>obtain⟨_,_,_,_,e⟩:=x;exact⟨_,e⟩
 |tup xs=>obtain⟨_,_,_,_,e,_⟩:=x;exact⟨_,e⟩
 |dK kvs=>obtain⟨_,_,_,_,o,_,_,e,_⟩:=x;exact⟨_,e⟩
 |dT kvs=>obtain⟨_,_,_,_,o,_,_,e,_⟩:=x;exact⟨_,e⟩
 |set S n=>obtain⟨o,_,_,_,e,_⟩:=x;exact⟨_,e⟩
 |ins C dx fs=>obtain⟨_,_,_,e,_⟩:=x;exact⟨_,e⟩
 |own y=>exact x
 |xd fs=>obtain⟨_,⟨_,_,_,e,_⟩,_⟩:=x;exact⟨_,e⟩
 |rng lo hi=>obtain⟨_,_,_,e⟩:=x;exact⟨_,e⟩
 |frz o u=>exact⟨_,x.1⟩
 |tbl ps=>exact⟨_,x⟩
 |met f x'=>exact⟨_,x⟩
 |ext φ=>exact x.2.1
theorem HOk.none{P:Program}{w:World}{h:Heap}{a:Addr}(x:HOk P w H h)(e:h.get? a=none):H a=none:=by
 cases q:H a with
 |none=>rfl
 |some o=>
  obtain⟨u,z⟩:=(x a o q).there;rw[e]at z;cases z
theorem Inv.laidL{a:Addr}{o:HO}(I:Inv X pins σ H s)(k:∀b u,b≠X.env.locals->s.heap.get? b=some u->h'.get? b=some u)(ns:∀m,s.heap.Ns X.env.locals m->h'.Ns X.env.locals m)(hp:s.heap.get? a=none)(new:cS X.prog X.w (upd H a o) h' a o):
 Inv X pins σ (upd H a o) { s with heap:=h' }:=by
 have hn:=I.hok.none hp;have nt:∀b u,H b=some u->b≠X.env.locals:=fun b u e z=>by rw[z,I.free]at e;cases e
 refine I.step (g':=s.gens) (t':=s.toks) (d':=s.drawn) (ch:=[]) (fun _ z=>nomatch z) (fun b o h1 _ _ e _=>k b o h1 e) (fun b o h1 _ _ e _=>⟨o.slots,k b o h1 e⟩) (fun b o _ e n=>?_) (fun b o _ e=>?_) (fun b xs e=>?_) (fun b o u e=>?_) (fun b ps e=>⟨#[],?_⟩) ns ?_ I.bare
 .rw[aP (fun z=>by subst z;rw[hp]at e;cases e)];exact n
 .by_cases z:b=X.env.locals
  .subst z;obtain⟨m,hm,_⟩:=I.loc;obtain⟨o',_,_,q,_⟩:=ns m hm;exact⟨o',q⟩
  .exact⟨o,k b o z e⟩
 .rw[aP (aO e hn)];exact e
 .rw[aP (aO e hn)];exact e
 .rw[aP (aO e hn)];simpa using e
 .intro b u e;by_cases hb:b=a
  .subst hb;rw[aX]at e;cases e;exact new
  .rw[aP hb]at e;refine(I.hok b u e).stay (fun c v hc q=>k c v ?_ q) (fun c q=>by rw[aP (aO q hn)];exact q) fun c xs q=>by rw[aP (aO q hn)];exact q
   rcases hc with z|z
   .rw[z];exact nt b _ e
   .exact nt c _ z
theorem US{h:Heap}{L:Addr}{m m':Str->Option Value}(a:h.Ns L m)(b:h.Ns L m'):m=m':=by
 obtain⟨o,es,ep,h1,h2,_,h3⟩:=a;obtain⟨o',es',ep',k1,k2,_,k3⟩:=b;rw[h1]at k1;cases k1;rw[h2]at k2;cases k2;funext x;rw[<- h3 x,k3 x]
end
noncomputable def TrS(h B:Heap)(e:Addr)(vs:Array Value):Option Value->Prop
 |none=>vs[1]?=some .none
 |some fl=>∃T oT ts,vs[1]?=some (.ref T)/\B.get? T=none/\T≠e/\h.get? T=some oT/\oT.data=.fields ts/\ts[3]?=some fl
noncomputable def Tr(h B:Heap)(e:Addr)(c:Value)(dx:Option Addr)(st:Option Value):Prop:=
 ∃oe vs,h.get? e=some oe/\(oe.cls=c/\oe.dict=dx)/\oe.data=.fields vs/\1<vs.size/\TrS h B e vs st
structure Fly(B:Heap)(l:List Env)(e:Addr)(c:Value)(dx:Option Addr)(st:Option Value)(h:Heap):Prop where
 stays:B.StaysIn h
 new:B.get? e=none
 frames:h.FunFrames B l
 tr:Tr h B e c dx st
theorem Fly.obj{B h:Heap}{l:List Env}{e:Addr}{c:Value}{dx:Option Addr}{st:Option Value}(F:Fly B l e c dx st h):∃oe vs,h.get? e=some oe/\oe.cls=c/\oe.dict=dx/\oe.data=.fields vs:=by
 obtain⟨oe,vs,h1,h2,h3,_⟩:=F.tr;exact⟨oe,vs,h1,h2.1,h2.2,h3⟩
theorem ZH(o:Obj)(f:Array Value->Array Value):(o.mapFields f).dict=o.dict:=by
 obtain⟨c,d,dt,sl⟩:=o;cases dt<;>rfl
section
variable{M:Model}{A:Around}{E:Value->Shared->Prop}{s:Shared}{B:Heap}{env:Env}{outer l:List Env}{L e:Addr}{c:Value}{dx:Option Addr}{st:Option Value}{Q:Unit->Shared->Prop}
theorem jJ{h:Heap}{a b:Addr}{o oa:Obj}{vs:Array Value}(ha:h.get? a=some oa)(hd:oa.data=.fields vs)(hb:h.get? b=some o)(hn:∀ws,o.data≠.fields ws):b≠a:=fun q=>by
 subst q;rw[ha]at hb;cases hb;exact hn vs hd
theorem CF{oe:Obj}{vs:Array Value}{hd:Value}{nx:Bool}(hfr:A.frames=some (env::outer))(hf:env.frame=some L)(stays:B.StaysIn s.heap)(new:B.get? e=none)(fr:s.heap.FunFrames B (env::outer))
 (he:s.heap.get? e=some oe) (hk:oe.cls=c/\oe.dict=dx) (hv:oe.data=.fields vs) (hz:1<vs.size)
 (q:∀h',Fly B (env::outer) e c dx (some (rawInt L)) h'->s.heap.UpToSlots h'->Q () { s with heap:=h' }):
 wpAny M A (do let a <- frameOf env;let pl <- entryPlaceOf L nx;let b <- EntryCells.newEntry hd a .none (rawInt L) .none pl;setField (.ref e) 1 b) Q E s:=by
 have notF:e∉(env::outer).filterMap (·.frame):=fun hm=>by
  obtain⟨_,o,ho,hnf⟩:=fr.mem hm;exact jJ he hv ho hnf rfl
 refine A0 (wpAny_frameOf_fun hfr fr hf fun g1 so=>A0 (wpAny_entryPlaceOf fun pl hpl=>?_));unfold EntryCells.newEntry newFields;refine A0 (E1 ?_ (hpl.sizeOk5 _ _ _ _ _));generalize hnw:({ cls:=.type "traceback",dict:=none,data:=.fields ([hd,Value.ref L,.none,rawInt L,.none]++(if pl.isEmpty then List.replicate 6 Value.none else pl)).toArray }:Obj)=nw;have nwd:nw.data=.fields ([hd,Value.ref L,.none,rawInt L,.none]++(if pl.isEmpty then List.replicate 6 Value.none else pl)).toArray:=by rw[<- hnw]
 have e1:g1.get? e=some oe:=(so.2.1 e notF).trans he;have st1:B.StaysIn g1:=fun b o hb=>(so.2.1 b fun hm=>by rw[(fr.mem hm).1]at hb;cases hb).trans (stays b o hb);have e2:(g1.push nw).get? e=some oe:=B3 nw e1;refine Y5 e2 hv hz (q _ ?_ ?_)
 all_goals
  have nTe:g1.objs.size≠e:=O4 (B2 e1);have e3:=O5 (Obj.mapFields (·.setIfInBounds 1 (Value.ref g1.objs.size))) e2 (Obj.isFreed_of_fields (L9 hv _))
  have kp:∀b o,b≠e->g1.get? b=some o->((g1.push nw).update e (Obj.mapFields (·.setIfInBounds 1 (Value.ref g1.objs.size)))).get? b=some o:=fun b o hbe hb=>by
   rw[J2 _ _ (L7 hbe)];exact B3 _ hb
 .refine⟨fun b o hb=>kp b o (fun z=>by rw[z,new]at hb;cases hb) (st1 b o hb),new,fr.of_keeps fun b o hb hnf=>?_,?_⟩
  .obtain⟨sl,hs⟩:=so.2.2 b o hb;exact⟨_,kp b _ (jJ he hv hb hnf) hs,rfl⟩
  .refine⟨_,_,e3,⟨(Obj.cls_mapFields _ _).trans hk.1,(ZH _ _).trans hk.2⟩,L9 hv _,by simpa using hz,g1.objs.size,nw,_,by simp[hz],st1.fresh,nTe,?_,nwd,by simp⟩;rw[J2 _ _ (L7 nTe)];exact C6 g1 (by rw[<- hnw];rfl)
 .intro b o hb hnf;obtain⟨sl,hs⟩:=so.2.2 b o hb;exact⟨sl,kp b _ (jJ he hv hb hnf) hs⟩
theorem BW(hfr:A.frames=some (env::outer))(hf:env.frame=some L)(F:Fly B (env::outer) e c dx st s.heap)(hst:st=none\/st=some .none\/st=some (rawInt L))
 (q:∀h',Fly B (env::outer) e c dx (some (rawInt L)) h'->s.heap.UpToSlots h'->Q () { s with heap:=h' }):wpAny M A (noteFrame (.ref e) env) Q E s:=by
 obtain⟨oe,vs,he,hk,hv,hz,ht⟩:=id F.tr;unfold noteFrame;simp only[hf];rcases hst with rfl|rfl|rfl
 .refine A0 (L8 he hv (show vs[1]?=some .none from ht) ?_);rw[A7 (by decide)];exact CF hfr hf F.stays F.new F.frames he hk hv hz q
 .obtain⟨T,oT,ts,t1,t2,t3,t4,t5,t6⟩:=ht;refine A0 (L8 he hv t1 ?_);rw[A3 (show(Value.ref T != Value.none)=true from by simp)];refine A0 (L8 t4 t5 t6 ?_);rw[A7 (show ¬((Value.none==rawInt L)=true)from by simp[rawInt])];refine A0 (Y5 t4 t5 (Array.getElem?_eq_some_iff.mp t6).1 ?_);have oth:∀b,b≠T->(s.heap.update T (Obj.mapFields (·.setIfInBounds 3 Value.none))).get? b=s.heap.get? b:=fun b hb=>J2 _ _ (L7 hb)
  refine CF (s:={ s with heap:=s.heap.update T (Obj.mapFields (·.setIfInBounds 3 Value.none)) }) hfr hf (fun b o hb=>(oth b fun z=>by rw[z,t2]at hb;cases hb).trans (F.stays b o hb)) F.new
   (F.frames.of_keeps fun b o hb hnf=>⟨o,(oth b (jJ t4 t5 hb hnf)).trans hb,rfl⟩) ((oth e (L7 t3)).trans he) hk hv hz fun h' F' u=>q h' F' fun b o hb hnf=>u b o ((oth b (jJ t4 t5 hb hnf)).trans hb) hnf
 .obtain⟨T,oT,ts,t1,t2,t3,t4,t5,t6⟩:=ht;refine A0 (L8 he hv t1 ?_);rw[A3 (show(Value.ref T != Value.none)=true from by simp)];refine A0 (L8 t4 t5 t6 ?_);rw[A3 (show(rawInt L==rawInt L)=true from by simp)];exact A4 (q _ F (.refl _))
theorem vG{fl:Value}{fo:Option Addr}(F:Fly B l e c dx (some fl) s.heap)
 (q:∀h',Fly B l e c dx (some (fo.elim .none fun f=>rawInt f)) h'->s.heap.UpToSlots h'->Q () { s with heap:=h' }):wpAny M A (setFlight (.ref e) fo) Q E s:=by
 obtain⟨oe,vs,he,hk,hv,hz,T,oT,ts,t1,t2,t3,t4,t5,t6⟩:=id F.tr;have z3:3<ts.size:=(Array.getElem?_eq_some_iff.mp t6).1;unfold setFlight;refine A0 (L8 he hv t1 ?_);rw[A3 (show(Value.ref T != Value.none)=true from by simp)];have oth:∀b,b≠T->(s.heap.update T (Obj.mapFields (·.setIfInBounds 3 (fo.elim .none fun f=>rawInt f)))).get? b=s.heap.get? b:=fun b hb=>J2 _ _ (L7 hb)
 refine Y5 t4 t5 z3 (q _ ⟨fun b o hb=>(oth b fun z=>by rw[z,t2]at hb;cases hb).trans (F.stays b o hb),F.new,F.frames.of_keeps fun b o hb hnf=>⟨o,(oth b (jJ t4 t5 hb hnf)).trans hb,rfl⟩,
  oe,vs,(oth e (L7 t3)).trans he,hk,hv,hz,T,_,_,t1,t2,t3,O5 _ t4 (Obj.isFreed_of_fields (L9 t5 _)),L9 t5 _,by simp[z3]⟩
  fun b o hb hnf=>⟨o.slots,(oth b (jJ t4 t5 hb hnf)).trans hb⟩)
theorem RE(hfr:A.frames=some (env::outer))(hf:env.frame=some L)(F:Fly B (env::outer) e c dx st s.heap)(hst:st=none\/st=some .none\/st=some (rawInt L))
 (q:∀h',Fly B outer e c dx (some .none) h'->s.heap.UpToSlots h'->Q () { s with heap:=h' }):wpAny M A (leaving env (.ref e)) Q E s:=by
 unfold leaving;refine A0 (BW hfr hf F hst fun h1 F1 u1=>vG (fo:=none) F1 fun h2 F2 u2=>?_);obtain⟨a,b,⟨_,_,c'⟩,d⟩:=F2;exact q h2 ⟨a,b,c',d⟩ (u1.trans u2)
theorem VA{X:Value->Shared->Prop}(hfr:A.frames=some (env::outer))(hf:env.frame=some L)(F:Fly B (env::outer) e c dx st s.heap)(hst:st=none\/st=some .none\/st=some (rawInt L))
 (q:∀h',Fly B (env::outer) e c dx (some (rawInt L)) h'->s.heap.UpToSlots h'->X (.ref e) { s with heap:=h' }):notedBy M A env (cameBackBy M A env X) (.ref e) s:=by
 unfold notedBy;refine BW hfr hf F hst fun h1 F1 u1=>?_;unfold cameBackBy;obtain⟨oe,vs,he,hk,hv,hz,T,oT,ts,t1,t2,t3,t4,t5,t6⟩:=id F1.tr;refine A0 (L8 he hv t1 ?_);rw[A7 (show ¬((Value.ref T==Value.none)=true)from by simp),hf];exact vG (s:={ s with heap:=h1 }) (fo:=some L) F1 fun h2 F2 u2=>q h2 F2 (u1.trans u2)
end
structure Body(X:Cx):Prop where
 stk:X.stack=X.env::X.outer
 fr:X.env.frame=some X.env.locals
 ex:X.ex=[]
structure Kp(X:Cx)(H:Hp)(B h:Heap):Prop where
 trk:∀b u o,H b=some u->h.get? b=some o->B.get? b=some o
 ent:∀b o,X.s₀.heap.get? b=some o->b∉X.fs->(∃o',B.get? b=some o')/\(X.H₀ b=none->B.get? b=some o)
 pin:∀p∈X.pn,B.get? p.1=some p.2
section
variable{X:Cx}{pins:List (Addr×Obj)}{σ:St}{H:Hp}{s:Shared}{B h':Heap}
theorem Inv.up(I:Inv X [] σ H s)(b:Body X)(k:Kp X H B s.heap)(stays:B.StaysIn h')(u:s.heap.UpToSlots h'):Inv X [] σ H { s with heap:=h' }/\Kp X H B h':=by
 have tr:∀a v o,H a=some v->s.heap.get? a=some o->h'.get? a=some o:=fun a v o e q=>stays a o (k.trk a v o e q)
 have cell:∀c v,s.heap.IsCell c v->h'.IsCell c v:=fun c v ⟨o,ho,hd⟩=>by
  obtain⟨sl,q⟩:=u c o ho fun vs z=>by rw[hd]at z;cases z
  exact⟨_,q,hd⟩
 have frm:∀a∈X.fs,∀o,s.heap.get? a=some o->∃sl,h'.get? a=some { o with slots:=sl }:=fun a ha o e=>by
  obtain⟨_,o1,h1,hn⟩:=I.funs.mem ha;rw[e]at h1;cases h1;exact u a o e hn
 refine⟨⟨I.ok,I.os,I.bare,⟨fun a o e n ha hx=>?_,fun a o e n ha hx=>?_,I.base.free,fun a o e hx=>?_,I.base.tups,I.base.frzs,I.base.tbls⟩,?_,fun x c e=>?_,I.free,I.freeC,fun p hp=>?_,fun a v e=>?_,I.len⟩,⟨fun a v o e q=>?_,k.ent,k.pin⟩⟩
 .exact stays a o ((k.ent a o e ha).2 n)
 .obtain⟨sl,e1⟩:=I.base.slot a o e n ha hx;obtain⟨sl',e2⟩:=frm a ha _ e1;exact⟨sl',e2⟩
 .by_cases ha:a∈X.fs
  .obtain⟨o1,e1⟩:=I.base.there a o e hx;obtain⟨sl,e2⟩:=frm a ha o1 e1;exact⟨_,e2⟩
  .obtain⟨⟨o',q⟩,_⟩:=k.ent a o e ha;exact⟨o',stays a o' q⟩
 .obtain⟨m,hn,hl⟩:=I.loc;refine⟨m,u.ns hn,fun i x v e1 e2 e3=>?_⟩;obtain⟨uu,r,l⟩:=hl i x v e1 e2 e3;refine⟨uu,r,?_⟩;rcases l with l|⟨kk,c,e,z⟩
  .exact .inl l
  .exact .inr ⟨kk,c,e,cell c _ z⟩
 .obtain⟨v,z⟩:=I.cell x c e;exact⟨v,cell c v z⟩
 .rw[D1]at hp;obtain⟨_,n,ne,nf,d⟩:=I.pin p (C5 _ hp);exact⟨stays _ _ (k.pin p hp),n,ne,nf,d⟩
 .exact(I.hok a v e).stay (fun c w hc q=>by
   rcases hc with rfl|hc
   .exact tr c v w e q
   .exact tr c _ w hc q) (fun _ q=>q) fun _ _ q=>q
 .obtain⟨o1,q1⟩:=(I.hok a v e).there;have:=tr a v o1 e q1;rw[q]at this;cases this;exact k.trk a v o e q1
noncomputable def XS(X:Cx)(EE:St->XK)(ev:Value)(s:Shared):Prop:=
 ∃e c dx st σ H B,ev=.ref e/\Inv X [] σ H s/\Kp X H B s.heap/\Fly B X.stack e c dx st s.heap/\(st=none\/st=some .none\/st=some (rawInt X.env.locals))/\EE σ c dx H
theorem XS.unwish{EE:St->XK}{E:Value->Shared->Prop}{ev:Value}(h:XS (X.wish E) EE ev s):XS X EE ev s:=by
 obtain⟨e,c,dx,st,σ,H,B,h1,I,k,F,hst,q⟩:=h;exact⟨e,c,dx,st,σ,H,B,h1,I.unwish,⟨k.trk,k.ent,k.pin⟩,F,hst,q⟩
noncomputable def CX1(P:Program)(w:World):CXT:=fun outer H s E ev s'=>∃e c dx H' B,ev=.ref e/\s'.os=s.os/\AllBare s'.gens/\Un (frs outer) [] H H' s.heap s'.heap/\HOk P w H' s'.heap/\Fly B outer e c dx (some .none) s'.heap /\
 (∀b u o,H' b=some u->s'.heap.get? b=some o->B.get? b=some o)/\(∀b o,s.heap.get? b=some o->b∉frs outer->(∃o',B.get? b=some o')/\(H b=none->B.get? b=some o))/\E c dx H'
theorem Inv.entry(I:Inv X pins σ H s)(bd:Body X){b:Addr}{o:Obj}(e:X.s₀.heap.get? b=some o)(hb:b∉X.fs):b∉frs X.stack/\(∃o1,s.heap.get? b=some o1)/\(X.H₀ b=none->s.heap.get? b=some o/\H b=none):=by
 have nx:b∉X.ex:=by rw[bd.ex];simp
 refine⟨fun z=>?_,I.base.there b o e nx,fun n=>⟨I.base.keep b o e n hb nx,I.base.free b o e n nx⟩⟩;rcases List.mem_cons.mp (I.stkSub b z)with q|q
 .exact absurd (q▸A8 (B2 e) I.ok.above) (E2 _)
 .exact hb q
theorem aAP{EE:St->XK}{ev:Value}{s':Shared}(bd:Body X)(I:Inv X pins σ H s)(h:CX1 X.prog X.w X.stack H s (EE σ) ev s'):XS X EE ev s':=by
 obtain⟨e,c,dx,H',B,rfl,os,bare,un,hok,F,trk,ent,q⟩:=h;have I':Inv X pins σ H' s':=I.call' os un hok bare fun b z=>absurd z (by simp);refine⟨e,c,dx,some .none,σ,H',B,rfl,I'.pins_of fun p hp=>absurd hp (by simp),⟨trk,fun b o e hb=>?_,fun p hp=>?_⟩,F,.inr (.inl rfl),q⟩
 .obtain⟨h1,⟨o1,h2⟩,h3⟩:=I.entry bd e hb;exact⟨(ent b o1 h2 h1).1,fun n=>(ent b o (h3 n).1 h1).2 (h3 n).2⟩
 .obtain⟨h1,n,ne,nf,_⟩:=I.pin p (C5 _ hp);exact(ent p.1 p.2 h1 fun z=>(List.mem_cons.mp (I.stkSub p.1 z)).elim ne nf).2 n
theorem aDn{EE:St->XK}{e:Addr}{oe:Obj}{vs:Array Value}(bd:Body X)(I:Inv X pins σ H s)(he:s.heap.get? e=some oe)(hn:H e=none)(h0:X.s₀.heap.get? e=none)(hp:∀p∈X.pn,p.1≠e)(hv:oe.data=.fields vs)(hz:1<vs.size)(h1:vs[1]?=some .none)
 (q:EE σ oe.cls oe.dict H):XS X EE (.ref e) s:=by
 have nf:e∉frs X.stack:=fun hm=>by
  obtain⟨_,o,ho,hnf⟩:=I.stack.mem hm;exact jJ he hv ho hnf rfl
 have get:∀b o,b≠e->b∉frs X.stack->s.heap.get? b=some o->(PySem.W.hideAll s.heap (e::frs X.stack)).get? b=some o:=fun b o h1 h2 h3=>PySem.W.hideAll_get _ h3 fun hm=>(List.mem_cons.mp hm).elim h1 h2;refine⟨e,oe.cls,oe.dict,none,σ,H,PySem.W.hideAll s.heap (e::frs X.stack),rfl,I.pins_of fun p hp=>absurd hp (by simp),⟨fun b u o h1 h2=>?_,fun b o h1 h2=>?_,fun p h1=>?_⟩,⟨fun b o h1=>PySem.W.of_hideAll _ h1,PySem.W.hideAll_none _ B7,?_,oe,vs,he,⟨rfl,rfl⟩,hv,hz,h1⟩,.inl rfl,q⟩
 .exact get b o (aO h1 hn) (fun z=>by rw[I.stkFree b z]at h1;cases h1) h2
 .obtain⟨k1,⟨o1,k2⟩,k3⟩:=I.entry bd h1 h2;have ne:b≠e:=fun z=>by rw[z,h0]at h1;cases h1
  exact⟨⟨o1,get b o1 ne k1 k2⟩,fun n=>get b o ne k1 (k3 n).1⟩
 .obtain⟨q1,n,ne,nf,_⟩:=I.pin p (C5 _ h1);exact get p.1 p.2 (hp p h1) (fun z=>(List.mem_cons.mp (I.stkSub p.1 z)).elim ne nf) q1
 .exact PySem.W.funFrames_hide I.stack fun env hm a ha=>B0 _ (List.mem_filterMap.mpr ⟨env,hm,ha⟩)
theorem RN{EE:St->XK}(bd:Body X):PassesOwn (model X.prog X.w) X.A X.env (XS X EE):=by
 rintro ev s ⟨e,c,dx,st,σ,H,B,rfl,I,k,F,hst,q⟩;have hf:=I.ok.frames;rw[bd.stk]at hf F;refine VA hf bd.fr F hst fun h' F' u=>?_;obtain⟨I',k'⟩:=I.up bd k F'.stays u;exact⟨e,c,dx,_,σ,H,B,rfl,I',k',by rw[bd.stk];exact F',.inr (.inr rfl),q⟩
end
section
variable{P:Program}{w:World}{K:Fg}{mg:Str->Option Value}{base:Heap}{N:List Str}{qual:Str}{scope:Scope}{f:Addr}{cd:Value}{A:Around}{outer:List Env}{s:Shared}{H:Hp}{E:XK}{CX:CXT}
theorem IV:Body (mK CX P w K mg base N qual scope f cd A outer s H E):=⟨rfl,rfl,rfl⟩
theorem Body.wish{X:Cx}(b:Body X)(E:Value->Shared->Prop):Body (X.wish E):=⟨b.stk,b.fr,b.ex⟩
theorem OD{ev:Value}{s':Shared}(h:XS (mK (CX1 P w) P w K mg base N qual scope f cd A outer s H E) (fun _=>E) ev s'):(mK (CX1 P w) P w K mg base N qual scope f cd A outer s H E).xe ev s':=by
 obtain⟨e,c,dx,st,σ,H',B,rfl,I,k,F,hst,q⟩:=h;refine RE (c:=c) (dx:=dx) (st:=st) (B:=B) (outer:=outer) (L:=s.heap.objs.size) I.ok.frames rfl F hst fun h' F' u=>?_;obtain⟨I',k'⟩:=I.up IV k F'.stays u;exact⟨e,c,dx,H',B,rfl,I'.os,I'.bare,I'.base,I'.hok,F',k'.trk,k'.ent,q⟩
theorem aDk{k:Nat}{name:Str}{params:Arguments}{body:List Stmt}{dV kV doc pm cdv ct oc:Value}{an od:Option Addr}
 {osl:Array (Option Value)} {ps:List Str} {sp:Sp} (lk:K.lookup f=some ⟨oc,od,.func (PySem.W.fnOf name qual params body scope dV kV doc pm an cdv ct),osl⟩) (hcd:PySem.W.codeIn K cdv qual=true) (S:aT N ps scope)
 (len:∀vs H Q E,sp vs H Q E->vs.length=ps.length)
 (hbody:∀(A:Around)(outer:List Env)(s:Shared)(H:Hp)(vs:List V)(Q:VK)(E:XK),cX k (A.deeper (envOfC qual scope s.heap.objs.size f cdv))->sp vs H Q E->
  ∃t,PSs ((mK (CX1 P w) P w K mg base N qual scope f cdv A outer s H E).wish (XS (mK (CX1 P w) P w K mg base N qual scope f cdv A outer s H E) fun _=>E)) body t/\t { nx:=fun _ H'=>Q .non H',rt:=Q } (start N vs) H):
 mY P w K mg base (CX1 P w) (k+1) f (PySem.W.fnOf name qual params body scope dV kV doc pm an cdv ct) ps sp:=
 aAi lk hcd S len fun A outer s H vs Q E hr h=>by
  obtain⟨t,ht,hq⟩:=hbody A outer s H vs Q E hr h;exact⟨t,fun pins s' σ H' D I hw=>D5 (ht pins s' σ H' D (I.wish _) hw) (fun _ _ q=>q.unwish) fun _ _ z=>OD z,hq⟩
end
structure RD(K:Fg)(C:Addr):Prop where
 ga:PySem.W.findIn K (.ref C) "__getattribute__"=some (some (.builtin "BaseException.__getattribute__"))
 gh:PySem.W.findIn K (.ref C) "__getattr__"=some none
 be:PySem.W.subIn K (.ref C) (.type "BaseException")=some true
 cl:(PySem.W.clsIn K C).isSome=true
section
variable{prog:Program}{w:World}{A:Around}{E:Value->Shared->Prop}{s:Shared}{K:Fg}{x C:Addr}{ox:Obj}{od:Option Obj}{name:Str}
theorem BC{tk:Tok}{Q:Value->Shared->Prop}(X:K.In s.heap)(I:PySem.W.InstAt s.heap x ox C od)(c:RD K C)
 (h:wpAny (model prog w) A.in1 (Builtin.«object.__getattribute__» ⟨[.ref x,.str name tk],[]⟩)
  (fun fin s'=>match fin with|.done (.ret v)=>Q v s'|.done _=>False|.again c'=>c'.quiet=true/\codeAny (model prog w) A c' (fun r s'=>match r with|.ok (.ret v)=>Q v s'|.ok _=>False|.error e=>E e s') s') E s):
 wpAny (model prog w) A (call (.builtin "BaseException.__getattribute__") [.ref x,.str name tk]) Q E s:=by
 have hb:=F.entry_bexc_ga;generalize Builtin.«object.__getattribute__»=b at hb h;refine wpAny_call (codeAny_call_builtin F.excAttr_ValueError.ga.plain hb ?_);have hk:builtinKind "BaseException.__getattribute__"=some .slot:=by decide +kernel
 have hsplit:splitId "BaseException.__getattribute__"=some ("BaseException","__getattribute__"):=by decide +kernel
 have ha:=F.args_bexc_ga (.ref x) (.str name tk);have L0:=I.type (M:=model prog w);have L1:=PySem.W.looks_subIn (M:=model prog w) X c.be;obtain⟨hh,g,d,t,os⟩:=s;simp only[checkBuiltinCall,hk,hsplit];refine A0 ?_;unfold isInstance;refine A0 (L0.at (L1.at ?_))
 repeat (first|assumption|wp_step)
 refine D5 h (fun fin s' z=>?_) fun _ _ z=>z;rcases fin with(_|_|_|_)|c'
 .exact z
 .exact z
 .exact z
 .exact z
 .exact⟨z.1,Y3 z.2 fun r s' q=>by cases r with
   |error e=>exact q
   |ok f=>cases f<;>exact q⟩
theorem JT{tk:Tok}{fill ex:Bool}{Q:Value->Shared->Prop}(X:K.In s.heap)(I:PySem.W.InstAt s.heap x ox C od)(c:RD K C)
 (h:wpAny (model prog w) A.in1 (Builtin.«object.__getattribute__» ⟨[.ref x,.str name tk],[]⟩)
  (fun fin s'=>match fin with|.done (.ret v)=>wpAny (model prog w) A (handedOut v) Q E s'|.done _=>False|.again c'=>c'.quiet=true/\codeAny (model prog w) A c' (fun r s'=>match r with|.ok (.ret v)=>wpAny (model prog w) A (handedOut v) Q E s'|_=>False) s') (fun _ _=>False) s):
 wpAny (model prog w) A (getAttrBy (.ref x) (.str name tk) fill ex) Q E s:=by
 have L0:=I.type (M:=model prog w);have L1:=PySem.W.looks_findIn (M:=model prog w) X c.ga;have L2:=PySem.W.looks_findIn (M:=model prog w) X c.gh;unfold getAttrBy;refine E6 (A0 (L0.here (A0 (L1.here ?_))));have hx2:(Value.builtin "BaseException.__getattribute__"==Value.builtin "object.__getattribute__")=false:=by decide +kernel
 have hx1:(onTheHeap (Value.ref C)&&Value.builtin "BaseException.__getattribute__"==Value.builtin "object.__getattribute__")=false:=by rw[hx2];rfl
 dsimp only;rw[hx1,A7 A5];unfold getAttrByItsOwn hookBefore;rw[A3 (show onTheHeap (Value.ref C)=true from rfl)];refine A0 (L2.here (A0 (wpAny_attempt (E6 ?_))));unfold callGetattribute;rw[A7 (show ¬((ex&&onTheHeap (Value.builtin "BaseException.__getattribute__"))=true)from by cases ex<;>exact A5)];unfold boundAndCalled;rw[F.excAttr_ValueError.ga.bind (.ref x)];refine A0 (A4 ?_);refine D5 (BC (tk:=tk) (name:=name) (E:=fun _ _=>False) (Q:=fun v s'=>wpAny (model prog w) A (handedOut v) Q E s') X I c ?_) (fun v s' z=>z) fun _ _ z=>z.elim;refine D5 h (fun fin s' z=>?_) fun _ _ z=>z;rcases fin with(_|_|_|_)|c'
 .exact z
 .exact z
 .exact z
 .exact z
 .exact⟨z.1,Y3 z.2 fun r s' q=>by cases r with
   |error e=>exact q
   |ok f=>cases f<;>exact q⟩
theorem LX{Q:Option Value->Shared->Prop}(X:K.In s.heap)(I:PySem.W.InstAt s.heap x ox C od)(c:RD K C)(ha:PySem.W.findIn K (.ref C) "__class__"=some (some (.builtin "object.__class__")))
 (hn:PySem.W.specialIn K (.builtin "object.__class__") "__get__"=some (some (.builtin "getset_descriptor.__get__"))) (htk:PySem.W.takesIn K (.builtin "object.__class__")=some true) (hm:PySem.W.mroIn K C (.type "object")=some true)
 (h:Q (some (.ref C)) { s with toks:=s.toks+1 }):wpAny (model prog w) A (getAttr? (.ref x) "__class__") Q E s:=by
 have hf:PySem.W.findObj K C od "__class__"=some (.bind (.builtin "getset_descriptor.__get__") (.builtin "object.__class__")):=by
  obtain⟨cd,hc⟩:=Option.isSome_iff_exists.mp c.cl;unfold PySem.W.findObj;rw[hc,A1,ha,A1];simp[hn,htk]
 unfold getAttr? getAttrBy?;refine A0 (wpAny_mkText (A0 (wpAny_attempt (JT (s:={ s with toks:=s.toks+1 }) X I c ?_))));obtain⟨h0,g,d,t,os⟩:=s;have L0:=I.type (M:=model prog w);have L1:=PySem.W.looks_find (M:=model prog w) X I hf;refine A0 (A4 (A0 (A4 (A0 (L0.at (A0 (L1.at ?_)))))));show wpAny _ _ (Builtin.ObjectAttr.bindTo (.builtin "getset_descriptor.__get__") (.builtin "object.__class__") (.ref x) (.ref C)) _ _ _;unfold Builtin.ObjectAttr.bindTo;refine A0 (E6 (wpAny_call (PySem.W.class_get (ox:=ox) (od:=od) X I hm ?_)));refine A4 ?_;show wpAny _ _ (handedOut (.ref C)) _ _ _;exact A4 (A4 h)
theorem RI(c:RD K C)(ha:PySem.W.findIn K (.ref C) "__class__"=some (some (.builtin "object.__class__")))
 (hn:PySem.W.specialIn K (.builtin "object.__class__") "__get__"=some (some (.builtin "getset_descriptor.__get__"))) (htk:PySem.W.takesIn K (.builtin "object.__class__")=some true) (hm:PySem.W.mroIn K C (.type "object")=some true):
 PySem.W.KitX K (.ref x) (.ref C) (fun h=>∃ox od,PySem.W.InstAt h x ox C od) where
 ty:=fun _ _ _ ⟨_,_,I⟩=>I.type
 it:=fun _ _ X _=>by
  have hc:=c.cl;unfold PySem.W.clsIn at hc;split at hc
  .rename_i c' d' cd' sl' ho;intro A' Q' E' s' k q;unfold isType loadHead;exact A0 (wpAny_loadPart (k _ _ (X _ _ ho)) (A4 q))
  .cases hc
 ne:=fun h tp dd its n sl X htp=>by
  have hc:=c.cl;refine Bool.eq_false_iff.mpr fun q=>?_;have e:C=tp:=Value.ref.inj (beq_iff_eq.mp q);subst e;unfold PySem.W.clsIn at hc;split at hc
  .rename_i c' d' cd' sl' ho;have z:=(X _ _ ho).symm.trans htp;cases z
  .cases hc
 ca:=fun X ⟨_,_,I⟩ k=>LX X I c ha hn htk hm k
end
section
variable{X:Cx}{pins:List (Addr×Obj)}{σ:St}{H:Hp}{s:Shared}
noncomputable def TV(sp:Sp)(EE:St->XK)(t:TA):TE:=fun σ H Q=>t σ H fun vs H1=>sp vs H1 Q (EE σ)
structure sS(P:Program)(w:World)(K:Fg)(mg:Str->Option Value)(base:Heap)(k:Nat)(x:Str)(ps:List Str)(sp:Sp):Prop where
 ex:∃f fd,mY P w K mg base (CX1 P w) k f fd ps sp/\mg x=some (.ref f)/\PySem.W.keepIn K (.ref f)=true/\Binds K fd ps []
structure XOk(X:Cx)(EE:St->XK):Prop where
 bd:Body X
 pass:∀ev s,XS X EE ev s->X.xe ev s
 own:PassesOwn (model X.prog X.w) X.A X.env X.xe
theorem XOk.of{X:Cx}(bd:Body X)(EE:St->XK):XOk (X.wish (XS X EE)) EE:=⟨bd.wish _,fun _ _ h=>h.unwish,RN bd⟩
theorem VN{EE:St->XK}{k:Nat}{f:Addr}{fd:FuncData}{ps:List Str}{sp:Sp}{Q:VK}{us:List Value}{vs:List V}(ok:XOk X EE)(F:mY X.prog X.w X.K X.mg X.base (CX1 X.prog X.w) k f fd ps sp)(hr:cX k X.A)(hb:Binds X.K fd ps [])
 (I:Inv X pins σ H s) (r:bJ vs us) (h:sp vs H Q (EE σ)):wpAny (model X.prog X.w) X.A (call (.ref f) us) (EP X pins σ Q) X.xe s:=by
 have hl:us.length=ps.length:=by rw[<- r.length];exact F.len _ _ _ _ h
 have b:=hb s us I.kIn (by rw[D1];exact hl);rw[D1]at b;refine wpAny_call (Y3 (F.run X.A X.stack s H ⟨us,[]⟩ us vs Q (EE σ) hr I.env0 b r h) fun r s' hq=>?_);cases r with
 |error e=>exact ok.pass _ _ (aAP ok.bd I hq)
 |ok fl=>
  cases fl with
  |ret u=>exact I.after hq
  |next=>exact False.elim hq
  |brk=>exact False.elim hq
  |cont=>exact False.elim hq
theorem YC{EE:St->XK}{k:Nat}{x:Str}{ps:List Str}{sp:Sp}{p pos:Pos}{e:Expr}{es:List Expr}{t:TA}(ok:XOk X EE)(C:sS X.prog X.w X.K X.mg X.base k x ps sp)(hr:cX k X.A)(ha:PA X (e::es) t)(hg:Gl X x)
 (hdb:(x==("__debug__":Str))=false) (he:starEach (e::es) X.env=(false,eval e X.env)::starEach es X.env) (hpl:(backTo pos (starEach es X.env)).any (·.1)=false):
 PE X (.Call (.Name x p) (e::es) [] pos) (TV sp EE t):=by
 intro pins s σ H Q I h;obtain⟨f,fd,F,m,kp,b⟩:=C.ex;refine Y4 (sO I hg m ?_ hdb);exact PySem.W.callWith_K (h₀:=X.base) I.ok.mod.kin kp (thn (ha pos pins s σ H _ I h) fun us s1 ⟨vs,H1,I1,r,q⟩=>⟨I1.kIn,VN ok F hr b I1 r q⟩) he hpl
noncomputable abbrev bmV:List Value:=[.type "ValueError",.type "Exception",.type "BaseException",.type "object"]
theorem ZZ{h:Heap}{C:Addr}{bmB:List Value}{nid:String}(X:K.In h)(q:PySem.W.excIn K C bmB nid=true):
 ∃bm N nm qn bs hd sn sub ab col dd k0 k1 k2 k3 k5 mN,h.get? C=some (excClassObj nm qn C N bs bm hd sn sub ab col dd k0 k1 k2 k3 k5 nid)/\h.Ns N mN/\mN "__init__"=none/\OwnTail h bmB bm:=by
 unfold PySem.W.excIn at q;split at q
 case h_2=>cases q
 case h_1 dd cd sl lk=>
  split at q
  case h_2=>cases q
  case h_1 C' bm k0 k1 k2 k3 n k5 hm hs=>
   simp only[Bool.and_eq_true,beq_iff_eq,Bool.not_eq_true']at q;obtain⟨⟨⟨⟨⟨q1,q2⟩,q3⟩,q4⟩,q5⟩,q6⟩:=q;subst q1 q2;cases cd with
   |mk nm bs mro ns qn hd sn sub ab col del=>
    cases hm;cases q3
    have es:sl=#[k0,k1,k2,k3,some (.builtin n),k5]:=by
     cases sl with
     |mk l=>exact L5 Array.mk hs
    cases es;exact⟨bm,ns,nm,qn,bs,hd,sn,sub,ab,col,dd,k0,k1,k2,k3,k5,_,X _ _ lk,.of_isNs (PySem.W.isNs_of_in X q5),PySem.W.nsMap_none_of_in X q5 q6,PySem.W.tail_of_in X q4⟩
noncomputable def AS(EE:St->XK)(C:Addr):TS:=fun _ σ H=>EE σ (.ref C) none H
theorem JN{EE:St->XK}{C:Addr}{x:Str}{np cpos pos:Pos}(ok:XOk X EE)(hc:X.calm=true)(hm:X.mg x=some (.ref C))(q:PySem.W.excIn X.K C bmV "ValueError.__new__"=true)(hg:Gl X x)
 (hdb:(x==("__debug__":Str))=false):PS X (.Raise (some (.Call (.Name x np) [] [] cpos)) none pos) (AS EE C):=by
 intro pins s σ H D I h;obtain⟨bm,N,nm,qn,bs,hd,sn,sub,ab,col,dd,k0,k1,k2,k3,k5,mN,oC,oN,oi,ot⟩:=ZZ I.kIn q
 refine wpAny_Raise_call_subT (C:=C) (nm:=nm) (q:=qn) (N:=N) (bs:=bs) (bm:=bm) (hdct:=hd) (sn:=sn) (sub:=sub) (ab:=ab) (col:=col) (dd:=dd) (k0:=k0) (k1:=k1) (k2:=k2) (k3:=k3) (k5:=k5) (mN:=mN)
  F.excBase_ValueError (ot.hasType F.excBase_ValueError.hasBase) (I.ok.hd hc) rfl oi (sO I hg hm ⟨rfl,evalArgs_empty ⟨rfl,D2 _,oC,oN,ot,fun h' e mk=>ok.pass _ _ ?_⟩⟩ hdb)
 obtain⟨t,he,_,_⟩:=mk.there;have I':Inv X pins σ H { s with heap:=h' }:=I.kept mk.keeps
 have hn:H e=none:=by
  cases z:H e with
  |none=>rfl
  |some u=>
   obtain⟨o,z'⟩:=(I.hok e u z).there;rw[mk.new]at z';cases z'
 refine aDn ok.bd I' he hn ?_ (fun p hp z=>?_) rfl (show 1<6 by decide) rfl h
 .cases z:X.s₀.heap.get? e with
  |none=>rfl
  |some o=>
   obtain⟨o1,z1⟩:=I.base.there e o z (by rw[ok.bd.ex];simp);rw[mk.new]at z1;cases z1
 .have:=(I.pin p (C5 _ hp)).1;rw[z,mk.new]at this;cases this
end
noncomputable def hCx(X:Cx)(e:Addr):Cx:={ X with A:=X.A.mark (some (.ref e)),calm:=false,xe:=fun _ _=>False }
noncomputable def vC(X:Cx)(pins:List (Addr×Obj)):Cx:={ X with pn:=X.pn++pins }
section
variable{X:Cx}{pins:List (Addr×Obj)}{σ:St}{H:Hp}{s:Shared}
theorem Inv.toH(I:Inv X pins σ H s)(e:Addr):Inv (hCx X e) pins σ H s:=
 ⟨⟨I.ok.mod,I.ok.kind,I.ok.glob,I.ok.blt,I.ok.above,I.ok.inj,I.ok.has,I.ok.cab,fun z=>(by cases z),I.ok.frames,I.ok.stk,I.ok.exf,I.ok.bs,I.ok.bsz,I.ok.noex,I.ok.exfs,I.ok.funs,I.ok.frf⟩,I.os,I.bare,I.base,I.loc,I.cell,I.free,I.freeC,I.pin,I.hok,I.len⟩
theorem Inv.ofH{e:Addr}(I:Inv (hCx X e) pins σ H s)(ok:X.Ok):Inv X pins σ H s:=⟨ok,I.os,I.bare,I.base,I.loc,I.cell,I.free,I.freeC,I.pin,I.hok,I.len⟩
theorem Inv.toP(I:Inv X pins σ H s):Inv (vC X pins) [] σ H s:=
 ⟨⟨I.ok.mod,I.ok.kind,I.ok.glob,I.ok.blt,I.ok.above,I.ok.inj,I.ok.has,I.ok.cab,I.ok.hd,I.ok.frames,I.ok.stk,I.ok.exf,I.ok.bs,I.ok.bsz,I.ok.noex,I.ok.exfs,I.ok.funs,I.ok.frf⟩,I.os,I.bare,I.base,I.loc,I.cell,I.free,I.freeC,fun p hp=>I.pin p (by rw[D1]at hp;exact hp),I.hok,I.len⟩
theorem Inv.ofP(I:Inv (vC X pins) [] σ H s)(ok:X.Ok):Inv X pins σ H s:=⟨ok,I.os,I.bare,I.base,I.loc,I.cell,I.free,I.freeC,fun p hp=>I.pin p (by rw[D1];exact hp),I.hok,I.len⟩
theorem Inv.track{e:Addr}{oe:Obj}{vs:Array Value}(I:Inv X pins σ H s)(he:s.heap.get? e=some oe)(hv:oe.data=.fields vs)(hn:H e=none)(h0:X.s₀.heap.get? e=none)(hp:∀p∈X.pn++pins,p.1≠e):
 Inv X pins σ (upd H e (.ext (CM e oe.cls oe.dict false))) s:=by
 have ne:∀b u,H b=some u->b≠e:=fun b u z=>aO z hn;refine⟨I.ok,I.os,I.bare,⟨I.base.keep,I.base.slot,fun b o q n hx=>?_,I.base.there,fun b xs q=>?_,fun b o u q=>?_,fun b ps q=>?_⟩,I.loc,I.cell,?_,fun x c q=>?_,fun p h=>?_,fun b u q=>?_,I.len⟩
 .rw[aP (fun z=>by rw[z,h0]at q;cases q)];exact I.base.free b o q n hx
 .have:=I.base.tups b xs q;rw[aP (ne _ _ this)];exact this
 .have:=I.base.frzs b o u q;rw[aP (ne _ _ this)];exact this
 .obtain⟨more,this⟩:=I.base.tbls b ps q;exact⟨more,by rw[aP (ne _ _ this)];exact this⟩
 .obtain⟨m,⟨o,es,ep,ho,hd,_⟩,_⟩:=I.loc;rw[aP (jJ he hv ho fun ws z=>by rw[hd]at z;cases z)];exact I.free
 .obtain⟨v,o,ho,hd⟩:=I.cell x c q;rw[aP (jJ he hv ho fun ws z=>by rw[hd]at z;cases z)];exact I.freeC x c q
 .obtain⟨q1,q2,q3⟩:=I.pin p h;exact⟨q1,by rw[aP (hp p h)];exact q2,q3⟩
 .by_cases hb:b=e
  .subst hb;rw[aX]at q;cases q;exact⟨⟨oe,vs,he,rfl,rfl,hv,fun z=>by cases z⟩,⟨oe,he⟩,fun h1 h2 ⟨o,ws,z1,z2⟩ k=>⟨o,ws,k o z1,z2⟩⟩
  .rw[aP hb]at q;exact(I.hok b u q).stay (fun _ _ _ z=>z) (fun c z=>by rw[aP (ne _ _ z)];exact z) fun c xs z=>by rw[aP (ne _ _ z)];exact z
theorem pV{M:Model}{A:Around}{E:Value->Shared->Prop}{i:Nat}{x:Str}{pos:Pos}{Q:Unit->Shared->Prop}(I:Inv X pins σ H s)(hN:X.N.Nodup)(hi:X.N[i]?=some x)(hk:X.env.scope.names.lookup x=some .local)
 (h:∀s',Inv X pins (σ.set i none) H s'->Q () s'):wpAny M A (do bindName X.env x .none;unbindBehindTheSuite X.env x pos) Q E s:=by
 obtain⟨m,hn,hl⟩:=id I.loc;have hcls:(X.env.scope.kind==.class || (X.env.scope.kind==.module&&X.env.locals != X.env.globals))=false:=by rw[I.ok.kind];rfl
 have hiσ:i<σ.length:=by rw[I.len];exact(List.getElem?_eq_some_iff.mp hi).1
 obtain⟨oL,_,_,hoL,_⟩:=id hn;refine wpAny_nameGoes_keeps hk hn hcls fun h' v hn' hs=>h _ ?_;have ltL:∀b o,X.s₀.heap.get? b=some o->b≠X.env.locals:=fun b o q=>B8 (A8 (B2 q) I.ok.above);refine⟨I.ok,I.os,I.bare,⟨fun b o q n hb hx=>(hs.2 b (ltL b o q)).trans (I.base.keep b o q n hb hx),fun b o q n hb hx=>?_,I.base.free,fun b o q hx=>?_,I.base.tups,I.base.frzs,I.base.tbls⟩,⟨_,hn',fun j y v' e1 e2 e3=>?_⟩,fun y c q=>?_,I.free,I.freeC,fun p hp=>?_,fun b u q=>?_,by simpa using I.len⟩
 .obtain⟨sl,e1⟩:=I.base.slot b o q n hb hx;exact⟨sl,(hs.2 b (ltL b o q)).trans e1⟩
 .obtain⟨o',e1⟩:=I.base.there b o q hx;exact⟨o',(hs.2 b (ltL b o q)).trans e1⟩
 .have hj:j≠i:=fun z=>by
   subst z;rw[E3 hiσ]at e2;cases e2
  rw[F7 (L7 hj)]at e2;obtain⟨u',r',z⟩:=hl j y v' e1 e2 e3;refine⟨u',r',?_⟩;rcases z with⟨k,e⟩|⟨k,c,e,z⟩
  .have:y≠x:=fun e=>hj (wL hN e1 (e▸hi));exact .inl ⟨k,by simp[this,e]⟩
  .exact .inr ⟨k,c,e,z.sameBut hs (I.cne y c e)⟩
 .obtain⟨w',z⟩:=I.cell y c q;exact⟨w',z.sameBut hs (I.cne y c q)⟩
 .obtain⟨e,n,ne,nf,d⟩:=I.pin p hp;exact⟨(hs.2 p.1 ne).trans e,n,ne,nf,d⟩
 .refine(I.hok b u q).stay (fun c w' hc z=>(hs.2 c ?_).trans z) (fun _ z=>z) fun _ _ z=>z;rintro rfl;rcases hc with rfl|hc
  .rw[I.free]at q;cases q
  .rw[I.free]at hc;cases hc
structure HR where
 c:Value
 n:Option Nat
 t:TS
noncomputable def unbN:Option Nat->St->St
 |none,σ=>σ
 |some i,σ=>σ.set i none
noncomputable def setN:Option Nat->St->V->St
 |none,σ,_=>σ
 |some i,σ,v=>σ.set i (some v)
noncomputable def NJ(D:Ends)(n:Option Nat):Ends:={ nx:=fun σ H=>D.nx (unbN n σ) H,rt:=D.rt,bk:=fun σ H=>D.bk (unbN n σ) H,ct:=fun σ H=>D.ct (unbN n σ) H }
noncomputable def tHs(K:Fg)(D:Ends):List HR->St->XK
 |[],_,_,_,_=>False
 |h::r,σ,c,dx,H=>∃b,PySem.W.exmOne K c h.c=some b/\(if b=true then ∀e,H e=none->h.t (NJ D h.n) (setN h.n σ (.ref e)) (upd H e (.ext (CM e c dx false)))else tHs K D r σ c dx H)
noncomputable def PY(X:Cx)(hs:List ExceptHandler)(rs:List HR):Prop:=∀(pins:List (Addr×Obj))(D:Ends)(e:Addr)(c:Value)(dx:Option Addr)(σ:St)(H:Hp)(s:Shared)(B:Heap)(E:Value->Shared->Prop),X.Ok->Inv (vC X pins) [] σ H s->Kp (vC X pins) H B s.heap->
 Fly B X.stack e c dx (some .none) s.heap->tHs X.K D rs σ c dx H->wpAny (model X.prog X.w) X.A (handleBy (.ref e) X.env hs) (SP X pins D) E s
theorem aCX:PY X [] []:=fun _ _ _ _ _ _ _ _ _ _ _ _ _ _ h=>h.elim
noncomputable def PX(X:Cx)(x:Str)(c:Value):Prop:=X.mg x=some c\/(X.mg x=none/\bootBuiltins x=some c/\x≠"__name__")
theorem aAU{x:Str}{c:Value}{pos:Pos}{E:Value->Shared->Prop}{Q:Value->Shared->Prop}(n:PX X x c)(I:Inv X pins σ H s)(hg:Gl X x)(hd:(x==("__debug__":Str))=false)(h:Q c s):
 wpAny (model X.prog X.w) X.A (eval (.Name x pos) X.env) Q E s:=by
 rcases n with m|⟨m,b,z⟩
 .exact sO I hg m h hd
 .exact wR I hg m b h z hd
theorem Fly.fresh{B h:Heap}{e:Addr}{c:Value}{dx st:_}(bd:Body X)(I:Inv X pins σ H s)(k:Kp X H B s.heap)(F:Fly B X.stack e c dx st s.heap):H e=none/\X.s₀.heap.get? e=none/\∀p∈X.pn,p.1≠e:=by
 obtain⟨oe,vs,he,_,_,hv⟩:=F.obj;refine⟨?_,?_,fun p hp z=>?_⟩
 .cases z:H e with
  |none=>rfl
  |some u=>
   have:=k.trk e u oe z he;rw[F.new]at this;cases this
 .cases z:X.s₀.heap.get? e with
  |none=>rfl
  |some o=>
   by_cases hf:e∈X.fs
   .obtain⟨_,o1,z1,hn⟩:=I.funs.mem hf;exact absurd rfl (jJ he hv z1 hn)
   .obtain⟨⟨o',q⟩,_⟩:=k.ent e o z hf;rw[F.new]at q;cases q
 .have:=k.pin p hp;rw[z,F.new]at this;cases this
noncomputable def aEm(X:Cx):Option Str->Option Nat->Prop
 |none,none=>True
 |some n,some i=>X.N.Nodup/\X.N[i]?=some n/\X.env.scope.names.lookup n=some .local
 |_,_=>False
theorem YY{x:Str}{np pos:Pos}{nm:Option Str}{b₀:Stmt}{suite:List Stmt}{hs:List ExceptHandler}{h:HR}{rs:List HR}(bd:Body X)(hc:PX X x h.c)(hg:Gl X x)(hd:(x==("__debug__":Str))=false)
 (hn:aEm X nm h.n)
 (hS:∀e,PSs (hCx X e) (b₀::suite) h.t) (hR:PY X hs rs):PY X (.ExceptHandler (some (.Name x np)) nm (b₀::suite) pos::hs) (h::rs):=by
 intro pins D e c dx σ H s B E ok I k F hq;obtain⟨b,hb,hq⟩:=hq;have bp:Body (vC X pins):=⟨bd.stk,bd.fr,bd.ex⟩;obtain⟨oe,vs,he,hoc,_,hv⟩:=F.obj;have LT:PySem.W.Looks (model X.prog X.w) s.heap (typeOf (.ref e)) c:=hoc▸(PySem.W.Looks.ld he).andThen .now;have IH:=(I.ofP ok).toH e;have hA:(hCx X e).A=X.A.mark (some (.ref e)):=rfl;refine wpAny_handleBy_cons (codeAny_handlers_test (aAU (X:=hCx X e) hc IH hg hd ?_)) (by intro z;cases z);refine(PySem.W.exm_one IH.kIn LT hb).here ?_;cases b with
 |false=>exact hR pins D e c dx σ H s B E ok I k F hq
 |true=>
  rw[A3 rfl]at hq;have F':Fly B (vC X pins).stack e c dx (some .none) s.heap:=F
  have go:∀(P:Shared->Prop),(∀s',Inv X pins σ (upd H e (.ext (CM e c dx false))) s'->P s')->wpAny (model X.prog X.w) (X.A.mark (some (.ref e))) (setFlight (.ref e) none) (fun _ s1=>P s1) (notedBy (model X.prog X.w) (X.A.mark (some (.ref e))) X.env fun x s'=>cameBackBy (model X.prog X.w) X.A X.env E x s') s:=fun P hP=>by
   refine vG (fo:=none) F' fun h1 F1 u1=>hP _ ?_;obtain⟨I1,k1⟩:=I.up bp k F1.stays u1;obtain⟨n1,n2,n3⟩:=Fly.fresh (s:={ s with heap:=h1 }) (h:=h1) bp I1 k1 F1;obtain⟨oe1,vs1,he1,hc1,hd1,hv1⟩:=F1.obj;have I2:=Inv.track I1 he1 hv1 n1 n2 fun p hp=>n3 p (by rw[D1]at hp;exact hp);rw[hc1,hd1]at I2;exact I2.ofP ok
  have hne:H e=none:=(Fly.fresh (h:=s.heap) bp I k F').1;have q0:=hq e hne;cases nm with
  |none=>
   cases hni:h.n with
   |some i=>rw[hni]at hn;exact False.elim hn
   |none=>
    rw[hni]at q0;refine codeAny_handlers_suite (go _ fun s1 I1=>?_);refine D5 (hS e pins s1 σ _ (NJ D none) (I1.toH e) q0) (fun f s2 z=>?_) fun _ _ z=>z.elim;cases f with
    |next=>obtain⟨σ',H',I',q⟩:=z;exact⟨σ',H',I'.ofH ok,q⟩
    |brk=>obtain⟨σ',H',I',q⟩:=z;exact⟨σ',H',I'.ofH ok,q⟩
    |cont=>obtain⟨σ',H',I',q⟩:=z;exact⟨σ',H',I'.ofH ok,q⟩
    |ret u=>obtain⟨v,σ',H',I',r,q⟩:=z;exact⟨v,σ',H',I'.ofH ok,r,q⟩
  |some n=>
   cases hni:h.n with
   |none=>rw[hni]at hn;exact False.elim hn
   |some i=>
    rw[hni]at hn q0;obtain⟨nd,hi,lo⟩:=hn;refine codeAny_handlers_suite_as (go _ fun s1 I1=>?_);refine pH (X:=X) I1 nd hi (.inl lo) (v:=.ref e) rfl (fun s2 I2=>?_) (.inr lo);refine D5 (hS e pins s2 _ _ (NJ D (some i)) (I2.toH e) q0) (fun f s3 z=>?_) fun _ _ z=>z.elim;show wpAny _ _ _ (fun _ s₃=>SP X pins D f s₃) E s3;cases f with
    |next=>obtain⟨σ',H',I',q⟩:=z;exact pV (I'.ofH ok) nd hi lo fun s4 I4=>⟨_,H',I4,q⟩
    |brk=>obtain⟨σ',H',I',q⟩:=z;exact pV (I'.ofH ok) nd hi lo fun s4 I4=>⟨_,H',I4,q⟩
    |cont=>obtain⟨σ',H',I',q⟩:=z;exact pV (I'.ofH ok) nd hi lo fun s4 I4=>⟨_,H',I4,q⟩
    |ret u=>obtain⟨v,σ',H',I',r,q⟩:=z;exact pV (I'.ofH ok) nd hi lo fun s4 I4=>⟨v,_,H',I4,r,q⟩
noncomputable def aDb(K:Fg)(tb:(St->XK)->TS)(rs:List HR):TS:=fun D σ H=>tb (tHs K D rs) D σ H
theorem aCD{body:List Stmt}{h₀:ExceptHandler}{hs:List ExceptHandler}{pos:Pos}{tb:(St->XK)->TS}{rs:List HR}(bd:Body X)
 (hb:∀pins EE,PSs ((vC X pins).wish (XS (vC X pins) EE)) body (tb EE)) (hh:PY X (h₀::hs) rs):PS X (.Try body (h₀::hs) [] [] pos) (aDb X.K tb rs):=by
 intro pins s σ H D I h;have bp:Body (vC X pins):=⟨bd.stk,bd.fr,bd.ex⟩;refine wpAny_Try_except (D5 (hb pins (tHs X.K D rs) [] s σ H D (I.toP.wish _) h) (fun f s1 z=>?_) fun ev s1 z=>?_)
 .cases f with
  |next=>obtain⟨σ',H',I',q⟩:=z;exact Y1 ⟨σ',H',I'.unwish.ofP I.ok,q⟩
  |brk=>obtain⟨σ',H',I',q⟩:=z;exact⟨σ',H',I'.unwish.ofP I.ok,q⟩
  |cont=>obtain⟨σ',H',I',q⟩:=z;exact⟨σ',H',I'.unwish.ofP I.ok,q⟩
  |ret u=>obtain⟨v,σ',H',I',r,q⟩:=z;exact⟨v,σ',H',I'.unwish.ofP I.ok,r,q⟩
 .obtain⟨e,c,dx,st,σ1,H1,B,rfl,I1,k1,F1,hst,q⟩:=z;have hf:=I1.ok.frames;have F1':=F1;rw[bp.stk]at F1' hf;refine BW hf bp.fr F1' hst fun h2 F2 u2=>vG (s:={ s1 with heap:=h2 }) (fo:=none) F2 fun h3 F3 u3=>?_;obtain⟨I2,k2⟩:=I1.up bp k1 F2.stays u2;obtain⟨I3,k3⟩:=I2.up bp k2 F3.stays u3;exact hh pins D e c dx σ1 H1 _ B _ I.ok I3 k3 (by rw[bd.stk];exact F3) q
end
structure Exc where
 nm:Str
 fs:List (Str×CD)
inductive Rs where
 |v (x:CD)|x (e:Exc)
inductive aEd where
 |o (o:Out)|xc (γ:Ga) (e:Exc)
noncomputable abbrev EX:=Ga->Sto->Option (Rs×Sto)
noncomputable abbrev AX:=Ga->Sto->Option ((List CD ⊕ Exc)×Sto)
noncomputable abbrev SFX:=Ga->Sto->Option (aEd×Sto)
noncomputable abbrev FX:=List CD->Sto->Option (Rs×Sto)
section
variable(K:Fg)
noncomputable def ExR(W:Wd)(ex:Exc)(c:Value)(dx:Option Addr):Prop:=c=.ref (cB K ex.nm)/\DP K W dx ex.fs
noncomputable def aAJ(E:XK)(Q:VK)(W:Wd)(H:Hp):Rs->Prop
 |.v x=>∀v,cF K W x v->Q v H
 |.x ex=>∀c dx,ExR K W ex c dx->E c dx H
noncomputable def SEX(EE:St->XK)(t:TE)(f:EX):Prop:=∀γ M r M',f γ M=some (r,M')->∀(W:Wd)(H:Hp)(σ:St)(Q:VK),Good K W M H->cL K W γ σ->(∀W' H',W.Ext W'->Good K W' M' H'->aAJ K (EE σ) Q W' H' r)->t σ H Q
noncomputable def aEJ(E:XK)(Q:List V->Hp->Prop)(W:Wd)(H:Hp):List CD ⊕ Exc->Prop
 |.inl xs=>∀vs,cC K W xs vs->Q vs H
 |.inr ex=>∀c dx,ExR K W ex c dx->E c dx H
noncomputable def SAX(EE:St->XK)(t:TA)(f:AX):Prop:=∀γ M r M',f γ M=some (r,M')->∀(W:Wd)(H:Hp)(σ:St)(Q:List V->Hp->Prop),Good K W M H->cL K W γ σ->(∀W' H',W.Ext W'->Good K W' M' H'->aEJ K (EE σ) Q W' H' r)->t σ H Q
noncomputable def aBX(EE:St->XK)(D:Ends)(W:Wd)(H:Hp):aEd->Prop
 |.o o=>TN K D W H o
 |.xc γ ex=>∀σ c dx,cL K W γ σ->ExR K W ex c dx->EE σ c dx H
noncomputable def SSX(EE:St->XK)(t:TS)(f:SFX):Prop:=∀γ M o M',f γ M=some (o,M')->∀(W:Wd)(H:Hp)(σ:St)(D:Ends),Good K W M H->cL K W γ σ->(∀W' H',W.Ext W'->Good K W' M' H'->aBX K EE D W' H' o)->t D σ H
noncomputable def spX(f:FX):Sp:=fun vs H Q E=>∃xs M W r M',Good K W M H/\cC K W xs vs/\f xs M=some (r,M')/\∀W' H',W.Ext W'->Good K W' M' H'->aAJ K E Q W' H' r
end
noncomputable def liE(f:EF):EX:=fun γ M=>(f γ M).bind fun r=>some (.v r.1,r.2)
noncomputable def liA(f:AF):AX:=fun γ M=>(f γ M).bind fun r=>some (.inl r.1,r.2)
noncomputable def liS(f:SF):SFX:=fun γ M=>(f γ M).bind fun r=>some (.o r.1,r.2)
noncomputable def xCons(f:EX)(g:AX):AX:=fun γ M=>(f γ M).bind fun r=>match r.1 with
 |.x e=>some (.inr e,r.2)
 |.v x=>(g γ r.2).bind fun q=>match q.1 with
  |.inr e=>some (.inr e,q.2)
  |.inl xs=>some (.inl (x::xs),q.2)
noncomputable def aFx(f:EX)(k:CD->Sto->Option (Rs×Sto)):EX:=fun γ M=>(f γ M).bind fun r=>match r.1 with
 |.x e=>some (.x e,r.2)
 |.v x=>k x r.2
noncomputable def yY(f:AX)(k:List CD->Sto->Option (Rs×Sto)):EX:=fun γ M=>(f γ M).bind fun r=>match r.1 with
 |.inr e=>some (.x e,r.2)
 |.inl xs=>k xs r.2
noncomputable def oB(h:FX)(f:AX):EX:=yY f h
noncomputable def tZ(f g:SFX):SFX:=fun γ M=>(f γ M).bind fun r=>match r.1 with
 |.o (.nx γ')=>g γ' r.2
 |o=>some (o,r.2)
noncomputable def aEz(f:EX):SFX:=fun γ M=>(f γ M).bind fun r=>match r.1 with
 |.x e=>some (.xc γ e,r.2)
 |.v x=>some (.o (.rt x),r.2)
noncomputable def pN(f:EX):SFX:=fun γ M=>(f γ M).bind fun r=>match r.1 with
 |.x e=>some (.xc γ e,r.2)
 |.v _=>some (.o (.nx γ),r.2)
noncomputable def zP(f:EX)(g:GF):SFX:=fun γ M=>(f γ M).bind fun r=>match r.1 with
 |.x e=>some (.xc γ e,r.2)
 |.v x=>(g x γ r.2).bind fun q=>some (.o (.nx q.1),q.2)
noncomputable def LQ(c:TF)(f g:SFX):SFX:=fun γ M=>(c γ M).bind fun r=>if r.1=true then f γ r.2 else g γ r.2
noncomputable def AZ(nm:Str):SFX:=fun γ M=>some (.xc γ ⟨nm,[]⟩,M)
noncomputable def fnX(ps N:Nat)(b:SFX):FX:=fun xs M=>if xs.length=ps then(b (xs.map some++List.replicate (N-xs.length) none) M).bind fun r=>match r.1 with
 |.o (.rt x)=>some (.v x,r.2)
 |.o (.nx _)=>some (.v (.d .none),r.2)
 |.xc _ e=>some (.x e,r.2)
 |_=>none else none
noncomputable def OJ:Option Nat->Ga->Ga
 |none,γ=>γ
 |some i,γ=>γ.set i none
noncomputable def setG:Option Nat->Ga->CD->Ga
 |none,γ,_=>γ
 |some i,γ,x=>γ.set i (some x)
noncomputable def aDh(n:Option Nat):Out->Out
 |.nx γ=>.nx (OJ n γ)
 |.bk γ=>.bk (OJ n γ)
 |.ct γ=>.ct (OJ n γ)
 |.rt x=>.rt x
structure HMi where
 tab:List (Str×Bool)
 n:Option Nat
 f:SF
noncomputable def LJ:List HMi->Ga->Exc->Sto->Option (Out×Sto)
 |[],_,_,_=>none
 |h::r,γ,ex,M=>match h.tab.lookup ex.nm with
  |some true=>(h.f (setG h.n γ (.c M.length)) (M++[.exc false ex.nm ex.fs])).bind fun q=>some (aDh h.n q.1,q.2)
  |some false=>LJ r γ ex M
  |none=>none
noncomputable def GI(b:SFX)(hs:List HMi):SF:=fun γ M=>(b γ M).bind fun r=>match r.1 with
 |.o o=>some (o,r.2)
 |.xc γ' ex=>LJ hs γ' ex r.2
section
variable{K:Fg}{EE:St->XK}{ta tb:TE}{tA:TA}{t u:TS}{f g:EX}{fa:AX}{p q:SFX}{tt:TT}{ft:TF}{tg:TG}{hg:GF}
theorem aDF{f:AF}(a:SA K tA f):SAX K EE tA (liA f):=by
 intro γ M r M' h W H σ Q G R k;obtain⟨⟨x,M1⟩,h1,h⟩:=aJ h;cases h;exact a _ _ _ _ h1 W H σ Q G R fun v W' H' e G' rv=>k W' H' e G' v rv
theorem aCI{f:SF}(a:SS K t f):SSX K EE t (liS f):=by
 intro γ M r M' h W H σ D G R k;obtain⟨⟨x,M1⟩,h1,h⟩:=aJ h;cases h;exact a _ _ _ _ h1 W H σ D G R fun W' H' e G'=>k W' H' e G'
theorem UH{h:FX}(a:SAX K EE tA fa):SEX K EE (TV (spX K h) EE tA) (oB h fa):=by
 intro γ M r M' hh W H σ Q G R k;obtain⟨⟨x,M1⟩,h1,hh⟩:=aJ hh;refine a _ _ _ _ h1 W H σ _ G R fun W1 H1 e1 G1=>?_;cases x with
 |inr e=>cases hh;exact k W1 H1 e1 G1
 |inl xs=>exact fun vs rs=>⟨xs,M1,W1,r,M',G1,rs,hh,fun W2 H2 e2 G2=>k W2 H2 (e1.trans e2) G2⟩
theorem ZO(a:SSX K EE t p)(b:SSX K EE u q):SSX K EE (aDO t u) (tZ p q):=by
 intro γ M o M' hh W H σ D G R k;obtain⟨⟨x,M1⟩,h1,hh⟩:=aJ hh;refine a _ _ _ _ h1 W H σ _ G R fun W1 H1 e1 G1=>?_;cases x with
 |xc γ' e=>cases hh;exact k W1 H1 e1 G1
 |o x=>
  cases x with
  |nx γ'=>exact fun σ' R'=>b _ _ _ _ hh W1 H1 σ' D G1 R' fun W2 H2 e2 G2=>k W2 H2 (e1.trans e2) G2
  |bk γ'=>cases hh;exact k W1 H1 e1 G1
  |ct γ'=>cases hh;exact k W1 H1 e1 G1
  |rt x=>cases hh;exact k W1 H1 e1 G1
theorem NI(a:SEX K EE ta f):SSX K EE (UP ta) (pN f):=by
 intro γ M o M' hh W H σ D G R k;obtain⟨⟨x,M1⟩,h1,hh⟩:=aJ hh;refine a _ _ _ _ h1 W H σ _ G R fun W1 H1 e1 G1=>?_;cases x with
 |x e=>cases hh;exact fun c dx z=>k W1 H1 e1 G1 σ c dx (R.up e1) z
 |v x=>cases hh;exact fun v rv=>k W1 H1 e1 G1 σ (R.up e1)
theorem WO(a:SEX K EE ta f)(b:SG K tg hg):SSX K EE (TQ ta tg) (zP f hg):=by
 intro γ M o M' hh W H σ D G R k;obtain⟨⟨x,M1⟩,h1,hh⟩:=aJ hh;refine a _ _ _ _ h1 W H σ _ G R fun W1 H1 e1 G1=>?_;cases x with
 |x e=>cases hh;exact fun c dx z=>k W1 H1 e1 G1 σ c dx (R.up e1) z
 |v x=>
  intro v rv;obtain⟨⟨γ2,M2⟩,h2,hh⟩:=aJ (show(hg x γ M1).bind _=_ from hh);cases hh;exact b _ _ _ _ _ h2 W1 H1 σ v _ G1 (R.up e1) rv fun σ2 W2 H2 e2 G2 R2=>k W2 H2 (e1.trans e2) G2 σ2 R2
theorem aDN(c:STt K tt ft)(a:SSX K EE t p)(b:SSX K EE u q):SSX K EE (aBb tt t u) (LQ ft p q):=by
 intro γ M o M' hh W H σ D G R k;obtain⟨⟨x,M1⟩,h1,hh⟩:=aJ hh;refine c _ _ _ _ h1 W H σ _ G R fun W1 H1 e1 G1=>?_;cases x with
 |true=>rw[A3 rfl];rw[A3 rfl]at hh;exact a _ _ _ _ hh W1 H1 σ D G1 (R.up e1) fun W2 H2 e2 G2=>k W2 H2 (e1.trans e2) G2
 |false=>rw[A7 A5];rw[A7 A5]at hh;exact b _ _ _ _ hh W1 H1 σ D G1 (R.up e1) fun W2 H2 e2 G2=>k W2 H2 (e1.trans e2) G2
theorem KL{nm:Str}:SSX K EE (AS EE (cB K nm)) (AZ nm):=by
 intro γ M o M' hh W H σ D G R k;cases hh;exact k W H (.refl _) G σ _ none R ⟨rfl,rfl⟩
theorem cL.setN{γ:Ga}{n:Option Nat}{x:CD}{v:V}(R:cL K W γ σ)(r:cF K W x v):cL K W (setG n γ x) (setN n σ v):=by
 cases n with
 |none=>exact R
 |some i=>exact Paired.set (x:=some x) (y:=some v) r i R
theorem cL.unbN{γ:Ga}{n:Option Nat}(R:cL K W γ σ):cL K W (OJ n γ) (unbN n σ):=by
 cases n with
 |none=>exact R
 |some i=>exact Paired.set (x:=none) (y:=none) True.intro i R
inductive HsM(K:Fg):List HR->List HMi->Prop
 |nil:HsM K [] []
 |cons {h:HR} {m:HMi} {hs:List HR} {ms:List HMi} (hn:h.n=m.n) (ht:∀nm b,m.tab.lookup nm=some b->PySem.W.exmOne K (.ref (cB K nm)) h.c=some b) (hS:SS K h.t m.f) (r:HsM K hs ms):HsM K (h::hs) (m::ms)
theorem UJ{D:Ends}{W:Wd}{M M':Sto}{H:Hp}{γ:Ga}{σ:St}{ex:Exc}{c:Value}{dx:Option Addr}{o:Out}(G:Good K W M H)(R:cL K W γ σ)(E:ExR K W ex c dx):
 ∀{hs:List HR}{ms:List HMi},HsM K hs ms->LJ ms γ ex M=some (o,M')->(∀W' H',W.Ext W'->Good K W' M' H'->TN K D W' H' o)->tHs K D hs σ c dx H
 |_,_,.nil=>fun h _=>by cases h
 |_,_,@HsM.cons _ h m hs ms hn ht hS r=>fun hh k=>by
  obtain⟨rfl,rx⟩:=E;unfold LJ at hh;cases e:m.tab.lookup ex.nm with
  |none=>rw[e]at hh;cases hh
  |some b=>
   rw[e]at hh;refine⟨b,ht _ _ e,?_⟩;cases b with
   |false=>rw[A7 A5];exact UJ G R ⟨rfl,rx⟩ r hh k
   |true=>
    rw[A3 rfl];intro a ha;obtain⟨⟨o1,M1⟩,h1,hh⟩:=aJ (show(m.f _ _).bind _=_ from hh);have hh':some (aDh m.n o1,M1)=some (o,M'):=hh;cases hh';have G':Good K (W.more a) (M++[.exc false ex.nm ex.fs]) (upd H a (.ext (CM a (.ref (cB K ex.nm)) dx false))):=G.new ha ⟨dx,rfl,rx⟩;have e1:=W.ext_more a;have ra:cF K (W.more a) (.c M.length) (.ref a):=⟨by show M.length<W.n+1;rw[G.n];exact E7 _,by show _=V.ref (if M.length=W.n then a else _);rw[A3 G.n.symm]⟩;rw[hn];refine hS _ _ _ _ h1 (W.more a) _ _ _ G' ((R.up e1).setN ra) fun W2 H2 e2 G2=>?_;have kk:=k W2 H2 (e1.trans e2) G2;cases o1 with
    |nx γ2=>exact fun σ2 R2=>kk _ R2.unbN
    |bk γ2=>exact fun σ2 R2=>kk _ R2.unbN
    |ct γ2=>exact fun σ2 R2=>kk _ R2.unbN
    |rt x=>exact kk
theorem aBe{tb:(St->XK)->TS}{rs:List HR}{ms:List HMi}(b:∀EE,SSX K EE (tb EE) p)(h:HsM K rs ms):SS K (aDb K tb rs) (GI p ms):=by
 intro γ M o M' hh W H σ D G R k;obtain⟨⟨x,M1⟩,h1,hh⟩:=aJ hh;refine b _ _ _ _ _ h1 W H σ D G R fun W1 H1 e1 G1=>?_;cases x with
 |o x=>cases hh;exact k W1 H1 e1 G1
 |xc γ' ex=>exact fun σ' c dx R' E=>UJ G1 R' E h hh fun W2 H2 e2 G2=>k W2 H2 (e1.trans e2) G2
end
section
variable{ι:Type}
structure MX(K:Fg)(X:ι->Cx)(EE:ι->St->XK)(e:Expr)(f:EX):Prop where
 ex:∃t:ι->TE,(∀i,PE (X i) e (t i))/\∀i,SEX K (EE i) (t i) f
structure MAX(K:Fg)(X:ι->Cx)(EE:ι->St->XK)(es:List Expr)(f:AX):Prop where
 ex:∃t:ι->TA,(∀i,PA (X i) es (t i))/\∀i,SAX K (EE i) (t i) f
 st:DB es
structure MSX(K:Fg)(X:ι->Cx)(EE:ι->St->XK)(st:Stmt)(f:SFX):Prop where
 ex:∃t:ι->TS,(∀i,PS (X i) st (t i))/\∀i,SSX K (EE i) (t i) f
structure MLX(K:Fg)(X:ι->Cx)(EE:ι->St->XK)(st:List Stmt)(f:SFX):Prop where
 ex:∃t:ι->TS,(∀i,PSs (X i) st (t i))/\∀i,SSX K (EE i) (t i) f
variable{K:Fg}{X:ι->Cx}{EE:ι->St->XK}{e a b c tg iter:Expr}{es:List Expr}{f g:EX}{fa:AX}{p q:SFX}{ft:TF}{gf:GF}{st:Stmt}{sts sts':List Stmt}{pos:Pos}
theorem NY{f:AF}(x:MA K X es f):MAX K X EE es (liA f):=by
 obtain⟨t,x1,x2⟩:=x.ex;exact⟨⟨fun _=>t,x1,fun _=>aDF x2⟩,x.st⟩
theorem MP{f:SF}(x:ML K X sts f):MLX K X EE sts (liS f):=by
 obtain⟨t,x1,x2⟩:=x.ex;exact⟨fun _=>t,x1,fun _=>aCI x2⟩
theorem HN{k:Nat}{x:Str}{ps:List Str}{F:FX}{p:Pos}(ok:∀i,XOk (X i) (EE i))(C:∀i,sS (X i).prog (X i).w (X i).K (X i).mg (X i).base k x ps (spX K F))(hr:∀i,cX k (X i).A)(y:MAX K X EE (e::es) fa)(hg:∀i,Gl (X i) x:=by intro _;rfl)(hd:(x==("__debug__":Str))=false:=by decide):
 MX K X EE (.Call (.Name x p) (e::es) [] pos) (oB F fa):=by
 obtain⟨u,y1,y2⟩:=y.ex;exact⟨_,fun i=>YC (ok i) (C i) (hr i) (y1 i) (hg i) hd (y.st.1 _) (y.st.2.plain _ _),fun i=>UH (y2 i)⟩
theorem BB(x:MSX K X EE st p):MLX K X EE [st] p:=by
 obtain⟨t,x1,x2⟩:=x.ex;exact⟨t,fun i=>IF (x1 i),x2⟩
theorem TY(x:MSX K X EE st p)(y:MLX K X EE sts q):MLX K X EE (st::sts) (tZ p q):=by
 obtain⟨t,x1,x2⟩:=x.ex;obtain⟨u,y1,y2⟩:=y.ex;exact⟨_,fun i=>EJ (x1 i) (y1 i),fun i=>ZO (x2 i) (y2 i)⟩
theorem QM(x:MX K X EE e f)(hs:∀i,swapsWith e none pos.line (X i).env=pure false:=by intro _;rfl):MSX K X EE (.Expr e pos) (pN f):=by
 obtain⟨t,x1,x2⟩:=x.ex;exact⟨_,fun i=>JH (x1 i) (hs i),fun i=>NI (x2 i)⟩
theorem YI(i:Nat){x':Str}{pos':Pos}(hN:∀j,(X j).N.Nodup)(x:MX K X EE e f)(hi:∀j,(X j).N[i]?=some x':=by intro _;rfl)(hx:∀j,Loc (X j).env.scope x':=by intro _;first|exact Or.inl rfl|exact Or.inr rfl)(hs:∀j,swapsWith e (some (.Name x' pos')) pos.line (X j).env=pure false:=by intro _;rfl)
 (hf:∀j,(X j).fn x'=true\/(X j).env.scope.names.lookup x'=some .local:=by intro _;first|exact .inl rfl|exact .inr rfl):MSX K X EE (.Assign [.Name x' pos'] e pos) (zP f (hName i)):=by
 obtain⟨t,x1,x2⟩:=x.ex;exact⟨_,fun j=>UN (hN j) (hi j) (hx j) (x1 j) (hs j) (hf j),fun j=>WO (x2 j) vO⟩
theorem aDq(x:MT K X c ft)(y:MLX K X EE sts p)(z:MLX K X EE sts' q):MSX K X EE (.If c sts sts' pos) (LQ ft p q):=by
 obtain⟨t,x1,x2⟩:=x.ex;obtain⟨u,y1,y2⟩:=y.ex;obtain⟨v,z1,z2⟩:=z.ex;exact⟨_,fun i=>aAM (x1 i) (y1 i) (z1 i),fun i=>aDN x2 (y2 i) (z2 i)⟩
theorem GK{x:Str}{np cpos:Pos}(ok:∀i,XOk (X i) (EE i))(hK:∀i,(X i).K=K)(hc:∀i,(X i).calm=true)(hm:∀i,(X i).mg x=some (.ref (cB K x)))(q:PySem.W.excIn K (cB K x) bmV "ValueError.__new__"=true)(hg:∀i,Gl (X i) x:=by intro _;rfl)(hd:(x==("__debug__":Str))=false:=by decide):
 MSX K X EE (.Raise (some (.Call (.Name x np) [] [] cpos)) none pos) (AZ x):=
 ⟨fun i=>AS (EE i) (cB K x),fun i=>JN (ok i) (hc i) (hm i) (by rw[hK i];exact q) (hg i) hd,fun _=>KL⟩
noncomputable def aEh(X:ι->Cx):ι×List (Addr×Obj)×(St->XK)->Cx:=fun j=>(vC (X j.1) j.2.1).wish (XS (vC (X j.1) j.2.1) j.2.2)
noncomputable def aDT:ι×List (Addr×Obj)×(St->XK)->St->XK:=fun j=>j.2.2
noncomputable def aFJ(X:ι->Cx):ι×Addr->Cx:=fun j=>hCx (X j.1) j.2
theorem aEc(bd:∀i,Body (X i))(j:ι×List (Addr×Obj)×(St->XK)):XOk (aEh X j) (aDT (ι:=ι) j):=
 XOk.of (X:=vC (X j.1) j.2.1) ⟨(bd j.1).stk,(bd j.1).fr,(bd j.1).ex⟩ _
structure MH(K:Fg)(X:ι->Cx)(hs:List ExceptHandler)(ms:List HMi):Prop where
 ex:∃rs,(∀i,PY (X i) hs rs)/\HsM K rs ms
theorem aCU:MH K X [] []:=⟨[],fun _=>aCX,.nil⟩
theorem ZU{x:Str}{np hp:Pos}{nm:Option Str}{b₀:Stmt}{suite:List Stmt}{hs:List ExceptHandler}{ms:List HMi}{tab:List (Str×Bool)}{n:Option Nat}{f:SF}(cv:Value)(bd:∀i,Body (X i))(hc:∀i,PX (X i) x cv)
 (hn:∀i,aEm (X i) nm n)
 (ht:∀p∈tab,PySem.W.exmOne K (.ref (cB K p.1)) cv=some p.2) (hS:ML K (aFJ X) (b₀::suite) f) (r:MH K X hs ms) (hg:∀i,Gl (X i) x:=by intro _;rfl) (hd:(x==("__debug__":Str))=false:=by decide):
 MH K X (.ExceptHandler (some (.Name x np)) nm (b₀::suite) hp::hs) (⟨tab,n,f⟩::ms):=by
 obtain⟨t,h1,h2⟩:=hS.ex;obtain⟨rs,r1,r2⟩:=r.ex;refine⟨⟨cv,n,t⟩::rs,fun i=>YY (h:=⟨cv,n,t⟩) (bd i) (hc i) (hg i) hd (hn i) (fun e=>h1 (i,e)) (r1 i),.cons rfl (fun nm b z=>?_) h2 r2⟩;exact ht (nm,b) (C8 z)
theorem aBq{h₀:ExceptHandler}{hs:List ExceptHandler}{ms:List HMi}(bd:∀i,Body (X i))(hK:∀i,(X i).K=K)(x:MLX K (aEh X) (aDT (ι:=ι)) sts p)(h:MH K X (h₀::hs) ms):MS K X (.Try sts (h₀::hs) [] [] pos) (GI p ms):=by
 obtain⟨rs,r1,r2⟩:=h.ex;obtain⟨t,x1,x2⟩:=x.ex;refine⟨aDb K (fun EE D σ H=>∀i pins,t (i,pins,EE) D σ H) rs,fun i=>?_,aBe (fun EE=>?_) r2⟩
 .have:=aCD (X:=X i) (tb:=fun EE D σ H=>∀i pins,t (i,pins,EE) D σ H) (pos:=pos) (bd i) (fun pins EE ps s σ H D I h=>x1 (i,pins,EE) ps s σ H D I (h i pins)) (r1 i);rw[hK i]at this;exact this
 .exact fun γ M o M' hh W H σ D G R k i pins=>x2 (i,pins,EE) γ M o M' hh W H σ D G R k
section
variable{P:Program}{w:World}{K:Fg}{mg:Str->Option Value}{base:Heap}
noncomputable abbrev aCB(P:Program)(w:World)(K:Fg)(mg:Str->Option Value)(base:Heap)(N:List Str)(x:Str)(st:Stmt)(f:Addr)(cdv:Value)(A:Around)(outer:List Env)(s:Shared)(H:Hp)(E:XK):Unit->Cx:=fun _=>
 (mK (CX1 P w) P w K mg base N x (aG st) f cdv A outer s H E).wish (XS (mK (CX1 P w) P w K mg base N x (aG st) f cdv A outer s H E) fun _=>E)
theorem OX{N:List Str}{x:Str}{st:Stmt}{f:Addr}{cdv:Value}{A:Around}{outer:List Env}{s:Shared}{E:XK}(i:Unit):XOk (aCB P w K mg base N x st f cdv A outer s H E i) ((fun _ _=>E:Unit->St->XK) i):=XOk.of IV _
theorem Fun.okXF{x qual:Str}{st:Stmt}{N ps:List Str}{k:Nat}{b:SFX}{f:Addr}{fd:FuncData}(Fu:Fun K x qual st f fd)(S:aT N ps (aG st))
 (hbody:∀(f:Addr)(cdv:Value)(A:Around)(outer:List Env)(s:Shared)(H:Hp)(E:XK),cX k (A.deeper (envOfC qual (aG st) s.heap.objs.size f cdv))->
  MLX K (aCB P w K mg base N qual st f cdv A outer s H E) (fun _ _=>E) (cE st) b):mY P w K mg base (CX1 P w) (k+1) f fd ps (spX K (fnX ps.length N.length b)):=by
 obtain⟨oc,od,kV,doc,pm,an,cdv,ct,osl,rfl,lk,hcd⟩:=Fu.ex
 have len:∀vs H Q E,spX K (fnX ps.length N.length b) vs H Q E->vs.length=ps.length:=fun vs H Q E h=>by
  obtain⟨xs,M,W,y,M',G,R,hf,_⟩:=h;by_cases hl:xs.length=ps.length
  .rw[<- Paired.len R];exact hl
  .unfold fnX at hf;rw[A7 hl]at hf;cases hf
 refine aDk lk hcd S len fun A outer s H vs Q E hr h=>?_;obtain⟨t,h1,h2⟩:=(hbody f cdv A outer s H E hr).ex;refine⟨t (),h1 (),?_⟩;obtain⟨xs,M,W,r,M',G,R,hf,kk⟩:=h
 have hl:xs.length=ps.length:=by
  by_cases hl:xs.length=ps.length
  .exact hl
  .unfold fnX at hf;rw[A7 hl]at hf;cases hf
 unfold fnX at hf;rw[A3 hl]at hf;obtain⟨⟨o,M1⟩,h3,hf⟩:=aJ hf
 have hR:cL K W (xs.map some++List.replicate (N.length-xs.length) none) (start N vs):=by
  unfold start;rw[<- Paired.len R];exact Paired.app (cC.some R) (sE _)
 refine h2 () _ _ _ _ h3 W H _ _ G hR fun W1 H1 e1 G1=>?_;cases o with
 |xc γ e=>cases hf;exact fun σ c dx _ z=>kk W1 H1 e1 G1 c dx z
 |o o=>
  cases o with
  |rt x=>cases hf;exact fun v r=>kk W1 H1 e1 G1 v r
  |nx γ=>cases hf;exact fun σ r=>kk W1 H1 e1 G1 .non rfl
  |bk γ=>cases hf
  |ct γ=>cases hf
theorem Def.okX{x:Str}{st:Stmt}{N ps:List Str}{k:Nat}{b:SFX}(D:Def K mg x st)(S:aT N ps (aG st))
 (hb:∀(kV doc pm:Value)(an:Option Addr)(cdv ct:Value)(us:List Value),us.length=ps.length->bindArgs (PySem.W.fnOf x x (fN st) (cE st) (aG st) .none kV doc pm an cdv ct) ⟨us,[]⟩=pure (ps.zip us))
 (hbody:∀(f:Addr)(cdv:Value)(A:Around)(outer:List Env)(s:Shared)(H:Hp)(E:XK),cX k (A.deeper (envOfC x (aG st) s.heap.objs.size f cdv))->
  MLX K (aCB P w K mg base N x st f cdv A outer s H E) (fun _ _=>E) (cE st) b):sS P w K mg base (k+1) x ps (spX K (fnX ps.length N.length b)):=by
 obtain⟨f,fd,Fu,m⟩:=D.ex;exact⟨f,fd,Fu.okXF S hbody,m,Fu.kp,Fu.binds hb⟩
end
end
structure XC(K:Fg)(C:Addr):Prop where
 c:RD K C
 ha:PySem.W.findIn K (.ref C) "__class__"=some (some (.builtin "object.__class__"))
 hn:PySem.W.specialIn K (.builtin "object.__class__") "__get__"=some (some (.builtin "getset_descriptor.__get__"))
 htk:PySem.W.takesIn K (.builtin "object.__class__")=some true
 hm:PySem.W.mroIn K C (.type "object")=some true
noncomputable def aCK(H:Hp):Option Addr->Prop
 |none=>True
 |some d=>∃us,H d=some (.xd us)
inductive ClV:V->Value->Prop
 |own (C:Addr):ClV (.ref C) (.ref C)
 |ty (T:String):ClV (.ty T) (.type T)
theorem ClV.is{v:V}{c u:Value}(h:ClV v c)(r:RelV v u):u=c:=by cases h<;>exact r
noncomputable def TU(K:Fg):List V->Hp->VK->Prop:=fun xs H Q=>∃v cv c b,xs=[v,cv]/\ClV cv c/\Q (.bl b) H /\
 ((v=.non/\PySem.W.kitOne K (.type "NoneType") c=some b)\/∃a C dx fr,v=.ref a/\H a=some (.ext (CM a (.ref C) dx fr))/\aCK H dx/\XC K C/\PySem.W.kitOne K (.ref C) c=some b)
section
variable{X:Cx}{K:Fg}
theorem SU{pins:List (Addr×Obj)}{s:Shared}{a C:Addr}{dx:Option Addr}{fr:Bool}(I:Inv X pins σ H s)(h:H a=some (.ext (CM a (.ref C) dx fr)))(d:aCK H dx):∃ox od,PySem.W.InstAt s.heap a ox C od/\ox.dict=dx:=by
 obtain⟨⟨o,vs,h1,h2,h3,h4,_⟩,_⟩:=I.hok a _ h
 have no:PySem.W.notCls o=true:=by
  obtain⟨_,_,dt,_⟩:=o;cases h4;rfl
 cases dx with
 |none=>exact⟨o,none,⟨h1,h2,no,by rw[h3];exact True.intro⟩,h3⟩
 |some d'=>
  obtain⟨us,hd⟩:=d;obtain⟨od,q⟩:=(I.hok d' _ hd).there;exact⟨o,some od,⟨h1,h2,no,by rw[h3];exact q⟩,h3⟩
theorem KB:eO X (.builtin "isinstance") (TU X.K):=by
 intro pins s σ H vs us Q I r h;obtain⟨v,cv,c,b,rfl,rc,q,h⟩:=h;obtain⟨u,u',rfl,ru,ru'⟩:=vals2 r;cases rc.is ru';rcases h with⟨rfl,e⟩|⟨a,C,dx,fr,rfl,ha,d,xc,e⟩
 .cases (show u=Value.none from ru);exact PySem.W.kia_one PySem.W.kitx_none I.kIn True.intro e (fun z=>nomatch z) fun tk=>⟨.bl _,H,I.tok tk,rfl,q⟩
 .cases (show u=Value.ref a from ru);obtain⟨ox,od,J,_⟩:=SU I ha d;exact PySem.W.kia_one (RI xc.c xc.ha xc.hn xc.htk xc.hm) I.kIn ⟨ox,od,J⟩ e (fun z=>nomatch z) fun tk=>⟨.bl _,H,I.tok tk,rfl,q⟩
theorem aEj(h:X.K=K):eO X (.builtin "isinstance") (TU K):=by subst h;exact KB
noncomputable def uH(tab:List (Str×Bool))(nn:Option Bool)(f:EF):EF:=fun γ M=>(f γ M).bind fun r=>match r.1 with
 |.c i=>(match r.2[i]? with
  |some (.exc _ nm _)=>(tab.lookup nm).bind fun b=>some (.d (.bool b),r.2)
  |_=>none)
 |.d .none=>nn.bind fun b=>some (.d (.bool b),r.2)
 |_=>none
theorem DP.ok{dx:Option Addr}{fs:List (Str×CD)}(r:DP K W dx fs)(s:gU W.F H):aCK H dx:=by
 cases dx with
 |none=>exact True.intro
 |some d=>obtain⟨_,us,h,_⟩:=r;exact⟨us,s _ _ h⟩
theorem Good.excAt{i:Nat}{fr:Bool}{nm:Str}{fs:List (Str×CD)}(G:Good K W M H)(h:M[i]?=some (.exc fr nm fs)):∃dx,H (W.α i)=some (.ext (CM (W.α i) (.ref (cB K nm)) dx fr))/\DP K W dx fs:=by
 obtain⟨_,o,h2,h3⟩:=G.cs i _ h (by intro z;cases z);cases o with
 |ext φ=>
  obtain⟨dx,rfl,r⟩:=h3;exact⟨dx,h2,r⟩
 |_=>exact False.elim h3
theorem XT{tab:List (Str×Bool)}{nn:Option Bool}{ta:TE}{f:EF}{cv:V}{c:Value}(hc:ClV cv c)(ht:∀p∈tab,XC K (cB K p.1)/\PySem.W.kitOne K (.ref (cB K p.1)) c=some p.2)(hn:∀b,nn=some b->PySem.W.kitOne K (.type "NoneType") c=some b)
 (a:SE K ta f):SE K (tCB (TU K) (oD ta (oD (tC cv) FL))) (uH tab nn f):=by
 intro γ M x M' hh W H σ Q G R k;obtain⟨⟨y,M1⟩,h1,hh⟩:=aJ hh;refine a _ _ _ _ h1 W H σ _ G R fun v W1 H1 e1 G1 r1=>?_;cases y with
 |t _=>cases hh
 |f _=>cases hh
 |g _=>cases hh
 |c i=>
  dsimp only at hh;cases e:M1[i]? with
  |none=>rw[e]at hh;cases hh
  |some cl=>
   rw[e]at hh;cases cl with
   |exc fr nm fs=>
    obtain⟨b,h2,hh⟩:=aJ (show(tab.lookup nm).bind _=_ from hh);cases hh;obtain⟨h3,h4⟩:=ht (nm,b) (C8 h2);obtain⟨dx,h5,h6⟩:=G1.excAt e;exact⟨v,cv,c,b,rfl,hc,k _ W1 H1 e1 G1 rfl,.inr ⟨_,_,dx,fr,r1.2,h5,h6.ok G1.fh,h3,h4⟩⟩
   |_=>cases hh
 |d y=>
  cases y with
  |none=>
   obtain⟨b,h2,hh⟩:=aJ (show nn.bind _=_ from hh);cases hh;exact⟨v,cv,c,b,rfl,hc,k _ W1 H1 e1 G1 rfl,.inl ⟨r1,hn b h2⟩⟩
  |_=>cases hh
end
section
variable{ι:Type}{K:Fg}{X:ι->Cx}{a:Expr}{f:EF}{pos:Pos}
theorem nV{y:Str}{C:Addr}(hm:∀i,(X i).mg y=some (.ref C))(hg:∀i,Gl (X i) y:=by intro _;rfl)(hd:(y==("__debug__":Str))=false:=by decide):∀i p',PE (X i) (.Name y p') (tC (.ref C)):=fun i _=>HW (hg i) (hm i) rfl hd
theorem aAr{y:Str}{T:String}(hm:∀i,(X i).mg y=none)(hb:bootBuiltins y=some (.type T))(hg:∀i,Gl (X i) y:=by intro _;rfl)(hn:y≠"__name__":=by decide)(hd:(y==("__debug__":Str))=false:=by decide):∀i p',PE (X i) (.Name y p') (tC (.ty T)):=fun i _=>vQ (v:=.ty T) (hg i) (hm i) hb rfl hn hd
theorem hG{y:Str}{p p':Pos}{tab:List (Str×Bool)}{nn:Option Bool}{cv:V}{c:Value}(hK:∀i,(X i).K=K)(hc:ClV cv c)(hy:∀i p',PE (X i) (.Name y p') (tC cv))(ht:∀p∈tab,XC K (cB K p.1)/\PySem.W.kitOne K (.ref (cB K p.1)) c=some p.2)(hn:∀b,nn=some b->PySem.W.kitOne K (.type "NoneType") c=some b)
 (x:ME K X a f) (hs:UO a [.Name y p']) (hm:∀i,(X i).mg "isinstance"=none) (hg:∀i,Gl (X i) "isinstance":=by intro _;rfl):ME K X (.Call (.Name "isinstance" p) [a,.Name y p'] [] pos) (uH tab nn f):=by
 obtain⟨t,x1,x2⟩:=x.ex;exact⟨_,fun i=>oE (aEj (hK i)) (hg i) (hm i) boot_isinstance (hE (x1 i) (hE (hy i _) tR bC) (hs _)) (by decide) (by decide) (hs _) (mC bC tQ),XT hc ht hn x2⟩
end
noncomputable def aDv(h:FX)(f:AF):EF:=fun γ M=>(f γ M).bind fun r=>(h r.1 r.2).bind fun q=>match q.1 with
 |.v x=>some (x,q.2)
 |.x _=>none
theorem nL:bootBuiltins "ValueError"=some (.type "ValueError"):=by decide +kernel
section
variable{K:Fg}{cv:Value}{a:Str}{b:Bool}{l:List (Str×Bool)}
theorem RP:∀p∈([]:List (Str×Bool)),PySem.W.exmOne K (.ref (cB K p.1)) cv=some p.2:=fun _ h=>absurd h (by simp)
theorem KG(h:PySem.W.exmOne K (.ref (cB K a)) cv=some b)(r:∀p∈l,PySem.W.exmOne K (.ref (cB K p.1)) cv=some p.2):∀p∈(a,b)::l,PySem.W.exmOne K (.ref (cB K p.1)) cv=some p.2:=fun p hp=>by
 rcases List.mem_cons.mp hp with rfl|z
 .exact h
 .exact r p z
theorem hX{b:Bool}(h:PySem.W.kitOne K (.type "NoneType") cv=some b):∀c,some b=some c->PySem.W.kitOne K (.type "NoneType") cv=some c:=fun c e=>by cases e;exact h
theorem rY{nm:Str}{C:Addr}(h:PySem.W.nsIn K mainGlobals nm=some (some (.ref C))):cB K nm=C:=by unfold cB;rw[h]
end
mutual
noncomputable def snap:Nat->Sto->CD->Option PyData
 |_,_,.d x=>some x
 |0,_,.c _=>none
 |n+1,M,.c i=>match M[i]? with
  |some (.lst xs)=>(qR n M xs).bind fun ds=>some (.list ds)
  |_=>none
 |_,_,.f _=>none
 |_,_,.g _=>none
 |0,_,.t _=>none
 |n+1,M,.t xs=>(qR n M (xs.map cdA)).bind fun ds=>some (.tuple ds)
noncomputable def qR:Nat->Sto->List CD->Option (List PyData)
 |_,_,[]=>some []
 |n,M,x::xs=>(snap n M x).bind fun d=>(qR n M xs).bind fun ds=>some (d::ds)
end
section
variable{K:Fg}{W:Wd}{M:Sto}{H:Hp}
theorem Good.lstAt'(G:Good K W M H){i:Nat}{xs:List CD}(h:M[i]?=some (.lst xs)):∃vs,H (W.α i)=some (.lst vs)/\cC K W xs vs:=by
 obtain⟨_,o,h2,h3⟩:=G.cs i _ h (by intro z;cases z);cases o with
 |lst vs=>exact⟨vs,h2,h3⟩
 |_=>exact False.elim h3
mutual
theorem sC(G:Good K W M H):∀(n:Nat)(x:CD)(d:PyData)(v:V),snap n M x=some d->cF K W x v->Rep K H d v
 |0,.d x=>fun d v h r=>by unfold snap at h;cases h;exact Rep.same G.fh _ _ r
 |n+1,.d x=>fun d v h r=>by unfold snap at h;cases h;exact Rep.same G.fh _ _ r
 |0,.c i=>fun d v h r=>by unfold snap at h;cases h
 |n+1,.c i=>fun d v h r=>by
  unfold snap at h;cases e:M[i]? with
  |none=>rw[e]at h;cases h
  |some c=>
   rw[e]at h;cases c with
   |lst xs=>
    obtain⟨ds,h1,h⟩:=aJ (show(qR n M xs).bind _=_ from h);cases h;obtain⟨vs,h2,h3⟩:=G.lstAt' e;exact⟨W.α i,vs,r.2,SqL.of h2,tM G n xs ds vs h1 h3⟩
   |_=>cases h
 |0,.f xs=>fun d v h r=>by unfold snap at h;cases h
 |n+1,.f xs=>fun d v h r=>by unfold snap at h;cases h
 |0,.g xs=>fun d v h r=>by unfold snap at h;cases h
 |n+1,.g xs=>fun d v h r=>by unfold snap at h;cases h
 |0,.t xs=>fun d v h r=>by unfold snap at h;cases h
 |n+1,.t xs=>fun d v h r=>by
  unfold snap at h;obtain⟨ds,h1,h⟩:=aJ h;cases h;obtain⟨a,vs,rfl,h2,h3⟩:=r;exact⟨a,vs,rfl,SqT.of (G.fh _ _ h2),tM G n _ ds vs h1 (HB h3)⟩
theorem tM(G:Good K W M H):∀(n:Nat)(xs:List CD)(ds:List PyData)(vs:List V),qR n M xs=some ds->cC K W xs vs->aM K H ds vs
 |_,[]=>fun ds vs h r=>by
  unfold qR at h;cases h;cases r;rfl
 |n,x::xs=>fun ds vs h r=>by
  unfold qR at h;obtain⟨d,h1,h⟩:=aJ h;obtain⟨es,h2,h⟩:=aJ h;cases h;cases r with
  |@cons _ v _ vs' r1 r2=>exact⟨v,vs',rfl,sC G n x d v h1 r1,tM G n xs es vs' h2 r2⟩
end
end
noncomputable def iS:FN:=fun xs M=>match xs with
 |[x]=>(snap 5 M x).bind fun d=>if pS d=true then some (.d (.str d.shown),M)else none
 |_=>none
theorem FS{n:Nat}{x:PyData}:snap n M (.d x)=some x:=by cases n<;>simp only[snap]
theorem XN{x:PyData}:iS [.d x] M=IP [.d x] M:=by unfold iS IP;dsimp only;rw[FS];rfl
theorem OU:PN K (aAy K) iS:=by
 intro xs M z M' h W H vs Q G r k;unfold iS at h;split at h
 .rename_i x;obtain⟨d,h1,h⟩:=aJ h;by_cases hs:pS d=true
  .rw[A3 hs]at h;cases h;rcases r with _|⟨r1,_|_⟩;have hs':=hs;unfold pS at hs;rw[B6,B6]at hs;exact⟨_,d,rfl,sC G 5 x d _ h1 r1,hs.1.1,C0 hs.1.2,C0 hs.2,k _ W H (.refl _) G rfl⟩
  .rw[A7 hs]at h;cases h
 .cases h
theorem rP{ι:Type}{X:ι->Cx}(hK:∀i,(X i).K=K)(hg:∀i,(X i).A.guards=some [])(hu:∀i,(X i).A.units+200<cLine):QN K X (.builtin "repr") iS:=⟨_,fun i=>aEL (hK i) (hg i) (hu i),OU⟩
open PySem PySem.Spec PyProof.Rows PySem.Builtin PySem.Builtin.ObjectAttr
end L2
namespace L2
variable{W:Wd}{M:Sto}{H:Hp}
open PySem PySem.Spec PyProof.Rows
section
variable{K:Fg}
noncomputable def PL(K:Fg):R2:=fun x y H Q=>∃(l:Addr)(vs:List V)(i:Int),x=.ref l/\y=.int i/\H l=some (.lst vs)/\0<=i/\i<2 ^ 62/\vs.length*i.toNat<=sizeLine/\∀p,H p=none->Q (.ref p) (upd H p (.lst (List.replicate i.toNat vs).flatten))
theorem zL{α:Type}:∀(l:List (List α))(a:List α),(l.map List.toArray).foldl (fun x1 x2=>x1++x2) a.toArray=(a++l.flatten).toArray
 |[]=>fun a=>by simp
 |x::l=>fun a=>by
  rw[A9,List.foldl_cons];have:a.toArray++x.toArray=(a++x).toArray:=by simp
  rw[this,zL l (a++x),F9,D9]
theorem CY{vs:List V}{us:List Value}(r:bJ vs us):∀n:Nat,bJ (List.replicate n vs).flatten (List.replicate n us).flatten
 |0=>.nil
 |n+1=>by rw[E9,E9,F9,F9];exact r.append (CY r n)
theorem YD{X:Cx}:OpR X (binaryOp .Mult) (PL X.K):=by
 intro pins s σ H x y u v Q I rx ry h;obtain⟨l,vs,i,rfl,rfl,hl,i0,i1,hz,q⟩:=h;cases (show u=Value.ref l from rx);obtain⟨t,rfl⟩:=(show ∃t,v=Value.int i t from ry);obtain⟨hlen,its,n,rv,hg⟩:=(show cS X.prog X.w H s.heap l (.lst vs)from I.hok l _ hl);obtain⟨m,F⟩:=I.fr;have N:News X.base X.env.locals s.heap (sT X.base s.heap X.env.locals):=OY
 have hsz:its.toArray.size*i.toNat<=2 ^ 24:=by
  rw[C1,<- rv.length];have:sizeLine=2 ^ 24:=by rw[J8]
  omega
 refine PyProof.Rows.mul_list F N hg (by omega) (by omega) hsz fun h' F' N'=>?_
 have kp:∀b o,b≠X.env.locals->s.heap.get? b=some o->h'.get? b=some o:=fun b o hb e=>by
  cases z:X.base.get? b with
  |some v=>
   have:=I.bk b v z;rw[e]at this;cases this;exact F'.keep b _ z
  |none=>exact(N' (b,o) (B0 _ (CW hb z e))).1
 have hnone:s.heap.get? s.heap.objs.size=none:=Heap.get?_none_of_le (A6 _);refine⟨.ref s.heap.objs.size,upd H s.heap.objs.size (.lst (List.replicate i.toNat vs).flatten),?_,rfl,q _ (I.hok.fresh (A6 _))⟩;refine I.laidL kp (fun m' hm'=>?_) hnone ⟨?_,(List.replicate i.toNat its).flatten,0,CY rv _,?_⟩
 .rw[<- US F.ns hm'];exact F'.ns
 .rw[len_rep,Nat.mul_comm];exact hz
 .have h1:=(N' _ B7).1;rw[h1]
  have e:List.foldl (fun x1 x2=>x1++x2) #[] (List.replicate (if its.toArray.isEmpty=true then 0 else i.toNat) its.toArray)=((List.replicate i.toNat its).flatten).toArray:=by
   by_cases ie:its=[]
   .subst ie
    have:(List.replicate i.toNat ([]:List Value)).flatten=[]:=by
     generalize i.toNat=k
     induction k with
     |zero=>rfl
     |succ k ih=>rw[E9,F9,ih];rfl
    rw[this];rfl
   .have:its.toArray.isEmpty=false:=by cases its with|nil=>exact absurd rfl ie|cons _ _=>rfl
    rw[this,A7 A5];have:=zL (List.replicate i.toNat its) [];rw[List.map_replicate]at this;simpa using this
  rw[e]
end
section
variable{K:Fg}
noncomputable def pQ(K:Fg)(c:Value)(tab:List (Str×Bool)):Bool:=tab.all fun p=>match PySem.W.kitOne K (.ref (cB K p.1)) c with
 |some b=>b==p.2
 |none=>false
theorem gY{c:Value}{tab:List (Str×Bool)}{ns:List Str}(hx:∀nm∈ns,XC K (cB K nm))(h:pQ K c tab=true)(e:tab.map Prod.fst=ns):∀p∈tab,XC K (cB K p.1)/\PySem.W.kitOne K (.ref (cB K p.1)) c=some p.2:=by
 intro p hp;refine⟨hx _ (by rw[<- e];exact O8 hp),?_⟩;have:=List.all_eq_true.mp h p hp;split at this
 .rename_i b hb;rw[hb,eq_of_beq this]
 .cases this
theorem WQ:∀nm∈([]:List Str),XC K (cB K nm):=fun _ h=>absurd h (by simp)
theorem LZ{a:Str}{l:List Str}(x:XC K (cB K a))(r:∀nm∈l,XC K (cB K nm)):∀nm∈a::l,XC K (cB K nm):=fun p hp=>by
 rcases List.mem_cons.mp hp with rfl|z
 .exact x
 .exact r p z
end
noncomputable abbrev KY:=Key ⊕ List Key
noncomputable abbrev KF:=Ga->Sto->Option (KY×Sto)
noncomputable def aEK(W:Wd):KY->V->Prop
 |.inl k,v=>v=kV k
 |.inr ks,v=>∃b,v=.ref b/\W.F b=some (.tup (ks.map kV))
section
variable{K:Fg}
noncomputable def SK(K:Fg)(t:TE)(f:KF):Prop:=∀γ M k M',f γ M=some (k,M')->∀(W:Wd)(H:Hp)(σ:St)(Q:VK),Good K W M H->cL K W γ σ->(∀v W' H',W.Ext W'->Good K W' M' H'->aEK W' k v->Q v H')->t σ H Q
noncomputable def keysOf:List CD->Option (List Key)
 |[]=>some []
 |x::xs=>(keyOf x).bind fun k=>(keysOf xs).bind fun ks=>some (k::ks)
noncomputable def BX(fa:AF):KF:=fun γ M=>(fa γ M).bind fun r=>(keysOf r.1).bind fun ks=>if ks.length<=sizeLine then some (.inr ks,r.2)else none
variable{t td ty tx tv:TE}{tA:TA}{f fo fx fv:EF}{fk:KF}{fa:AF}
theorem rL{W:Wd}:∀{xs:List CD}{ks:List Key}{vs:List V},keysOf xs=some ks->cC K W xs vs->vs=ks.map kV
 |[],ks,vs=>fun h r=>by cases h;cases r;rfl
 |x::xs,ks,vs=>fun h r=>by
  obtain⟨k,h1,h⟩:=aJ h;obtain⟨ks',h2,h⟩:=aJ h;cases h;cases r with
  |cons r1 r2=>rw[yV h1 r1,rL h2 r2];rfl
theorem aBz(b:SA K tA fa):SK K (VL tA) (BX fa):=by
 intro γ M k M' hh W H σ Q G R c;obtain⟨⟨ys,M1⟩,h1,hh⟩:=aJ hh;obtain⟨ks,h2,hh⟩:=aJ hh;by_cases hl:ks.length<=sizeLine
 .rw[A3 hl]at hh;cases hh;refine b _ _ _ _ h1 W H σ _ G R fun vs W1 H1 e1 G1 r1=>?_;have ev:=rL h2 r1;refine⟨by rw[ev,A2];exact hl,fun p hp=>?_⟩;obtain⟨e2,G2⟩:=G1.lay (o:=.tup vs) hp;exact c _ _ _ (e1.trans e2) G2 ⟨p,rfl,by show upd W1.F p (.tup vs) p=_;rw[aX,ev]⟩
 .rw[A7 hl]at hh;cases hh
section
variable{κ:Type}[DecidableEq κ]
noncomputable def lkC(kvs:List (κ×CD))(k:κ):Option CD:=(kvs.find? fun kv=>decide (kv.1=k)).map (·.2)
noncomputable def putD(kvs:List (κ×CD))(k:κ)(v:CD):List (κ×CD):=
 if (kvs.any fun kv=>decide (kv.1=k))=true then kvs.map (fun kv=>if kv.1=k then(kv.1,v)else kv)else kvs++[(k,v)]
noncomputable abbrev PKV(K:Fg)(W:Wd)(kvs:List (κ×CD))(us:List (κ×V)):Prop:=Paired (fun p q=>p.1=q.1/\cF K W p.2 q.2) kvs us
theorem HM{W:Wd}{k:κ}:∀{kvs:List (κ×CD)}{us:List (κ×V)},PKV K W kvs us->LB K W (lkC kvs k) (iN us k)
 |_,_,.nil=>True.intro
 |_,_,.cons (a:=p) (b:=q) (l₁:=ps) (l₂:=qs) r1 r2=>by
  by_cases h:p.1=k
  .have h':q.1=k:=r1.1▸h;rw[show lkC (p::ps) k=some p.2 by simp[lkC,List.find?_cons,h],show iN (q::qs) k=some q.2 by simp[iN,List.find?_cons,h']];exact r1.2
  .have h':¬q.1=k:=r1.1▸h;rw[show lkC (p::ps) k=lkC ps k by simp[lkC,List.find?_cons,h],show iN (q::qs) k=iN qs k by simp[iN,List.find?_cons,h']];exact HM r2
theorem EU{W:Wd}{k:κ}:∀{kvs:List (κ×CD)}{us:List (κ×V)},PKV K W kvs us->(kvs.any fun kv=>decide (kv.1=k))=us.any fun kv=>decide (kv.1=k)
 |_,_,.nil=>rfl
 |_,_,.cons r1 r2=>by rw[J4,J4,EU r2,r1.1]
theorem FA{W:Wd}{k:κ}{x:CD}{v:V}(rv:cF K W x v):∀{kvs:List (κ×CD)}{us:List (κ×V)},PKV K W kvs us->PKV K W (kvs.map fun kv=>if kv.1=k then(kv.1,x)else kv) (us.map fun kv=>if kv.1=k then(kv.1,v)else kv)
 |_,_,.nil=>.nil
 |_,_,.cons (a:=p) (b:=q) r1 r2=>by
  rw[A9,A9];refine .cons ?_ (FA rv r2);by_cases h:p.1=k
  .rw[A3 h,A3 (r1.1▸h)];exact⟨r1.1,rv⟩
  .rw[A7 h,A7 (r1.1▸h)];exact r1
theorem zR{k:κ}{x:CD}{v:V}{kvs:List (κ×CD)}{us:List (κ×V)}(r:PKV K W kvs us)(rv:cF K W x v):PKV K W (putD kvs k x) (putK us k v):=by
 unfold putD putK;rw[EU r];split
 .exact FA rv r
 .exact Paired.app r (.cons ⟨rfl,rv⟩ .nil)
end
noncomputable def lkP(kvs:List (List Key×PyData))(k:List Key):Option PyData:=(kvs.find? fun kv=>decide (kv.1=k)).map (·.2)
theorem FB{W:Wd}{k:List Key}:∀{kvs:List (List Key×PyData)}{us:List (List Key×V)},Paired (fun p q=>p.1=q.1/\Rep K W.F p.2 q.2) kvs us->LB K W ((lkP kvs k).map .d) (iN us k)
 |_,_,.nil=>True.intro
 |_,_,.cons (a:=p) (b:=q) (l₁:=ps) (l₂:=qs) r1 r2=>by
  by_cases h:p.1=k
  .have h':q.1=k:=r1.1▸h;rw[show lkP (p::ps) k=some p.2 by simp[lkP,List.find?_cons,h],show iN (q::qs) k=some q.2 by simp[iN,List.find?_cons,h']];exact r1.2
  .have h':¬q.1=k:=r1.1▸h;rw[show lkP (p::ps) k=lkP ps k by simp[lkP,List.find?_cons,h],show iN (q::qs) k=iN qs k by simp[iN,List.find?_cons,h']];exact FB r2
noncomputable def atD(M:Sto):CD->KY->Option (Option CD)
 |.c i,.inl k=>match M[i]? with
  |some (.dk kvs)=>some (lkC kvs k)
  |_=>none
 |.c i,.inr ks=>match M[i]? with
  |some (.dt kvs)=>some (lkC kvs ks)
  |_=>none
 |.f kvs,.inr ks=>some ((lkP kvs ks).map .d)
 |_,_=>none
noncomputable def QK(M:Sto):CD->KY->CD->Option Sto
 |.c i,.inl k,x=>match M[i]? with
  |some (.dk kvs)=>if kvs.length<sizeLine then some (M.set i (.dk (putD kvs k x)))else none
  |_=>none
 |.c i,.inr ks,x=>match M[i]? with
  |some (.dt kvs)=>if kvs.length<sizeLine then some (M.set i (.dt (putD kvs ks x)))else none
  |_=>none
 |_,_,_=>none
theorem Good.dkAt{i:Nat}{kvs:List (Key×CD)}(G:Good K W M H)(h:M[i]?=some (.dk kvs)):∃us,H (W.α i)=some (.dK us)/\PKV K W kvs us:=by
 obtain⟨_,o,h2,h3⟩:=G.cs i _ h (by intro z;cases z);cases o<;>first|exact⟨_,h2,h3⟩|exact False.elim h3
theorem Good.dtAt{i:Nat}{kvs:List (List Key×CD)}(G:Good K W M H)(h:M[i]?=some (.dt kvs)):∃us,H (W.α i)=some (.dT us)/\PKV K W kvs us:=by
 obtain⟨_,o,h2,h3⟩:=G.cs i _ h (by intro z;cases z);cases o<;>first|exact⟨_,h2,h3⟩|exact False.elim h3
theorem PH{M':Sto}{x z:CD}{k:KY}{v y u:V}(G:Good K W M H)(h:QK M x k z=some M')(rx:cF K W x v)(ry:aEK W k y)(rz:cF K W z u):∃a H',v=.ref a/\BG H a y u H'/\Good K W M' H':=by
 unfold QK at h;split at h
 .rename_i z' i k';split at h
  .rename_i kvs hk;by_cases hl:kvs.length<sizeLine
   .rw[A3 hl]at h;cases h;obtain⟨us,h1,h2⟩:=G.dkAt hk;refine⟨_,_,rx.2,?_,G.set hk (by intro q;cases q) (o':=.dK (putK us k' u)) (zR h2 rz)⟩;rw[show y=kV k' from ry];exact BG.k h1 (by rw[<- Paired.len h2];exact hl)
   .rw[A7 hl]at h;cases h
  .cases h
 .rename_i z' i ks;split at h
  .rename_i kvs hk;by_cases hl:kvs.length<sizeLine
   .rw[A3 hl]at h;cases h;obtain⟨us,h1,h2⟩:=G.dtAt hk;obtain⟨b,rfl,hb⟩:=ry;exact⟨_,_,rx.2,BG.t h1 (G.fh _ _ hb) (by rw[<- Paired.len h2];exact hl),G.set hk (by intro q;cases q) (o':=.dT (putK us ks u)) (zR h2 rz)⟩
   .rw[A7 hl]at h;cases h
  .cases h
 .cases h
noncomputable def zZ:EF:=fun _ M=>some (.c M.length,M++[.dt []])
noncomputable def AR(fo:EF)(fk:KF)(fv:EF):SF:=fun γ M=>(fv γ M).bind fun v=>(fo γ v.2).bind fun o=>(fk γ o.2).bind fun k=>(QK k.2 o.1 k.1 v.1).bind fun M'=>some (.nx γ,M')
theorem UB:SE K PR zZ:=by
 intro γ M x M' hh W H σ Q G R k;cases hh;exact fun p hp=>k _ (W.more p) _ (W.ext_more p) (G.new hp (c:=.dt []) (o:=.dT []) .nil) G.newV
theorem ZJ(a:SE K td fo)(b:SK K ty fk)(c:SE K tv fv):SS K (aAE td ty tv) (AR fo fk fv):=by
 intro γ M o M' hh W H σ D G R k;obtain⟨⟨z,M1⟩,h1,hh⟩:=aJ hh;obtain⟨⟨x,M2⟩,h2,hh⟩:=aJ hh;obtain⟨⟨ky,M3⟩,h3,hh⟩:=aJ hh;obtain⟨M4,h4,hh⟩:=aJ hh;cases hh;refine c _ _ _ _ h1 W H σ _ G R fun u W1 H1 e1 G1 r1=>a _ _ _ _ h2 W1 H1 σ _ G1 (R.up e1) fun v W2 H2 e2 G2 r2=>b _ _ _ _ h3 W2 H2 σ _ G2 (R.up (e1.trans e2)) fun y W3 H3 e3 G3 r3=>?_;obtain⟨p,H4,ev,g,G4⟩:=PH G3 h4 (r2.up e3) r3 ((r1.up e2).up e3);exact⟨p,H4,ev,g,k W3 H4 ((e1.trans e2).trans e3) G4 σ (R.up ((e1.trans e2).trans e3))⟩
end
section
variable{ι:Type}
structure MK(K:Fg)(X:ι->Cx)(e:Expr)(f:KF):Prop where
 ex:∃t,(∀i,PE (X i) e t)/\SK K t f
variable{K:Fg}{X:ι->Cx}{e o i a b:Expr}{es:List Expr}{f g fx:EF}{fk:KF}{fa:AF}{pos:Pos}
theorem MZ{k:Nat}(x:MA K X es fa):MK K X (.Tuple es k pos) (BX fa):=by
 obtain⟨t,x1,x2⟩:=x.ex;exact⟨_,fun i=>FT (x1 i),aBz x2⟩
theorem OG:ME K X (.Dict [] [] pos) zZ:=⟨_,fun _=>NM,UB⟩
theorem XF{pos':Pos}(hu:∀j,(X j).A.units+1<cLine)(x:ME K X o f)(y:MK K X i fk)(z:ME K X e g)(hs:∀j,swapsWith e (some (.Subscript o i pos')) pos.line (X j).env=pure false:=by intro _;rfl):MS K X (.Assign [.Subscript o i pos'] e pos) (AR f fk g):=by
 obtain⟨t,x1,x2⟩:=x.ex;obtain⟨u,y1,y2⟩:=y.ex;obtain⟨v,z1,z2⟩:=z.ex;exact⟨_,fun j=>XX (hu j) (x1 j) (y1 j) (z1 j) (hs j),ZJ x2 y2 z2⟩
end
end L2
namespace PySem
open Sem (wp)
open AutoSeq1 (wpAny_loadPart')
end PySem
namespace L2
open PySem PySem.Spec PyProof.Rows
end L2
namespace PySem
open PySem.Calls PyProof.Rows
noncomputable def Raw(h:Heap)(d:Addr)(es:Array DictEntry)(ep:Nat):Prop:=∃o,h.get? d=some o/\o.data=.dict es ep
end PySem
namespace PySem
open PySem.Calls PyProof.Rows
section
variable{prog:Program}{w:World}{A:Around}{E:Value->Shared->Prop}{s:Shared}{it d:Addr}{es:Array DictEntry}{i ep:Nat}
theorem KH{Q:Value->Shared->Prop}(hd:(d==sysModules)=false)(ty:s.TypeIs (.ref d) "dict")(r:Raw s.heap d es ep)
 (h:Q (.ref s.heap.objs.size) { s with heap:=s.heap.push { cls:=.type "dict_keyiterator",data:=.fields #[.ref d,.int 0 0,.int es.size 0,.int ep 0] } }):wpAny (model prog w) A (pyIter (.ref d)) Q E s:=by
 obtain⟨o,r1,r2⟩:=r;have q:Builtin.Dict.showsAll d=pure ():=by unfold Builtin.Dict.showsAll;rw[hd];rfl
 refine wpAny_pyIter_slot ty F.slot_dict_iter (wpAny_call_entry F.slot_dict_iter ty F.entry_dict_iter (A0 (A0 (wpAny_notOrdered_dict ty (A4 (?_:wpAny _ _ (Builtin.Dict.showsAll d >>= _) _ _ s))))) (F.args_dict_iter_1 _));rw[q];refine A0 (A4 (A0 (wpAny_dictEntries r1 r2 (A0 (wpAny_dictEpoch r1 r2 (A0 (E1 (A4 ⟨_,rfl,_,_,⟨_,C6 _ rfl,rfl⟩,F.slot_dict_keyiterator_next.lookup,?_⟩))))))));exact h
theorem yZ{Q:Option Value->Shared->Prop}(hh:A.handled=none)(st:s.heap.IsKeyIter it d i es.size ep)(r:Raw s.heap d es ep)
 (h1:∀e,es[i]?=some e->∀h',h'.IsKeyIter it d (i+1) es.size ep->Heap.SameBut it s.heap h'->Q (some e.key) { s with heap:=h' })
 (h2:es[i]?=none->∀h',Heap.ExtBut it s.heap h'->Q none { s with heap:=h' }):wpAny (model prog w) A (pyNext (.ref it)) Q E s:=by
 obtain⟨o,w0,c0,f0⟩:=id st;obtain⟨od,r1,r2⟩:=r;have ty:=st.typeIs;have own:Builtin.Dict_items.ownsTuple "dict_keyiterator"=false:=by decide
 unfold pyNext;refine A0 (wpAny_attempt (wpAny_callSpecial?_slot ty F.slot_dict_keyiterator_next (wpAny_call_entry F.slot_dict_keyiterator_next ty F.entry_dict_keyiterator_next (A0 (A4 (A0 (A0 ?_)))) (F.args_dict_keyiterator_next_1 _))));refine A0 (U8 ty (A4 (A0 (wpAny_fieldsOf w0 f0 ?_))));rw[own];refine A0 (A4 (A0 (wpAny_dictEntries r1 r2 ?_)));rw[A7 (by simp)];refine A0 (A4 (A0 (wpAny_dictEpoch r1 r2 ?_)));rw[A7 (by simp)];refine A4 ?_;have pl:(if (i:Int)<0 then none else es[(i:Int).toNat]?)=es[i]?:=by rw[A7 (by omega),O9]
 simp only[pl];cases c:es[i]? with
 |some e=>
  refine A0 (A0 (U8 ty (A4 (A0 (wpAny_isOneOf_keyiter ty ?_)))));refine A0 (Y5 w0 (i:=1) (x:=rawInt ((i:Int)+1)) f0 (by simp) ?_)
  have st1:(s.heap.update it (Obj.mapFields (·.setIfInBounds 1 (rawInt ((i:Int)+1))))).IsKeyIter it d (i+1) es.size ep:=
   ⟨_,O5 _ w0 (Obj.isFreed_of_fields (L9 f0 _)),(Obj.cls_mapFields ..).trans c0,by rw[L9 f0];simp[rawInt]⟩
  refine A0 (E6 (A0 (wpAny_isOneOf_keyiter (s:={ s with heap:=s.heap.update it (Obj.mapFields (·.setIfInBounds 1 (rawInt ((i:Int)+1)))) }) st1.typeIs ?_)));exact A4 (A4 ⟨_,rfl,A4 (h1 e c _ st1 (Y2 ..))⟩)
 |none=>
  refine A0 (A0 (U8 ty (A4 (A0 (Y5 w0 (i:=0) (x:=.none) f0 (by simp) (A0 ?_))))));simp only[newExc,newTuple];refine A0 (E1 (A0 (m:=firstArgMember _ _) (wpAny_of_eq (a:=Value.none) (by simp only[firstArgMember];rfl) (E1 ?_ (by size_fits)))) (by size_fits));simp only[raiseNew];refine A0 (wpAny_handled ?_);rw[show A.in1.handled=none from hh];refine A0 (A4 (wpAny_throw ?_));refine A0 (wpAny_isInstance (b:=true) (T:="StopIteration") ⟨_,C6 _ rfl,rfl⟩ isSubtype_stop ?_);exact A4 (h2 c _ (((Y2 ..).extBut.push _).push _))
end
end PySem
namespace PySem.W
open PySem PySem.Calls PyProof.Rows PyProof.V PySem.Spec
end PySem.W
namespace L2
open PySem PySem.Spec PyProof.Rows
section
variable{X:Cx}{pins:List (Addr×Obj)}{σ:St}{H:Hp}{s:Shared}{E:Value->Shared->Prop}
end
section
variable{K:Fg}{td:TE}{fo:EF}
theorem Good.adopt{W:Wd}{M:Sto}{H:Hp}{b:Addr}{us:List V}(G:Good K W M H)(hb:H b=some (.tup us)):W.Ext { W with F:=upd W.F b (.tup us) }/\Good K { W with F:=upd W.F b (.tup us) } M H:=by
 have ff:gU W.F (upd W.F b (.tup us)):=fun c o hc=>by
  by_cases q:c=b
  .subst q;have:=G.fh _ _ hc;rw[hb]at this;cases this;exact aX
  .rw[aP q];exact hc
 have e:W.Ext { W with F:=upd W.F b (.tup us) }:=⟨ff,A6 _,fun _ _=>rfl⟩;refine⟨e,fun c o hc=>?_,G.n,fun i c hi hc=>?_,G.inj⟩
 .have hc:upd W.F b (.tup us) c=some o:=hc;by_cases q:c=b
  .subst q;rw[aX]at hc;cases hc;exact hb
  .rw[aP q]at hc;exact G.fh c o hc
 .obtain⟨h1,o,h2,h3⟩:=G.cs i c hi hc
  have ne:W.α i≠b:=fun q=>by
   rw[q,hb]at h2;cases h2;cases c<;>exact False.elim h3
  exact⟨by show upd W.F b (.tup us) (W.α i)=none;rw[aP ne];exact h1,o,h2,h3.up e⟩
noncomputable def xA:List (List Key×CD)->Option (List (List Key×PyData))
 |[]=>some []
 |(k,.d x)::r=>(xA r).bind fun q=>some ((k,x)::q)
 |_=>none
theorem zD{W:Wd}:∀{kvs:List (List Key×CD)}{ds:List (List Key×PyData)}{us:List (List Key×V)},xA kvs=some ds->PKV K W kvs us->Paired (fun(p:List Key×PyData)(q:List Key×V)=>p.1=q.1/\Rep K W.F p.2 q.2) ds us
 |[],_,_,h,.nil=>by cases h;exact .nil
 |(k,.d x)::r,_,_,h,.cons r1 r2=>by
  obtain⟨q,h1,h⟩:=aJ (show(xA r).bind _=_ from h);cases h;exact .cons r1 (zD h1 r2)
 |(k,.c _)::r,_,_,h,_=>by cases h
end
section
variable{K:Fg}
theorem Good.freezeL{W:Wd}{M:Sto}{H:Hp}{i:Nat}{xs:List CD}{ds:List PyData}(G:Good K W M H)(hi:M[i]?=some (.lst xs))(hd:lP xs=some ds):
 ∃W',W.Ext W'/\Good K W' (M.set i .dead) H/\W'.α i=W.α i/\cF K W' (.d (.list ds)) (.ref (W.α i)):=by
 obtain⟨vs,hv,rv⟩:=G.lstAt hi;obtain⟨hn,_⟩:=G.cs i _ hi (by intro q;cases q);have lt:i<M.length:=(List.getElem?_eq_some_iff.mp hi).1;have e:W.Ext { W with F:=upd W.F (W.α i) (.lst vs) }:=⟨gU.upd hn,A6 _,fun _ _=>rfl⟩
 have at_:∀j d,(M.set i .dead)[j]?=some d->d≠.dead->j≠i/\M[j]?=some d:=fun j d h hd=>by
  by_cases q:i=j
  .subst q;rw[E3 lt]at h;exact absurd (C4 h).symm hd
  .rw[F7 q]at h;exact⟨fun z=>q z.symm,h⟩
 refine⟨_,e,⟨fun c o hc=>?_,by show W.n=_;rw[G.n,List.length_set],fun j d hj hd=>?_,fun j k d1 d2 hj hk e1 e2 he=>?_⟩,rfl,⟨_,vs,rfl,SqL.of aX,aM.same e.ff _ _ (fR hd rv)⟩⟩
 .have hc:upd W.F (W.α i) (.lst vs) c=some o:=hc;by_cases q:c=W.α i
  .subst q;rw[aX]at hc;cases hc;exact hv
  .rw[aP q]at hc;exact G.fh c o hc
 .obtain⟨q,h⟩:=at_ j d hj hd;obtain⟨k1,u,k2,k3⟩:=G.cs j d h hd;have ne:W.α j≠W.α i:=fun z=>q (G.inj j i d _ h hi hd (by intro z;cases z) z);exact⟨by show upd W.F (W.α i) (.lst vs) (W.α j)=none;rw[aP ne];exact k1,u,k2,k3.up e⟩
 .exact G.inj j k d1 d2 (at_ j d1 hj e1).2 (at_ k d2 hk e2).2 e1 e2 he
end
theorem cX.u1{k:Nat}{A:Around}(r:cX k A):A.units+1<cLine:=by have:=r.un;omega
noncomputable abbrev IPF:=Ga->Sto->Option ((List CD×(Sto->Prop))×Sto)
section
variable{K:Fg}{tA:TA}{fa:AF}
noncomputable def aFR(lo:Int)(n:Nat):List PyData:=(List.range n).map fun(i:Nat)=>.int (lo+(i:Nat))
end
end L2
namespace PySem
open Sem (wp)
namespace F
end F
end PySem
namespace L2
open PySem PySem.Spec PyProof.Rows
theorem cX.le{ι:Type}{j k:Nat}{A:Around}{q:Bool}(r:cX k A q)(h:j<=k:=by decide):ι->cX j A q:=fun _=>r.mono h
theorem cX.mark{j k:Nat}{A:Around}{v:Option Value}(r:cX k A)(h:j<=k):cX j (A.mark v) false:=
 ⟨(fun z=>nomatch z),(r.mono h).dp,(r.mono h).un,r.gd⟩
section
variable{K:Fg}
noncomputable def inC(neg:Bool):F2:=fun x y M=>(snap 5 M x).bind fun a=>(snap 5 M y).bind fun b=>(aW b).bind fun ds=>if (SeqAt.shaped a&&ds.all SeqAt.shaped)=true then some (.d (.bool (if neg then !ds.any fun d=>PyData.eqv d a else ds.any fun d=>PyData.eqv d a)),M)else none
theorem aCF{neg:Bool}:P2 K (WU K neg) (inC neg):=by
 intro x y M z M' h W H v u Q G rx ry k;obtain⟨a,h1,h⟩:=aJ h;obtain⟨b,h2,h⟩:=aJ h;obtain⟨ds,h3,h⟩:=aJ h;by_cases hs:(SeqAt.shaped a&&ds.all SeqAt.shaped)=true
 .rw[A3 hs]at h;cases h;rw[B6]at hs;obtain⟨p,vs,rfl,hq,hr⟩:=pX (sC G 5 y b u h2 ry) h3;exact⟨a,ds,p,vs,sC G 5 x a v h1 rx,rfl,hq,hr,hs.1,hs.2,k _ W H (.refl _) G rfl⟩
 .rw[A7 hs]at h;cases h
theorem aFH{ι:Type}{X:ι->Cx}(hK:∀i,(X i).K=K)(hu:∀i,(X i).A.in1.units+64<cLine):Q2 K X (compareOp .In) (inC false):=⟨_,fun i=>L2.kIn (hK i) (hu i),aCF⟩
end
noncomputable def aEP(ns:List Int):List Int:=ns.mergeSort fun a b=>decide (a<=b)
section
variable{K:Fg}
noncomputable def YR(k:Nat)(γ:Ga)(M:Sto):Option (Ga×Sto):=match γ[k]? with
 |some (some (.c i))=>match M[i]? with
  |some (.lst xs)=>(lP xs).bind fun ds=>some (γ.set k (some (.d (.list ds))),M.set i .dead)
  |_=>none
 |_=>none
noncomputable def NL(k:Nat)(f:SF):SF:=fun γ M=>(f γ M).bind fun r=>match r.1 with
 |.nx γ'=>(YR k γ' r.2).bind fun q=>some (.nx q.1,q.2)
 |o=>some (o,r.2)
theorem rD{α β:Type}{R:α->β->Prop}:∀{xs:List α}{ys:List β}{k:Nat}{x:α}{y:β},Paired R xs ys->ys[k]?=some y->R x y->Paired R (xs.set k x) ys
 |_,_,0,x,y,.cons r t=>fun e h=>by cases e;exact .cons h t
 |_,_,k+1,x,y,.cons r t=>fun e h=>.cons r (rD t (by simpa using e) h)
 |_,_,0,x,y,.nil=>fun e h=>by cases e
 |_,_,k+1,x,y,.nil=>fun e h=>by cases e
theorem aDz{t:TS}{f:SF}{k:Nat}(a:SS K t f):SS K t (NL k f):=by
 intro γ M o M' hh W H σ D G R c;obtain⟨⟨o1,M1⟩,h1,hh⟩:=aJ hh;refine a _ _ _ _ h1 W H σ D G R fun W1 H1 e1 G1=>?_;cases o1 with
 |nx γ1=>
  obtain⟨⟨γ2,M2⟩,h2,hh⟩:=aJ (show(YR k γ1 M1).bind _=_ from hh);cases hh;unfold YR at h2;split at h2
  .rename_i i hi;split at h2
   .rename_i xs hx;obtain⟨ds,h3,h2⟩:=aJ h2;cases h2;intro σ1 R1;obtain⟨W2,e2,G2,_,r2⟩:=G1.freezeL hx h3;obtain⟨y,hy,ry⟩:=Paired.get R1 hi;refine c W2 H1 (e1.trans e2) G2 σ1 ?_;cases y with
    |none=>exact False.elim ry
    |some v=>
     refine rD (R1.up e2) hy ?_;rw[show v=.ref (W1.α i)from ry.2];exact r2
   .cases h2
  .cases h2
 |bk γ1=>cases hh;exact c W1 H1 e1 G1
 |ct γ1=>cases hh;exact c W1 H1 e1 G1
 |rt x=>cases hh;exact c W1 H1 e1 G1
noncomputable def Itk(a:Addr)(o:Obj)(kvs:List (List Key×V)):It:=
 ⟨fun i H=>H a=some (.frz o (.dT kvs))/\i<kvs.length,fun i H x H'=>H'=H/\∃kv b,kvs[i]?=some kv/\x=.ref b/\H b=some (.tup (kv.1.map kV)),fun i H=>H a=some (.frz o (.dT kvs))/\kvs.length<=i⟩
noncomputable def aAs(td:TE):TI:=fun σ H R=>td σ H fun x H1=>∃a o kvs,x=.ref a/\H1 a=some (.frz o (.dT kvs))/\R (Itk a o kvs) H1
theorem JJ{X:Cx}{pins:List (Addr×Obj)}{σ:St}{H:Hp}{s:Shared}{a:Addr}{o:Obj}{kvs:List (List Key×V)}{es:Array DictEntry}{ep:Nat}(I:Inv X pins σ H s)(e:H a=some (.frz o (.dT kvs)))(hd:o.data=.dict es ep):
 Raw s.heap a es ep/\es.size=kvs.length/\∀(i:Nat) en,es[i]?=some en->∃kv b,kvs[i]?=some kv/\en.key=.ref b/\H b=some (.tup (kv.1.map kV)):=by
 obtain⟨h0,z,hs,xs,r,od,es',ep',h1,h2,h3,h4,h5⟩:=(show cS X.prog X.w H s.heap a (.frz o (.dT kvs))from I.hok a _ e);rw[h0]at h1;cases h1;rw[hd]at h3;cases h3;have hl:es.toList.length=kvs.length:=by rw[h4,A2];exact(Paired.len r).symm
 refine⟨⟨o,h0,hd⟩,by rw[<- D3];exact hl,fun i en he=>?_⟩;rw[<- D8,h4,D0]at he;cases c:xs[i]? with
 |none=>rw[c]at he;cases he
 |some x=>
  rw[c]at he;cases he;have hi:i<kvs.length:=by rw[Paired.len r];exact(List.getElem?_eq_some_iff.mp c).1
  obtain⟨y,hy,q1,q2,q3⟩:=Paired.get r (B9 hi);rw[c]at hy;cases hy;exact⟨_,_,B9 hi,rfl,q2⟩
theorem LL{P:Program}{w:World}{tg:Expr}(a it:Addr)(o:Obj)(kvs:List (List Key×V))(es:Array DictEntry)(ep:Nat)(hd:o.data=.dict es ep):Turn P w K tg (Itk a o kvs) [it] it (fun i h=>h.IsKeyIter it a i es.size ep) where
 mem:=by simp
 obj:=fun i h st b hb=>by
  have e:b=it:=by simpa using hb
  subst e;obtain⟨o,e,c,d⟩:=st;exact⟨o,e,fun v z=>by rw[d]at z;cases z⟩
 keep:=fun i h h' st k=>st.at fun o e=>k it (by simp) o e
 item:=by
  intro X hP hw hK hc i pins s σ H E I hf st hg;subst hP hw hK;obtain⟨f0,f1,f2,f3,f4,f5⟩:=hf it (by simp);obtain⟨raw,hl,hk⟩:=JJ I hg.1 hd;refine yZ (I.ok.hd hc) st raw (fun en he h' st' sb=>?_) fun he=>?_
  .have I1:Inv X pins σ H { s with heap:=h' }:=I.turned (t':=s.toks) (fun b o hb e=>(sb.2 b hb).trans e) f0 f1 f3 f4 f5;obtain⟨kv,b,q1,q2,q3⟩:=hk i en he;obtain⟨o,e,c,d⟩:=id st';rw[q2];exact⟨_,rfl,HZ (s:={ s with heap:=h' }) e c d (by decide) ⟨.ref b,H,I1,rfl,⟨rfl,kv,b,q1,rfl,q3⟩,st',fun b hb=>(hf b hb).1⟩⟩
  .have:=Array.getElem?_eq_none_iff.mp he;have:=hg.2;omega
 done:=by
  intro X hP hw hK hc i pins s σ H E I hf st hg;subst hP hw hK;obtain⟨f0,f1,f2,f3,f4,f5⟩:=hf it (by simp);obtain⟨raw,hl,hk⟩:=JJ I hg.1 hd;refine yZ (I.ok.hd hc) st raw (fun en he=>?_) fun he h' eb=>⟨rfl,I.turned (t':=s.toks) (fun b o hb e=>eb b o hb e) f0 f1 f3 f4 f5⟩;have:=(Array.getElem?_eq_some_iff.mp he).1;have:=hg.2;omega
 self:=fun _ _ _ _ _ st h=>wpAny_pyIter_keyiter st h
theorem VD{X:Cx}{tg l:Expr}{tl:TE}(hl:PE X l tl):PI X tg l (aAs tl):=by
 intro pins s σ H R I h;refine thn (hl pins s σ H _ I h) fun v s1 hz=>?_;obtain⟨x,H1,I1,r1,a,o,kvs,e,ha,q⟩:=hz;subst e;cases r1;obtain⟨h0,z,hs,xs,r,od,es,ep,h1,h2,h3,h4,h5⟩:=(show cS X.prog X.w H1 s1.heap a (.frz o (.dT kvs))from I1.hok a _ ha);rw[h0]at h1;cases h1;refine KH hs ⟨o,h0,h2.1⟩ ⟨o,h0,h3⟩ ?_
 have fp:∀b∈[s1.heap.objs.size],qD X pins H1 b:=fun b hb=>by
  have e:b=s1.heap.objs.size:=List.mem_singleton.mp hb;subst e;exact I1.fpOk (A6 _) (I1.hok.fresh (A6 _))
 exact⟨s1.heap.objs.size,[s1.heap.objs.size],_,_,_,rfl,I1.kept (t':=s1.toks) fun b o e=>B3 _ e,LL a _ o kvs es ep h3,⟨_,C6 _ rfl,rfl,rfl⟩,fp,q⟩
noncomputable def aAv(t:TS):TS:=fun D σ H=>t { D with nx:=fun σ1 H1=>∃a kvs,H1 a=some (.dT kvs)/\∀o,D.nx σ1 (upd H1 a (.frz o (.dT kvs))) } σ H
theorem VR{X:Cx}{st:Stmt}{t:TS}(h:PS X st t):PS X st (aAv t):=by
 intro pins s σ H D I q;refine thn (h pins s σ H _ I q) fun f s1 z=>?_;cases f with
 |next=>
  obtain⟨σ1,H1,I1,a,kvs,ha,q⟩:=z;obtain⟨z,hs,xs,r,od,es,ep,h1,h2,h3,h4,h5⟩:=(show cS X.prog X.w H1 s1.heap a (.dT kvs)from I1.hok a _ ha)
  have up:∀b xs,H1 b=some (.tup xs)->upd H1 a (.frz od (.dT kvs)) b=some (.tup xs):=fun b xs e=>by
   rw[aP (fun z=>by rw[z,ha]at e;cases e)];exact e
  exact⟨σ1,_,vF (ob:=.frz od (.dT kvs)) (t':=s1.toks) I1 (by rw[ha];exact True.intro) (Heap.SameBut.refl _ _) ⟨od,h1⟩ ⟨h1,z,hs,xs,KT.keeps r up,od,es,ep,h1,h2,h3,h4,h5⟩,q od⟩
 |brk=>exact z
 |cont=>exact z
 |ret v=>exact z
noncomputable def DR(k:Nat)(γ:Ga)(M:Sto):Option (Ga×Sto):=match γ[k]? with
 |some (some (.c i))=>match M[i]? with
  |some (.dt kvs)=>(xA kvs).bind fun ds=>some (γ.set k (some (.f ds)),M.set i .dead)
  |_=>none
 |_=>none
noncomputable def CC(k:Nat)(f:SF):SF:=fun γ M=>(f γ M).bind fun r=>match r.1 with
 |.nx γ'=>(DR k γ' r.2).bind fun q=>some (.nx q.1,q.2)
 |o=>some (o,r.2)
theorem WI{t:TS}{f:SF}{k:Nat}(a:SS K t f):SS K (aAv t) (CC k f):=by
 intro γ M o M' hh W H σ D G R c;obtain⟨⟨o1,M1⟩,h1,hh⟩:=aJ hh;refine a _ _ _ _ h1 W H σ _ G R fun W1 H1 e1 G1=>?_;cases o1 with
 |nx γ1=>
  obtain⟨⟨γ2,M2⟩,h2,hh⟩:=aJ (show(DR k γ1 M1).bind _=_ from hh);cases hh;unfold DR at h2;split at h2
  .rename_i i hi;split at h2
   .rename_i kvs hx;obtain⟨ds,h3,h2⟩:=aJ h2;cases h2;intro σ1 R1;obtain⟨us,hu,pu⟩:=G1.dtAt hx;refine⟨_,us,hu,fun o=>?_⟩;obtain⟨e2,G2⟩:=G1.freeze hx (by intro z;cases z) (o':=.frz o (.dT us));obtain⟨y,hy,ry⟩:=Paired.get R1 hi;refine c _ _ (e1.trans e2) G2 σ1 ?_;cases y with
    |none=>exact False.elim ry
    |some v=>
     refine rD (R1.up e2) hy ?_;exact⟨W1.α i,o,us,ry.2,aX,Paired.mapP (zD h3 pu) fun _ _ r=>⟨r.1,Rep.same e2.ff _ _ r.2⟩⟩
   .cases h2
  .cases h2
 |bk γ1=>cases hh;exact c W1 H1 e1 G1
 |ct γ1=>cases hh;exact c W1 H1 e1 G1
 |rt x=>cases hh;exact c W1 H1 e1 G1
end
section
variable{ι:Type}{K:Fg}{X:ι->Cx}{e a:Expr}{es:List Expr}{f:EF}{fa:AF}{sf:SF}{st:Stmt}{pos:Pos}
theorem aBG(k:Nat)(x:MS K X st sf):MS K X st (NL k sf):=by
 obtain⟨t,x1,x2⟩:=x.ex;exact⟨_,x1,aDz x2⟩
theorem ZN(k:Nat)(x:MS K X st sf):MS K X st (CC k sf):=by
 obtain⟨t,x1,x2⟩:=x.ex;exact⟨_,fun i=>VR (x1 i),WI x2⟩
end
end L2
namespace HT
open PySem  PySem.Spec PyProof.Rows
end HT
namespace L2
variable{K:Fg}
open PySem PySem.Spec PyProof.Rows
section
variable{K:Fg}{tA:TA}{fa:AF}
noncomputable def fTRng1(f:AF):EF:=fun γ M=>(f γ M).bind fun r=>match r.1 with
 |[.d (.int j)]=>if gI j=true/\j.toNat<=sizeLine then some (.d (.tuple (aFR 0 j.toNat)),r.2)else none
 |_=>none
end
noncomputable def sortIF:FN:=fun xs M=>match xs with
 |[.d (.list ds)]=>(nG ds).bind fun ns=>if ns.length<64 then some (.d (.list ((aEP ns).map .int)),M)else none
 |_=>none
theorem wQ:∀{ds:List PyData}{ns:List Int},nG ds=some ns->ds=ns.map .int
 |[],_=>fun h=>by cases h;rfl
 |d::ds,ns=>fun h=>by
  cases d with
  |int n=>
   obtain⟨ms,h1,h2⟩:=Option.bind_eq_some_iff.mp (show(nG ds).bind (fun ns=>some (n::ns))=some ns from h);cases h2;rw[wQ h1];rfl
  |_=>cases h
theorem nS{K:Fg}{H:Hp}:∀{ns:List Int}{us:List V},aM K H (ns.map .int) us->us=ns.map .int
 |[],_=>fun h=>h
 |n::ns,_=>fun h=>by
  obtain⟨v,r,rfl,h1,h2⟩:=(show ∃v r,_=v::r/\Rep K H (.int n) v/\aM K H (ns.map .int) r from h);rw[nS h2,show v=V.int n from h1];rfl
section
variable{X:Cx}{pos:Pos}
noncomputable def IW(K:Fg)(n:Nat)(t:TGs):TG:=fun v σ H Q=>∃a xs,v=.ref a/\SqL K H a xs/\xs.length=n/\t xs σ H Q
theorem YK{es:List Expr}{k:Nat}{t:TGs}{n:Nat}(hc:X.calm=true)(h:PGs X es t)
 (hn:(assignEach es X.env).length=n) (hst:(assignEach es X.env).findIdx? (·.1)=none):PG X (.Tuple es k pos) (IW X.K n t):=by
 intro pins s σ H v u Q I r hw;obtain⟨a,xs,e1,hq,hl,hw⟩:=hw;subst e1;cases r;obtain⟨its,rv,pl,hz⟩:=I.list hq;have e:(assignEach es X.env).length=its.toArray.size:=by simp[hn,<- hl,rv.length]
 rw[assign_Tuple];refine A0 (O3 ?_);refine A0 (E6 ?_);rw[hst,e];refine PySem.W.kun_itemsOf (I.ok.hd hc) pl.isList fun h' hx=>?_;have I1:Inv X pins σ H { s with heap:=h' }:=I.kept (t':=s.toks) fun b o e=>hx b o (B8 (B2 e)) e;exact h pins _ σ H xs _ Q I1 (by simpa using rv) hw
theorem RR{es:List Expr}{k:Nat}{t:TGs}{n:Nat}(e:X.K=K)(hc:X.calm=true)(h:PGs X es t)
 (hn:(assignEach es X.env).length=n) (hst:(assignEach es X.env).findIdx? (·.1)=none):PG X (.Tuple es k pos) (IW K n t):=by subst e;exact YK hc h hn hst
end
noncomputable def TH(n:Nat)(g:GsF):GF:=fun x γ M=>match x with
 |.d (.list ds)=>if ds.length=n then g (ds.map .d) γ M else none
 |_=>none
theorem XA{tgs:TGs}{hgs:GsF}{n:Nat}(b:SGs K tgs hgs):SG K (IW K n tgs) (TH n hgs):=by
 intro x γ M γ' M' hh W H σ v Q G R r k;unfold TH at hh;split at hh
 .rename_i ds;by_cases hl:ds.length=n
  .rw[A3 hl]at hh;obtain⟨a,vs,rfl,h2,h3⟩:=(show ∃a vs,v=.ref a/\SqL K W.F a vs/\aM K W.F ds vs from r);exact⟨a,vs,rfl,G.fh.seq h2,by rw[<- h3.length];exact hl,b _ _ _ _ _ hh W H σ vs Q G R (lW h3) k⟩
  .rw[A7 hl]at hh;cases hh
 .cases hh
noncomputable def RL(K:Fg):List V->Hp->VK->Prop:=fun xs H Q=>∃(p:Addr)(ns:List Int),xs=[.ref p]/\SqL K H p (ns.map .int)/\Q (.int ns.sum) H
theorem KI{X:Cx}(hc:X.calm=true):eO X (.builtin "sum") (RL X.K):=by
 intro pins s σ H xs us Q I r h;obtain⟨p,ns,rfl,hp,q⟩:=h;obtain⟨u,rfl,ru⟩:=vals1 r;cases ru;obtain⟨its,rv,pl,hz⟩:=I.list hp;have hi:=intsAre_of rv;obtain⟨zs,e⟩:=hi.allInts.items;have pl':=pl.isList;have e1:=hi.numsOf;rw[show its=its.toArray.toList from rfl,e,nums_intItems]at e1;rw[e]at pl';refine sum_intListG (I.ok.hd hc) pl' fun h' tk t' hk=>?_;refine⟨.int _,H,I.kept (h':=h') (t':=tk) hk,⟨t',rfl⟩,?_⟩;rw[preSum_eq,List.take_of_length_le (by simp),e1];exact q
theorem aEY{X:Cx}(h:X.K=K)(hc:X.calm=true):eO X (.builtin "sum") (RL K):=by subst h;exact KI hc
noncomputable def sumF:FN:=fun xs M=>match xs with
 |[.d (.list ds)]=>(nG ds).bind fun ns=>some (.d (.int ns.sum),M)
 |_=>none
theorem WS:PN K (RL K) sumF:=by
 intro xs M z M' h W H vs Q G r k;unfold sumF at h;split at h
 .rename_i ds;obtain⟨ns,h1,h⟩:=aJ h;cases h;rcases r with _|⟨r1,_|_⟩;obtain⟨p,us,rfl,hq,hr⟩:=(show ∃a us,_=V.ref a/\SqL K W.F a us/\aM K W.F ds us from r1);rw[wQ h1]at hr;have e:=nS hr;subst e;exact⟨p,ns,rfl,G.fh.seq hq,k _ W H (.refl _) G rfl⟩
 .cases h
theorem UC{ι:Type}{X:ι->Cx}(hK:∀i,(X i).K=K)(hc:∀i,(X i).calm=true):QN K X (.builtin "sum") sumF:=⟨_,fun i=>aEY (hK i) (hc i),WS⟩
noncomputable def Rsg(xs:Array Nat):Prop:=∀i k:Nat,i<k->k<xs.size->xs.getD i 0<xs.getD k 0
structure Cut(xs:Array Nat)(j r:Nat):Prop where
 le:r<=xs.size
 lo:∀i,i<r->xs.getD i 0<j
 hi:∀i,r<=i->i<xs.size->j<=xs.getD i 0
theorem OA{xs:Array Nat}{i a b:Nat}(h:i<xs.size):xs.getD i a=xs.getD i b:=by
 rw[B1,B1,F0 h];rfl
theorem xJ{xs:Array Nat}{j:Nat}(R:Rsg xs):∀(fuel lo hi:Nat),hi<=lo+fuel->lo<=hi->hi<=xs.size->(∀i,i<lo->xs.getD i 0<j)->(∀i,hi<=i->i<xs.size->j<=xs.getD i 0)->Cut xs j (SetTable.below.go xs j fuel lo hi)
 |0=>fun lo hi h1 h2 h3 h4 h5=>by
  have:lo=hi:=by omega
  subst this;exact⟨h3,h4,h5⟩
 |fuel+1=>fun lo hi h1 h2 h3 h4 h5=>by
  unfold SetTable.below.go;by_cases h:lo<hi
  .rw[A3 h];dsimp only;have ml:(lo+hi) / 2<hi:=by omega
   have mg:lo<=(lo+hi) / 2:=by omega
   generalize (lo+hi) / 2=m at ml mg;rw[OA (b:=0) (by omega)];by_cases c:xs.getD m 0<j
   .rw[A3 c];refine xJ R fuel (m+1) hi (by omega) (by omega) h3 (fun i hi'=>?_) h5;by_cases e:i=m
    .rw[e];exact c
    .have:=R i m (by omega) (by omega);omega
   .rw[A7 c];refine xJ R fuel lo m (by omega) mg (by omega) h4 (fun i h6 h7=>?_);by_cases e:i=m
    .rw[e];omega
    .have:=R m i (by omega) h7;omega
  .rw[A7 h];have:lo=hi:=by omega
   subst this;exact⟨h3,h4,h5⟩
theorem lT{xs:Array Nat}(j:Nat)(R:Rsg xs):Cut xs j (SetTable.below xs j):=
 xJ R xs.size 0 xs.size (by omega) (D2 _) (A6 _) (fun i h=>absurd h (U3 _)) fun i h h'=>by omega
theorem xQ{xs:Array Nat}{p x:Nat}(h:p<=xs.size):(SetTable.insertAt xs p x).size=xs.size+1:=by
 unfold SetTable.insertAt;simp;omega
theorem RC{xs:Array Nat}{p x i:Nat}(h:p<=xs.size):(SetTable.insertAt xs p x).getD i 0=if i<p then xs.getD i 0 else if i=p then x else xs.getD (i-1) 0:=by
 unfold SetTable.insertAt;rw[B1,Array.getElem?_append];have sz:((xs.extract 0 p).push x).size=p+1:=by simp;omega
 rw[sz];by_cases h1:i<p
 .rw[A3 (by omega),A3 h1,Array.getElem?_push,A7 (by simp;omega),Array.getElem?_extract,B1];simp;rw[A3 (by omega)]
 .rw[A7 h1];by_cases h2:i=p
  .rw[A3 (by omega),A3 h2,Array.getElem?_push,A3 (by simp;omega)];rfl
  .rw[A7 (by omega),A7 h2,Array.getElem?_extract,B1];by_cases h3:i-1<xs.size
   .rw[A3 (by omega),show p+(i-(p+1))=i-1 by omega]
   .rw[A7 (by omega),Array.getElem?_eq_none (by omega)]
theorem UV{xs:Array Nat}{j:Nat}(R:Rsg xs)(nh:SetTable.has xs j=false):Rsg (SetTable.insertAt xs (SetTable.below xs j) j):=by
 have c:=lT j R
 have nh:∀i,i<xs.size->i=SetTable.below xs j->xs.getD i 0≠j:=fun i hi e q=>by
  unfold SetTable.has at nh;rw[<- e,F0 hi]at nh;rw[B1,F0 hi]at q;have q:xs[i]=j:=q;rw[q]at nh;simp at nh
 generalize SetTable.below xs j=p at c nh;have cl:=c.le;intro i k hik hk;rw[xQ c.le]at hk;rw[RC c.le,RC c.le]
 have gt:∀i,p<=i->i<xs.size->j<xs.getD i 0:=fun i h1 h2=>by
  have a:=c.hi i h1 h2;by_cases e:i=p
  .have:=nh i h2 e;omega
  .have b:=c.hi p (A6 _) (by omega);have d:=R p i (by omega) h2;omega
 by_cases h1:i<p
 .rw[A3 h1];have:=c.lo i h1;by_cases h2:k<p
  .rw[A3 h2];exact R i k hik (by omega)
  .rw[A7 h2];by_cases h3:k=p
   .rw[A3 h3];exact this
   .rw[A7 h3];have:=gt (k-1) (by omega) (by omega);omega
 .rw[A7 h1,A7 (by omega:¬k<p),A7 (by omega:¬k=p)];by_cases h3:i=p
  .rw[A3 h3];exact gt (k-1) (by omega) (by omega)
  .rw[A7 h3];exact R (i-1) (k-1) (by omega) (by omega)
theorem TL{l:List (Nat×Nat)}(h:(l.map (·.1)).Pairwise (·<·)):Rsg (l.map (·.1)).toArray:=by
 intro i k hik hk;rw[C1]at hk;have:=List.pairwise_iff_getElem.mp h i k (by omega) hk hik;rw[B1,B1,List.getElem?_toArray,List.getElem?_toArray,B9 (by omega),B9 hk];exact this
theorem IX{f:Nat->Option Nat}:∀(l:List Nat),l.Pairwise (·<·)->((l.filterMap fun j=>(f j).map (j,·)).map (·.1)).Pairwise (·<·)
 |[]=>fun _=>List.Pairwise.nil
 |a::l=>fun h=>by
  obtain⟨h1,h2⟩:=List.pairwise_cons.mp h;have ih:=IX (f:=f) l h2;rw[J6];cases e:f a with
  |none=>exact ih
  |some b=>
   show(a::_).Pairwise (·<·);refine List.pairwise_cons.mpr ⟨fun x hx=>?_,ih⟩;obtain⟨y,hy,rfl⟩:=List.mem_map.mp hx;obtain⟨j,hj,hy⟩:=List.mem_filterMap.mp hy;obtain⟨z,_,rfl⟩:=Option.map_eq_some_iff.mp hy;exact h1 j hj
noncomputable abbrev t7(b:Bool)(p:Array Nat):SetTable:=⟨7,p,#[],0,b,0,true⟩
noncomputable abbrev t31(b:Bool)(p:Array Nat):SetTable:=⟨31,p,#[],0,b,1,true⟩
theorem VB{xs:Array Nat}{j:Nat}(h:SetTable.has xs j=true):∃i:Nat,xs[i]?=some j:=by
 unfold SetTable.has at h;exact⟨_,by simpa using h⟩
noncomputable def vI:Value->Int
 |.int i _=>i
 |_=>0
structure Tp(b:Bool)(t:SetTable)(es:Array (Int×Value)):Prop where
 bd:∀e∈es.toList,0<=e.1/\e.1<9
 vl:∀e∈es.toList,vI e.2=e.1
 nd:(es.toList.map (·.1)).Nodup
 fm:∃p,Rsg p/\((t=t7 b p/\(∀i,i<p.size->p.getD i 0<=7)/\p.size<=4/\p.size=es.size)\/(t=t31 b p/\p.toList=es.toList.map fun e=>e.1.toNat))
theorem rO{α:Type}{xs:Array α}{p:Nat}{x:α}:(SetTable.insertAt xs p x).toList=xs.toList.take p++x::xs.toList.drop p:=by
 unfold SetTable.insertAt;simp;rw[List.take_of_length_le (by simp)]
structure aFW(prog:Program)(w:World)(b:Bool)(h:Heap)(a:Addr)(es:Array (Int×Value))(σ:List Int):Prop where
 ob:∃o ep t,h.get? a=some o/\o.ExactSet/\o.data=.set es ep t/\t.fits es.size=true/\Tp b t es
 el:ElemsOf (intKind prog w) es.toList
 sm:es.size<scanBound
 pm:(es.toList.map fun e=>vI e.2).Perm σ
section
variable{prog:Program}{w:World}{A:Around}{E:Value->Shared->Prop}{s:Shared}
theorem GG{h:Heap}{a:Addr}{o:Obj}{es es':Array (Int×Value)}{ep:Nat}{t t':SetTable}(ho:h.get? a=some o)(hd:o.data=.set es ep t):(h.update a (Obj.putSet es' t')).get? a=some { o with data:=.set es' (ep+1) t' }:=by
 have:=O5 (Obj.putSet es' t') ho (by rw[putSet_of es' t' hd];rfl);rw[putSet_of es' t' hd]at this;exact this
theorem stored{b:Bool}{h:Heap}{a:Addr}{o:Obj}{es es':Array (Int×Value)}{ep:Nat}{t t':SetTable}{σ:List Int}(ho:h.get? a=some o)(hex:o.ExactSet)(hd:o.data=.set es ep t)(el:ElemsOf (intKind prog w) es'.toList)(sm:es'.size<scanBound)(hf:t'.fits es'.size=true)(T:Tp b t' es')(pm:(es'.toList.map fun e=>vI e.2).Perm σ):
 (h.update a (Obj.putSet es' t')).get? a=some { o with data:=.set es' (ep+1) t' }/\aFW prog w b (h.update a (Obj.putSet es' t')) a es' σ:=by
 have hg:=GG (es':=es') (t':=t') ho hd;exact⟨hg,⟨_,_,_,hg,hex,rfl,hf,T⟩,el,sm,pm⟩
end
noncomputable abbrev aAA(w:World):Bool:=w.params.followText "set-order"
section
variable{prog:Program}{w:World}{A:Around}{E:Value->Shared->Prop}{s:Shared}
theorem NR{Q:Bool->Shared->Prop}(h:Q (aAA w) s):wpAny (model prog w) A setsByText Q E s:=by
 unfold setsByText;exact A0 (wpAny_askSetting (A4 h))
end
section
variable{prog:Program}{w:World}{A:Around}{E:Value->Shared->Prop}{s:Shared}
end
end L2
namespace PySem
section
variable{prog:Program}{w:World}{A:Around}{E:Value->Shared->Prop}{s:Shared}
end
end PySem
namespace L2
variable{pos:Pos}{K:Fg}
open PySem PySem.Spec PyProof.Rows
section
variable{K:Fg}
end
section
variable{K:Fg}
noncomputable def GC(K:Fg)(td ty:TE):TE:=fun σ H Q=>td σ H fun x H1=>ty σ H1 fun y H2=>∃a b kvs k v,x=.ref a/\y=.ref b/\Rd H2 a (.dT kvs)/\SqT K H2 b (k.map kV)/\iN kvs k=some v/\Q v H2
theorem TJ{X:Cx}{o i:Expr}{td ty:TE}(hu:X.A.units+1<cLine)(ho:PE X o td)(hi:PE X i ty)(hs:ZM i):PE X (.Subscript o i pos) (GC X.K td ty):=by
 intro pins s σ H Q I h;refine WB PySem.F.slot_dict_getitem.lookup hs (thn (ho pins s σ H _ I h) fun u s1 ⟨x,H1,I1,rx,q1⟩=>thn (hi pins s1 σ H1 _ I1 q1) fun iv s2 ⟨y,H2,I2,ry,a,b,kvs,k,v,ex,ey,e,eb,hv,q2⟩=>?_);subst ex;subst ey;obtain rfl:u=Value.ref a:=rx;cases (show iv=Value.ref b from ry);obtain⟨z,hd,xs,rel,dd⟩:=aAo I2.hok e;obtain⟨w',hw,rw'⟩:=DC.some_of (v:=v) (o:=(atKey xs k).map (·.2)) (by rw[<- hv];exact rel.val k);obtain⟨p,hp,hp2⟩:=Option.map_eq_some_iff.mp hw;obtain⟨its,r,⟨ob,h1,h2,n,h3⟩,_⟩:=I2.tuple eb;refine⟨dd.typeIs,wpAny_getItem_heap (tupleKind_room_in1 hu) (k:=k) ⟨ob,its.toArray,n,h1,h2,h3,by simpa using tV r⟩ dd hp ?_⟩;rw[hp2];exact⟨v,H2,I2.tok _,rw',q2⟩
theorem JQ{X:Cx}{o i:Expr}{td ty:TE}(hK:X.K=K)(hu:X.A.units+1<cLine)(ho:PE X o td)(hi:PE X i ty)(hs:ZM i):PE X (.Subscript o i pos) (GC K td ty):=by subst hK;exact TJ hu ho hi hs
noncomputable def FK(fo fi:EF):EF:=fun γ M=>(fo γ M).bind fun o=>(fi γ o.2).bind fun k=>match k.1 with
 |.d (.tuple ds)=>(keysOf (ds.map .d)).bind fun ks=>(atD k.2 o.1 (.inr ks)).bind fun r=>r.bind fun x=>some (x,k.2)
 |_=>none
theorem OQ{td ty:TE}{fo fi:EF}(a:SE K td fo)(b:SE K ty fi):SE K (GC K td ty) (FK fo fi):=by
 intro γ M x M' hh W H σ Q G R c;obtain⟨⟨o,M1⟩,h1,hh⟩:=aJ hh;obtain⟨⟨ky,M2⟩,h2,hh⟩:=aJ hh;dsimp only at hh h2;split at hh
 .rename_i ds;obtain⟨ks,h3,hh⟩:=aJ hh;obtain⟨r,h4,hh⟩:=aJ hh;obtain⟨z,h5,hh⟩:=aJ hh;cases hh;subst h5;refine a _ _ _ _ h1 W H σ _ G R fun v W1 H1 e1 G1 r1=>b _ _ _ _ h2 W1 H1 σ _ G1 (R.up e1) fun y W2 H2 e2 G2 r2=>?_;obtain⟨q,us,rfl,hq,hr⟩:=(show ∃a us,y=V.ref a/\SqT K W2.F a us/\aM K W2.F ds us from r2);have ev:us=ks.map kV:=rL h3 (lW hr);subst ev;have hq':=G2.fh.seqT hq;have r1':=r1.up e2;cases o with
  |c i=>
   have h4:(match M'[i]? with|some (Cell.dt kvs)=>some (lkC kvs ks)|_=>none)=some (some x):=h4;split at h4
   .rename_i kvs hk;obtain⟨us,g1,g2⟩:=G2.dtAt hk;have ro:=HM (k:=ks) g2;rw[C4 h4]at ro;cases c':iN us ks with
    |none=>rw[c']at ro;exact False.elim ro
    |some u=>rw[c']at ro;exact⟨_,q,us,ks,u,r1'.2,rfl,.inl g1,hq',c',c u W2 H2 (e1.trans e2) G2 ro⟩
   .cases h4
  |f kvs=>
   have h4:some ((lkP kvs ks).map CD.d)=some (some x):=h4;obtain⟨p,ob,us,rfl,g1,g2⟩:=r1';have ro:=FB (k:=ks) g2;rw[C4 h4]at ro;cases c':iN us ks with
   |none=>rw[c']at ro;exact False.elim ro
   |some u=>rw[c']at ro;exact⟨_,q,us,ks,u,rfl,rfl,.inr ⟨ob,G2.fh _ _ g1⟩,hq',c',c u W2 H2 (e1.trans e2) G2 ro⟩
  |d _=>cases h4
  |t _=>cases h4
  |g _=>cases h4
 .cases hh
theorem SM{ι:Type}{X:ι->Cx}{o i:Expr}{f g:EF}(hK:∀j,(X j).K=K)(hu:∀j,(X j).A.units+1<cLine)(x:ME K X o f)(y:ME K X i g)(hs:ZM i:=by intro _ _;rfl):ME K X (.Subscript o i pos) (FK f g):=by
 obtain⟨t,x1,x2⟩:=x.ex;obtain⟨u,y1,y2⟩:=y.ex;exact⟨_,fun j=>JQ (hK j) (hu j) (x1 j) (y1 j) hs,OQ x2 y2⟩
noncomputable def aAj(K:Fg)(n:Nat)(t:TGs):TG:=fun v σ H Q=>XB K n t v σ H Q\/IW K n t v σ H Q
theorem YG{X:Cx}{pos:Pos}{es:List Expr}{k:Nat}{t:TGs}{n:Nat}(e:X.K=K)(hc:X.calm=true)(h:PGs X es t)
 (hn:(assignEach es X.env).length=n) (hst:(assignEach es X.env).findIdx? (·.1)=none):PG X (.Tuple es k pos) (aAj K n t):=by
 intro pins s σ H v u Q I r hw;rcases hw with hw|hw
 .exact WT e hc h hn hst pins s σ H v u Q I r hw
 .exact RR e hc h hn hst pins s σ H v u Q I r hw
noncomputable def qG(n:Nat)(g:GsF):GF:=fun x γ M=>match x with
 |.d (.list _)=>TH n g x γ M
 |_=>aCw n g x γ M
theorem VW{tgs:TGs}{hgs:GsF}{n:Nat}(b:SGs K tgs hgs):SG K (aAj K n tgs) (qG n hgs):=by
 intro x γ M γ' M' hh W H σ v Q G R r k;unfold qG at hh;split at hh
 .exact .inr (XA b _ _ _ _ _ hh W H σ v Q G R r k)
 .exact .inl (aBT b _ _ _ _ _ hh W H σ v Q G R r k)
theorem IT{ι:Type}{X:ι->Cx}{es:List Expr}{gs:GsF}{k n:Nat}(hK:∀i,(X i).K=K)(hc:∀i,(X i).calm=true)(x:MGs K X es gs)(hn:∀env:Env,(assignEach es env).length=n:=by intro _;rfl)(hst:∀env:Env,(assignEach es env).findIdx? (·.1)=none:=by intro _;rfl):MG K X (.Tuple es k pos) (qG n gs):=by
 obtain⟨t,x1,x2⟩:=x.ex;exact⟨_,fun i=>YG (hK i) (hc i) (x1 i) (hn _) (hst _),VW x2⟩
theorem iR{env:Env}:∀{names:List (Str×NameKind)}{x:Str},names.lookup x=some .cell\/names.lookup x=some .free->
 (names.map fun(n,k)=>if (k==NameKind.free&&env.scope.kind==.function&&env.kindOf n==some .cell)then(n,NameKind.cell)else(n,k)).lookup x=some .cell \/
 (names.map fun(n,k)=>if (k==NameKind.free&&env.scope.kind==.function&&env.kindOf n==some .cell)then(n,NameKind.cell)else(n,k)).lookup x=some .free
 |[],_=>fun h=>by simp at h
 |(n,k)::r,x=>fun h=>by
  have ih:=@iR env r x;show List.lookup x ((if (k==NameKind.free&&env.scope.kind==.function&&env.kindOf n==some .cell)=true then(n,NameKind.cell)else(n,k))::_)=_\/List.lookup x ((if (k==NameKind.free&&env.scope.kind==.function&&env.kindOf n==some .cell)=true then(n,NameKind.cell)else(n,k))::_)=_;cases hx:x==n with
  |true=>
   simp only[List.lookup_cons,hx]at h;by_cases hc:(k==NameKind.free&&env.scope.kind==.function&&env.kindOf n==some .cell)=true
   .rw[A3 hc];simp only[List.lookup_cons,hx];exact .inl trivial
   .rw[A7 hc];simp only[List.lookup_cons,hx];exact h
  |false=>
   simp only[List.lookup_cons,hx]at h;by_cases hc:(k==NameKind.free&&env.scope.kind==.function&&env.kindOf n==some .cell)=true
   .rw[A3 hc];simp only[List.lookup_cons,hx];exact ih h
   .rw[A7 hc];simp only[List.lookup_cons,hx];exact ih h
end
section
variable{K:Fg}
end
section
variable{K:Fg}
end
section
variable{K:Fg}
end
noncomputable abbrev Pb:=SetTable.Probe
noncomputable def adv(m:Nat)(p:Pb):Pb:=(⟨m,#[],#[],0,false,0,false⟩:SetTable).advance p
noncomputable def eZ(m:Nat):Nat->Pb->Pb
 |0,p=>p
 |n+1,p=>eZ m n (adv m p)
noncomputable def nI(m:Nat)(oc:Nat->Bool):Nat->Pb->Prop
 |0,p=>oc p.j=false
 |n+1,p=>oc p.j=true/\nI m oc n (adv m p)
inductive Rch(m:Nat)(oc:Nat->Bool)(g:Nat):Pb->Prop
 |here {p:Pb} (h:p.j=g):Rch m oc g p
 |step {p:Pb} (h:oc p.j=true) (r:Rch m oc g (adv m p)):Rch m oc g p
theorem Rch.mono{m:Nat}{oc oc':Nat->Bool}{g:Nat}(h:∀j,oc j=true->oc' j=true):∀{p:Pb},Rch m oc g p->Rch m oc' g p
 |_,.here e=>.here e
 |_,.step e r=>.step (h _ e) (Rch.mono h r)
theorem DQ{m:Nat}{oc:Nat->Bool}:∀{n:Nat}{p:Pb},nI m oc n p->Rch m oc (eZ m n p).j p
 |0,_=>fun _=>.here rfl
 |n+1,p=>fun h=>.step h.1 (DQ h.2)
theorem EV{m:Nat}{oc:Nat->Bool}:∀(n:Nat)(p:Pb),oc (eZ m n p).j=false->∃k,k<=n/\nI m oc k p
 |0=>fun p h=>⟨0,A6 _,h⟩
 |n+1=>fun p h=>by
  cases e:oc p.j with
  |false=>exact⟨0,D2 _,e⟩
  |true=>
   obtain⟨k,hk,r⟩:=EV n (adv m p) h;exact⟨k+1,by omega,e,r⟩
theorem zA{m:Nat}{oc:Nat->Bool}:∀{n:Nat}{p:Pb},nI m oc n p->oc (eZ m n p).j=false
 |0,_=>fun h=>h
 |n+1,p=>fun h=>zA (n:=n) h.2
theorem oW{m:Nat}:∀(a b:Nat)(p:Pb),eZ m (a+b) p=eZ m b (eZ m a p)
 |0=>fun b p=>by rw[Nat.zero_add];rfl
 |a+1=>fun b p=>by
  rw[Nat.succ_add];exact oW a b (adv m p)
noncomputable def vA(m:Nat)(q:Nat×Nat):Pb:=⟨q.1,SetTable.runEnd m q.1-q.1,q.1,q.2,none⟩
noncomputable def lps(m:Nat):Nat->Nat×Nat->Nat×Nat
 |0,q=>q
 |n+1,q=>lps m n (SetTable.leap m q.1 q.2)
theorem NS{m:Nat}{i pt:Nat}:∀(k j:Nat),eZ m k ⟨j,k,i,pt,none⟩=⟨j+k,0,i,pt,none⟩
 |0=>fun j=>rfl
 |k+1=>fun j=>by
  show eZ m k (adv m ⟨j,k+1,i,pt,none⟩)=_;rw[show adv m ⟨j,k+1,i,pt,none⟩=⟨j+1,k,i,pt,none⟩from rfl,NS k (j+1),Nat.add_right_comm,Nat.add_assoc]
theorem RW{m:Nat}(q:Nat×Nat):eZ m (SetTable.runEnd m q.1-q.1+1) (vA m q)=vA m (SetTable.leap m q.1 q.2):=by
 rw[oW];unfold vA;rw[NS];rfl
theorem aDS{m i:Nat}:SetTable.runEnd m i-i<=9:=by
 unfold SetTable.runEnd;split<;>omega
theorem runs{m:Nat}:∀(r:Nat)(q:Nat×Nat),∃n,n<=10*r/\eZ m n (vA m q)=vA m (lps m r q)
 |0=>fun q=>⟨0,A6 _,rfl⟩
 |r+1=>fun q=>by
  obtain⟨n,hn,e⟩:=runs (m:=m) r (SetTable.leap m q.1 q.2);have l:=aDS (m:=m) (i:=q.1);refine⟨SetTable.runEnd m q.1-q.1+1+n,by omega,?_⟩;rw[oW,RW];exact e
theorem HV{m:Nat}:∀(a b:Nat)(q:Nat×Nat),lps m (a+b) q=lps m b (lps m a q)
 |0=>fun b q=>by rw[Nat.zero_add];rfl
 |a+1=>fun b q=>by rw[Nat.succ_add];exact HV a b _
theorem OK{m:Nat}:∀(r:Nat)(q:Nat×Nat),(lps m r q).2=q.2 / 32 ^ r
 |0=>fun q=>by show q.2=_;rw[Nat.pow_zero,Nat.div_one]
 |r+1=>fun q=>by
  show(lps m r (SetTable.leap m q.1 q.2)).2=_;rw[OK r];show q.2 / 32 / 32 ^ r=_;rw[Nat.div_div_eq_div_mul,Nat.pow_succ,Nat.mul_comm]
theorem NG{m:Nat}(q:Nat×Nat)(h:q.1<=m):∀r,(lps m r q).1<=m:=fun r=>by
 induction r generalizing q with
 |zero=>exact h
 |succ r ih=>exact ih _ (by
  show(q.1*5+1+q.2 / 32) % (m+1)<=m;have:=Nat.mod_lt (q.1*5+1+q.2 / 32) (show 0<m+1 by omega);omega)
noncomputable def orb(m n:Nat):Nat:=(5 ^ n-1) / 4 % (m+1)
theorem aFZ(n:Nat):5 ^ n % 4=1:=by
 induction n with
 |zero=>rfl
 |succ n ih=>rw[Nat.pow_succ];omega
theorem wB(m n:Nat):(orb m n*5+1) % (m+1)=orb m (n+1):=by
 have e:(5 ^ (n+1)-1) / 4=(5 ^ n-1) / 4*5+1:=by
  have:=aFZ n;have p:0<5 ^ n:=Nat.pow_pos (by decide);rw[Nat.pow_succ];omega
 unfold orb;rw[e,Nat.add_mod,Nat.mul_mod,Nat.mod_mod,<- Nat.mul_mod,<- Nat.add_mod]
theorem AJ(m:Nat):∀(r a:Nat),(lps m r (orb m a,0))=(orb m (a+r),0)
 |0=>fun a=>rfl
 |r+1=>fun a=>by
  show lps m r (SetTable.leap m (orb m a) 0)=_
  rw[show SetTable.leap m (orb m a) 0=(orb m (a+1),0)by
   show((orb m a*5+1+0) % (m+1),0)=_;rw[Nat.add_zero,wB],AJ m r (a+1),show a+1+r=a+(r+1)by omega]
noncomputable def mE(m:Nat):Bool:=decide (orb m (m+1)=0)&&(List.range (m+1)).all fun j=>(List.range (m+1)).any fun n=>orb m n==j
theorem XQ:mE 7=true:=by decide +kernel
theorem MC:mE 31=true:=by decide +kernel
theorem KZ:mE 127=true:=by decide +kernel
noncomputable def Mask(m:Nat):Prop:=m=7\/m=31\/m=127
theorem Mask.all{m:Nat}(h:Mask m):mE m=true:=by
 rcases h with rfl|rfl|rfl
 .exact XQ
 .exact MC
 .exact KZ
theorem WX{m:Nat}(h:mE m=true)(n:Nat):orb m (n+(m+1))=orb m n:=by
 unfold mE at h;rw[B6]at h;have z:=C0 h.1
 induction n with
 |zero=>rw[Nat.zero_add,z];unfold orb;simp
 |succ n ih=>rw[show n+1+(m+1)=n+(m+1)+1 by omega,<- wB,ih,wB]
theorem OP{m:Nat}(h:mE m=true){j:Nat}(hj:j<=m):∃n,n<=m/\orb m n=j:=by
 unfold mE at h;rw[B6]at h;have q:=List.all_eq_true.mp h.2 j (List.mem_range.mpr (by omega));obtain⟨n,hn,e⟩:=List.any_eq_true.mp q;exact⟨n,by have:=List.mem_range.mp hn;omega,eq_of_beq e⟩
theorem VO{m:Nat}(h:mE m=true){i j:Nat}(hi:i<=m)(hj:j<=m):∃r,r<=m/\lps m r (i,0)=(j,0):=by
 obtain⟨a,ha,rfl⟩:=OP h hi;obtain⟨b,hb,rfl⟩:=OP h hj;by_cases c:a<=b
 .exact⟨b-a,by omega,by rw[AJ,show a+(b-a)=b by omega]⟩
 .exact⟨b+(m+1)-a,by omega,by rw[AJ,show a+(b+(m+1)-a)=b+(m+1)by omega,WX h]⟩
theorem YM(h:Int):SetTable.bits h<2 ^ 64:=by
 unfold SetTable.bits;have:=J3 h (show(2:Int) ^ 64≠0 by decide);have:=F6 h (show(0:Int)<2 ^ 64 by decide);omega
noncomputable def st0(m:Nat)(h:Int):Nat×Nat:=(SetTable.bits h % (m+1),SetTable.bits h)
theorem FV(m:Nat)(h:Int):(st0 m h).1<=m:=by
 have:=Nat.mod_lt (SetTable.bits h) (show 0<m+1 by omega);show SetTable.bits h % (m+1)<=m;omega
theorem zT{m:Nat}(M:Mask m)(h:Int){j:Nat}(hj:j<=m):∃r,r<=13+m/\(lps m r (st0 m h)).1=j:=by
 have e:lps m 13 (st0 m h)=((lps m 13 (st0 m h)).1,0):=by
  refine Prod.ext rfl ?_;rw[OK];have:=YM h;exact Nat.div_eq_of_lt (A8 this (by decide))
 obtain⟨r,hr,q⟩:=VO M.all (NG (st0 m h) (FV m h) 13) hj;refine⟨13+r,by omega,?_⟩;rw[HV,e,q]
theorem NT{m:Nat}{oc:Nat->Bool}(M:Mask m)(h:Int){j:Nat}(hj:j<=m)(f:oc j=false):∃n,n<10*SetTable.turns m/\nI m oc n (vA m (st0 m h)):=by
 obtain⟨r,hr,e⟩:=zT M h hj;obtain⟨n,hn,q⟩:=runs (m:=m) r (st0 m h);obtain⟨k,hk,z⟩:=EV (oc:=oc) n (vA m (st0 m h)) (by rw[q];show oc (lps m r (st0 m h)).1=false;rw[e];exact f);refine⟨k,?_,z⟩;unfold SetTable.turns;omega
theorem RS{m:Nat}{p:Pb}(h:p.dummy=none):(adv m p).dummy=none:=by
 unfold adv SetTable.advance;split
 .exact h
 .exact h
theorem UX{t:SetTable}{j:Nat}(d:t.dummies=#[])(h:SetTable.has t.place j=false):t.slot j=.empty:=by
 unfold SetTable.slot;unfold SetTable.has at h;dsimp only;rw[h,A7 A5,d];rfl
theorem AM{t:SetTable}{j:Nat}(h:SetTable.has t.place j=true):∃i,t.slot j=.live i/\t.place[i]?=some j:=by
 unfold SetTable.has at h;refine⟨SetTable.below t.place j,?_,eq_of_beq h⟩;unfold SetTable.slot;dsimp only;rw[h,A3 rfl]
theorem zS{t:SetTable}{f:Nat->Int}{h:Int}(d:t.dummies=#[]):∀(n:Nat)(p:Pb)(fuel:Nat),nI t.mask (SetTable.has t.place) n p->n<fuel->p.dummy=none->
 (SetTable.probe.go t f h fuel p=some (.empty (eZ t.mask n p).j none)/\∀k,k<n->∀i,t.slot (eZ t.mask k p).j=.live i->f i≠h) \/
 ∃k i,k<n/\t.slot (eZ t.mask k p).j=.live i/\t.place[i]?=some (eZ t.mask k p).j/\f i=h/\SetTable.probe.go t f h fuel p=some (.candidate (eZ t.mask k p).j i (eZ t.mask (k+1) p))/\(∀k',k'<k->∀i',t.slot (eZ t.mask k' p).j=.live i'->f i'≠h)
 |n,p,0=>fun _ l _=>by omega
 |0,p,fuel+1=>fun e _ dm=>by
  refine .inl ⟨?_,fun k hk=>absurd hk (U3 _)⟩;rw[SetTable.probe.go.eq_2,UX d e,dm];rfl
 |n+1,p,fuel+1=>fun e l dm=>by
  obtain⟨i,s1,s2⟩:=AM e.1;by_cases c:f i=h
  .refine .inr ⟨0,i,by omega,s1,s2,c,?_,fun k' hk'=>absurd hk' (U3 _)⟩;rw[SetTable.probe.go.eq_2,s1];dsimp only;rw[A3 (by rw[c];exact L3 h)];rfl
  .have go:SetTable.probe.go t f h (fuel+1) p=SetTable.probe.go t f h fuel (adv t.mask p):=by
    rw[SetTable.probe.go.eq_2,s1];dsimp only;rw[A7 (by simpa using c)];rfl
   have no:∀i',t.slot p.j=.live i'->f i'≠h:=fun i' q=>by
    rw[s1]at q;injection q with q
    rw[<- q];exact c
   rcases zS d n (adv t.mask p) fuel e.2 (by omega) (RS dm)with⟨g,all⟩|⟨k,i',hk,q1,q2,q3,q4,all⟩
   .refine .inl ⟨go.trans g,fun k hk i' q=>?_⟩;cases k with
    |zero=>exact no i' q
    |succ k=>exact all k (by omega) i' q
   .refine .inr ⟨k+1,i',by omega,q1,q2,q3,go.trans q4,fun k' hk' i'' q=>?_⟩;cases k' with
    |zero=>exact no i'' q
    |succ k'=>exact all k' (by omega) i'' q
theorem yR{m:Nat}{oc:Nat->Bool}:∀(k n:Nat)(p:Pb),nI m oc n p->k<=n->nI m oc (n-k) (eZ m k p)
 |0,n=>fun p h _=>h
 |k+1,0=>fun p _ l=>by omega
 |k+1,n+1=>fun p h l=>by
  rw[show n+1-(k+1)=n-k by omega];exact yR k n (adv m p) h.2 (by omega)
theorem PV{m:Nat}:∀(k:Nat){p:Pb},p.dummy=none->(eZ m k p).dummy=none
 |0,_=>fun h=>h
 |k+1,_=>fun h=>PV k (RS h)
theorem PZ{m:Nat}{oc:Nat->Bool}{g:Nat}:∀{n:Nat}{p:Pb},nI m oc n p->oc g=true->Rch m oc g p->∃k,k<n/\(eZ m k p).j=g
 |0,p,e,og,.here h=>by rw[<- h]at og;rw[show oc p.j=false from e]at og;cases og
 |0,p,e,og,.step h r=>by rw[show oc p.j=false from e]at h;cases h
 |n+1,p,e,og,.here h=>⟨0,by omega,h⟩
 |n+1,p,e,og,.step h r=>by
  obtain⟨k,hk,q⟩:=PZ e.2 og r;exact⟨k+1,by omega,q⟩
theorem pY{xs:Array Nat}(R:Rsg xs){j:Nat}:SetTable.has xs j=true↔j∈xs.toList:=by
 constructor
 .intro h;obtain⟨i,e⟩:=VB h;rw[<- D8]at e;exact F8 e
 .intro h;obtain⟨i,e⟩:=List.mem_iff_getElem?.mp h;rw[D8]at e;have hi:i<xs.size:=(Array.getElem?_eq_some_iff.mp e).1;have ge:xs.getD i 0=j:=by rw[B1,e];rfl
  have c:=lT j R
  have:SetTable.below xs j=i:=by
   by_cases h1:i<SetTable.below xs j
   .have:=c.lo i h1;omega
   .by_cases h2:SetTable.below xs j<i
    .have a:=c.hi _ (A6 _) (by omega);have b:=R _ i h2 hi;omega
    .omega
  unfold SetTable.has;rw[this,e];exact L3 _
theorem yW{xs:Array Nat}(R:Rsg xs):∀n,(∀j,j<n->SetTable.has xs j=true)->n<=SetTable.below xs n
 |0=>fun _=>D2 _
 |n+1=>fun h=>by
  have ih:=yW R n fun j hj=>h j (by omega);have q:=eq_of_beq (h n (by omega):(xs[SetTable.below xs n]?==some n)=true);have lt:=(Array.getElem?_eq_some_iff.mp q).1;have ge:xs.getD (SetTable.below xs n) 0=n:=by rw[B1,q];rfl
  have c:=lT (n+1) R;by_cases z:SetTable.below xs (n+1)<=SetTable.below xs n
  .have:=c.hi _ z lt;omega
  .omega
structure iW(t:SetTable)(hs:List Int):Prop where
 dm:t.dummies=#[]
 ms:Mask t.mask
 rs:Rsg t.place
 sz:t.place.size=hs.length
 le:∀j∈t.place.toList,j<=t.mask
 fl:hs.length*5<t.mask*3
 rc:∀q∈hs.zip t.place.toList,Rch t.mask (SetTable.has t.place) q.2 (t.probeStart q.1)
theorem iW.room{t:SetTable}{hs:List Int}(T:iW t hs):∃j,j<=t.mask/\SetTable.has t.place j=false:=by
 by_cases h:∀j,j<t.mask+1->SetTable.has t.place j=true
 .have a:=yW T.rs _ h;have b:=(lT (t.mask+1) T.rs).le;have c:=T.sz;have d:=T.fl;omega
 .obtain⟨j,hj⟩:=Classical.not_forall.mp h;have h1:j<t.mask+1:=Classical.byContradiction fun q=>hj fun z=>absurd z q;refine⟨j,by omega,?_⟩;cases e:SetTable.has t.place j with
  |false=>rfl
  |true=>exact absurd (fun _=>e) hj
theorem iW.search{t:SetTable}{hs:List Int}(T:iW t hs)(h:Int):∃n,n<10*SetTable.turns t.mask/\nI t.mask (SetTable.has t.place) n (t.probeStart h):=by
 obtain⟨j,hj,f⟩:=T.room;exact NT T.ms h hj f
theorem aCa{m:Nat}{p:Pb}(h:p.j+p.more<=m):(adv m p).j+(adv m p).more<=m:=by
 unfold adv SetTable.advance;by_cases c:p.more > 0
 .rw[A3 c];dsimp only;omega
 .rw[A7 c];dsimp only
  have l:(SetTable.leap m p.i p.perturb).1<=m:=by
   have:=Nat.mod_lt (p.i*5+1+p.perturb / 32) (show 0<m+1 by omega);show(p.i*5+1+p.perturb / 32) % (m+1)<=m;omega
  unfold SetTable.runEnd;split<;>omega
theorem SQ{m:Nat}:∀(n:Nat){p:Pb},p.j+p.more<=m->(eZ m n p).j<=m
 |0,p=>fun h=>by show p.j<=m;omega
 |n+1,p=>fun h=>SQ n (aCa h)
theorem ZE{m:Nat}{q:Nat×Nat}(h:q.1<=m):(vA m q).j+(vA m q).more<=m:=by
 show q.1+(SetTable.runEnd m q.1-q.1)<=m;unfold SetTable.runEnd;split<;>omega
theorem YS{α β:Type}{xs:List α}{ys:List β}{p:Nat}{x:α}{y:β}(h:xs.length=ys.length):∀q∈(xs.take p++x::xs.drop p).zip (ys.take p++y::ys.drop p),q=(x,y)\/q∈xs.zip ys:=fun q hq=>by
 rw[List.zip_append (by rw[E4,E4,h])]at hq;rcases List.mem_append.mp hq with z|z
 .refine .inr ?_;have:(xs.zip ys).take p=(xs.take p).zip (ys.take p):=by rw[U4,U4,List.take_zipWith]
  rw[<- this]at z;exact S8 z
 .rw[List.zip_cons_cons]at z;rcases List.mem_cons.mp z with z|z
  .exact .inl z
  .refine .inr ?_;have:(xs.zip ys).drop p=(xs.drop p).zip (ys.drop p):=by rw[U4,U4,List.drop_zipWith]
   rw[<- this]at z;exact S9 z
theorem iW.put{t:SetTable}{hs:List Int}(T:iW t hs){h:Int}{n j p:Nat}(e:nI t.mask (SetTable.has t.place) n (t.probeStart h))(hj:(eZ t.mask n (t.probeStart h)).j=j)(hp:SetTable.below t.place j=p):
 t.put j=({ t with place:=SetTable.insertAt t.place p j },p)/\p<=hs.length/\((hs.length+1)*5<t.mask*3->iW { t with place:=SetTable.insertAt t.place p j } (hs.take p++h::hs.drop p)):=by
 have nh:SetTable.has t.place j=false:=by rw[<- hj];exact zA e
 have c:=(lT j T.rs).le;rw[hp]at c;have R:=UV T.rs nh;rw[hp]at R
 have jm:j<=t.mask:=by
  rw[<- hj];exact SQ n (ZE (FV _ _))
 have up:∀i,SetTable.has t.place i=true->SetTable.has (SetTable.insertAt t.place p j) i=true:=fun i hi=>by
  rw[pY T.rs]at hi;rw[pY R,rO];rw[<- S1 p t.place.toList]at hi;rcases List.mem_append.mp hi with z|z
  .exact C5 _ z
  .exact B5 _ (B0 _ z)
 refine⟨?_,by rw[<- T.sz];exact c,fun fl=>⟨T.dm,T.ms,R,?_,fun i hi=>?_,?_,fun q hq=>?_⟩⟩
 .unfold SetTable.put;dsimp only;rw[hp,T.dm];rfl
 .show(SetTable.insertAt t.place p j).size=_;rw[xQ c,T.sz,B4,C3,E4,F5];have:=T.sz;omega
 .have hi:i∈(SetTable.insertAt t.place p j).toList:=hi;rw[rO]at hi;rcases List.mem_append.mp hi with z|z
  .exact T.le i (S8 z)
  .rcases List.mem_cons.mp z with rfl|z
   .exact jm
   .exact T.le i (S9 z)
 .rw[B4,C3,E4,F5];show _<t.mask*3;omega
 .have hq:q∈(hs.take p++h::hs.drop p).zip (SetTable.insertAt t.place p j).toList:=hq;rw[rO]at hq;show Rch t.mask (SetTable.has (SetTable.insertAt t.place p j)) q.2 (t.probeStart q.1);rcases YS (T.sz.symm.trans Array.length_toList.symm) q hq with rfl|z
  .have:=DQ e;rw[hj]at this;exact this.mono up
  .exact(T.rc q z).mono up
noncomputable def ocW(ow:Array (Option Nat))(j:Nat):Bool:=(ow.getD j none).isSome
theorem getD_in{ow:Array (Option Nat)}{j:Nat}{a b:Option Nat}(h:j<ow.size):ow.getD j a=ow.getD j b:=by
 rw[B1,B1,F0 h];rfl
theorem CG{m:Nat}{oc:Nat->Bool}{i pt:Nat}:∀(k j more:Nat),k<=more->(∀k',k'<k->oc (j+k')=true)->Rch m oc (j+k) ⟨j,more,i,pt,none⟩
 |0=>fun j more _ _=>.here rfl
 |k+1=>fun j more h a=>by
  refine .step (a 0 (by omega)) ?_
  have:adv m ⟨j,more,i,pt,none⟩=⟨j+1,more-1,i,pt,none⟩:=by
   unfold adv SetTable.advance;rw[A3 (show more > 0 by omega)]
  rw[this,show j+(k+1)=j+1+k by omega]
  exact CG k (j+1) (more-1) (by omega) fun k' hk'=>by
   rw[show j+1+k'=j+(k'+1)by omega];exact a (k'+1) (by omega)
theorem EH{m:Nat}{oc:Nat->Bool}{i pt g:Nat}(r:Rch m oc g (vA m (SetTable.leap m i pt))):∀(more j:Nat),(∀k',k'<=more->oc (j+k')=true)->Rch m oc g ⟨j,more,i,pt,none⟩
 |0=>fun j a=>.step (a 0 (A6 _)) r
 |more+1=>fun j a=>by
  refine .step (a 0 (by omega)) ?_;rw[show adv m ⟨j,more+1,i,pt,none⟩=⟨j+1,more,i,pt,none⟩from rfl]
  exact EH r more (j+1) fun k' hk'=>by
   rw[show j+1+k'=j+(k'+1)by omega];exact a (k'+1) (by omega)
theorem IK{m:Nat}{ow:Array (Option Nat)}(sz:ow.size=m+1):∀(fuel:Nat)(q:Nat×Nat),q.1<=m->(∃r,r<fuel/\ow.getD (lps m r q).1 (some 0)=none)->
 ∃j,SetTable.layClean.free m ow fuel q.1 q.2=some j/\ow.getD j (some 0)=none/\j<=m/\Rch m (ocW ow) j (vA m q)
 |0,q,_,⟨r,hr,_⟩=>by omega
 |fuel+1,q,hq,⟨r,hr,e⟩=>by
  rw[SetTable.layClean.free.eq_2];have ge:q.1<=SetTable.runEnd m q.1/\SetTable.runEnd m q.1<=m:=by unfold SetTable.runEnd;split<;>omega
  cases f:List.find? (fun k=>(ow.getD (q.1+k) (some 0)).isNone) (List.range (SetTable.runEnd m q.1+1-q.1))with
  |some k=>
   obtain⟨h1,h2,h3⟩:=List.find?_range_eq_some.mp f;have h2:=List.mem_range.mp h2;have h1:ow.getD (q.1+k) (some 0)=none:=by simpa using h1
   refine⟨q.1+k,rfl,h1,by omega,?_⟩
   exact CG k q.1 _ (by omega) fun k' hk'=>by
    have:=h3 k' hk';unfold ocW;rw[getD_in (b:=some 0) (by omega)];cases z:ow.getD (q.1+k') (some 0)with
    |none=>rw[z]at this;simp at this
    |some _=>rfl
  |none=>
   have all:=List.find?_eq_none.mp f
   have oc:∀k',k'<=SetTable.runEnd m q.1-q.1->ocW ow (q.1+k')=true:=fun k' hk'=>by
    have:=all k' (List.mem_range.mpr (by omega));unfold ocW;rw[getD_in (b:=some 0) (by omega)];cases z:ow.getD (q.1+k') (some 0)with
    |none=>rw[z]at this;simp at this
    |some _=>rfl
   cases r with
   |zero=>
    have:=oc 0 (D2 _);unfold ocW at this;have e:ow.getD q.1 (some 0)=none:=e;rw[Nat.add_zero,getD_in (b:=some 0) (by omega),e]at this;cases this
   |succ r=>
    have l:(SetTable.leap m q.1 q.2).1<=m:=NG q hq 1;obtain⟨j,a,b,c,d⟩:=IK sz fuel (SetTable.leap m q.1 q.2) l ⟨r,by omega,e⟩;exact⟨j,a,b,c,EH d _ _ oc⟩
noncomputable def aCn(m:Nat)(acc:Option (Array (Option Nat)×Nat))(h:Int):Option (Array (Option Nat)×Nat):=acc.bind fun x=>(SetTable.layClean.free m x.1 (SetTable.turns m) (SetTable.bits h % (m+1)) (SetTable.bits h)).bind fun j=>some (x.1.setIfInBounds j (some x.2),x.2+1)
structure yJ(m:Nat)(hs:List Int)(k:Nat)(ow:Array (Option Nat)):Prop where
 sz:ow.size=m+1
 tot:∀i h,i<k->hs[i]?=some h->∃j,j<=m/\ow.getD j none=some i/\Rch m (ocW ow) j (vA m (st0 m h))
 rng:∀j i,ow.getD j none=some i->i<k
 one:∀j j' i,ow.getD j none=some i->ow.getD j' none=some i->j=j'
 cnt:ow.toList.countP (·.isNone)=m+1-k
theorem oA{ow:Array (Option Nat)}{j i:Nat}{x d:Option Nat}(h:j<ow.size):(ow.setIfInBounds j x).getD i d=if i=j then x else ow.getD i d:=by
 rw[B1,Array.getElem?_setIfInBounds,B1];by_cases e:j=i
 .rw[A3 e,A3 e.symm,A3 (e▸h)];rfl
 .rw[A7 e,A7 (fun z=>e z.symm)]
theorem yJ.step{m:Nat}{hs:List Int}{k:Nat}{ow:Array (Option Nat)}(O:yJ m hs k ow)(M:Mask m){h:Int}(hh:hs[k]?=some h)(hk:k<=m):∃ow',aCn m (some (ow,k)) h=some (ow',k+1)/\yJ m hs (k+1) ow':=by
 have pos:0<ow.toList.countP (·.isNone):=by rw[O.cnt];omega
 obtain⟨a,ha,na⟩:=List.countP_pos_iff.mp pos;obtain⟨j0,e0⟩:=List.mem_iff_getElem?.mp ha;rw[D8]at e0;have l0:j0<ow.size:=(Array.getElem?_eq_some_iff.mp e0).1
 have n0:ow.getD j0 (some 0)=none:=by
  rw[B1,e0];cases a with
  |none=>rfl
  |some _=>cases na
 have sz:=O.sz;obtain⟨r,hr,er⟩:=zT M h (show j0<=m by omega);obtain⟨j,f1,f2,f3,f4⟩:=IK (ow:=ow) O.sz (SetTable.turns m) (st0 m h) (FV m h) ⟨r,by unfold SetTable.turns;omega,by rw[er];exact n0⟩;have jl:j<ow.size:=by omega
 have f2':ow.getD j none=none:=by rw[getD_in (b:=some 0) jl];exact f2
 have up:∀i,ocW ow i=true->ocW (ow.setIfInBounds j (some k)) i=true:=fun i hi=>by
  unfold ocW at hi ⊢;rw[oA jl];split
  .rfl
  .exact hi
 refine⟨ow.setIfInBounds j (some k),?_,by rw[Array.size_setIfInBounds];exact sz,fun i h' hi hh'=>?_,fun j' i e=>?_,fun j1 j2 i e1 e2=>?_,?_⟩
 .show(SetTable.layClean.free m ow (SetTable.turns m) (SetTable.bits h % (m+1)) (SetTable.bits h)).bind _=_;rw[show SetTable.layClean.free m ow (SetTable.turns m) (SetTable.bits h % (m+1)) (SetTable.bits h)=some j from f1];rfl
 .by_cases e:i=k
  .subst e;rw[hh]at hh';cases hh';exact⟨j,f3,by rw[oA jl,A3 rfl],f4.mono up⟩
  .obtain⟨j1,q1,q2,q3⟩:=O.tot i h' (by omega) hh';refine⟨j1,q1,?_,q3.mono up⟩;rw[oA jl,A7 (fun z=>by rw[z,f2']at q2;cases q2)];exact q2
 .rw[oA jl]at e;split at e
  .cases e;omega
  .have:=O.rng j' i e;omega
 .rw[oA jl]at e1 e2;split at e1
  .split at e2
   .omega
   .cases e1;have:=O.rng j2 k e2;omega
  .split at e2
   .cases e2;have:=O.rng j1 k e1;omega
   .exact O.one j1 j2 i e1 e2
 .rw[Array.toList_setIfInBounds,List.countP_set (by rw[D3];exact jl),O.cnt]
  have:ow.toList[j]'(by rw[D3];exact jl)=none:=by
   have q:ow.getD j none=none:=f2';rw[B1,F0 jl]at q;exact q
  rw[this];simp;omega
theorem yJ.fold{m:Nat}{hs:List Int}(M:Mask m)(hl:hs.length<=m):∀(ls:List Int)(k:Nat)(ow:Array (Option Nat)),hs.drop k=ls->k<=hs.length->yJ m hs k ow->∃ow',ls.foldl (aCn m) (some (ow,k))=some (ow',hs.length)/\yJ m hs hs.length ow'
 |[]=>fun k ow e hk O=>by
  have:hs.length<=k:=List.drop_eq_nil_iff.mp e;have kk:k=hs.length:=by omega
  subst kk;exact⟨ow,rfl,O⟩
 |h::ls=>fun k ow e hk' O=>by
  have hk:k<hs.length:=by
   by_cases q:k<hs.length
   .exact q
   .rw[List.drop_eq_nil_iff.mpr (by omega)]at e;cases e
  have hh:hs[k]?=some h:=by
   have:=L5 (·[0]?) e;rw[List.getElem?_drop]at this;simpa using this
  obtain⟨ow1,e1,O1⟩:=O.step M hh (by omega);obtain⟨ow2,e2,O2⟩:=yJ.fold M hl ls (k+1) ow1 (by rw[<- List.drop_drop,e];rfl) (by omega) O1;exact⟨ow2,by rw[List.foldl_cons,e1];exact e2,O2⟩
theorem RQ(m:Nat)(hs:List Int):yJ m hs 0 (Array.replicate (m+1) none):=by
 have g0:∀(j:Nat),(Array.replicate (m+1) (none:Option Nat)).getD j none=none:=fun j=>by
  rw[B1,Array.getElem?_replicate];split<;>rfl
 refine⟨Array.size_replicate,fun i h hi=>absurd hi (U3 _),fun j i e=>(by rw[g0]at e;cases e),fun j j' i e=>(by rw[g0]at e;cases e),?_⟩;rw[Array.toList_replicate,List.countP_replicate];rfl
theorem aBp{m:Nat}{hs:List Int}(M:Mask m)(hl:hs.length<=m):∃ow,SetTable.layClean m hs.toArray=some ow/\yJ m hs hs.length ow:=by
 obtain⟨ow,e,O⟩:=yJ.fold M hl hs 0 (Array.replicate (m+1) none) rfl (D2 _) (RQ m hs);refine⟨ow,?_,O⟩;unfold SetTable.layClean;rw[<- Array.foldl_toList];show Option.map (fun x=>x.1) (List.foldl (aCn m) (some (Array.replicate (m+1) none,0)) hs)=some ow;rw[e];rfl
theorem UQ{m:Nat}{ow:Array (Option Nat)}{q:Nat×Nat}:q∈(List.range (m+1)).filterMap (fun j=>(ow.getD j none).map (j,·))↔q.1<=m/\ow.getD q.1 none=some q.2:=by
 rw[List.mem_filterMap];constructor
 .rintro⟨j,hj,h⟩;obtain⟨i,hi,rfl⟩:=Option.map_eq_some_iff.mp h;exact⟨by have:=List.mem_range.mp hj;show j<=m;omega,hi⟩
 .rintro⟨h1,h2⟩;exact⟨q.1,List.mem_range.mpr (by omega),by rw[h2];rfl⟩
theorem CJ{α β γ:Type}(f:α->β)(g:α->γ):∀(l:List α),(l.map f).zip (l.map g)=l.map fun a=>(f a,g a)
 |[]=>rfl
 |a::l=>by rw[A9,A9,List.zip_cons_cons,CJ f g l,A9]
theorem WZ{m fg mv:Nat}{ld pl:Bool}{hs:List Int}(M:Mask m)(hl:hs.length*5<m*3):∃(place:Array Nat)(order:List Nat),SetTable.laid m fg mv ld pl hs.toArray=some (⟨m,place,#[],fg,ld,mv,pl⟩,order.toArray) /\
 order.Perm (List.range hs.length)/\iW ⟨m,place,#[],fg,ld,mv,pl⟩ (order.map fun k=>hs.getD k 0):=by
 obtain⟨ow,e1,O⟩:=aBp (hs:=hs) M (by omega);obtain⟨L,hL⟩:∃L,(List.range (m+1)).filterMap (fun j=>(ow.getD j none).map (j,·))=L:=⟨_,rfl⟩;have mem:∀q,q∈L↔q.1<=m/\ow.getD q.1 none=some q.2:=fun q=>by rw[<- hL];exact UQ
 have rise:(L.map (·.1)).Pairwise (·<·):=by rw[<- hL];exact IX _ List.pairwise_lt_range
 have pm:(L.map (·.2)).Perm (List.range hs.length):=by
  refine(List.perm_ext_iff_of_nodup ?_ List.nodup_range).mpr fun i=>?_
  .refine List.pairwise_map.mpr ?_;refine List.Pairwise.imp_of_mem (fun{a b} ha hb lt q=>?_) (List.pairwise_map.mp rise);have:=O.one a.1 b.1 a.2 ((mem a).mp ha).2 (by rw[((mem b).mp hb).2,q]);omega
  .rw[List.mem_range];constructor
   .intro h;obtain⟨q,hq,rfl⟩:=List.mem_map.mp h;exact O.rng _ _ ((mem q).mp hq).2
   .intro h;obtain⟨j,j1,j2,_⟩:=O.tot i hs[i] h (B9 h);exact List.mem_map.mpr ⟨(j,i),(mem (j,i)).mpr ⟨j1,j2⟩,rfl⟩
 have R:=TL rise
 have ln:L.length=hs.length:=by
  have:=pm.length_eq
  rwa [A2,E8]at this
 refine⟨(L.map (·.1)).toArray,L.map (·.2),?_,pm,rfl,M,R,by rw[C1,A2,A2,A2],fun j hj=>?_,by rw[A2,A2,ln];exact hl,fun q hq=>?_⟩
 .unfold SetTable.laid;rw[e1];show some _=_;rw[hL]
 .obtain⟨q,hq,rfl⟩:=List.mem_map.mp hj;exact((mem q).mp hq).1
 .have hq:q∈((L.map (·.2)).map fun k=>hs.getD k 0).zip (L.map (·.1)):=hq;rw[U6,CJ]at hq;obtain⟨z,hz,rfl⟩:=List.mem_map.mp hq;obtain⟨z1,z2⟩:=(mem z).mp hz;have zk:=O.rng _ _ z2;have hh:hs[z.2]?=some (hs.getD z.2 0):=by rw[B9 zk,J1,B9 zk];rfl
  obtain⟨j,_,j2,j3⟩:=O.tot z.2 _ zk hh;have ej:j=z.1:=O.one _ _ _ j2 z2;subst ej;refine j3.mono fun i hi=>?_;show SetTable.has (L.map (·.1)).toArray i=true;rw[pY R];unfold ocW at hi;obtain⟨k,hk⟩:=Option.isSome_iff_exists.mp hi
  have c:i<ow.size:=by
   by_cases c:i<ow.size
   .exact c
   .rw[B1,Array.getElem?_eq_none (by omega)]at hk;cases hk
  exact List.mem_map.mpr ⟨(i,k),(mem (i,k)).mpr ⟨by have:=O.sz;show i<=m;omega,hk⟩,rfl⟩
section
variable{prog:Program}{w:World}{A:Around}{E:Value->Shared->Prop}{s:Shared}
noncomputable abbrev TK(prog:Program)(w:World):HeapKind prog w (List Key):=tupleKind (cI prog w)
theorem ON{k:Key}{v:Value}(h:(cI prog w).is k v=true):v.scannable=true:=by
 have h:uA k v=true:=h;cases k<;>cases v<;>first|rfl|exact absurd (show false=true from h) A5
theorem rA:∀{ks:List Key}{vs:List Value},ItemsAre (cI prog w) ks vs->∀v∈vs,v.scannable=true
 |_,_,.nil=>fun v h=>by simp at h
 |_,_,.cons e r=>fun v h=>by
  rcases List.mem_cons.mp h with rfl|h
  .exact ON e
  .exact rA r v h
theorem TK.ty{k:List Key}{a:Addr}(h:(TK prog w).is s.heap k a):s.TypeIs (.ref a) "tuple":=let⟨o,_,_,h1,h2,_⟩:=h;⟨o,h1,h2⟩
theorem GS{v:Value}(h:v.scannable=true)(n:Nat):ofAClassStatement n v=pure false:=by
 cases v<;>first|(cases n<;>rfl)|(simp[Value.scannable]at h)
theorem xS{k:List Key}{a:Addr}{Q:Bool->Shared->Prop}(h:(TK prog w).is s.heap k a)(q:Q false s):wpAny (model prog w) A (ofAClassStatement 8 (.ref a)) Q E s:=by
 have ty:=TK.ty h;obtain⟨o,items,n,h1,h2,h3,h4⟩:=h;rw[show(8:Nat)=Nat.succ 7 from rfl];unfold ofAClassStatement;refine A0 (wpAny_typeOf ty ?_);refine A0 (A4 ?_);refine A0 (wpAny_seqItems h1 h3 ?_);refine A0 (wpAny_forIn_array' _ (fun rest b s'=>(∀v∈rest,v.scannable=true)/\b=(none,())/\s'=s) _ (fun x rest b s' ⟨hs,hb,es⟩=>?_) (fun b s' ⟨_,hb,es⟩=>?_) items (none,()) ⟨rA h4,rfl,rfl⟩)
 .rw[GS (hs x B7) 7];refine A0 (A4 ?_);exact A4 ⟨fun v hv=>hs v (B0 _ hv),rfl,es⟩
 .subst hb es;exact A4 q
theorem LO{k:List Key}{a:Addr}{Q:Bool->Shared->Prop}(h:(TK prog w).is s.heap k a)(q:∀r,Q r s):wpAny (model prog w) A (hashByValue 8 (.ref a)) Q E s:=by
 have ty:=TK.ty h;obtain⟨o,items,n,h1,h2,h3,h4⟩:=h;show wpAny (model prog w) A (specialOf (.ref a) "__hash__" >>= _) Q E s;refine A0 (wpAny_specialOf ty PySem.F.slot_tuple_hash.lookup ?_);refine A0 (wpAny_seqItems h1 h3 ?_);refine A0 (wpAny_forIn_array' _ (fun rest b s'=>(∀v∈rest,v.scannable=true)/\b=(none,())/\s'=s) _ (fun x rest b s' ⟨hs,hb,es⟩=>?_) (fun b s' ⟨_,hb,es⟩=>?_) items (none,()) ⟨rA h4,rfl,rfl⟩)
 .rw[hashByValue_scannable 7 (hs x B7)];refine A0 (A4 ?_);cases plainKind x with
  |true=>exact A4 ⟨fun v hv=>hs v (B0 _ hv),rfl,es⟩
  |false=>
   subst es;exact A4 (A4 (q _))
 .subst hb es;exact A4 (q _)
theorem ZC{k:List Key}{b:Addr}{ys:List Value}{Q:Bool->Shared->Prop}(hb:(TK prog w).is s.heap k b)(hy:∀y∈ys,∃k' a',y=.ref a'/\(TK prog w).is s.heap k' a')(q:Q false s):
 wpAny (model prog w) A (searchCouldBeSeen (.ref b) ys) Q E s:=by
 unfold searchCouldBeSeen;refine A0 (wpAny_forIn_list _ (fun rest r s'=>(∀v∈rest,v∈ys)/\r=(none,())/\s'=s) _ (fun x rest r s' ⟨hs,hr,es⟩=>?_) (fun r s' ⟨_,hr,es⟩=>?_) ys (none,()) ⟨fun _ h=>h,rfl,rfl⟩)
 .subst es;obtain⟨k',a',rfl,ha⟩:=hy x (hs x B7);have nx:(∀v∈rest,v∈ys)/\((none,()):Option Bool×Unit)=(none,())/\s'=s':=⟨fun v hv=>hs v (B0 _ hv),rfl,rfl⟩;dsimp only;by_cases c:(b==a')=true
  .rw[c];exact A4 nx
  .have c:(b==a')=false:=by simpa using c
   rw[c];refine A0 ((TK prog w).quiet hb ?_);refine A0 ((TK prog w).quiet ha ?_);refine A0 (xS hb ?_);refine A0 (xS ha ?_);exact A4 nx
 .subst hr es;exact A4 q
end
section
variable{prog:Program}{w:World}{A:Around}{E:Value->Shared->Prop}{s:Shared}
noncomputable abbrev hT(prog:Program)(w:World)(k:List Key):Int:=(TK prog w).hash k
noncomputable def enT(prog:Program)(w:World)(xs:List (List Key×Addr)):List (Int×Value):=xs.map fun x=>(hT prog w x.1,Value.ref x.2)
theorem SD(a:Addr):isSame (Value.ref a) (Value.ref a)=pure true:=by
 unfold isSame;dsimp only;rw[A3 (L3 _)]
theorem WM{t:SetTable}(M:Mask t.mask):t.gaveWay=false:=by
 unfold SetTable.gaveWay;rcases M with e|e|e<;>rw[e]<;>rfl
theorem iW.fits{t:SetTable}{hs:List Int}(T:iW t hs){n:Nat}(h:n=hs.length):t.fits n=true:=by
 have:=T.sz;have:=T.fl;have:=T.dm;unfold SetTable.fits SetTable.fill;rw[T.dm,T.sz,h,B6];exact⟨L3 _,C2 (by show hs.length+0<=_;omega)⟩
theorem KO{a:Addr}{o:Obj}{es:Array (Int×Value)}{ep:Nat}{t:SetTable}{xs:List (List Key×Addr)}{k:List Key}{b:Addr}{Q:SetFound->Shared->Prop}(ho:s.heap.get? a=some o)(hd:o.data=.set es ep t)(he:es.toList=enT prog w xs)(T:iW t (xs.map fun x=>hT prog w x.1))
 (hx:∀x∈xs,(TK prog w).is s.heap x.1 x.2) (hb:(TK prog w).is s.heap k b) (room:(TK prog w).room A):
 ∀(n:Nat)(p:Pb)(op:Option Pb)(fuel:Nat),op.getD (t.probeStart (hT prog w k))=p->nI t.mask (SetTable.has t.place) n p->n<10*SetTable.turns t.mask->p.dummy=none->n<fuel->
  (∀(i:Nat)(x:List Key×Addr),xs[i]?=some x->x.1=k->∃j m,t.place[i]?=some j/\m<n/\(eZ t.mask m p).j=j)->
  (k∈xs.map (·.1)->Q (.there none) s)->(k∉xs.map (·.1)->Q (.free (eZ t.mask n p).j false) s)->wpAny (model prog w) A (setSearchFrom a (.ref b) (hT prog w k) true fuel op) Q E s:=by
 have hf:=T.fits (n:=es.size) (by rw[<- D3,he];unfold enT;rw[A2,A2])
 have esi:∀(i:Nat)(x:List Key×Addr),xs[i]?=some x->es[i]?=some (hT prog w x.1,Value.ref x.2):=fun i x e=>by
  rw[<- D8,he];unfold enT;rw[D0,e];rfl
 have plc:∀(i j:Nat),t.place[i]?=some j->∃x,xs[i]?=some x:=fun i j e=>by
  have l:=(Array.getElem?_eq_some_iff.mp e).1;rw[T.sz,A2]at l;exact⟨_,B9 l⟩
 intro n
 induction n using Nat.strongRecOn with
 |_ n ih=>
  intro p op fuel hop en ln dm lf pos yes no;cases fuel with
  |zero=>omega
  |succ fuel=>
   rw[setSearchFrom.eq_2];refine A0 (U0 ho hd hf ?_);dsimp only;rw[WM T.ms,A7 A5,hop];obtain⟨f,hF⟩:∃f:Nat->Int,(fun i=>(Option.map (fun x:Int×Value=>x.1) es[i]?).getD 0)=f:=⟨_,rfl⟩
   have fi:∀(i:Nat)(x:List Key×Addr),xs[i]?=some x->f i=hT prog w x.1:=fun i x e=>by
    rw[<- hF];show(Option.map (fun x:Int×Value=>x.1) es[i]?).getD 0=_;rw[esi i x e];rfl
   generalize hP:t.probe _ (hT prog w k) p=r;have hP:t.probe f (hT prog w k) p=r:=by rw[<- hF];exact hP
   rcases zS (f:=f) (h:=hT prog w k) T.dm n p (10*SetTable.turns t.mask) en ln dm with⟨g,all⟩|⟨m,i,hm,s1,s2,s3,g,all⟩
   .have:r=some (.empty (eZ t.mask n p).j none):=hP.symm.trans g;subst this;refine A4 (no fun hk=>?_);obtain⟨x,hx',rfl⟩:=List.mem_map.mp hk;obtain⟨i,ei⟩:=List.mem_iff_getElem?.mp hx';obtain⟨j,m,pj,hm,ej⟩:=pos i x ei rfl;obtain⟨i',q1,q2⟩:=AM (t:=t) (j:=j) (by rw[pY T.rs];rw[<- D8]at pj;exact F8 pj)
    have ii:i'=i:=by
     have l1:=(Array.getElem?_eq_some_iff.mp q2).1;have l2:=(Array.getElem?_eq_some_iff.mp pj).1;have g1:t.place.getD i' 0=j:=by rw[B1,q2];rfl
     have g2:t.place.getD i 0=j:=by rw[B1,pj];rfl
     by_cases c:i'<i
     .have:=T.rs _ _ c l2;omega
     .by_cases c':i<i'
      .have:=T.rs _ _ c' l1;omega
      .omega
    subst ii;exact all m hm i' (by rw[ej];exact q1) (fi i' x ei)
   .have:r=some (.candidate (eZ t.mask m p).j i (eZ t.mask (m+1) p)):=hP.symm.trans g;subst this;obtain⟨x,ex⟩:=plc i _ s2;have xm:x∈xs:=F8 ex
    have fin:wpAny (model prog w) A (holding [Value.ref x.2] (eqBool (.ref x.2) (.ref b)) >>= fun equal=>setState a >>= fun y=>match y with
     |(es',_,t')=>if (true&&equal)=true then pure (SetFound.there none)else match t'.sameMemory t.moves t.mask with
      |some same=>do
       let still <- match if same=true then t'.slot (eZ t.mask m p).j else SetTable.Slot.empty with
        |SetTable.Slot.live i'=>match es'[i']? with
         |some (_,y')=>do
          let z <- isSame y' (.ref x.2)
          pure (if z=true then some i' else none)
         |none=>pure none
        |_=>pure none
       match still with
       |none=>do
        rule "set.search.anew"
        setSearchFrom a (.ref b) (hT prog w k) true fuel none
       |some i'=>if equal=true then pure (SetFound.there (some i'))else setSearchFrom a (.ref b) (hT prog w k) true fuel (some (eZ t.mask (m+1) p))
      |_=>unsupported "set.changed-during-lookup:is-the-new-block-at-the-old-address") Q E s:=by
     refine A0 (E6 ((TK prog w).eqBool room (hx x xm) hb ?_));refine A0 (U0 ho hd hf ?_);dsimp only;by_cases c:x.1=k
     .rw[C2 c];exact A4 (yes (List.mem_map.mpr ⟨x,xm,c⟩))
     .rw[D4 c];rw[A7 (by decide)]
      have sm:t.sameMemory t.moves t.mask=some true:=by
       unfold SetTable.sameMemory;rw[A3 (L3 _)]
      rw[sm];dsimp only;rw[A3 rfl,s1];dsimp only;rw[esi i x ex];dsimp only;refine A0 ?_;rw[SD];refine A4 (A0 (A4 ?_));rw[A3 rfl];dsimp only;rw[A7 (by decide)];have en':=yR (m+1) n p en hm;refine ih (n-(m+1)) (by omega) (eZ t.mask (m+1) p) (some (eZ t.mask (m+1) p)) fuel rfl en' (by omega) (PV _ dm) (by omega) (fun i2 x2 e2 k2=>?_) yes (fun z=>?_)
      .obtain⟨j,m2,pj,hm2,ej⟩:=pos i2 x2 e2 k2;obtain⟨i',q1,q2⟩:=AM (t:=t) (j:=j) (by rw[pY T.rs];rw[<- D8]at pj;exact F8 pj)
       have ii:i'=i2:=by
        have l1:=(Array.getElem?_eq_some_iff.mp q2).1;have l2:=(Array.getElem?_eq_some_iff.mp pj).1;have g1:t.place.getD i' 0=j:=by rw[B1,q2];rfl
        have g2:t.place.getD i2 0=j:=by rw[B1,pj];rfl
        by_cases c1:i'<i2
        .have:=T.rs _ _ c1 l2;omega
        .by_cases c2:i2<i'
         .have:=T.rs _ _ c2 l1;omega
         .omega
       subst ii;have h1:¬m2<m:=fun lt=>all m2 lt i' (by rw[ej];exact q1) (by rw[fi i' x2 e2,k2])
       have h2:m2≠m:=fun e=>by
        subst e;rw[ej]at s1;rw[q1]at s1;injection s1 with s1
        subst s1;rw[e2]at ex;cases ex;exact c k2
       refine⟨j,m2-(m+1),pj,by omega,?_⟩;rw[<- oW,show m+1+(m2-(m+1))=m2 by omega];exact ej
      .have:=no z;rw[<- oW,show m+1+(n-(m+1))=n by omega];exact this
    cases hl:t.led with
    |true=>
     dsimp only;rw[A7 (by decide),esi i x ex];exact fin
    |false=>
     dsimp only;rw[A3 (by decide)];refine A0 (ZC hb (fun y hy=>?_) ?_)
     .obtain⟨e,he1,rfl⟩:=List.mem_map.mp hy;rw[Array.toList_filter]at he1;have he2:=(List.mem_filter.mp he1).1;rw[he]at he2;obtain⟨x',hx',rfl⟩:=List.mem_map.mp he2;exact⟨x'.1,x'.2,rfl,hx x' hx'⟩
     .rw[A7 A5,esi i x ex];exact fin
end
section
variable{prog:Program}{w:World}{A:Around}{E:Value->Shared->Prop}{s:Shared}
theorem wV{α:Type}:∀(xs:List α),(List.range xs.length).filterMap (xs[·]?)=xs
 |[]=>rfl
 |x::xs=>by
  rw[C3,List.range_succ_eq_map,J6];show x::List.filterMap _ (List.map Nat.succ (List.range xs.length))=_;rw[List.filterMap_map];exact L5 (x::·) (wV xs)
theorem GA{α:Type}{xs:List α}{order:List Nat}(h:order.Perm (List.range xs.length)):(order.filterMap (xs[·]?)).Perm xs:=by
 have:=h.filterMap (xs[·]?)
 rwa [wV]at this
theorem ES{α β:Type}(f:α->β)(d:β){xs:List α}:∀{order:List Nat},(∀k∈order,k<xs.length)->order.map (fun k=>(xs.map f).getD k d)=(order.filterMap (xs[·]?)).map f
 |[]=>fun _=>rfl
 |k::order=>fun h=>by
  have hk:=h k B7;rw[A9,J6,B9 hk,A9,ES f d fun i hi=>h i (B0 _ hi),J1,D0,B9 hk];rfl
theorem YA{α β:Type}(f:α->β){xs:List α}(order:List Nat):order.filterMap ((xs.map f)[·]?)=(order.filterMap (xs[·]?)).map f:=by
 rw[List.map_filterMap];congr 1;funext k;rw[D0]
structure STu(prog:Program)(w:World)(b:Bool)(h:Heap)(a:Addr)(xs:List (List Key×Addr)):Prop where
 ex:∃o es ep t,h.get? a=some o/\o.ExactSet/\o.data=.set es ep t/\es.toList=enT prog w xs/\iW t (xs.map fun x=>hT prog w x.1)/\t.led=b
 nd:(xs.map (·.1)).Nodup
theorem iW.off{t:SetTable}{hs:List Int}(T:iW t hs)(c:Bool):iW { t with plain:=c } hs:=⟨T.dm,T.ms,T.rs,T.sz,T.le,T.fl,T.rc⟩
theorem II{α β:Type}(f:α->β)(xs:List α)(p:Nat)(x:α):(xs.take p++x::xs.drop p).map f=(xs.map f).take p++f x::(xs.map f).drop p:=by
 rw[E5,A9,List.map_take,List.map_drop]
theorem oV{α:Type}(xs:List α)(p:Nat)(x:α):(xs.take p++x::xs.drop p).Perm (x::xs):=by
 refine List.perm_middle.trans ?_;rw[S1]
theorem UE{a:Addr}{o:Obj}{es:Array (Int×Value)}{ep:Nat}{t:SetTable}{xs:List (List Key×Addr)}{Q:Unit->Shared->Prop}(ho:s.heap.get? a=some o)(hx:o.ExactSet)(hd:o.data=.set es ep t)(he:es.toList=enT prog w xs)(sz:t.place.size=xs.length)(dm:t.dummies=#[])(lm:xs.length<=t.mask)
 (hn:xs.length=5\/xs.length=19) (nd:(xs.map (·.1)).Nodup) (h:∀h' xs',Heap.SameBut a s.heap h'->STu prog w t.led h' a xs'->xs'.Perm xs->Q () { s with heap:=h' }):
 wpAny (model prog w) A (setRelay a (SetTable.grown xs.length)) Q E s:=by
 have ez:es.size=xs.length:=by rw[<- D3,he];unfold enT;rw[A2]
 have hf:t.fits es.size=true:=by
  unfold SetTable.fits SetTable.fill;rw[dm,sz,ez,B6];exact⟨L3 _,C2 (by show xs.length+0<=_;omega)⟩
 obtain⟨m,M,hm,hl⟩:∃m,Mask m/\SetTable.sizeAbove (SetTable.grown xs.length)=m+1/\xs.length*5<m*3:=by
  rcases hn with e|e
  .exact⟨31,.inr (.inl rfl),by rw[e];decide,by omega⟩
  .exact⟨127,.inr (.inr rfl),by rw[e];decide,by omega⟩
 have ms:m<=127:=by rcases M with e|e|e<;>omega
 obtain⟨hs,hhs⟩:∃hs,xs.map (fun x=>hT prog w x.1)=hs:=⟨_,rfl⟩;have hsl:hs.length=xs.length:=by rw[<- hhs,A2]
 have ah:Array.map (fun x:Int×Value=>x.1) es=hs.toArray:=by
  apply Array.toList_inj.mp
  rw[Array.toList_map,he,<- hhs];unfold enT;rw[U6];rfl
 obtain⟨place,order,e1,pm,T⟩:=WZ (m:=m) (fg:=t.finger) (mv:=t.movedTo m) (ld:=t.led) (pl:=t.plain) (hs:=hs) M (by omega)
 have lt:∀k∈order,k<xs.length:=fun k hk=>by
  have:=List.mem_range.mp (pm.mem_iff.mp hk);omega
 have pmx:(order.filterMap (xs[·]?)).Perm xs:=GA (by rw[<- hsl];exact pm);rw[<- hhs,ES _ _ lt]at T
 have er:(Array.filterMap (fun x=>es[x]?) order.toArray).toList=enT prog w (order.filterMap (xs[·]?)):=by
  rw[List.filterMap_toArray];show order.filterMap (fun x=>es[x]?)=_;unfold enT at he ⊢;rw[<- YA,<- he];congr 1;funext k;rw[D8]
 have e2:t.relaid (Array.map (fun x=>x.1) es) (SetTable.grown xs.length)=some (⟨m,place,#[],t.finger,t.led,t.movedTo m,t.plain⟩,order.toArray):=by
  unfold SetTable.relaid;rw[hm,Nat.add_sub_cancel,ah];exact e1
 have s2:(Array.filterMap (fun x=>es[x]?) order.toArray).size=es.size:=by
  rw[<- D3,er,ez];unfold enT;rw[A2,pmx.length_eq]
 unfold setRelay;refine A0 (U0 ho hd hf ?_);dsimp only;rw[A7 (by rw[hm,J8];omega),e2];show wpAny (model prog w) A ((if ((Array.filterMap (fun x=>es[x]?) order.toArray).size != es.size)=true then _ else pure (Array.filterMap (fun x=>es[x]?) order.toArray,(⟨m,place,#[],t.finger,t.led,t.movedTo m,t.plain⟩:SetTable))) >>= _) Q E s;rw[A7 (by rw[s2];simp)];refine A0 (A4 ?_);dsimp only;refine wpAny_storeSet_of ho hd ?_ (by rw[s2,ez,J8];omega);have g1:=GG (es':=Array.filterMap (fun x=>es[x]?) order.toArray) (t':=(⟨m,place,#[],t.finger,t.led,t.movedTo m,t.plain⟩:SetTable)) ho hd;exact h _ _ (Y2 s.heap a _) ⟨⟨_,_,_,_,g1,hx,rfl,er,T,rfl⟩,((pmx.map (·.1)).nodup_iff).mpr nd⟩ pmx
theorem UT{b:Bool}{a c:Addr}{xs:List (List Key×Addr)}{k:List Key}{Q:Bool->Shared->Prop}(S:STu prog w b s.heap a xs)(hx:∀x∈xs,(TK prog w).is s.heap x.1 x.2)(hc:(TK prog w).is s.heap k c)(room:(TK prog w).room A)(len:xs.length<=70)
 (h:∀h' xs' r t',Heap.SameBut a s.heap h'->STu prog w b h' a xs'->((k∈xs.map (·.1)/\xs'=xs)\/(k∉xs.map (·.1)/\xs'.Perm ((k,c)::xs)))->Q r { s with heap:=h',toks:=t' }):
 wpAny (model prog w) A (setAdd a (.ref c)) Q E s:=by
 unfold setAdd;refine E6 (A0 ((TK prog w).pyHash room hc ?_));generalize s.toks+(TK prog w).draws k=tt;obtain⟨⟨o,es,ep,t,ho,hex,hd,he,T,led⟩,nd⟩:=S;have ez:es.size=xs.length:=by rw[<- D3,he];unfold enT;rw[A2]
 have hf:=T.fits (n:=es.size) (by rw[ez,A2]);obtain⟨n,ln,en⟩:=T.search (hT prog w k);have tm:t.mask<=127:=by rcases T.ms with e|e|e<;>omega
 unfold setAddHashed;rw[show(100000:Nat)=Nat.succ 99999 from rfl,setAddHashedIn.eq_2];refine E6 (A0 (U0 (s:={ s with toks:=tt }) ho hd hf ?_));dsimp only;rw[show byScan (Value.ref c) es=false from rfl,A7 A5];refine A0 (KO (s:={ s with toks:=tt }) ho hd he T hx hc room n (t.probeStart (hT prog w k)) none 100000 rfl en ln rfl (by unfold SetTable.turns at ln;omega) (fun i x ex kx=>?_) (fun yes=>?_) (fun no=>?_))
 .have il:i<xs.length:=(List.getElem?_eq_some_iff.mp ex).1;have pl:i<t.place.size:=by rw[T.sz,A2];exact il
  have pj:t.place[i]?=some t.place[i]:=F0 pl
  have zm:(hT prog w k,t.place[i])∈(xs.map fun x=>hT prog w x.1).zip t.place.toList:=by
   refine F8 (i:=i) ?_;rw[List.getElem?_zip_eq_some];refine⟨?_,?_⟩
   .rw[D0,ex,<- kx];rfl
   .rw[D8];exact pj
  obtain⟨m,hm,e⟩:=PZ en (by rw[pY T.rs];rw[<- D8]at pj;exact F8 pj) (T.rc _ zm);exact⟨_,m,pj,hm,e⟩
 .exact A4 (h s.heap xs false tt (Heap.SameBut.refl ..) ⟨⟨o,es,ep,t,ho,hex,hd,he,T,led⟩,nd⟩ (.inl ⟨yes,rfl⟩))
 .obtain⟨j,hj⟩:∃j,(eZ t.mask n (t.probeStart (hT prog w k))).j=j:=⟨_,rfl⟩;obtain⟨p,hp⟩:∃p,SetTable.below t.place j=p:=⟨_,rfl⟩;obtain⟨pt,pl,T'⟩:=T.put en hj hp;rw[hj];dsimp only;refine A0 (U0 (s:={ s with toks:=tt }) ho hd hf ?_);dsimp only;rw[pt];dsimp only;rw[A2]at pl T'
  have he':(SetTable.insertAt es p (hT prog w k,Value.ref c)).toList=enT prog w (xs.take p++(k,c)::xs.drop p):=by
   rw[rO,he];unfold enT;rw[II]
  have ez':(SetTable.insertAt es p (hT prog w k,Value.ref c)).size=xs.length+1:=by
   rw[<- D3,he'];unfold enT;rw[A2,(oV xs p (k,c)).length_eq,C3]
  have nd':((xs.take p++(k,c)::xs.drop p).map (·.1)).Nodup:=((oV xs p (k,c)).map (·.1)).nodup_iff.mpr (List.nodup_cons.mpr ⟨no,nd⟩);have psz:(SetTable.insertAt t.place p j).size=xs.length+1:=by rw[xQ (by rw[T.sz,A2];exact pl),T.sz,A2]
  have fin:∀bv:Bool,wpAny (model prog w) A (do
   let t1:SetTable:=if bv=true then{ t with place:=SetTable.insertAt t.place p j }else{ { t with place:=SetTable.insertAt t.place p j }with plain:=false }
   storeSet a (SetTable.insertAt es p (hT prog w k,Value.ref c)) t1
   if (!false&&t1.tooFull)=true then do
       setRelay a (SetTable.grown (es.size+1))
       pure true
    else pure true) Q E { s with toks:=tt }:=fun bv=>by
   obtain⟨pl1,hpl⟩:∃q:Bool,(if bv=true then({ t with place:=SetTable.insertAt t.place p j }:SetTable)else{ { t with place:=SetTable.insertAt t.place p j }with plain:=false })={ { t with place:=SetTable.insertAt t.place p j }with plain:=q }:=by
    cases bv
    .exact⟨false,rfl⟩
    .exact⟨t.plain,rfl⟩
   dsimp only;rw[hpl];refine A0 (wpAny_storeSet_of (s:={ s with toks:=tt }) ho hd ?_ (by rw[ez',J8];omega));have g1:=GG (h:=s.heap) (es':=SetTable.insertAt es p (hT prog w k,Value.ref c)) (t':={ { t with place:=SetTable.insertAt t.place p j }with plain:=pl1 }) ho hd;have sb:=Y2 s.heap a (Obj.putSet (SetTable.insertAt es p (hT prog w k,Value.ref c)) { { t with place:=SetTable.insertAt t.place p j }with plain:=pl1 })
   have tf:({ { t with place:=SetTable.insertAt t.place p j }with plain:=pl1 }:SetTable).tooFull=decide ((xs.length+1)*5>=t.mask*3):=by
    unfold SetTable.tooFull SetTable.fill;show decide (((SetTable.insertAt t.place p j).size+t.dummies.size)*5>=_)=_;rw[psz,T.dm];rfl
   rw[tf];by_cases c1:(xs.length+1)*5>=t.mask*3
   .rw[C2 c1,A3 (by decide)];have n1:(xs.take p++(k,c)::xs.drop p).length=xs.length+1:=by rw[(oV xs p (k,c)).length_eq,C3]
    have fl:=T.fl;rw[A2]at fl;rw[ez,<- n1];refine A0 (UE (s:={ s with toks:=tt,heap:=_ }) g1 hex rfl he' (by show(SetTable.insertAt t.place p j).size=_;rw[psz,n1]) T.dm (by rw[n1];show _<=t.mask;omega) (by rw[n1];rcases T.ms with e|e|e<;>omega) nd' fun h' xs' hsb hS hpm=>A4 ?_);refine h h' xs' true tt (sb.trans hsb) ?_ (.inr ⟨no,hpm.trans (oV xs p (k,c))⟩);rw[<- led];exact hS
   .rw[D4 c1,A7 (by decide)];have T1:=(T' (by omega)).off pl1;refine A4 (h _ (xs.take p++(k,c)::xs.drop p) true tt sb ⟨⟨_,_,_,_,g1,hex,rfl,he',?_,led⟩,nd'⟩ (.inr ⟨no,oV xs p (k,c)⟩));rw[II];exact T1
  cases hpn:t.plain with
  |true=>
   rw[A3 rfl];refine A0 (LO (s:={ s with toks:=tt }) hc fun r=>?_);have:=fin r;rw[hpn]at this;exact this
  |false=>
   rw[A7 A5];refine A0 (A4 ?_);have:=fin true;rw[hpn]at this;exact this
end
section
variable{prog:Program}{w:World}{A:Around}{E:Value->Shared->Prop}{R:Result->Shared->Prop}{s:Shared}
theorem STu.ty{b:Bool}{a:Addr}{xs:List (List Key×Addr)}(S:STu prog w b s.heap a xs):s.TypeIs (.ref a) "set":=let⟨⟨o,_,_,_,ho,hx,_⟩,_⟩:=S;⟨o,ho,hx.1⟩
theorem STu.same{b:Bool}{h h':Heap}{a:Addr}{xs:List (List Key×Addr)}(S:STu prog w b h a xs)(k:∀o,h.get? a=some o->h'.get? a=some o):STu prog w b h' a xs:=by
 obtain⟨⟨o,es,ep,t,ho,r⟩,nd⟩:=S;exact⟨⟨o,es,ep,t,k o ho,r⟩,nd⟩
theorem aFT(b:Bool):iW (.fresh 0 0 b) []:=⟨rfl,.inl rfl,fun i k _ h=>absurd h (U3 _),rfl,fun j h=>(by simp[SetTable.fresh]at h),by show 0*5<7*3;decide,fun q h=>(by simp at h)⟩
theorem JZ{b:Bool}{a c:Addr}{xs:List (List Key×Addr)}{k:List Key}{Q:Value->Shared->Prop}(S:STu prog w b s.heap a xs)(hx:∀x∈xs,(TK prog w).is s.heap x.1 x.2)(hc:(TK prog w).is s.heap k c)(hu:A.units+1<cLine)(len:xs.length<=70)
 (h:∀h' xs' t',Heap.SameBut a s.heap h'->STu prog w b h' a xs'->((k∈xs.map (·.1)/\xs'=xs)\/(k∉xs.map (·.1)/\xs'.Perm ((k,c)::xs)))->Q .none { s with heap:=h',toks:=t' }):
 wpAny (model prog w) A (call (.builtin "set.add") [.ref a,.ref c]) Q E s:=by
 refine call_meetsIn PySem.F.slot_set_add S.ty PySem.F.entry_set_add (PySem.F.args_set_add_2 _ _) (S:=fun A' R s'=>A'.units+1<cLine/\STu prog w b s'.heap a xs/\(∀x∈xs,(TK prog w).is s'.heap x.1 x.2)/\(TK prog w).is s'.heap k c/\∀h' xs' t',Heap.SameBut a s'.heap h'->STu prog w b h' a xs'->((k∈xs.map (·.1)/\xs'=xs)\/(k∉xs.map (·.1)/\xs'.Perm ((k,c)::xs)))->R (.ok (.ret .none)) { s' with heap:=h',toks:=t' }) ?_ ⟨hu,S,hx,hc,h⟩;rintro A' R s' ⟨hu',S',hx',hc',h'⟩;show wpAny (model prog w) A'.in1 ((pure (a,Value.ref c):Sem (Addr×Value)) >>= _) _ _ s';refine A0 (A4 ?_);dsimp only;refine A0 (UT S' hx' hc' (tupleKind_room_in1 hu') len fun h2 xs2 r t2 q1 q2 q3=>?_);exact A4 (h' h2 xs2 t2 q1 q2 q3)
theorem BF(elt target iter:Expr)(ifs:List Expr)(scope:Scope)(pos:Pos)(it acc:Value)(env:Env):
 compTurn (.SetComp elt [⟨target,iter,ifs,0⟩] scope pos) 0 it acc env=(do
  standAt iter.pos
  match <- pyNext it with
  |none=>pure (Fin.done Flow.next)
  |some v=>do
   letOwnedTupleGo target it v
   assign target env v
   let ok <- forIn ifs true fun c r=>if r=true then(do
    let ok <- isTrue c env (eval c env)
    pure (ForInStep.yield ok))else pure (ForInStep.yield r)
   if ok=true then do
    (do
     let v <- eval elt env
     standAt elt.pos
     let _ <- call (.builtin "set.add") [acc,v]
     pure ())
    again (.compLoop (.SetComp elt [⟨target,iter,ifs,0⟩] scope pos) 0 it acc env)
   else again (.compLoop (.SetComp elt [⟨target,iter,ifs,0⟩] scope pos) 0 it acc env)):=rfl
theorem WY{elt target iter:Expr}{ifs:List Expr}{scope:Scope}{pos:Pos}{it acc:Value}{env:Env}(I:Nat->Shared->Prop)
 (turn:∀n s,I n s->wpAny (model prog w) A (pyNext it) (fun r s1=>(r=none/\R (.ok .next) s1)\/∃v,r=some v /\
  wpAny (model prog w) A (letOwnedTupleGo target it v) (fun _ s2=>wpAny (model prog w) A (assign target env v) (fun _ s3=>
   wpAny (model prog w) A (forIn ifs true fun c r=>if r=true then(do
    let ok <- isTrue c env (eval c env)
    pure (ForInStep.yield ok))else pure (ForInStep.yield r)) (fun ok s4=>
     (ok=true/\wpAny (model prog w) A (eval elt env) (fun x s5=>wpAny (model prog w) A (call (.builtin "set.add") [acc,x]) (fun _ s6=>∃m,m<n/\I m s6) (fun _ _=>False) s5) (fun _ _=>False) s4) \/
     (ok=false/\∃m,m<n/\I m s4)) (fun _ _=>False) s3) (fun _ _=>False) s2) (fun _ _=>False) s1) (fun _ _=>False) s)
 (n:Nat) (h:I n s):codeAny (model prog w) A (.compLoop (.SetComp elt [⟨target,iter,ifs,0⟩] scope pos) 0 it acc env) R s:=by
 refine codeAny_loop rfl I (fun n s hI=>?_) n h
 show wpAny _ A ((compTurn (.SetComp elt [⟨target,iter,ifs,0⟩] scope pos) 0 it acc env).onRaise fun x=>do
  noteFrame x env
  theTreesLotGoes x) _ _ s
 refine wpAny_noted ?_;rw[BF];refine A0 (O3 (A0 (D5 (turn n s hI) (fun r s1 h1=>?_) fun _ _ f=>f.elim)));rcases h1 with⟨rfl,h1⟩|⟨v,rfl,h1⟩
 .exact A4 h1
 .refine A0 (D5 h1 (fun _ s2 h2=>?_) fun _ _ f=>f.elim);refine A0 (D5 h2 (fun _ s3 h3=>?_) fun _ _ f=>f.elim);refine A0 (D5 h3 (fun ok s4 h4=>?_) fun _ _ f=>f.elim);rcases h4 with⟨rfl,h4⟩|⟨rfl,h4⟩
  .refine A0 (A0 (D5 h4 (fun x s5 h5=>?_) fun _ _ f=>f.elim));exact A0 (O3 (A0 (D5 h5 (fun _ s6 h6=>A4 (A4 ⟨rfl,h6⟩)) fun _ _ f=>f.elim)))
  .exact A4 ⟨rfl,h4⟩
theorem yF{elt target iter:Expr}{ifs:List Expr}{scope:Scope}{pos:Pos}{it acc:Value}{env:Env}
 (h0:codeAny (model prog w) A (.compLoop (.SetComp elt [⟨target,iter,ifs,0⟩] scope pos) 0 it acc env) R s)
 (h:wpAny (model prog w) A (pyIter it) (fun it' s'=>codeAny (model prog w) A (.compLoop (.SetComp elt [⟨target,iter,ifs,0⟩] scope pos) 0 it' acc env) R s') (notedBy (model prog w) A env fun x s'=>R (.error x) s') s):
 codeAny (model prog w) A (.compStart (.SetComp elt [⟨target,iter,ifs,0⟩] scope pos) 0 it acc env) R s:=by
 refine codeAny_of_tree (wpAny_notedAt (A0 (wpAny_askSetting ?_)));split
 .exact A0 (A4 (A4 ⟨rfl,h0⟩))
 .exact A0 (wpAny_rule (A0 (O3 (A0 (D5 h (fun it' s' h'=>A4 ⟨rfl,h'⟩) fun _ _ z=>z)))))
end
noncomputable def stO(D:Addr)(xs:List (List Key×Addr)):HO:=.ext fun h=>∃P w b,STu P w b h D xs
noncomputable def aAZ(H:Hp)(acc:List (Addr×List Key)):Prop:=∀q∈acc,H q.1=some (.tup (q.2.map kV))
structure GT(acc:List (Addr×List Key))(xs:List (List Key×Addr)):Prop where
 fr:∀x∈xs,(x.2,x.1)∈acc
 to:∀q∈acc,q.2∈xs.map (·.1)
theorem GT.step{acc:List (Addr×List Key)}{xs xs':List (List Key×Addr)}{k:List Key}{c:Addr}(e:GT acc xs)(h:(k∈xs.map (·.1)/\xs'=xs)\/(k∉xs.map (·.1)/\xs'.Perm ((k,c)::xs))):GT (acc++[(c,k)]) xs':=by
 rcases h with⟨hk,rfl⟩|⟨hk,pm⟩
 .refine⟨fun x hx=>C5 _ (e.fr x hx),fun q hq=>?_⟩;rcases List.mem_append.mp hq with z|z
  .exact e.to q z
  .rw[List.mem_singleton.mp z];exact hk
 .refine⟨fun x hx=>?_,fun q hq=>?_⟩
  .rcases List.mem_cons.mp (pm.mem_iff.mp hx)with rfl|z
   .exact B5 _ (List.mem_singleton.mpr rfl)
   .exact C5 _ (e.fr x z)
  .rw[(pm.map (·.1)).mem_iff,A9];rcases List.mem_append.mp hq with z|z
   .exact B0 _ (e.to q z)
   .rw[List.mem_singleton.mp z];exact B7
theorem GT.len{acc:List (Addr×List Key)}{xs:List (List Key×Addr)}(e:GT acc xs)(nd:(xs.map (·.1)).Nodup):∀{ks:List (List Key)},ks.Nodup->(∀k,k∈ks↔k∈acc.map (·.2))->xs.length=ks.length:=fun{ks} nk mk=>by
 have pm:(xs.map (·.1)).Perm ks:=(List.perm_ext_iff_of_nodup nd nk).mpr fun k=>by
  rw[mk];constructor
  .intro h;obtain⟨x,hx,rfl⟩:=List.mem_map.mp h;exact List.mem_map.mpr ⟨(x.2,x.1),e.fr x hx,rfl⟩
  .intro h;obtain⟨q,hq,rfl⟩:=List.mem_map.mp h;exact e.to q hq
 rw[<- pm.length_eq,A2]
noncomputable def tSc(cap:List (Option Nat))(wi:TI)(g:TG)(tc:TT)(te:TE):TE:=fun σ H Q=>wi σ H fun J H1=>∃W:Nat->Nat->List (Addr×List Key)->St->Hp->Prop,(∃m,W 0 m [] (mO cap σ) H1)/\∀i m acc σ' H',W i m acc σ' H'->
 (J.stop i H'/\∀p xs,H' p=none->GT acc xs->(xs.map (·.1)).Nodup->Q (.ref p) (upd H' p (stO p xs))) \/
 (J.go i H'/\acc.length<70/\∃N:List (Addr×List Key)->St->Hp->Prop,(∀acc' σ2 H2,N acc' σ2 H2->∃m',m'<m/\W (i+1) m' acc' σ2 H2)/\∀x H2,J.yld i H' x H2->g x σ' H2 fun σ2 H3=>tc σ2 H3 fun b H4=>(b=true/\te σ2 H4 fun v H5=>∃c k,v=.ref c/\aAZ H5 (acc++[(c,k)])/\N (acc++[(c,k)]) σ2 H5)\/(b=false/\N acc σ2 H4))
section
variable{X:Cx}{N':List Str}{cap:List (Option Nat)}{scope:Scope}
theorem aDE{elt tg iter:Expr}{ifs:List Expr}{pos:Pos}{wi:TI}{g:TG}{tc:TT}{te:TE}(hu:X.A.units+1<cLine)(hc:X.calm=true)(S:nP X N' cap scope)(hi:PI X tg iter wi)
 (hg:∀C s H fp pn,PG (eW X N' scope C s H fp pn) tg g) (hif:∀C s H fp pn,yB (eW X N' scope C s H fp pn) ifs tc) (he:∀C s H fp pn,PE (eW X N' scope C s H fp pn) elt te)
 (hs:∀x,foldedSetIterable iter X.env x=pure x) {pins:List (Addr×Obj)} {s:Shared} {σ:St} {H:Hp} {Q:VK} (I:Inv X pins σ H s) (h:tSc cap wi g tc te σ H Q)
 {use:Option (Value->Sem Unit)} {QQ:Value->Shared->Prop}
 (post:∀(D C:Addr)(H':Hp)(xs:List (List Key×Addr))(s':Shared),D≠C->(∃m,s'.heap.Ns C m)->(∀h',Heap.SameBut C s'.heap h'->Inv X pins σ (upd H' D (stO D xs)) { s' with heap:=h' })->qD X pins (upd H' D (stO D xs)) C->Q (.ref D) (upd H' D (stO D xs))->compPost (model X.prog X.w) X.A X.xe use QQ (.ref D) C (.ok .next) s'):
 wpAny (model X.prog X.w) X.A (comprehension (.SetComp elt [⟨tg,iter,ifs,0⟩] scope pos) scope X.env (firstIterPos [⟨tg,iter,ifs,0⟩] pos) (newSet (.type "set")) false (firstIter [⟨tg,iter,ifs,0⟩] X.env) use) QQ X.xe s:=by
 refine wpAny_comprehension_free (e:=.SetComp elt [⟨tg,iter,ifs,0⟩] scope pos) (g:=⟨tg,iter,ifs,0⟩) (gs:=[]) rfl hs (rH (S.cells I.ok)) S.kind S.names ?_;refine thn (hi pins s σ H _ I h) fun v s1 h1=>thn h1 fun itv s2 h2=>?_;obtain⟨it,fp,tn,J,H2,e,I2,T,st2,f2,W,⟨m0,w0⟩,turn⟩:=h2;subst e
 have fplt:∀b∈fp,b<s2.heap.objs.size:=fun b hb=>by
  obtain⟨o,e,_⟩:=T.obj _ _ st2 b hb;exact B2 e
 unfold newSet;refine A0 (NR ?_);generalize (!aAA X.w)=bt;refine E1 (wpAny_newFunctionEnv S.nocell (fun y hy=>by simp at hy) (fun h1' hns hsb=>?_) S.kind);dsimp only at hns hsb ⊢;generalize hP:s2.heap.push { cls:=.type "set",dict:=none,data:=.set #[] 0 (.fresh 0 0 bt) }=P2 at hns hsb ⊢;have hsz:P2.objs.size=s2.heap.objs.size+1:=by rw[<- hP,S4]
 have hDC:s2.heap.objs.size≠P2.objs.size:=by rw[hsz];exact B8 (E7 _)
 have hC:s2.heap.objs.size<=P2.objs.size:=by rw[hsz];exact Nat.le_succ _
 have keepP:∀b o,P2.get? b=some o->b≠P2.objs.size->h1'.get? b=some o:=fun b o e hb=>hsb.extBut b o hb (B3 _ e);have old:∀b o,s2.heap.get? b=some o->h1'.get? b=some o:=fun b o e=>keepP b o (by rw[<- hP];exact B3 _ e) (B8 (A8 (B2 e) hC));have hD0:h1'.get? s2.heap.objs.size=some { cls:=.type "set",dict:=none,data:=.set #[] 0 (.fresh 0 0 bt) }:=keepP _ _ (by rw[<- hP];exact C6 _ rfl) hDC
 have I4:Inv (eW X N' scope P2.objs.size s2 H2 fp pins) [] (mO cap σ) H2 { s2 with heap:=h1',toks:=s2.toks+([]:List (Str×Value)).length }:=
  DH S I2 f2 fplt hC (by simpa using hns) old
 have S0:STu X.prog X.w bt h1' s2.heap.objs.size []:=⟨⟨_,_,_,_,hD0,⟨rfl,rfl,rfl⟩,rfl,rfl,aFT bt,rfl⟩,J9⟩
 have loop:∀s4:Shared,s4={ s2 with heap:=h1',toks:=s2.toks+([]:List (Str×Value)).length }->
  codeAny (model X.prog X.w) X.A (.compLoop (.SetComp elt [⟨tg,iter,ifs,0⟩] scope pos) 0 (.ref it) (.ref s2.heap.objs.size) (compEnvC scope (bV X.env scope.names []) P2.objs.size X.env)) (compPost (model X.prog X.w) X.A X.xe use QQ (.ref s2.heap.objs.size) P2.objs.size) s4:=by
  rintro s4 rfl
  have hfrD:s2.heap.objs.size∉frs X.stack:=fun hb=>by
   obtain⟨_,o,ho,_⟩:=I2.stack.mem hb;exact absurd (B2 ho) (E2 _)
  have cne:∀x c,(bV X.env scope.names []).lookup x=some c->c<s2.heap.objs.size:=fun x c e=>by
   obtain⟨v,q⟩:=I2.cell x c (S.sub I2.ok x c e);exact q.lt
  have stat:∀{Hx:Hp}{ob:Obj},(∀b∈fp,Hx b=none)->∀b∈fp,qD (eW X N' scope P2.objs.size s2 H2 fp pins) [(s2.heap.objs.size,ob)] Hx b:=fun{Hx ob} hn b hb=>by
   refine⟨hn b hb,B8 (A8 (fplt b hb) hC),I2.stkAll (f2 b hb).2.1 (f2 b hb).2.2.1,.inl hb,fun x c e=>(f2 b hb).2.2.2.2.1 x c (S.sub I2.ok x c e),fun p hp=>?_⟩;rcases List.mem_append.mp hp with z|z
   .exact(f2 b hb).2.2.2.2.2 p z
   .rw[List.mem_singleton.mp z];exact O4 (fplt b hb)
  refine WY (fun n s'=>∃(i:Nat)(σ':St)(H':Hp)(acc:List (Addr×List Key))(xs:List (List Key×Addr)),Inv (eW X N' scope P2.objs.size s2 H2 fp pins) [] σ' H' s'/\tn i s'.heap/\(∀b∈fp,H' b=none)/\H' s2.heap.objs.size=none /\
   STu X.prog X.w bt s'.heap s2.heap.objs.size xs/\GT acc xs/\xs.length<=acc.length/\W i n acc σ' H') ?_ m0
   ⟨0,mO cap σ,H2,[],[],I4,T.keep _ _ _ st2 fun b _ o e=>old b o e,fun b hb=>(f2 b hb).1,I2.hok.fresh (A6 _),S0,⟨fun x h=>by simp at h,fun q h=>by simp at h⟩,A6 _,w0⟩
  rintro n s5 ⟨i,σ',H',acc,xs,I5,t5,fr5,d5,S5,el5,la,w5⟩;obtain⟨ob,g5⟩:∃ob,s5.heap.get? s2.heap.objs.size=some ob:=let⟨⟨o,_,_,_,ho,_⟩,_⟩:=S5;⟨o,ho⟩
  have nfr:∀v,ob.data≠.cell v:=fun v z=>by
   obtain⟨⟨o,_,_,_,ho,_,hd,_⟩,_⟩:=S5;rw[g5]at ho;cases ho;rw[z]at hd;cases hd
  have I5p:Inv (eW X N' scope P2.objs.size s2 H2 fp pins) [(s2.heap.objs.size,ob)] σ' H' s5:=I5.pins_of fun p hp=>by
   rw[List.mem_singleton.mp hp];exact⟨g5,d5,hDC,hfrD,fun v z=>absurd z (nfr v)⟩
  rcases turn i n acc σ' H' w5 with⟨stop,q⟩|⟨go,lt,N,hN,step⟩
  .refine thn (T.done (eW X N' scope P2.objs.size s2 H2 fp pins) rfl rfl rfl hc i _ s5 σ' H' _ I5p (stat fr5) t5 stop) fun r s6 ⟨hr,I6⟩=>.inl ⟨hr,?_⟩;have d6:=(I6.pin (s2.heap.objs.size,ob) (by simp)).1;have S6:STu X.prog X.w bt s6.heap s2.heap.objs.size xs:=S5.same fun o z=>by rw[g5]at z;cases z;exact d6
   have nC:H' P2.objs.size=none:=I6.free;refine post _ _ H' xs s6 hDC (let⟨m,hn,_⟩:=I6.loc;⟨m,hn⟩) (fun h' hs'=>?_) (I2.fpOk hC (by rw[aP hDC.symm];exact nC)) (q _ xs d5 el5 S6.nd);have up:∀b o,b≠P2.objs.size->s6.heap.get? b=some o->h'.get? b=some o:=fun b o hb e=>hs'.extBut b o hb e;have ltC:∀b o,s2.heap.get? b=some o->b≠P2.objs.size/\b≠s2.heap.objs.size:=fun b o e=>⟨B8 (A8 (B2 e) hC),B8 (B2 e)⟩;have u6:Un (frs X.stack) fp H2 H' s2.heap s6.heap:=I6.base
   have u7:Un (frs X.stack) fp H2 (upd H' s2.heap.objs.size (stO s2.heap.objs.size xs)) s2.heap h':=by
    refine⟨fun b o e n hb hx=>up b o (ltC b o e).1 (u6.keep b o e n hb hx),fun b o e n hb hx=>?_,fun b o e n hx=>?_,fun b o e hx=>?_,fun b xs e=>?_,fun b o u e=>?_,fun b ps e=>?_⟩
    .obtain⟨sl,q⟩:=u6.slot b o e n hb hx;exact⟨sl,up b _ (ltC b o e).1 q⟩
    .rw[aP (ltC b o e).2];exact u6.free b o e n hx
    .obtain⟨o',q⟩:=u6.there b o e hx;exact⟨o',up b o' (ltC b o e).1 q⟩
    .have z:=u6.tups b xs e;rw[aP (aO z d5)];exact z
    .have z:=u6.frzs b o u e;rw[aP (aO z d5)];exact z
    .obtain⟨more,z⟩:=u6.tbls b ps e;exact⟨more,by rw[aP (aO z d5)];exact z⟩
   have ok7:HOk X.prog X.w (upd H' s2.heap.objs.size (stO s2.heap.objs.size xs)) h':=fun b u e=>by
    by_cases hb:b=s2.heap.objs.size
    .subst hb;rw[aX]at e;cases e;have S7:=S6.same (h':=h') fun o z=>up _ _ hDC z;exact⟨⟨X.prog,X.w,bt,S7⟩,⟨ob,up _ _ hDC d6⟩,fun h1 h2 ⟨P,w,b,z⟩ k=>⟨P,w,b,z.same k⟩⟩
    .rw[aP hb]at e;refine(I6.hok b u e).stay (fun c v hc' z=>up c v ?_ z) (fun c z=>by rw[aP (aO z d5)];exact z) fun c xs z=>by rw[aP (aO z d5)];exact z
     rcases hc' with rfl|z
     .exact aO e nC
     .exact aO z nC
   have os6:s6.os=s2.os:=I6.os;have ba6:=I6.bare;obtain⟨hh,gg,dd,tt,oo⟩:=s6;subst os6;have z7:=I2.call (s:=s2) (h':=h') (g':=gg) (d':=dd) (t':=tt) (ch:=fp) u7 ok7 ba6 fun b hb=>⟨(f2 b hb).2.2.2.1,(f2 b hb).2.1,(f2 b hb).2.2.2.2.1,(f2 b hb).2.2.2.2.2⟩;exact z7
  .refine thn (T.item (eW X N' scope P2.objs.size s2 H2 fp pins) rfl rfl rfl hc i _ s5 σ' H' _ I5p (stat fr5) t5 go) fun r s6 ⟨u,hr,h6⟩=>.inr ⟨u,hr,?_⟩;refine thn h6 fun _ s7 ⟨x,H7,I7,r7,y7,t7,fr7⟩=>?_;have I7':=I7.pinned (stat fr7) (T.obj _ _ t7)
   have back:∀{σx:St}{Hx:Hp}{sx:Shared},Inv (eW X N' scope P2.objs.size s2 H2 fp pins) ([(s2.heap.objs.size,ob)]++qW fp s7.heap) σx Hx sx->
    (∀b∈fp,∀o,s7.heap.get? b=some o->sx.heap.get? b=some o)/\(∀b∈fp,Hx b=none)/\STu X.prog X.w bt sx.heap s2.heap.objs.size xs/\Hx s2.heap.objs.size=none:=fun{σx Hx sx} Ix=>by
    refine⟨fun b hb o e=>(Ix.pin (b,o) (B5 _ (B5 _ (eR hb e)))).1,fun b hb=>?_,?_,?_⟩
    .obtain⟨o,e,_⟩:=T.obj _ _ t7 b hb;exact(Ix.pin (b,o) (B5 _ (B5 _ (eR hb e)))).2.1
    .have z:=(Ix.pin (s2.heap.objs.size,ob) (B5 _ (C5 _ (List.mem_singleton.mpr rfl)))).1;exact S5.same fun o y=>by rw[g5]at y;cases y;exact z
    .exact(Ix.pin (s2.heap.objs.size,ob) (B5 _ (C5 _ (List.mem_singleton.mpr rfl)))).2.1
   refine thn (hg _ _ _ _ _ _ s7 σ' H7 x u _ I7' r7 (step x H7 y7)) fun _ s8 ⟨σ8,H8,I8,q8⟩=>?_;refine thn (hif _ _ _ _ _ _ s8 σ8 H8 _ I8 q8) fun b s9 ⟨H9,I9,q9⟩=>?_;rcases q9 with⟨rfl,q9⟩|⟨rfl,n9⟩
   .refine .inl ⟨rfl,thn (he _ _ _ _ _ _ s9 σ8 H9 _ I9 q9) fun uv s10 ⟨v,H10,I10,rv,c,k,ev,tu,n10⟩=>?_⟩;subst ev;cases (show uv=Value.ref c from rv);obtain⟨m',hm,w10⟩:=hN _ _ _ n10;obtain⟨b1,b2,b3,b4⟩:=back I10;have isx:∀x∈xs,(TK X.prog X.w).is s10.heap x.1 x.2:=fun x hx=>BN I10.hok (tu (x.2,x.1) (C5 _ (el5.fr x hx)));have isc:(TK X.prog X.w).is s10.heap k c:=BN I10.hok (tu (c,k) (B5 _ (List.mem_singleton.mpr rfl)));refine JZ b3 isx isc hu (by omega) fun h' xs' t' hs' S' hor=>?_;have up:∀b o,b≠s2.heap.objs.size->s10.heap.get? b=some o->h'.get? b=some o:=fun b o hb e=>hs'.extBut b o hb e;have I10':Inv (eW X N' scope P2.objs.size s2 H2 fp pins) [] σ8 H10 s10:=I10.pins_of fun p hp=>absurd hp (by simp);refine⟨m',hm,i+1,σ8,H10,acc++[(c,k)],xs',I10'.turned (t':=t') up b4 hDC (.inr (A6 _)) (fun x c e=>B8 (cne x c e)) (fun p hp=>?_),T.keep _ _ _ t7 fun b hb o e=>up b o (B8 (fplt b hb)) (b1 b hb o e),b2,b4,S',el5.step hor,?_,w10⟩
    .have hp':p∈X.pn++pins:=by
      rcases List.mem_append.mp hp with z|z
      .exact z
      .exact absurd z (by simp)
     exact B8 (B2 (I2.pin p hp').1)
    .rw[B4,D7];rcases hor with⟨_,rfl⟩|⟨_,pm⟩
     .omega
     .rw[pm.length_eq,C3];omega
   .obtain⟨m',hm,w9⟩:=hN _ _ _ n9;obtain⟨b1,b2,b3,b4⟩:=back I9;exact .inr ⟨rfl,m',hm,i+1,σ8,H9,acc,xs,I9.pins_of fun p hp=>absurd hp (by simp),T.keep _ _ _ t7 b1,b2,b4,b3,el5,la,w9⟩
 exact yF (loop _ rfl) (T.self _ 0 _ _ _ (T.keep _ _ _ st2 fun b _ o e=>old b o e) (loop _ rfl))
theorem aEs{elt tg iter:Expr}{ifs:List Expr}{pos:Pos}{wi:TI}{g:TG}{tc:TT}{te:TE}(hu:X.A.units+1<cLine)(hc:X.calm=true)(S:nP X N' cap scope)(hi:PI X tg iter wi)
 (hg:∀C s H fp pn,PG (eW X N' scope C s H fp pn) tg g) (hif:∀C s H fp pn,yB (eW X N' scope C s H fp pn) ifs tc) (he:∀C s H fp pn,PE (eW X N' scope C s H fp pn) elt te)
 (hs:∀x,foldedSetIterable iter X.env x=pure x:=by intro _;rfl):PE X (.SetComp elt [⟨tg,iter,ifs,0⟩] scope pos) (tSc cap wi g tc te):=by
 intro pins s σ H Q I h;rw[arm_eval_SetComp];refine aDE (use:=none) (Q:=Q) hu hc S hi hg hif he hs I h fun D C H' xs s' hDC ⟨m,hn⟩ hI _ hq=>⟨m,hn,fun h' hs'=>?_⟩;exact⟨.ref D,_,hI h' hs',rfl,hq⟩
noncomputable def aAh:List V->Hp->VK->Prop:=fun xs H Q=>∃D ys,xs=[.ref D]/\H D=some (stO D ys)/\ys.length<=100/\Q (.int ys.length) H
theorem LW:eO X (.builtin "len") aAh:=by
 intro pins s σ H xs us Q I r h;obtain⟨D,ys,rfl,hD,hl,q⟩:=h;cases r with
 |cons r1 r2=>
  cases r2;cases (show _=Value.ref D from r1);obtain⟨⟨P,w,b,⟨o,es,ep,t,ho,hx,hd,he,T,_⟩,nd⟩,_⟩:=(show cS X.prog X.w H s.heap D (stO D ys)from I.hok D _ hD);have ez:es.size=ys.length:=by rw[<- D3,he];unfold enT;rw[A2]
  refine call_len_set ho hx hd (T.fits (by rw[ez,A2])) (by rw[ez];omega) ?_;rw[ez];exact⟨.int ys.length,H,I.tok _,⟨_,rfl⟩,q⟩
end
noncomputable def kW:List (List Key)->List (List Key)
 |[]=>[]
 |k::ks=>if ((kW ks).any fun x=>decide (x=k))=true then kW ks else k::kW ks
theorem any_mem{k:List Key}{l:List (List Key)}:(l.any fun x=>decide (x=k))=true↔k∈l:=by
 rw[List.any_eq_true];exact⟨fun⟨x,hx,e⟩=>C0 e▸hx,fun h=>⟨k,h,C2 rfl⟩⟩
theorem sH(k:List Key):∀ks,k∈kW ks↔k∈ks
 |[]=>Iff.rfl
 |a::ks=>by
  have ih:=sH k ks;unfold kW;by_cases c:a∈kW ks
  .rw[A3 (any_mem.mpr c),ih,List.mem_cons];refine⟨.inr,fun h=>h.elim (fun e=>?_) id⟩;rw[e];exact(sH a ks).mp c
  .rw[A7 (fun z=>c (any_mem.mp z)),List.mem_cons,List.mem_cons,ih]
theorem BZ:∀ks,(kW ks).Nodup
 |[]=>J9
 |a::ks=>by
  unfold kW;by_cases c:a∈kW ks
  .rw[A3 (any_mem.mpr c)];exact BZ ks
  .rw[A7 (fun z=>c (any_mem.mp z))];exact List.nodup_cons.mpr ⟨c,BZ ks⟩
theorem wU:∀ks,(kW ks).length<=ks.length
 |[]=>A6 _
 |a::ks=>by
  have:=wU ks;unfold kW;split
  .show _<=ks.length+1;omega
  .show _+1<=ks.length+1;omega
noncomputable def scF(g:GF)(c:TF)(fk:KF):List CD->Ga->Sto->Option (List (List Key)×Sto)
 |[],_,M=>some ([],M)
 |x::xs,γ,M=>(g x γ M).bind fun a=>(c a.1 a.2).bind fun b=>if b.1=true then(fk a.1 b.2).bind fun k=>match k.1 with
  |.inr ks=>(scF g c fk xs a.1 k.2).bind fun q=>some (ks::q.1,q.2)
  |.inl _=>none
  else scF g c fk xs a.1 b.2
noncomputable def BY(cap:List (Option Nat))(f:AF)(g:GF)(c:TF)(fk:KF):EF:=fun γ M=>(f γ M).bind fun r=>if r.1.length<=70 then(scF g c fk r.1 (vB cap γ) r.2).bind fun q=>some (.d (.int ((kW q.1).length:Nat)),q.2)else none
section
variable{K:Fg}{tg:TG}{tt:TT}{hg:GF}{ft:TF}{fa:AF}
theorem RF{wi:TI}{cap:List (Option Nat)}{tk:TE}{fk:KF}(i:SI K wi fa)(a:SG K tg hg)(c:STt K tt ft)(b:SK K tk fk):
 SE K (tCB aAh (oD (tSc cap wi tg tt tk) FL)) (BY cap fa hg ft fk):=by
 intro γ M x M' hh W H σ Q G R k;obtain⟨⟨ys,M1⟩,h1,hh⟩:=aJ hh;have hh:(if ys.length<=70 then(scF hg ft fk ys (vB cap γ) M1).bind fun q=>some (CD.d (.int ((kW q.1).length:Nat)),q.2)else none)=some (x,M'):=hh;by_cases hl:ys.length<=70
 .rw[A3 hl]at hh;obtain⟨⟨ks,M9⟩,h9,hh⟩:=aJ hh;cases hh;refine i _ _ _ _ h1 W H σ _ G R fun J W1 H1 e1 G1 gv=>?_
  refine⟨fun j m acc σ' H'=>∃γ' M3 W3 suf,j<=ys.length/\m=ys.length-j/\acc.length<=j/\W1.Ext W3/\Good K W3 M3 H'/\cL K W3 γ' σ'/\(∀q∈acc,W3.F q.1=some (.tup (q.2.map kV)))/\acc.map (·.2)++suf=ks/\scF hg ft fk (ys.drop j) γ' M3=some (suf,M9),
   ⟨_,vB cap γ,M1,W1,ks,D2 _,rfl,D2 _,.refl _,G1,AH (R.up e1) cap,fun q h=>by simp at h,rfl,h9⟩,?_⟩
  rintro j m acc σ' H' ⟨γ',M3,W3,suf,hj,rfl,hacc,e3,G3,R3,tu,hx,h3⟩;obtain⟨gv1,gv2⟩:=gv W3 M3 H' e3 G3;by_cases hlt:j<ys.length
  .obtain⟨go,yl⟩:=gv1 j ys[j] (B9 hlt);rw[List.drop_eq_getElem_cons hlt]at h3;refine .inr ⟨go,by omega,fun acc4 σ4 H4=>∃γ4 M4 W4 suf4,acc4.length<=j+1/\W3.Ext W4/\Good K W4 M4 H4/\cL K W4 γ4 σ4/\(∀q∈acc4,W4.F q.1=some (.tup (q.2.map kV)))/\acc4.map (·.2)++suf4=ks/\scF hg ft fk (ys.drop (j+1)) γ4 M4=some (suf4,M9),?_,fun y H4 hy=>?_⟩
   .rintro acc4 σ4 H4 ⟨γ4,M4,W4,suf4,hl4,e4,G4,R4,tu4,hx4,h4⟩;exact⟨_,by omega,γ4,M4,W4,suf4,hlt,rfl,hl4,e3.trans e4,G4,R4,tu4,hx4,h4⟩
   .obtain⟨W8,e8,G8,ry⟩:=yl y H4 hy;obtain⟨⟨γ5,M5⟩,h5,h3⟩:=aJ (show(hg ys[j] γ' M3).bind _=_ from h3);obtain⟨⟨b6,M6⟩,h6,h3⟩:=aJ h3;refine a _ _ _ _ _ h5 W8 _ σ' y _ G8 (R3.up e8) ry fun σ5 W5 H5 e5 G5 R5=>?_;refine c _ _ _ _ h6 W5 H5 σ5 _ G5 R5 fun W6 H6 e6 G6=>?_;have e36:=(e8.trans e5).trans e6;cases b6 with
    |true=>
     rw[A3 rfl]at h3;obtain⟨⟨ky,M7⟩,h7,h3⟩:=aJ h3;cases ky with
     |inl _=>cases h3
     |inr kk=>
      obtain⟨⟨sf,M8⟩,h8,h3⟩:=aJ (show(scF hg ft fk (ys.drop (j+1)) γ5 M7).bind _=_ from h3);cases h3;refine .inl ⟨rfl,b _ _ _ _ h7 W6 H6 σ5 _ G6 (R5.up e6) fun yv W7 H7 e7 G7 r7=>?_⟩;obtain⟨q,rfl,fq⟩:=(show ∃b,yv=V.ref b/\W7.F b=some (.tup (kk.map kV))from r7);have e37:=e36.trans e7
      have tu7:∀z∈acc++[(q,kk)],W7.F z.1=some (.tup (z.2.map kV)):=fun z hz=>by
       rcases List.mem_append.mp hz with z1|z1
       .exact e37.ff _ _ (tu z z1)
       .rw[List.mem_singleton.mp z1];exact fq
      refine⟨q,kk,rfl,fun z hz=>G7.fh _ _ (tu7 z hz),γ5,M7,W7,sf,?_,e37,G7,R5.up (e6.trans e7),tu7,?_,h8⟩
      .rw[B4,D7];omega
      .rw[<- hx,E5,D9];rfl
    |false=>
     rw[A7 A5]at h3;exact .inr ⟨rfl,γ5,M6,W6,suf,by omega,e36,G6,R5.up e6,fun z hz=>e36.ff _ _ (tu z hz),hx,h3⟩
  .have ej:j=ys.length:=by omega
   subst ej;rw[List.drop_length]at h3;cases h3;rw[D1]at hx;refine .inl ⟨gv2,fun p xs hp el nd=>?_⟩;have len:=el.len nd (BZ ks) fun k=>by rw[sH,hx]
   have dl:=wU ks;have kl:ks.length<=ys.length:=by rw[<- hx,A2];exact hacc
   have G4:=G3.extra (o:=stO p xs) hp;refine⟨p,xs,rfl,aX,by omega,?_⟩;rw[len];exact k _ _ _ (e1.trans e3) G4 rfl
 .rw[A7 hl]at hh;cases hh
theorem cX.uS{k:Nat}{A:Around}(r:cX k A):A.units+1<cLine:=by have:=r.un;omega
variable{ι:Type}{X:ι->Cx}{N':List Str}{cap:List (Option Nat)}{scope:Scope}{tg' iter kx:Expr}{ifs:List Expr}{gf:GF}{fk:KF}{pos pos' p:Pos}
theorem UM(hu:∀i,(X i).A.units+1<cLine)(hc:∀i,(X i).calm=true)(hm:∀i,(X i).mg "len"=none)(S:∀i,nP (X i) N' cap scope)(x:MI K X tg' iter fa)(y:MG K (rW X N' scope) tg' gf)(z:MF K (rW X N' scope) ifs ft)(w:MK K (rW X N' scope) kx fk)(hg:∀i,Gl (X i) "len":=by intro _;rfl)(hs:∀(env:Env)(x:Value),foldedSetIterable iter env x=pure x:=by intro _ _;rfl):
 ME K X (.Call (.Name "len" p) [.SetComp kx [⟨tg',iter,ifs,0⟩] scope pos'] [] pos) (BY cap fa gf ft fk):=by
 obtain⟨t,x1,x2⟩:=x.ex;obtain⟨u,y1,y2⟩:=y.ex;obtain⟨v,z1,z2⟩:=z.ex;obtain⟨o,w1,w2⟩:=w.ex;exact⟨_,fun i=>oE LW (hg i) (hm i) U9 (hE (aEs (hu i) (hc i) (S i) (x1 i) (fun C s H fp pn=>y1 (i,C,s,H,fp,pn)) (fun C s H fp pn=>z1 (i,C,s,H,fp,pn)) (fun C s H fp pn=>w1 (i,C,s,H,fp,pn)) (hs _)) tR (by rfl)) (by decide) (by decide) (by rfl) (by rfl),RF x2 y2 z2 w2⟩
end
theorem mD:∀(names:List (Str×NameKind))(n:Nat)(acc:List (Str×Addr))(x:Str),
 ((cellsFrom n names acc).lookup x=acc.lookup x/\(x,NameKind.cell)∉names) \/
 (∃c,(cellsFrom n names acc).lookup x=some c/\n<=c/\(x,NameKind.cell)∈names/\∀h:Heap,h.objs.size=n->(pushCells h names).IsCell c none)
 |[]=>fun n acc x=>.inl ⟨rfl,by simp⟩
 |(y,k)::r=>fun n acc x=>by
  unfold cellsFrom;by_cases hk:(k==NameKind.cell)=true
  .have hk':k=.cell:=eq_of_beq hk;rw[A3 hk];rcases mD r (n+1) ((y,n)::acc) x with⟨z,hn⟩|⟨c,z,hle,hm,hc⟩
   .by_cases hx:(x==y)=true
    .refine .inr ⟨n,?_,A6 _,by rw[hk',eq_of_beq hx];exact B7,fun h hh=>?_⟩
     .rw[z,C7,hx]
     .unfold pushCells;rw[A3 hk];exact⟨_,pushCells_keeps _ _ _ _ (by rw[<- hh];exact C6 _ rfl),rfl⟩
    .have hx':(x==y)=false:=by simpa using hx
     refine .inl ⟨by rw[z,C7,hx'],fun hm=>?_⟩;rcases List.mem_cons.mp hm with e|e
     .cases e;simp at hx
     .exact hn e
   .refine .inr ⟨c,z,Nat.le_of_succ_le hle,B0 _ hm,fun h hh=>?_⟩;unfold pushCells;rw[A3 hk];exact hc _ (by rw[S4,hh])
  .rw[A7 hk];rcases mD r n acc x with⟨z,hn⟩|⟨c,z,hle,hm,hc⟩
   .refine .inl ⟨z,fun hm=>?_⟩;rcases List.mem_cons.mp hm with e|e
    .cases e;exact hk rfl
    .exact hn e
   .refine .inr ⟨c,z,hle,B0 _ hm,fun h hh=>?_⟩;unfold pushCells;rw[A7 hk];exact hc _ hh
theorem FR:∀(names:List (Str×NameKind))(n:Nat)(acc:List (Str×Addr)),(∀x c,acc.lookup x=some c->c<n)->(∀x y c,acc.lookup x=some c->acc.lookup y=some c->x=y)->
 ∀x y c,(cellsFrom n names acc).lookup x=some c->(cellsFrom n names acc).lookup y=some c->x=y
 |[]=>fun n acc _ h=>h
 |(y,k)::r=>fun n acc hl h=>by
  unfold cellsFrom;by_cases hk:(k==NameKind.cell)=true
  .rw[A3 hk];refine FR r (n+1) _ (fun x c e=>?_) (fun x z c e1 e2=>?_)
   .rw[C7]at e;cases hx:x==y with
    |true=>rw[hx]at e;cases e;exact E7 _
    |false=>rw[hx]at e;exact Nat.lt_succ_of_lt (hl x c e)
   .rw[C7]at e1 e2;cases hx:x==y with
    |true=>
     rw[hx]at e1;cases e1;cases hz:z==y with
     |true=>rw[eq_of_beq hx,eq_of_beq hz]
     |false=>rw[hz]at e2;exact absurd (hl z _ e2) (E2 _)
    |false=>
     rw[hx]at e1;cases hz:z==y with
     |true=>rw[hz]at e2;cases e2;exact absurd (hl x _ e1) (E2 _)
     |false=>rw[hz]at e2;exact h x z c e1 e2
  .rw[A7 hk];exact FR r n acc hl h
theorem FZ{M:Model}{A:Around}{E:Value->Shared->Prop}{s:Shared}{scope:Scope}{globals:Addr}{cl:List (Str×Addr)}{qual:Str}{env:Env}{Q:Env->Shared->Prop}
 (hQ:Q (newEnv scope s.heap.objs.size globals (cellsFrom (s.heap.objs.size+1) scope.names cl) qual none .none (some env) builtinsNs) { s with heap:=pushCells (s.heap.push { cls:=.type "dict",data:=.dict #[] }) scope.names }):
 wpAny M A (newFunctionEnv scope globals cl [] qual none .none (some env)) Q E s:=by
 simp only[newFunctionEnv,Option.isSome_some,if_true];refine A0 (wpAny_alloc ?_);refine A0 (wpAny_layCells _ (fun name kind cells=>by cases hkc:kind==NameKind.cell<;>simp[hkc]) _ _ _ _ ?_);rw[show({ s with heap:=s.heap.push { cls:=.type "dict",data:=.dict #[] } }:Shared).heap.objs.size=s.heap.objs.size+1 from S4 ..];rw[List.forIn_nil];exact A0 (A4 (A4 hQ))
noncomputable def aCg(scope:Scope)(x:Str):Bool:=scope.names.lookup x==some .cell
noncomputable def JP(X:Cx)(scope:Scope)(C:Addr):List (Str×Addr):=cellsFrom (C+1) scope.names (bV X.env scope.names [])
noncomputable def iC(X:Cx)(N':List Str)(scope:Scope)(C:Addr)(s2:Shared)(H2:Hp)(fp:List Addr)(pn:List (Addr×Obj)):Cx:=
 { X with N:=N',s₀:=s2,H₀:=H2,env:=compEnvC scope (JP X scope C) C X.env,outer:=X.stack,stack:=X.stack,ex:=fp,fn:=aCg scope,pn:=X.pn++pn,xe:=fun _ _=>False }
structure nU(X:Cx)(N':List Str)(cap:List (Option Nat))(scope:Scope):Prop where
 own:∀y∈scope.names,y.2=.cell->scope.names.lookup y.1=some .cell
 kind:scope.kind=.function
 names:∀y∈scope.names,y.2=.local->scope.names.lookup y.1=some .local
 frees:∀y∈scope.names,y.2=.free->X.env.kindOf y.1=some .cell\/X.env.kindOf y.1=some .free
 len:cap.length=N'.length
 cap:∀(i j:Nat),cap[i]?=some (some j)->∃x,N'[i]?=some x/\X.N[j]?=some x/\scope.names.lookup x=some .free
section
variable{X:Cx}{N':List Str}{cap:List (Option Nat)}{scope:Scope}{pins:List (Addr×Obj)}{σ:St}{H:Hp}{s:Shared}
theorem nU.cells(S:nU X N' cap scope)(ok:X.Ok):∀y∈scope.names,y.2=.free->∃c,X.env.cells.lookup y.1=some c:=fun y hy hk=>ok.has y.1 (S.frees y hy hk)
theorem nU.sub(S:nU X N' cap scope)(ok:X.Ok):∀x c,(bV X.env scope.names []).lookup x=some c->X.env.cells.lookup x=some c:=
 tE scope.names [] (S.cells ok) fun x c e=>by simp at e
theorem nU.kinds(S:nU X N' cap scope){C:Addr}{cl:List (Str×Addr)}{x:Str}(h:(compEnvC scope cl C X.env).kindOf x=some .cell\/(compEnvC scope cl C X.env).kindOf x=some .free):scope.names.lookup x=some .free\/scope.names.lookup x=some .cell:=by
 rcases h with h|h
 .rcases jX (names:=scope.names) h with q|⟨q,_⟩
  .exact .inr q
  .exact .inl q
 .rcases jX (names:=scope.names) h with q|⟨q,_⟩
  .exact .inl q
  .exact .inl q
theorem KJ(S:nU X N' cap scope)(I:Inv X pins σ H s){fp:List Addr}{h4:Heap}{C:Addr}{tk:Nat}(hf:∀b∈fp,qD X pins H b)(hlt:∀b∈fp,b<s.heap.objs.size)
 (hC:s.heap.objs.size<=C) (hn:h4.Ns C fun _=>none) (hk:∀b o,s.heap.get? b=some o->h4.get? b=some o)
 (hce:∀x c,(JP X scope C).lookup x=some c->(C<c/\h4.IsCell c none)\/(bV X.env scope.names []).lookup x=some c):
 Inv (iC X N' scope C s H fp pins) [] (mO cap σ) H { s with heap:=h4,toks:=tk }:=by
 have cellLt:∀x c,X.env.cells.lookup x=some c->c<s.heap.objs.size:=fun x c e=>by
  obtain⟨v,q⟩:=I.cell x c e;exact q.lt
 have fresh:H C=none:=I.hok.fresh hC
 have ok:(iC X N' scope C s H fp pins).Ok:=by
  refine⟨I.ok.mod,S.kind,I.ok.glob,I.ok.blt,hC,fun x y c h1 h2=>?_,fun x hx=>?_,fun x c hx he=>?_,I.ok.hd,I.ok.frames,.inl rfl,fun b hb=>⟨?_,fun x c e=>?_⟩,I.bs,C9 I.ok.bsz I.sz,fun b o e hb=>?_,fun b hb=>?_,I.stack,I.stkFree⟩
  .exact FR scope.names (C+1) _ (fun x c e=>Nat.lt_succ_of_lt (A8 (cellLt x c (S.sub I.ok x c e)) hC)) (fun x y c e1 e2=>I.ok.inj x y c (S.sub I.ok x c e1) (S.sub I.ok y c e2)) x y c h1 h2
  .show ∃c,(JP X scope C).lookup x=some c;rcases S.kinds hx with q|q
   .rcases mD scope.names (C+1) (bV X.env scope.names []) x with⟨z,_⟩|⟨c,z,_⟩
    .obtain⟨c,hc⟩:=lX (env:=X.env) scope.names [] x (.inl (C8 q));exact⟨c,z.trans hc⟩
    .exact⟨c,z⟩
   .rcases mD scope.names (C+1) (bV X.env scope.names []) x with⟨_,z⟩|⟨c,z,_⟩
    .exact absurd (C8 q) z
    .exact⟨c,z⟩
  .have hx':scope.names.lookup x=some .cell:=by
    have:aCg scope x=true:=hx;unfold aCg at this;exact eq_of_beq this
   rcases mD scope.names (C+1) (bV X.env scope.names []) x with⟨_,z⟩|⟨c',z,hle,_⟩
   .exact absurd (C8 hx') z
   .have:c'=c:=C4 (z.symm.trans he);exact this▸C9 hC (C9 (Nat.le_succ _) hle)
  .exact B8 (A8 (hlt b hb) hC)
  .rcases hce x c e with z|z
   .exact O4 (Nat.lt_trans (A8 (hlt b hb) hC) z.1)
   .exact(hf b hb).2.2.2.2.1 x c (S.sub I.ok x c z)
  .rcases (hf b hb).2.2.2.1 with z|z
   .exact I.ok.noex b o e z
   .exact absurd (A8 (B2 (I.ok.bs b o e).1) z) (E2 _)
  .exact I.stkAll (hf b hb).2.1 (hf b hb).2.2.1
 refine⟨ok,rfl,I.bare,Un.kept hk,⟨_,hn,fun i x v h1 h2 h3=>?_⟩,fun x c e=>?_,fresh,fun x c e=>(hce x c e).elim (fun z=>I.hok.fresh (C9 hC (Nat.le_of_lt z.1))) fun z=>I.freeC x c (S.sub I.ok x c z),fun p hp=>?_,I.hok.kept hk,?_⟩
 .-- a name that is caught
  have h2':(cap[i]?).map (fun o=>o.bind fun j=>(σ[j]?).join)=some (some v):=by
   have:(mO cap σ)[i]?=some (some v):=h2;unfold mO at this;rw[D0]at this;exact this
  cases e:cap[i]? with
  |none=>rw[e]at h2';simp at h2'
  |some o=>
   cases o with
   |none=>rw[e]at h2';simp at h2'
   |some j=>
    rw[e]at h2';obtain⟨x',a1,a2,a3⟩:=S.cap i j e
    have ex:x'=x:=by
     have:N'[i]?=some x:=h1;rw[a1]at this;exact C4 this
    subst ex
    have sv:σ[j]?=some (some v):=by
     have q:(σ[j]?).join=some v:=C4 h2';cases f:σ[j]? with
     |none=>rw[f]at q;simp at q
     |some o=>rw[f]at q;cases o with
      |none=>simp at q
      |some v'=>simp at q;rw[q]
    have hv:X.env.kindOf x'=some .cell\/X.env.kindOf x'=some .free:=S.frees _ (C8 a3) rfl;obtain⟨m,hm,hl⟩:=I.loc;obtain⟨u,r,l⟩:=hl j x' v a2 sv (hv.elim (fun z=>.inr (.inl z)) fun z=>.inr (.inr z));refine⟨u,r,.inr ⟨?_,?_⟩⟩
    .exact rC (env:=X.env) (names:=scope.names) a3
    .rcases l with⟨hk',_⟩|⟨_,c,hc,o,ho,hd⟩
     .rcases hv with z|z<;>rw[z]at hk'<;>cases hk'
     .obtain⟨c',hc'⟩:=lX (env:=X.env) scope.names [] x' (.inl (C8 a3));have:=S.sub I.ok x' c' hc';rw[hc]at this;cases this;refine⟨c,?_,o,hk c o ho,hd⟩;rcases mD scope.names (C+1) (bV X.env scope.names []) x' with⟨z,_⟩|⟨_,_,_,z,_⟩
      .exact z.trans hc'
      .have:=S.own _ z rfl;rw[show scope.names.lookup x'=some .free from a3]at this;cases this
 .rcases hce x c e with z|z
  .exact⟨_,z.2⟩
  .obtain⟨v,o,ho,hd⟩:=I.cell x c (S.sub I.ok x c z);exact⟨v,o,hk c o ho,hd⟩
 .have hp':p∈X.pn++pins:=by
   rcases List.mem_append.mp hp with z|z
   .exact z
   .exact absurd z (by simp)
  obtain⟨e,n,ne,nf,d⟩:=I.pin p hp';exact⟨hk _ _ e,n,B8 (A8 (B2 e) hC),I.stkAll ne nf,d⟩
 .show(mO cap σ).length=N'.length;unfold mO;rw[A2];exact S.len
end
section
variable{X:Cx}{N':List Str}{cap:List (Option Nat)}{scope:Scope}
theorem ZI{elt tg iter:Expr}{ifs:List Expr}{pos:Pos}{wi:TI}{g:TG}{tc:TT}{te:TE}(hc:X.calm=true)(S:nU X N' cap scope)(hi:PI X tg iter wi)
 (hg:∀C s H fp pn,PG (iC X N' scope C s H fp pn) tg g) (hif:∀C s H fp pn,yB (iC X N' scope C s H fp pn) ifs tc) (he:∀C s H fp pn,PE (iC X N' scope C s H fp pn) elt te)
 (hs:∀x,foldedSetIterable iter X.env x=pure x) {pins:List (Addr×Obj)} {s:Shared} {σ:St} {H:Hp} {Q:VK} (I:Inv X pins σ H s) (h:tLc cap wi g tc te σ H Q)
 {use:Option (Value->Sem Unit)} {QQ:Value->Shared->Prop}
 (post:∀(D C:Addr)(H':Hp)(acc:List V)(s':Shared),D≠C->(∃m,s'.heap.Ns C m)->(∀h',Heap.SameBut C s'.heap h'->Inv X pins σ (upd H' D (.lst acc)) { s' with heap:=h' })->qD X pins (upd H' D (.lst acc)) C->Q (.ref D) (upd H' D (.lst acc))->compPost (model X.prog X.w) X.A X.xe use QQ (.ref D) C (.ok .next) s'):
 wpAny (model X.prog X.w) X.A (comprehension (.ListComp elt [⟨tg,iter,ifs,0⟩] scope pos) scope X.env (firstIterPos [⟨tg,iter,ifs,0⟩] pos) (newList []) false (firstIter [⟨tg,iter,ifs,0⟩] X.env) use) QQ X.xe s:=by
 refine wpAny_comprehension_free (e:=.ListComp elt [⟨tg,iter,ifs,0⟩] scope pos) (g:=⟨tg,iter,ifs,0⟩) (gs:=[]) rfl hs (rH (S.cells I.ok)) S.kind S.names ?_;refine thn (hi pins s σ H _ I h) fun v s1 h1=>thn h1 fun itv s2 h2=>?_;obtain⟨it,fp,tn,J,H2,e,I2,T,st2,f2,W,⟨m0,w0⟩,turn⟩:=h2;subst e
 have fplt:∀b∈fp,b<s2.heap.objs.size:=fun b hb=>by
  obtain⟨o,e,_⟩:=T.obj _ _ st2 b hb;exact B2 e
 refine E1 (FZ ?_);dsimp only;generalize hP:s2.heap.push { cls:=.type "list",dict:=none,data:=.seq ([]:List Value).toArray }=P2;generalize hh1:pushCells (P2.push { cls:=.type "dict",data:=.dict #[] }) scope.names=h1';have hns:h1'.Ns P2.objs.size (fun _=>none):=by rw[<- hh1];exact(Heap.Ns.new P2 (.type "dict")).keeps (pushCells_keeps _ _)
 have hce:∀x c,(JP X scope P2.objs.size).lookup x=some c->(P2.objs.size<c/\h1'.IsCell c none)\/(bV X.env scope.names []).lookup x=some c:=fun x c e=>by
  rcases mD scope.names (P2.objs.size+1) (bV X.env scope.names []) x with⟨z,_⟩|⟨c',z,hle,_,hc'⟩
  .exact .inr (z.symm.trans e)
  .have:c'=c:=C4 (z.symm.trans e);subst this;exact .inl ⟨hle,by rw[<- hh1];exact hc' _ (S4 ..)⟩
 have hsz:P2.objs.size=s2.heap.objs.size+1:=by rw[<- hP,S4]
 have hDC:s2.heap.objs.size≠P2.objs.size:=by rw[hsz];exact B8 (E7 _)
 have hC:s2.heap.objs.size<=P2.objs.size:=by rw[hsz];exact Nat.le_succ _
 have keepP:∀b o,P2.get? b=some o->b≠P2.objs.size->h1'.get? b=some o:=fun b o e _=>by rw[<- hh1];exact pushCells_keeps _ _ b o (B3 _ e)
 have old:∀b o,s2.heap.get? b=some o->h1'.get? b=some o:=fun b o e=>keepP b o (by rw[<- hP];exact B3 _ e) (B8 (A8 (B2 e) hC));have hD0:h1'.get? s2.heap.objs.size=some { cls:=.type "list",data:=.seq #[] 0 }:=keepP _ _ (by rw[<- hP];exact C6 _ rfl) hDC
 have I4:Inv (iC X N' scope P2.objs.size s2 H2 fp pins) [] (mO cap σ) H2 { s2 with heap:=h1' }:=
  KJ S I2 f2 fplt hC hns old hce
 have loop:∀s4:Shared,s4={ s2 with heap:=h1' }->
  codeAny (model X.prog X.w) X.A (.compLoop (.ListComp elt [⟨tg,iter,ifs,0⟩] scope pos) 0 (.ref it) (.ref s2.heap.objs.size) (compEnvC scope (JP X scope P2.objs.size) P2.objs.size X.env)) (compPost (model X.prog X.w) X.A X.xe use QQ (.ref s2.heap.objs.size) P2.objs.size) s4:=by
  rintro s4 rfl
  have hfrD:s2.heap.objs.size∉frs X.stack:=fun hb=>by
   obtain⟨_,o,ho,_⟩:=I2.stack.mem hb;exact absurd (B2 ho) (E2 _)
  have cne:∀x c,(JP X scope P2.objs.size).lookup x=some c->c≠s2.heap.objs.size:=fun x c e=>by
   rcases hce x c e with⟨z,_⟩|z
   .exact O4 (Y0 hC z)
   .obtain⟨v,q⟩:=I2.cell x c (S.sub I2.ok x c z);exact B8 q.lt
  have stat:∀{Hx:Hp}{ob:Obj},(∀b∈fp,Hx b=none)->∀b∈fp,qD (iC X N' scope P2.objs.size s2 H2 fp pins) [(s2.heap.objs.size,ob)] Hx b:=fun{Hx ob} hn b hb=>by
   refine⟨hn b hb,B8 (A8 (fplt b hb) hC),I2.stkAll (f2 b hb).2.1 (f2 b hb).2.2.1,.inl hb,fun x c e=>(hce x c e).elim (fun z=>O4 (Nat.lt_trans (A8 (fplt b hb) hC) z.1)) fun z=>(f2 b hb).2.2.2.2.1 x c (S.sub I2.ok x c z),fun p hp=>?_⟩;rcases List.mem_append.mp hp with z|z
   .exact(f2 b hb).2.2.2.2.2 p z
   .rw[List.mem_singleton.mp z];exact O4 (fplt b hb)
  refine HF (fun n s'=>∃(i:Nat)(σ':St)(H':Hp)(acc:List V)(its:List Value)(nn:Nat),Inv (iC X N' scope P2.objs.size s2 H2 fp pins) [] σ' H' s'/\tn i s'.heap/\(∀b∈fp,H' b=none)/\H' s2.heap.objs.size=none /\
   s'.heap.get? s2.heap.objs.size=some { cls:=.type "list",data:=.seq its.toArray nn }/\bJ acc its/\acc.length<=sizeLine/\W i n acc σ' H') ?_ m0
   ⟨0,mO cap σ,H2,[],[],0,I4,T.keep _ _ _ st2 fun b _ o e=>old b o e,fun b hb=>(f2 b hb).1,I2.hok.fresh (A6 _),hD0,.nil,D2 _,w0⟩
  rintro n s5 ⟨i,σ',H',acc,its,nn,I5,t5,fr5,d5,g5,va,la,w5⟩
  have I5p:Inv (iC X N' scope P2.objs.size s2 H2 fp pins) [(s2.heap.objs.size,{ cls:=.type "list",data:=.seq its.toArray nn })] σ' H' s5:=I5.pins_of fun p hp=>by
   rw[List.mem_singleton.mp hp];exact⟨g5,d5,hDC,hfrD,fun v z=>by cases z⟩
  rcases turn i n acc σ' H' w5 with⟨stop,q⟩|⟨go,lt,N,hN,step⟩
  .refine thn (T.done (iC X N' scope P2.objs.size s2 H2 fp pins) rfl rfl rfl hc i _ s5 σ' H' _ I5p (stat fr5) t5 stop) fun r s6 ⟨hr,I6⟩=>.inl ⟨hr,?_⟩;have d6:=(I6.pin (s2.heap.objs.size,{ cls:=.type "list",data:=.seq its.toArray nn }) (by simp)).1;have nC:H' P2.objs.size=none:=I6.free;refine post _ _ H' acc s6 hDC (let⟨m,hn,_⟩:=I6.loc;⟨m,hn⟩) (fun h' hs'=>?_) (I2.fpOk hC (by rw[aP hDC.symm];exact nC)) (q _ d5);have up:∀b o,b≠P2.objs.size->s6.heap.get? b=some o->h'.get? b=some o:=fun b o hb e=>hs'.extBut b o hb e;have ltC:∀b o,s2.heap.get? b=some o->b≠P2.objs.size/\b≠s2.heap.objs.size:=fun b o e=>⟨B8 (A8 (B2 e) hC),B8 (B2 e)⟩;have u6:Un (frs X.stack) fp H2 H' s2.heap s6.heap:=I6.base
   have u7:Un (frs X.stack) fp H2 (upd H' s2.heap.objs.size (.lst acc)) s2.heap h':=by
    refine⟨fun b o e n hb hx=>up b o (ltC b o e).1 (u6.keep b o e n hb hx),fun b o e n hb hx=>?_,fun b o e n hx=>?_,fun b o e hx=>?_,fun b xs e=>?_,fun b o u e=>?_,fun b ps e=>?_⟩
    .obtain⟨sl,q⟩:=u6.slot b o e n hb hx;exact⟨sl,up b _ (ltC b o e).1 q⟩
    .rw[aP (ltC b o e).2];exact u6.free b o e n hx
    .obtain⟨o',q⟩:=u6.there b o e hx;exact⟨o',up b o' (ltC b o e).1 q⟩
    .have z:=u6.tups b xs e;rw[aP (aO z d5)];exact z
    .have z:=u6.frzs b o u e;rw[aP (aO z d5)];exact z
    .obtain⟨more,z⟩:=u6.tbls b ps e;exact⟨more,by rw[aP (aO z d5)];exact z⟩
   have ok7:HOk X.prog X.w (upd H' s2.heap.objs.size (.lst acc)) h':=fun b u e=>by
    by_cases hb:b=s2.heap.objs.size
    .subst hb;rw[aX]at e;cases e;exact⟨la,its,nn,va,up _ _ hDC d6⟩
    .rw[aP hb]at e;refine(I6.hok b u e).stay (fun c v hc' z=>up c v ?_ z) (fun c z=>by rw[aP (aO z d5)];exact z) fun c xs z=>by rw[aP (aO z d5)];exact z
     rcases hc' with rfl|z
     .exact aO e nC
     .exact aO z nC
   have os6:s6.os=s2.os:=I6.os;have ba6:=I6.bare;obtain⟨hh,gg,dd,tt,oo⟩:=s6;subst os6;have z7:=I2.call (s:=s2) (h':=h') (g':=gg) (d':=dd) (t':=tt) (ch:=fp) u7 ok7 ba6 fun b hb=>⟨(f2 b hb).2.2.2.1,(f2 b hb).2.1,(f2 b hb).2.2.2.2.1,(f2 b hb).2.2.2.2.2⟩;exact z7
  .refine thn (T.item (iC X N' scope P2.objs.size s2 H2 fp pins) rfl rfl rfl hc i _ s5 σ' H' _ I5p (stat fr5) t5 go) fun r s6 ⟨u,hr,h6⟩=>.inr ⟨u,hr,?_⟩;refine thn h6 fun _ s7 ⟨x,H7,I7,r7,y7,t7,fr7⟩=>?_;have I7':=I7.pinned (stat fr7) (T.obj _ _ t7)
   have back:∀{σx:St}{Hx:Hp}{sx:Shared},Inv (iC X N' scope P2.objs.size s2 H2 fp pins) ([(s2.heap.objs.size,{ cls:=.type "list",data:=.seq its.toArray nn })]++qW fp s7.heap) σx Hx sx->
    (∀b∈fp,∀o,s7.heap.get? b=some o->sx.heap.get? b=some o)/\(∀b∈fp,Hx b=none)/\sx.heap.get? s2.heap.objs.size=some { cls:=.type "list",data:=.seq its.toArray nn }/\Hx s2.heap.objs.size=none:=fun{σx Hx sx} Ix=>by
    refine⟨fun b hb o e=>(Ix.pin (b,o) (B5 _ (B5 _ (eR hb e)))).1,fun b hb=>?_,?_,?_⟩
    .obtain⟨o,e,_⟩:=T.obj _ _ t7 b hb;exact(Ix.pin (b,o) (B5 _ (B5 _ (eR hb e)))).2.1
    .exact(Ix.pin (s2.heap.objs.size,_) (B5 _ (C5 _ (List.mem_singleton.mpr rfl)))).1
    .exact(Ix.pin (s2.heap.objs.size,{ cls:=.type "list",data:=.seq its.toArray nn }) (B5 _ (C5 _ (List.mem_singleton.mpr rfl)))).2.1
   refine thn (hg _ _ _ _ _ _ s7 σ' H7 x u _ I7' r7 (step x H7 y7)) fun _ s8 ⟨σ8,H8,I8,q8⟩=>?_;refine thn (hif _ _ _ _ _ _ s8 σ8 H8 _ I8 q8) fun b s9 ⟨H9,I9,q9⟩=>?_;rcases q9 with⟨rfl,q9⟩|⟨rfl,n9⟩
   .refine .inl ⟨rfl,thn (he _ _ _ _ _ _ s9 σ8 H9 _ I9 q9) fun uv s10 ⟨v,H10,I10,rv,n10⟩=>?_⟩;obtain⟨m',hm,w10⟩:=hN _ _ _ n10;obtain⟨b1,b2,b3,b4⟩:=back I10;refine wpAny_list_append_plain ⟨nn,b3⟩ (fun h' hp hs'=>?_) (by rw[C1,<- va.length];exact la);obtain⟨n2,e2⟩:=hp;have up:∀b o,b≠s2.heap.objs.size->s10.heap.get? b=some o->h'.get? b=some o:=fun b o hb e=>hs'.extBut b o hb e;have I10':Inv (iC X N' scope P2.objs.size s2 H2 fp pins) [] σ8 H10 s10:=I10.pins_of fun p hp=>absurd hp (by simp);refine⟨m',hm,i+1,σ8,H10,acc++[v],its++[uv],n2,I10'.turned (t':=s10.toks) up b4 hDC (.inr (A6 _)) cne (fun p hp=>?_),T.keep _ _ _ t7 fun b hb o e=>up b o (B8 (fplt b hb)) (b1 b hb o e),b2,b4,?_,va.append (.cons rv .nil),?_,w10⟩
    .have hp':p∈X.pn++pins:=by
      rcases List.mem_append.mp hp with z|z
      .exact z
      .exact absurd z (by simp)
     exact B8 (B2 (I2.pin p hp').1)
    .rw[e2];simp
    .rw[B4,D7];exact lt
   .obtain⟨m',hm,w9⟩:=hN _ _ _ n9;obtain⟨b1,b2,b3,b4⟩:=back I9;exact .inr ⟨rfl,m',hm,i+1,σ8,H9,acc,its,nn,I9.pins_of fun p hp=>absurd hp (by simp),T.keep _ _ _ t7 b1,b2,b4,b3,va,la,w9⟩
 exact codeAny_compStart_list (loop _ rfl) (T.self _ 0 _ _ _ (T.keep _ _ _ st2 fun b _ o e=>old b o e) (loop _ rfl))
theorem aBy{elt tg iter:Expr}{ifs:List Expr}{pos:Pos}{wi:TI}{g:TG}{tc:TT}{te:TE}(hc:X.calm=true)(S:nU X N' cap scope)(hi:PI X tg iter wi)
 (hg:∀C s H fp pn,PG (iC X N' scope C s H fp pn) tg g) (hif:∀C s H fp pn,yB (iC X N' scope C s H fp pn) ifs tc) (he:∀C s H fp pn,PE (iC X N' scope C s H fp pn) elt te)
 (hs:∀x,foldedSetIterable iter X.env x=pure x:=by intro _;rfl):PE X (.ListComp elt [⟨tg,iter,ifs,0⟩] scope pos) (tLc cap wi g tc te):=by
 intro pins s σ H Q I h;rw[eval_ListComp];refine ZI (use:=none) (Q:=Q) hc S hi hg hif he hs I h fun D C H' acc s' hDC ⟨m,hn⟩ hI _ hq=>⟨m,hn,fun h' hs'=>?_⟩;exact⟨.ref D,_,hI h' hs',rfl,hq⟩
end
noncomputable def PF(sc0:Scope)(N N':List Str)(cap:List (Option Nat))(scope:Scope):Bool:=
 scope.names.all (fun y=>y.2 != .cell || scope.names.lookup y.1==some .cell)&&(scope.kind==.function)&&scope.names.all (fun y=>y.2 != .local || scope.names.lookup y.1==some .local) &&
 scope.names.all (fun y=>y.2 != .free || (sc0.names.lookup y.1==some .cell || sc0.names.lookup y.1==some .free))&&(cap.length==N'.length) &&
 (List.range cap.length).all fun i=>match cap[i]? with
  |some (some j)=>(match N'[i]?,N[j]? with
   |some x,some y=>x==y&&scope.names.lookup x==some .free
   |_,_=>false)
  |_=>true
theorem MB{X:Cx}{sc0 scope:Scope}{N N':List Str}{cap:List (Option Nat)}(h1:X.env.scope=sc0)(h2:X.N=N)(h:PF sc0 N N' cap scope=true):nU X N' cap scope:=by
 unfold PF at h;simp only[Bool.and_eq_true,List.all_eq_true,beq_iff_eq,bne_iff_ne,ne_eq,Bool.or_eq_true,List.mem_range]at h;obtain⟨⟨⟨⟨⟨a,b⟩,c⟩,d⟩,e⟩,f⟩:=h;refine⟨fun y hy hk=>?_,b,fun y hy hk=>?_,fun y hy hk=>?_,e,fun i j hij=>?_⟩
 .rcases a y hy with z|z
  .exact absurd hk z
  .exact z
 .rcases c y hy with z|z
  .exact absurd hk z
  .exact z
 .show X.env.scope.names.lookup y.1=_\/X.env.scope.names.lookup y.1=_;rw[h1];rcases d y hy with z|z
  .exact absurd hk z
  .exact z
 .have hi:i<cap.length:=(List.getElem?_eq_some_iff.mp hij).1;have g:=f i hi;rw[hij]at g;dsimp only at g;rw[h2];split at g
  .rename_i x y ex ey;rw[B6,beq_iff_eq,beq_iff_eq]at g;exact⟨x,ex,by rw[ey,g.1],g.2⟩
  .cases g
section
variable{K:Fg}{ι:Type}{X:ι->Cx}{N':List Str}{cap:List (Option Nat)}{scope:Scope}{tg iter elt:Expr}{ifs:List Expr}{pos:Pos}{fa:AF}{gf:GF}{ft:TF}{f:EF}
noncomputable def tO(X:ι->Cx)(N':List Str)(scope:Scope):LcI ι->Cx:=fun j=>iC (X j.1) N' scope j.2.1 j.2.2.1 j.2.2.2.1 j.2.2.2.2.1 j.2.2.2.2.2
theorem aBW(hc:∀i,(X i).calm=true)(S:∀i,nU (X i) N' cap scope)(x:MI K X tg iter fa)(y:MG K (tO X N' scope) tg gf)(z:MF K (tO X N' scope) ifs ft)(w:ME K (tO X N' scope) elt f)(hs:∀(env:Env)(x:Value),foldedSetIterable iter env x=pure x:=by intro _ _;rfl):
 ME K X (.ListComp elt [⟨tg,iter,ifs,0⟩] scope pos) (fLc cap fa gf ft f):=by
 obtain⟨t,x1,x2⟩:=x.ex;obtain⟨u,y1,y2⟩:=y.ex;obtain⟨v,z1,z2⟩:=z.ex;obtain⟨o,w1,w2⟩:=w.ex;exact⟨_,fun i=>aBy (hc i) (S i) (x1 i) (fun C s H fp pn=>y1 (i,C,s,H,fp,pn)) (fun C s H fp pn=>z1 (i,C,s,H,fp,pn)) (fun C s H fp pn=>w1 (i,C,s,H,fp,pn)) (hs _),QB x2 y2 z2 w2⟩
theorem RT{N1:List Str}{sc1:Scope}{j:LcI ι}(h:SL sc1 N1 N' cap scope=true):nP (tO X N1 sc1 j) N' cap scope:=by
 have S:nP { tO X N1 sc1 j with env:={ (tO X N1 sc1 j).env with scope:=sc1 } } N' cap scope:=sF (sc0:=sc1) (N:=N1) rfl rfl h;exact⟨S.nocell,S.kind,S.names,fun y hy hk=>iR (S.frees y hy hk),S.len,S.cap⟩
end
noncomputable def MQ(K:Fg):List V->Hp->VK->Prop:=fun xs H Q=>∃(p:Addr)(ns:List Int),xs=[.ref p]/\SqL K H p (ns.map .int)/\0<ns.length/\∀M,M∈ns->(∀a∈ns,a<=M)->Q (.int M) H
theorem KC{X:Cx}(hc:X.calm=true):eO X (.builtin "max") (MQ X.K):=by
 intro pins s σ H xs us Q I r h;obtain⟨p,ns,rfl,hp,hl,q⟩:=h;obtain⟨u,rfl,ru⟩:=vals1 r;cases ru;obtain⟨its,rv,pl,hz⟩:=I.list hp;have hi:=intsAre_of rv;obtain⟨zs,e⟩:=hi.allInts.items;have pl':=pl.isList;have e1:=hi.numsOf;rw[show its=its.toArray.toList from rfl,e,nums_intItems]at e1;rw[e]at pl'
 have hsz:0<zs.size:=by
  rw[<- e1,A2,D3]at hl;exact hl
 refine max_intList (I.ok.hd hc) pl' hsz fun v h' tk hv hk=>?_;obtain⟨t,rfl⟩:=intItems_at hv;obtain⟨h1,h2⟩:=argBest_gt (numAt zs) (zs.size-1);refine⟨.int _,H,I.kept (h':=h') (t':=tk) hk,⟨t,rfl⟩,q _ ?_ fun a ha=>?_⟩
 .rw[<- e1,numAt_eq];exact getD_mem (by rw[A2,D3];omega)
 .rw[<- e1]at ha;obtain⟨j,hj,rfl⟩:=mem_getD ha;rw[A2,D3]at hj;rw[<- numAt_eq];exact h2 j (by omega)
theorem aFa{X:Cx}(h:X.K=K)(hc:X.calm=true):eO X (.builtin "max") (MQ K):=by subst h;exact KC hc
noncomputable def sV:Int->List Int->Int
 |a,[]=>a
 |a,b::r=>sV (if a<b then b else a) r
theorem vH:∀(r:List Int)(a:Int),sV a r∈a::r/\∀x∈a::r,x<=sV a r
 |[]=>fun a=>⟨B7,fun x hx=>by rw[List.mem_singleton.mp hx];exact Int.le_refl _⟩
 |b::r=>fun a=>by
  have ih:=vH r (if a<b then b else a);have hle:=ih.2 _ B7;refine⟨?_,fun x hx=>?_⟩
  .show sV (if a<b then b else a) r∈_;rcases List.mem_cons.mp ih.1 with e|e
   .rw[e];split
    .exact B0 _ B7
    .exact B7
   .exact B0 _ (B0 _ e)
  .show x<=sV (if a<b then b else a) r;rcases List.mem_cons.mp hx with e|e
   .subst e;refine Int.le_trans ?_ hle;split<;>omega
   .rcases List.mem_cons.mp e with e|e
    .subst e;refine Int.le_trans ?_ hle;split<;>omega
    .exact ih.2 x (B0 _ e)
noncomputable def EM:FN:=fun xs M=>match xs with
 |[.d (.list ds)]=>(nG ds).bind fun ns=>match ns with
  |[]=>none
  |a::r=>some (.d (.int (sV a r)),M)
 |_=>none
theorem YT:PN K (MQ K) EM:=by
 intro xs M z M' h W H vs Q G r k;unfold EM at h;split at h
 .rename_i ds;obtain⟨ns,h1,h⟩:=aJ h;cases ns with
  |nil=>cases h
  |cons a t=>
   cases h;rcases r with _|⟨r1,_|_⟩;obtain⟨p,us,rfl,hq,hr⟩:=(show ∃a us,_=V.ref a/\SqL K W.F a us/\aM K W.F ds us from r1);rw[wQ h1]at hr;have e:=nS hr;subst e;refine⟨p,a::t,rfl,G.fh.seq hq,Nat.succ_pos _,fun m hm hb=>?_⟩;have t1:=vH t a;have:m=sV a t:=Int.le_antisymm (t1.2 m hm) (hb _ t1.1);exact k _ W H (.refl _) G (this▸rfl)
 .cases h
theorem aCx{ι:Type}{X:ι->Cx}(hK:∀i,(X i).K=K)(hc:∀i,(X i).calm=true):QN K X (.builtin "max") EM:=⟨_,fun i=>aFa (hK i) (hc i),YT⟩
section
variable{K:Fg}
noncomputable def mulC:F2:=fun x y M=>match x,y with
 |.c j,.d (.int i)=>match M[j]? with
  |some (.lst xs)=>if 0<=i/\i<2 ^ 62/\xs.length*i.toNat<=sizeLine then some (.c M.length,M++[.lst (List.replicate i.toNat xs).flatten])else none
  |_=>none
 |_,_=>none
theorem vY{α β:Type}{R:α->β->Prop}{xs:List α}{ys:List β}(r:Paired R xs ys):∀n:Nat,Paired R (List.replicate n xs).flatten (List.replicate n ys).flatten
 |0=>.nil
 |n+1=>by rw[E9,E9,F9,F9];exact Paired.app r (vY r n)
theorem VP:P2 K (PL K) mulC:=by
 intro x y M z M' h W H v u Q G rx ry k;unfold mulC at h;split at h
 .rename_i j i;split at h
  .rename_i xs hx;by_cases hc:0<=i/\i<2 ^ 62/\xs.length*i.toNat<=sizeLine
   .rw[A3 hc]at h;cases h;obtain⟨i0,i1,hz⟩:=hc;obtain⟨us,hv,hr⟩:=G.lstAt hx;refine⟨_,us,i,rx.2,ry,hv,i0,i1,by rw[<- Paired.len hr];exact hz,fun l hl=>?_⟩;exact k _ (W.more l) _ (W.ext_more l) (G.new hl (c:=.lst (List.replicate i.toNat xs).flatten) (o:=.lst (List.replicate i.toNat us).flatten) (vY hr _)) G.newV
   .rw[A7 hc]at h;cases h
  .cases h
 .cases h
theorem aDo{ι:Type}{X:ι->Cx}(hK:∀i,(X i).K=K):Q2 K X (binaryOp .Mult) mulC:=⟨_,fun i=>(show OpR (X i) (binaryOp .Mult) (PL K)by have:=YD (X:=X i);rw[hK i]at this;exact this),VP⟩
noncomputable def AC(f:EF):AF:=fun γ M=>(f γ M).bind fun r=>match r.1 with
 |.f kvs=>some (kvs.map fun kv=>.d (.tuple (kv.1.map JS)),r.2)
 |_=>none
theorem xV{F:Hp}:∀ks:List Key,aM K F (ks.map JS) (ks.map kV)
 |[]=>rfl
 |k::ks=>⟨_,_,rfl,by cases k<;>rfl,xV ks⟩
theorem SW{td:TE}{f:EF}(a:SE K td f):SI K (aAs td) (AC f):=by
 intro γ M xs M' hh W H σ R G Rs k;obtain⟨⟨y,M1⟩,h1,hh⟩:=aJ hh;revert hh;dsimp only;split
 .rename_i kvs;intro hh;cases hh;refine a _ _ _ _ h1 W H σ _ G Rs fun v W1 H1 e1 G1 r1=>?_;obtain⟨p,o,us,rfl,hF,hp⟩:=r1;refine⟨p,o,us,rfl,G1.fh _ _ hF,k _ W1 H1 e1 G1 fun W2 M2 H2 e2 G2=>?_⟩;have hH:=G2.fh _ _ (e2.ff _ _ hF);refine⟨fun i x hx=>⟨⟨hH,?_⟩,fun y H3 hy=>?_⟩,hH,by rw[A2,Paired.len hp];exact A6 _⟩
  .have:=(List.getElem?_eq_some_iff.mp hx).1;rw[A2,Paired.len hp]at this;exact this
  .obtain⟨rfl,kv,b,q1,rfl,q3⟩:=hy;obtain⟨e3,G3⟩:=G2.adopt q3;refine⟨_,e3,G3,?_⟩;rw[D0]at hx;cases c:kvs[i]? with
   |none=>rw[c]at hx;cases hx
   |some kw=>
    rw[c]at hx;cases hx;obtain⟨q,hq,e,_⟩:=Paired.get hp c;rw[q1]at hq;cases hq;exact⟨b,_,rfl,.inl (.inl aX),e▸xV _⟩
 .intro hh;cases hh
end
section
variable{ι:Type}{K:Fg}{X:ι->Cx}{a b c e o:Expr}{es:List Expr}{f g h:EF}{fa:AF}{pos:Pos}
theorem OT{tg:Expr}(x:ME K X a f):MI K X tg a (AC f):=by
 obtain⟨t,x1,x2⟩:=x.ex;exact⟨_,fun i=>VD (x1 i),SW x2⟩
end
end L2
section
noncomputable section
namespace Q64
open PySem PySem.Spec PyProof.Rows L2
noncomputable def top(i:Nat):Stmt:=PySem.Challenge.pw_cutstree_k64_half_bound.main.body.getD i (.Pass ⟨0,0,0,0⟩)
noncomputable def eD:List (Str×Bool):=[("NoDemand",true)]
noncomputable def fW:List (Str×Bool):=[("NoDemand",true)]
noncomputable def jH:List (Str×Bool):=[("NoDemand",false)]
noncomputable def fS:List (Str×Bool):=[("NoDemand",false)]
noncomputable def lJ:List (Str×Bool):=[("NoDemand",false)]
noncomputable abbrev kB:Stmt:=top 34
noncomputable abbrev qL:List Str:=["_law_script","_law_k","_law_cell","_law_mixed"]
noncomputable abbrev lF:List Str:=["_law_script","_law_k"]
theorem sc__law_stream:aT qL lF (aG kB):=by sleep 990
noncomputable def fH:SF:=(bB (sIf (gB (fOp ltI (aD 1) (aI iJ (aB (aD 0) aH))))
 (bB (bR (fOp ixF (aD 0) (aD 1)) (hName 2))
 (bB (bR (fOp dO (fOp dO (fOp oF (aD 2) (fC (.int 2147483629))) (fOp tL (aD 1) (aD 1))) (fC (.int 1))) (hName 3))
 (bB (sIf (gB (fOp ltI (aD 2) (fOp uX (fC (.int 10)) (fC (.int 18)))))
  (bR (fC (.int 0)) (hName 2))
  bQ)
 (bD (xZ (aB (aD 2) (aB (aD 3) aH)))))))
  bQ)
 (bD (xZ (aB (fC (.int 0)) (aB (fOp dO (fOp tL (aD 1) (aD 1)) (fC (.int 11))) aH)))))
noncomputable def dG:FN:=fnF 2 4 fH
noncomputable abbrev mV:Stmt:=top 35
noncomputable abbrev uM:List Str:=["_law_stream_here","_law_most","_law_digit"]
noncomputable abbrev pB:List Str:=["_law_stream_here","_law_most"]
theorem sc__law_take:aT uM pB (aG mV):=by sleep 990
noncomputable def kI:SF:=(bB (sIf (gB (fOp (eqX false) (fOp ixF (aD 0) (fC (.int 0))) (fC (.int 0))))
 (bB (bR (fOp oF (fOp dO (fOp tL (fOp ixF (aD 0) (fC (.int 1))) (fC (.int 48271))) (fC (.int 12345))) (fC (.int 2147483647))) (hSub (aD 0) (fC (.int 1)) tT))
 (bD (fOp oF (fOp oF (fOp tL (fOp ixF (aD 0) (fC (.int 1))) (fOp ixF (aD 0) (fC (.int 1)))) (fC (.int 2147483629))) (aD 1))))
  bQ)
 (bB (bR (fOp oF (fOp ixF (aD 0) (fC (.int 0))) (aD 1)) (hName 2))
 (bB (bR (fOp nO (fOp ixF (aD 0) (fC (.int 0))) (aD 1)) (hSub (aD 0) (fC (.int 0)) tT))
 (bD (aD 2)))))
noncomputable def aU:FN:=fnF 2 3 kI
noncomputable abbrev nB:Stmt:=top 36
noncomputable abbrev uK:List Str:=["_law_stream_here","_law_some"]
noncomputable abbrev pP:List Str:=["_law_stream_here","_law_some"]
theorem BR:aT uK pP (aG nB):=by sleep 990
noncomputable def oP:SF:=(bD (fOp ixF (aD 1) (aI aU (aB (aD 0) (aB (aI iJ (aB (aD 1) aH)) aH)))))
noncomputable def dQ:FN:=fnF 2 2 oP
noncomputable abbrev kR:Stmt:=top 37
noncomputable abbrev sU:List Str:=["_law_above","_law_below","_law_one","_law_other"]
noncomputable abbrev mG:List Str:=["_law_above","_law_below"]
theorem sc__law_least:aT sU mG (aG kR):=by sleep 990
noncomputable def oG:SF:=(rF (gB (fOp gtI (aD 3) (fC (.int 0)))) (DT 2 3 (aB (aD 3) (aB (fOp oF (aD 2) (aD 3)) aH))))
noncomputable def mU:SF:=(bB (bR (aD 0) (hName 2))
 (bB (bR (aD 1) (hName 3))
 (bB oG
 (bD (dH (aB (fOp nO (aD 0) (aD 2)) (aB (fOp nO (aD 1) (aD 2)) aH)))))))
noncomputable def dW:FN:=fnF 2 4 mU
noncomputable abbrev jO:Stmt:=top 38
noncomputable abbrev qT:List Str:=["_law_stream_here","_law_kind","_law_below","_law_above"]
noncomputable abbrev kU:List Str:=["_law_stream_here"]
theorem sc__law_demand:aT qT kU (aG jO):=by sleep 990
noncomputable def nN:EF:=(iK (aB (dH (aB (fC (.int 1)) (aB (fC (.int 1)) aH))) (aB (dH (aB (fC (.int 1)) (aB (fC (.int 1)) aH))) (aB (dH (aB (fC (.int 2)) (aB (fC (.int 1)) aH))) (aB (dH (aB (fC (.int 1)) (aB (fC (.int 2)) aH))) (aB (dH (aB (fC (.int 3)) (aB (fC (.int 4)) aH))) (aB (dH (aB (fC (.int 0)) (aB (fC (.int 1)) aH))) aH)))))))
noncomputable def nM:EF:=(iK (aB (fC (.int 1)) (aB (fC (.int 3)) (aB (fC (.int 5)) (aB (fC (.int 7)) (aB (fC (.int 8)) (aB (fC (.int 9)) (aB (fC (.int 11)) (aB (fC (.int 24)) (aB (fC (.int 360)) (aB (fC (.int 2520)) (aB (fC (.int 27720)) aH))))))))))))
noncomputable def nK:EF:=(iK (aB (fOp uX (fC (.int 10)) (fC (.int 6))) (aB (fOp uW (fOp uX (fC (.int 10)) (fC (.int 6))) (fC (.int 1))) (aB (fC (.int 1)) (aB (fC (.int 999)) aH)))))
theorem tX(γ:Ga)(M:Sto):nK γ M=some (.d (.list [(.int 1000000),(.int 999999),(.int 1),(.int 999)]),M):=rfl
noncomputable def fK:SF:=(bB (bR (aI aU (aB (aD 0) (aB (fC (.int 8)) aH))) (hName 1))
 (bB (sIf (gB (fOp ltI (aD 1) (fC (.int 6))))
  (bD (fOp ixF nN (aD 1)))
  bQ)
 (bB (bR (aI dQ (aB (aD 0) (aB nM aH))) (hName 2))
 (bB (bR (aI aU (aB (aD 0) (aB (fC (.int 1000)) aH))) (hName 3))
 (bB (sIf (gB (fOp (eqX false) (aD 1) (fC (.int 7))))
  (bR (fOp ixF nK (aI aU (aB (aD 0) (aB (fC (.int 4)) aH)))) (hName 3))
  bQ)
 (bD (aI dW (aB (aD 3) (aB (aD 2) aH)))))))))
noncomputable def cD:FN:=fnF 1 4 fK
noncomputable abbrev iP:Stmt:=top 39
noncomputable abbrev pR:List Str:=["_law_stream_here","_law_many","_law_share","_law_found_here","_law_j","_law_i","_law_at"]
noncomputable abbrev kA:List Str:=["_law_stream_here","_law_many"]
theorem sc__law_demands:aT pR kA (aG iP):=by sleep 990
noncomputable def cT:SF:=(sIf (gB (fOp ltI (aI aU (aB (aD 0) (aB (fC (.int 4)) aH))) (aD 2)))
 (bB (bR (aI aU (aB (aD 0) (aB (fOp dO (aI iJ (aB (aD 3) aH)) (fC (.int 1))) aH))) (hName 6))
 (bR (fOp dO (fOp dO (fSl (aD 3) dB (iG (aD 6))) (iK (aB (dH (aB (aD 5) (aB (aD 4) (aB (aI cD (aB (aD 0) aH)) aH)))) aH))) (fSl (aD 3) (iG (aD 6)) dB)) (hName 3)))
  bQ)
noncomputable def cV:SF:=(rZ (jK (aB (aD 4) aH)) (hName 5) cT)
noncomputable def jW:SF:=(bB (bR (aI aU (aB (aD 0) (aB (fC (.int 5)) aH))) (hName 2))
 (bB (bR (iK aH) (hName 3))
 (bB (rZ (jK (aB (aD 1) aH)) (hName 4) cV)
 (bD (aD 3)))))
noncomputable def dP:FN:=fnF 2 7 jW
noncomputable abbrev hW:Stmt:=top 45
noncomputable abbrev jF:List Str:=["_law_thing"]
noncomputable abbrev iX:List Str:=["_law_thing"]
theorem qH:aT jF iX (aG hW):=by sleep 990
noncomputable def oQ(self:FN):EF:=(fLc [none] (dD (aD 0)) (hName 0) kY (aI self (aB (aD 0) aH)))
noncomputable def mT(self:FN):SF:=(bB (sIf (gB (yC "tuple" (aD 0)))
 (bD (oQ self))
 bQ)
 (bD (aD 0)))
noncomputable def bE:Nat->FN
 |0=>fun _ _=>none
 |n+1=>fnF 1 1 (mT (bE n))
noncomputable abbrev mH:Stmt:=top 46
noncomputable abbrev uN:List Str:=["_law_stream_here","_law_row","_law_place","_law_kind","_law_some"]
noncomputable abbrev nZ:List Str:=["_law_stream_here","_law_row"]
theorem sc__law_bent:aT uN nZ (aG mH):=by sleep 990
noncomputable def qJ:EF:=(iK (aB (fC .none) (aB (fC (.bool true)) (aB (fC (.bool false)) (aB (fUn DY (fC (.int 1))) (aB (fC (.int 0)) (aB (fC (.int 1)) (aB (fC (.int 40)) (aB (fOp dO (fOp uX (fC (.int 10)) (fC (.int 12))) (fC (.int 1))) (aB (fC (.str "")) (aB (fC (.str "1")) (aB (dH aH) (aB (dH (aB (fC (.int 1)) (aB (fC (.int 2)) aH))) (aB (dH (aB (fC (.int 2)) (aB (fC (.int 2)) aH))) (aB (dH (aB (fC (.int 0)) (aB (fC (.int 2)) aH))) (aB (dH (aB (fC (.int 1)) (aB (fC (.int 13)) aH))) (aB GW aH)))))))))))))))))
noncomputable def iB:SF:=(bB (bR (aI aU (aB (aD 0) (aB (aI iJ (aB (aD 1) aH)) aH))) (hName 2))
 (bB (bR (aI aU (aB (aD 0) (aB (fC (.int 4)) aH))) (hName 3))
 (bB (sIf (gB (fOp (eqX false) (aD 3) (fC (.int 0))))
  (bD (fOp dO (fSl (aD 1) dB (iG (aD 2))) (fSl (aD 1) (iG (fOp dO (aD 2) (fC (.int 1)))) dB)))
  bQ)
 (bB (sIf (gB (fOp (eqX false) (aD 3) (fC (.int 1))))
  (bD (fOp dO (fOp dO (fSl (aD 1) dB (iG (aD 2))) (dH (aB (fOp ixF (aD 1) (aD 2)) aH))) (fSl (aD 1) (iG (aD 2)) dB)))
  bQ)
 (bB (bR qJ (hName 4))
 (bD (fOp dO (fOp dO (fSl (aD 1) dB (iG (aD 2))) (dH (aB (fOp ixF (aD 4) (aI aU (aB (aD 0) (aB (fC (.int 16)) aH)))) aH))) (fSl (aD 1) (iG (fOp dO (aD 2) (fC (.int 1)))) dB))))))))
noncomputable def eQ:FN:=fnF 2 5 iB
noncomputable abbrev kN:Stmt:=top 40
noncomputable abbrev mS:List Str:=["_law_stream_here","_law_script","_law_depth","_law_kind","_law_some"]
noncomputable abbrev mI:List Str:=["_law_stream_here","_law_script","_law_depth"]
theorem sc__law_any:aT mS mI (aG kN):=by sleep 990
noncomputable def sP:EF:=(iK (aB (fC (.int 0)) (aB (fC (.int 1)) (aB (fC (.int 2)) (aB (fC (.int 3)) (aB (fUn DY (fC (.int 1))) (aB (fC (.int 40)) (aB (fC (.int 55440)) aH))))))))
noncomputable def sD:EF:=(iK (aB (fC (.bool true)) (aB (fC (.bool false)) (aB (fC .none) aH))))
noncomputable def rS:EF:=(iK (aB (fC (.str "")) (aB (fC (.str "1")) (aB (fC (.str "1/2")) (aB (fC (.str "place")) (aB (fC (.str "tie")) (aB (fC (.str "ab")) aH)))))))
noncomputable def sI(self:FN):EF:=(fLc [some 0,some 1,some 2,none] (jK (aB (aI aU (aB (aD 0) (aB (fC (.int 4)) aH))) aH)) (hName 3) kY (aI self (aB (aD 0) (aB (aD 1) (aB (fOp uW (aD 2) (fC (.int 1))) aH)))))
noncomputable def cM(self:FN):SF:=(bB (bR (aI aU (aB (aD 0) (aB (fOp uW (fC (.int 9)) (fOp tL (fC (.int 3)) (aI NF (aB (fOp (eqX false) (aD 2) (fC (.int 0))) aH)))) aH))) (hName 3))
 (bB (sIf (gB (fOp (eqX false) (aD 3) (fC (.int 0))))
  (bD (fIf (gB (fOp (eqX true) (aD 1) (iK aH))) (fOp uW (fOp oF (fOp ixF (aD 1) (fC (.int 0))) (fOp uX (fC (.int 10)) (fC (.int 40)))) (fOp uX (fC (.int 10)) (fC (.int 39)))) (fUn DY (fC (.int 1)))))
  bQ)
 (bB (sIf (gB (fOp (eqX false) (aD 3) (fC (.int 1))))
  (bD (fOp ixF sP (aI aU (aB (aD 0) (aB (fC (.int 7)) aH)))))
  bQ)
 (bB (sIf (gB (fOp (eqX false) (aD 3) (fC (.int 2))))
  (bD (fOp ixF sD (aI aU (aB (aD 0) (aB (fC (.int 3)) aH)))))
  bQ)
 (bB (sIf (gB (fOp ltI (aD 3) (fC (.int 6))))
  (bD (fOp ixF rS (aI aU (aB (aD 0) (aB (fC (.int 6)) aH)))))
  bQ)
 (bB (bR (sI self) (hName 4))
 (bB (sIf (gB (fOp (eqX false) (aD 3) (fC (.int 6))))
  (bD (aI gM (aB (aD 4) aH)))
  bQ)
 (bB (sIf (gB (fOp (eqX false) (aD 3) (fC (.int 7))))
  (bD (aD 4))
  bQ)
 (bD (DK [((fC (.int 0)),(aD 4)),((fC (.str "a")),(fC .none))]))))))))))
noncomputable def dE:Nat->FN
 |0=>fun _ _=>none
 |n+1=>fnF 3 5 (cM (dE n))
noncomputable abbrev fQ:Stmt:=top 47
noncomputable abbrev kD:List Str:=["_law_stream_here","_law_script","_law_many","_law_demands_here","_law_one","_law_kind","_law_weights"]
noncomputable abbrev gD:List Str:=["_law_stream_here","_law_script","_law_many","_law_demands_here"]
theorem sc__law_bad_demand:aT kD gD (aG fQ):=by sleep 990
noncomputable def fD:EF:=(dH (aB (fC (.int 0)) (aB (fC (.int 1)) (aB (dH (aB (fC (.int 1)) (aB (fC (.int 1)) aH))) aH))))
theorem iI(γ:Ga)(M:Sto):fD γ M=some (.d (.tuple [(.int 0),(.int 1),(.tuple [(.int 1),(.int 1)])]),M):=rfl
noncomputable def fG:EF:=(iK (aB (dH (aB (fOp dO (fOp uX (fC (.int 10)) (fC (.int 6))) (fC (.int 1))) (aB (fC (.int 1)) aH))) (aB (dH (aB (fC (.int 1)) (aB (fC (.int 16)) aH))) (aB (dH (aB (fC (.int 1)) (aB (fC (.int 55440)) aH))) (aB (dH (aB (fC (.int 1)) (aB (fC (.int 13)) aH))) (aB (dH (aB (fC (.int 2)) (aB (fC (.int 2)) aH))) (aB (dH (aB (fC (.int 0)) (aB (fC (.int 2)) aH))) (aB (dH (aB (fUn DY (fC (.int 1))) (aB (fC (.int 1)) aH))) (aB (dH (aB (fC (.bool true)) (aB (fC (.int 1)) aH))) (aB (fC (.int 1)) aH))))))))))
noncomputable def gK:SF:=(bB (bR fD (hName 4))
 (bB (sIf (gB (fOp (eqX true) (aD 3) (iK aH)))
  (bR (aI dQ (aB (aD 0) (aB (aD 3) aH))) (hName 4))
  bQ)
 (bB (bR (aI aU (aB (aD 0) (aB (fC (.int 6)) aH))) (hName 5))
 (bB (sIf (gB (fOp (eqX false) (aD 5) (fC (.int 0))))
  (bD (aI eQ (aB (aD 0) (aB (aD 4) aH))))
  bQ)
 (bB (sIf (gB (fOp (eqX false) (aD 5) (fC (.int 1))))
  (bD (dH (aB (fOp ixF (aD 4) (fC (.int 1))) (aB (fOp ixF (aD 4) (fC (.int 0))) (aB (fOp ixF (aD 4) (fC (.int 2))) aH)))))
  bQ)
 (bB (sIf (gB (fOp (eqX false) (aD 5) (fC (.int 2))))
  (bD (dH (aB (fOp ixF (aD 4) (fC (.int 0))) (aB (fOp ixF (aD 4) (fC (.int 1))) (aB (aI cD (aB (aD 0) aH)) aH)))))
  bQ)
 (bB (sIf (gB (fOp (eqX false) (aD 5) (fC (.int 3))))
  (bD (dH (aB (fOp ixF (aD 4) (fC (.int 0))) (aB (aD 2) (aB (fOp ixF (aD 4) (fC (.int 2))) aH)))))
  bQ)
 (bB (sIf (gB (fOp (eqX false) (aD 5) (fC (.int 4))))
  (bB (bR fG (hName 6))
 (bD (dH (aB (fOp ixF (aD 4) (fC (.int 0))) (aB (fOp ixF (aD 4) (fC (.int 1))) (aB (aI dQ (aB (aD 0) (aB (aD 6) aH))) aH))))))
  bQ)
 (bD (aI (dE 4) (aB (aD 0) (aB (aD 1) (aB (fC (.int 2)) aH)))))))))))))
noncomputable def cJ:FN:=fnF 4 7 gK
noncomputable abbrev jU:Stmt:=top 48
noncomputable abbrev qS:List Str:=["_law_stream_here","_law_script","_law_many","_law_demands_here","_law_at","_law_one","_law_two"]
noncomputable abbrev lB:List Str:=["_law_stream_here","_law_script","_law_many"]
theorem sc__law_things:aT qS lB (aG jU):=by sleep 990
noncomputable def lG:SF:=(bB (bR (aI dP (aB (aD 0) (aB (aD 2) aH))) (hName 3))
 (bB (bR (aI aU (aB (aD 0) (aB (fOp dO (aI iJ (aB (aD 3) aH)) (fC (.int 1))) aH))) (hName 4))
 (bB (bR (fOp dO (fOp dO (fSl (aD 3) dB (iG (aD 4))) (iK (aB (aI cJ (aB (aD 0) (aB (aD 1) (aB (aD 2) (aB (aD 3) aH))))) aH))) (fSl (aD 3) (iG (aD 4)) dB)) (hName 5))
 (bB (bR (fOp dO (aD 5) (iK (aB (aI cJ (aB (aD 0) (aB (aD 1) (aB (aD 2) (aB (aD 3) aH))))) aH))) (hName 6))
 (bD (iK (aB (aD 5) (aB (aI gM (aB (aD 6) aH)) (aB (aI (bE 6) (aB (aI gM (aB (aD 6) aH)) aH)) (aB (aI (dE 4) (aB (aD 0) (aB (aD 1) (aB (fC (.int 3)) aH)))) (aB (fC (.int 7)) (aB (fC .none) aH))))))))))))
noncomputable def eB:FN:=fnF 3 7 lG
noncomputable abbrev tN:Stmt:=top 19
noncomputable abbrev CO:List Str:=["one","other"]
noncomputable abbrev xG:List Str:=["one","other"]
theorem sc_common:aT CO xG (aG tN):=by sleep 990
noncomputable def rK:SF:=(rF (GQ (aD 1)) (DT 0 1 (aB (aD 1) (aB (fOp oF (aD 0) (aD 1)) aH))))
noncomputable def ER:SF:=(bB rK
 (bD (aD 0)))
noncomputable def sY:FN:=fnF 2 2 ER
noncomputable abbrev oR:Stmt:=top 7
noncomputable abbrev vR:List Str:=["thing"]
noncomputable abbrev rG:List Str:=["thing"]
theorem EG:aT vR rG (aG oR):=by sleep 990
noncomputable def wX:SF:=(bD (kS (yC "int" (aD 0)) (CQ (yC "bool" (aD 0)))))
noncomputable def jT:FN:=fnF 1 1 wX
noncomputable abbrev tP:Stmt:=top 8
noncomputable abbrev CS:List Str:=["thing"]
noncomputable abbrev vW:List Str:=["thing"]
theorem KP:aT CS vW (aG tP):=by sleep 990
noncomputable def DA:SF:=(bD (JE "list" "tuple" (aD 0)))
noncomputable def lR:FN:=fnF 1 1 DA
noncomputable abbrev mP:Stmt:=top 9
noncomputable abbrev tY:List Str:=["thing","length"]
noncomputable abbrev pG:List Str:=["thing","length"]
theorem BU:aT tY pG (aG mP):=by sleep 990
noncomputable def uU:SF:=(bD (kS (aI lR (aB (aD 0) aH)) (fOp (eqX false) (aI iJ (aB (aD 0) aH)) (aD 1))))
noncomputable def kM:FN:=fnF 2 2 uU
noncomputable abbrev eE:Stmt:=top 18
noncomputable abbrev iD:List Str:=["thing"]
noncomputable abbrev eJ:List Str:=["thing"]
theorem nQ:aT iD eJ (aG eE):=by sleep 990
noncomputable def cH:SF:=(bB (sIf (gOr (gN (gB (aI kM (aB (aD 0) (aB (fC (.int 2)) aH))))) (gOr (gN (gB (aI jT (aB (fOp ixF (aD 0) (fC (.int 0))) aH)))) (gN (gB (aI jT (aB (fOp ixF (aD 0) (fC (.int 1))) aH))))))
 (bD (fC (.bool false)))
 bQ)
 (bD (kS (fOp geI (fOp ixF (aD 0) (fC (.int 0))) (fC (.int 0))) (fOp geI (fOp ixF (aD 0) (fC (.int 1))) (fC (.int 1))))))
noncomputable def bS:FN:=fnF 1 1 cH
noncomputable abbrev jM:Stmt:=top 17
noncomputable abbrev qO:List Str:=["thing"]
noncomputable abbrev kO:List Str:=["thing"]
theorem wY:aT qO kO (aG jM):=by sleep 990
noncomputable def eC:SF:=(bD (kS (aI bS (aB (aD 0) aH)) (kS (fOp (eqX false) (fOp oF (fC (.int 55440)) (fOp ixF (aD 0) (fC (.int 1)))) (fC (.int 0))) (fOp (eqX false) (aI sY (aB (fOp ixF (aD 0) (fC (.int 0))) (aB (fOp ixF (aD 0) (fC (.int 1))) aH))) (fC (.int 1))))))
noncomputable def cR:FN:=fnF 1 1 eC
noncomputable abbrev mL:Stmt:=top 16
noncomputable abbrev uQ:List Str:=["thing"]
noncomputable abbrev oK:List Str:=["thing"]
theorem AB:aT uQ oK (aG mL):=by sleep 990
noncomputable def iH:SF:=(bD (kS (aI cR (aB (aD 0) aH)) (fOp leI (fOp ixF (aD 0) (fC (.int 0))) (fC (.int 1000000000000)))))
noncomputable def eS:FN:=fnF 1 1 iH
noncomputable abbrev pJ:Stmt:=top 10
noncomputable abbrev xK:List Str:=["many","thing"]
noncomputable abbrev rN:List Str:=["many","thing"]
theorem CA:aT xK rN (aG pJ):=by sleep 990
noncomputable def nD:SF:=(bD (kS (aI jT (aB (aD 1) aH)) (wA leI ltI (fC (.int 0)) (aD 1) (aD 0))))
noncomputable def gP:FN:=fnF 2 2 nD
noncomputable abbrev eP:Stmt:=top 11
noncomputable abbrev iT:List Str:=["many","i","j"]
noncomputable abbrev fA:List Str:=["many","i","j"]
theorem oH:aT iT fA (aG eP):=by sleep 990
noncomputable def cP:SF:=(bD (kS (aI gP (aB (aD 0) (aB (aD 1) aH))) (kS (aI gP (aB (aD 0) (aB (aD 2) aH))) (fOp (eqX true) (aD 1) (aD 2)))))
noncomputable def bZ:FN:=fnF 3 3 cP
noncomputable abbrev eM:Stmt:=top 12
noncomputable abbrev iU:List Str:=["many","thing"]
noncomputable abbrev eY:List Str:=["many","thing"]
theorem nW:aT iU eY (aG eM):=by sleep 990
noncomputable def cN:SF:=(bD (kS (aI kM (aB (aD 1) (aB (fC (.int 3)) aH))) (kS (aI bZ (aB (aD 0) (aB (fOp ixF (aD 1) (fC (.int 0))) (aB (fOp ixF (aD 1) (fC (.int 1))) aH)))) (fOp ltI (fOp ixF (aD 1) (fC (.int 0))) (fOp ixF (aD 1) (fC (.int 1)))))))
noncomputable def bG:FN:=fnF 2 2 cN
noncomputable abbrev tK:Stmt:=top 25
noncomputable abbrev DF:List Str:=["many","thing"]
noncomputable abbrev wN:List Str:=["many","thing"]
theorem KR:aT DF wN (aG tK):=by sleep 990
noncomputable def lU:SF:=(bD (kS (aI bG (aB (aD 0) (aB (aD 1) aH))) (aI eS (aB (fOp ixF (aD 1) (fC (.int 2))) aH))))
noncomputable def jQ:FN:=fnF 2 2 lU
noncomputable abbrev lY:Stmt:=top 31
noncomputable abbrev uG:List Str:=["many","thing"]
noncomputable abbrev oX:List Str:=["many","thing"]
theorem AQ:aT uG oX (aG lY):=by sleep 990
noncomputable def iF:SF:=(bD (kS (aI jQ (aB (aD 0) (aB (aD 1) aH))) (kS (fOp leI (fOp ixF (fOp ixF (aD 1) (fC (.int 2))) (fC (.int 0))) (fC (.int 1000000))) (fOp (eqX false) (fOp oF (fC (.int 27720)) (fOp ixF (fOp ixF (aD 1) (fC (.int 2))) (fC (.int 1)))) (fC (.int 0))))))
noncomputable def fT:FN:=fnF 2 2 iF
noncomputable abbrev eN:Stmt:=top 29
noncomputable abbrev gW:List Str:=["many","demands"]
noncomputable abbrev kX:List Str:=["many","demands"]
theorem wC:aT gW kX (aG eN):=by sleep 990
noncomputable def dY:EF:=(fLc [some 0,none] (dD (aD 1)) (hName 1) kY (aI fT (aB (aD 0) (aB (aD 1) aH))))
noncomputable def iO:EF:=(BY [none] (dD (aD 1)) (hName 0) kY (BX (aB (fOp ixF (aD 0) (fC (.int 0))) (aB (fOp ixF (aD 0) (fC (.int 1))) aH))))
noncomputable def fM:SF:=(bB (sIf (gOr (gN (gB (aI lR (aB (aD 1) aH)))) (gN (gB (aI yH (aB dY aH)))))
 (bD (fC (.bool false)))
 bQ)
 (bD (fOp (eqX false) iO (aI iJ (aB (aD 1) aH)))))
noncomputable def dF:FN:=fnF 2 2 fM
noncomputable abbrev eL:Stmt:=top 32
noncomputable abbrev iV:List Str:=["many","demands"]
noncomputable abbrev fF:List Str:=["many","demands"]
theorem pA:aT iV fF (aG eL):=by sleep 990
noncomputable def cA:SFX:=(LQ (gN (gB (aI dF (aB (aD 0) (aB (aD 1) aH)))))
 (AZ "NoDemand")
 (liS bQ))
noncomputable def cO:FX:=fnX 2 2 cA
noncomputable abbrev wZ:Stmt:=top 22
noncomputable abbrev IM:List Str:=["amount"]
noncomputable abbrev BV:List Str:=["amount"]
theorem RJ:aT IM BV (aG wZ):=by sleep 990
noncomputable def BA:SF:=(bD (fOp tL (fOp ixF (aD 0) (fC (.int 0))) (fOp nO (fC (.int 55440)) (fOp ixF (aD 0) (fC (.int 1))))))
noncomputable def kJ:FN:=fnF 1 1 BA
noncomputable abbrev gJ:Stmt:=top 20
noncomputable abbrev lO:List Str:=["above","below","divisor"]
noncomputable abbrev gQ:List Str:=["above","below"]
theorem sc_in_least_terms:aT lO gQ (aG gJ):=by sleep 990
noncomputable def gS:SF:=(bB (bR (aI sY (aB (aD 0) (aB (aD 1) aH))) (hName 2))
 (bD (dH (aB (fOp nO (aD 0) (aD 2)) (aB (fOp nO (aD 1) (aD 2)) aH)))))
noncomputable def dJ:FN:=fnF 2 3 gS
noncomputable abbrev AE:Stmt:=top 21
noncomputable abbrev TR:List Str:=["one"]
noncomputable abbrev GD:List Str:=["one"]
theorem ZL:aT TR GD (aG AE):=by sleep 990
noncomputable def GE:SF:=(bD (aI dJ (aB (fOp ixF (aD 0) (fC (.int 0))) (aB (fOp tL (fC (.int 2)) (fOp ixF (aD 0) (fC (.int 1)))) aH))))
noncomputable def tU:FN:=fnF 1 1 GE
noncomputable abbrev kQ:Stmt:=top 23
noncomputable abbrev rX:List Str:=["many"]
noncomputable abbrev lZ:List Str:=["many"]
theorem yM:aT rX lZ (aG kQ):=by sleep 990
noncomputable def mB:SF:=(bD (aI dJ (aB (aD 0) (aB (fC (.int 55440)) aH))))
noncomputable def eV:FN:=fnF 1 1 mB
noncomputable abbrev kP:Stmt:=top 30
noncomputable abbrev sJ:List Str:=["many","demands","greatest","i","j","weight"]
noncomputable abbrev mR:List Str:=["many","demands"]
theorem sc_half_bound:aT sJ mR (aG kP):=by sleep 990
noncomputable def fZ:SF:=(bB (bR (aI wW (aB (fOp ixF (aD 2) (aD 3)) (aB (aI kJ (aB (aD 5) aH)) aH))) (hSub (aD 2) (aD 3) tT))
 (bR (aI wW (aB (fOp ixF (aD 2) (aD 4)) (aB (aI kJ (aB (aD 5) aH)) aH))) (hSub (aD 2) (aD 4) tT)))
noncomputable def eT:SFX:=(tZ (pN (oB cO (liA (aB (aD 0) (aB (aD 1) aH)))))
 (liS (bB (bR (fOp mulC (xZ (aB (fC (.int 0)) aH)) (aD 0)) (hName 2))
 (bB (NL 2 (rZ (dD (aD 1)) (qG 3 (eG (hName 3) (eG (hName 4) (eG (hName 5) yI)))) fZ))
 (bD (aI tU (aB (aI eV (aB (aI sumF (aB (aD 2) aH)) aH)) aH)))))))
noncomputable def jA:FX:=fnX 2 6 eT
noncomputable abbrev kZ:Stmt:=top 51
noncomputable abbrev nE:List Str:=["_law_error"]
noncomputable abbrev gH:List Str:=["_law_error"]
theorem qU:aT nE gH (aG kZ):=by sleep 990
noncomputable def jC:SF:=(bB (sIf (gOr (gN (gB (uH fW (some false) (aD 0)))) (gN (gB (uH eD (some false) (aD 0)))))
 (bD (fC (.bool false)))
 bQ)
 (bD (kS (CQ (uH lJ (some false) (aD 0))) (kS (CQ (uH fS (some false) (aD 0))) (CQ (uH jH (some false) (aD 0)))))))
noncomputable def gG:FN:=fnF 1 1 jC
noncomputable abbrev lE:Stmt:=top 52
noncomputable abbrev sR:List Str:=["_law_many","_law_thing","_law_found_here","_law_error"]
noncomputable abbrev mZ:List Str:=["_law_many","_law_thing"]
theorem sc__law_found:aT sR mZ (aG lE):=by sleep 990
noncomputable def jL:SF:=(bR (dH (aB (fC (.str "none")) (aB (aI gG (aB (aD 3) aH)) aH))) (hName 2))
noncomputable def dM:SFX:=(zP (oB jA (liA (aB (aD 0) (aB (aD 1) aH)))) (hName 2))
noncomputable def jD:SF:=(bB (bR (fC .none) (hName 2))
 (bB (GI dM [⟨[("NoDemand",true)],(some 3),jL⟩])
 (bD (aI iS (aB (aD 2) aH)))))
noncomputable def jG:FN:=fnF 2 4 jD
noncomputable abbrev jP:Stmt:=top 41
noncomputable abbrev qM:List Str:=["_law_thing"]
noncomputable abbrev lI:List Str:=["_law_thing"]
theorem xM:aT qM lI (aG jP):=by sleep 990
noncomputable def qP:SF:=(bD (fOr (yC "list" (aD 0)) (yC "tuple" (aD 0))))
noncomputable def eA:FN:=fnF 1 1 qP
noncomputable abbrev gV:Stmt:=top 42
noncomputable abbrev nF:List Str:=["_law_thing","_law_low","_law_most"]
noncomputable abbrev iL:List Str:=["_law_thing","_law_low","_law_most"]
theorem tS:aT nF iL (aG gV):=by sleep 990
noncomputable def iQ:SF:=(bD (kS (yC "int" (aD 0)) (kS (CQ (yC "bool" (aD 0))) (wA leI leI (aD 1) (aD 0) (aD 2)))))
noncomputable def bF:FN:=fnF 3 3 iQ
noncomputable abbrev fY:Stmt:=top 43
noncomputable abbrev lM:List Str:=["_law_thing"]
noncomputable abbrev gR:List Str:=["_law_thing"]
theorem rT:aT lM gR (aG fY):=by sleep 990
noncomputable def bU:SF:=(bB (sIf (gOr (gN (gB (aI eA (aB (aD 0) aH)))) (gB (fOp (eqX true) (aI iJ (aB (aD 0) aH)) (fC (.int 2)))))
 (bD (fC (.bool false)))
 bQ)
 (bB (sIf (gOr (gN (gB (aI bF (aB (fOp ixF (aD 0) (fC (.int 0))) (aB (fC (.int 0)) (aB (fOp uX (fC (.int 10)) (fC (.int 6))) aH)))))) (gOr (gN (gB (aI bF (aB (fOp ixF (aD 0) (fC (.int 1))) (aB (fC (.int 1)) (aB (fC (.int 27720)) aH)))))) (gB (fOp (eqX true) (fOp oF (fC (.int 27720)) (fOp ixF (aD 0) (fC (.int 1)))) (fC (.int 0))))))
  (bD (fC (.bool false)))
  bQ)
 (bD (fOp (eqX false) (aI dW (aB (fOp ixF (aD 0) (fC (.int 0))) (aB (fOp ixF (aD 0) (fC (.int 1))) aH))) (dH (aB (fOp ixF (aD 0) (fC (.int 0))) (aB (fOp ixF (aD 0) (fC (.int 1))) aH)))))))
noncomputable def bN:FN:=fnF 1 1 bU
noncomputable abbrev fB:Stmt:=top 44
noncomputable abbrev jY:List Str:=["_law_many","_law_thing","_law_known","_law_one"]
noncomputable abbrev fP:List Str:=["_law_many","_law_thing"]
theorem sc__law_are_demands:aT jY fP (aG fB):=by sleep 990
noncomputable def aQ:SF:=(bB (sIf (gOr (gN (gB (aI eA (aB (aD 3) aH)))) (gOr (gB (fOp (eqX true) (aI iJ (aB (aD 3) aH)) (fC (.int 3)))) (gN (gB (aI bN (aB (fOp ixF (aD 3) (fC (.int 2))) aH))))))
 (bD (fC (.bool false)))
 bQ)
 (bB (sIf (gOr (gN (gB (aI bF (aB (fOp ixF (aD 3) (fC (.int 0))) (aB (fC (.int 0)) (aB (fOp uW (aD 0) (fC (.int 1))) aH)))))) (gN (gB (aI bF (aB (fOp ixF (aD 3) (fC (.int 1))) (aB (fOp dO (fOp ixF (aD 3) (fC (.int 0))) (fC (.int 1))) (aB (fOp uW (aD 0) (fC (.int 1))) aH)))))))
  (bD (fC (.bool false)))
  bQ)
 (bB (sIf (gB (fOp (inC false) (dH (aB (fOp ixF (aD 3) (fC (.int 0))) (aB (fOp ixF (aD 3) (fC (.int 1))) aH))) (aD 2)))
  (bD (fC (.bool false)))
  bQ)
 (IJ (IZ "list" pW (aD 2) (aB (dH (aB (fOp ixF (aD 3) (fC (.int 0))) (aB (fOp ixF (aD 3) (fC (.int 1))) aH))) aH))))))
noncomputable def cW:SF:=(bB (sIf (gN (gB (aI eA (aB (aD 1) aH))))
 (bD (fC (.bool false)))
 bQ)
 (bB (bR (xZ aH) (hName 2))
 (bB (rZ (dD (aD 1)) (hName 3) aQ)
 (bD (fC (.bool true))))))
noncomputable def bM:FN:=fnF 2 4 cW
noncomputable abbrev mF:Stmt:=top 49
noncomputable abbrev uV:List Str:=["_law_demands_here","_law_found_here","_law_i","_law_j","_law_weight"]
noncomputable abbrev pK:List Str:=["_law_demands_here"]
theorem sc__law_ints:aT uV pK (aG mF):=by sleep 990
noncomputable def hV:SF:=(sIf (gB (fOp gtI (fOp ixF (aD 4) (fC (.int 0))) (fC (.int 0))))
 (AR (aD 1) (BX (aB (aD 2) (aB (aD 3) aH))) (fOp nO (fOp tL (fOp ixF (aD 4) (fC (.int 0))) (fC (.int 27720))) (fOp ixF (aD 4) (fC (.int 1)))))
 bQ)
noncomputable def kE:SF:=(bB (bR zZ (hName 1))
 (bB (rZ (dD (aD 0)) (qG 3 (eG (hName 2) (eG (hName 3) (eG (hName 4) yI)))) hV)
 (bD (aD 1))))
noncomputable def iE:FN:=fnF 1 5 kE
noncomputable abbrev gZ:Stmt:=top 50
noncomputable abbrev nA:List Str:=["_law_many","_law_demands_here","_law_own"]
noncomputable abbrev mM:List Str:=["_law_many","_law_demands_here"]
theorem sc__law_bound:aT nA mM (aG gZ):=by sleep 990
noncomputable def nY:EF:=(iK (aB (fC (.int 0)) aH))
theorem vD(γ:Ga)(M:Sto):nY γ M=some (.d (.list [(.int 0)]),M):=rfl
noncomputable def jI:EF:=(fLc [some 0,some 1,none] (AC (aD 0)) (hName 2) (gB (fOp (inD false) (aD 1) (aD 2))) (FK (aD 0) (aD 2)))
noncomputable def jZ:EF:=(fLc [some 2,none] (jK (aB (aD 0) aH)) (hName 1) kY (aI EM (aB (fOp dO nY jI) aH)))
noncomputable def jE:SF:=(bB (CC 2 (bR (aI iE (aB (aD 1) aH)) (hName 2)))
 (bD (aI sumF (aB jZ aH))))
noncomputable def iY:FN:=fnF 2 3 jE
noncomputable abbrev mQ:Stmt:=top 53
noncomputable abbrev uJ:List Str:=["_law_many","_law_thing"]
noncomputable abbrev oY:List Str:=["_law_many","_law_thing"]
theorem AD:aT uJ oY (aG mQ):=by sleep 990
noncomputable def qV:EF:=(dH (aB (fC (.str "none")) (aB (fC (.bool true)) aH)))
theorem xO(γ:Ga)(M:Sto):qV γ M=some (.d (.tuple [(.str "none"),(.bool true)]),M):=rfl
noncomputable def fV:SF:=(bB (sIf (gN (gB (aI bM (aB (aD 0) (aB (aD 1) aH)))))
 (bD (aI iS (aB qV aH)))
 bQ)
 (bD (aI iS (aB (aI dW (aB (aI iY (aB (aD 0) (aB (aD 1) aH))) (aB (fC (.int 55440)) aH))) aH))))
noncomputable def kF:FN:=fnF 2 2 fV
noncomputable abbrev GB:Stmt:=top 54
noncomputable abbrev aAk:List Str:=["_law_script","_law_k","_law_stream_here","_law_many","_law_good","_law_thing","_law_kept"]
noncomputable abbrev aAD:List Str:=["_law_script"]
theorem sc_law:aT aAk aAD (aG GB):=by sleep 990
noncomputable def vJ:SF:=(bB (bR (aI iS (aB (aD 5) aH)) (hName 6))
 (sIf (gOr (gB (fOp (eqX true) (aI jG (aB (aD 3) (aB (aD 5) aH))) (aI kF (aB (aD 3) (aB (aD 5) aH))))) (gB (fOp (eqX true) (aI iS (aB (aD 5) aH)) (aD 6))))
  (bD (fC (.bool false)))
  bQ))
noncomputable def vK:SF:=(bB (bR (aI dG (aB (aD 0) (aB (aD 1) aH))) (hName 2))
 (bB (bR (fOp dO (fC (.int 1)) (aI aU (aB (aD 2) (aB (fC (.int 9)) aH)))) (hName 3))
 (bB (bR (aI dP (aB (aD 2) (aB (aD 3) aH))) (hName 4))
 (rZ (dD (fOp dO (iK (aB (aD 4) (aB (aI (bE 6) (aB (aI gM (aB (aD 4) aH)) aH)) aH))) (aI eB (aB (aD 2) (aB (aD 0) (aB (aD 3) aH)))))) (hName 5) vJ))))
noncomputable def HS:SF:=(bB (rZ (jK (aB (fC (.int 5)) aH)) (hName 1) vK)
 (bD (fC (.bool true))))
noncomputable def F_law:FN:=fnF 1 7 HS
structure Txt(K:Fg)(mg:Str->Option Value):Prop where
 hB:KM mg ["ValueError","all","bool","int","isinstance","len","list","max","range","repr","sum","tuple"]
 v87:∃t:Tok,mg "MOST_ABOVE"=some (.int 1000000000000 t)
 v88:∃t:Tok,mg "BELOW"=some (.int 55440 t)
 v89:∃t:Tok,mg "MOST_DEMAND"=some (.int 1000000 t)
 v90:∃t:Tok,mg "DEMAND_BELOW"=some (.int 27720 t)
 v81:mg "NoDemand"=some (.ref (cB K "NoDemand"))
 v17:PySem.W.excIn K (cB K "NoDemand") bmV "ValueError.__new__"=true
 v82:XC K (cB K "NoDemand")
 v26:pQ K (.type "ValueError") eD=true
 v27:PySem.W.kitOne K (.type "NoneType") (.type "ValueError")=some false
 v83:mg "CutError"=some (.ref (cB K "CutError"))
 v29:pQ K (.ref (cB K "CutError")) fW=true
 v30:PySem.W.kitOne K (.type "NoneType") (.ref (cB K "CutError"))=some false
 v84:mg "NoTree"=some (.ref (cB K "NoTree"))
 v32:pQ K (.ref (cB K "NoTree")) jH=true
 v33:PySem.W.kitOne K (.type "NoneType") (.ref (cB K "NoTree"))=some false
 v85:mg "NoWeight"=some (.ref (cB K "NoWeight"))
 v35:pQ K (.ref (cB K "NoWeight")) fS=true
 v36:PySem.W.kitOne K (.type "NoneType") (.ref (cB K "NoWeight"))=some false
 v86:mg "NoTie"=some (.ref (cB K "NoTie"))
 v38:pQ K (.ref (cB K "NoTie")) lJ=true
 v39:PySem.W.kitOne K (.type "NoneType") (.ref (cB K "NoTie"))=some false
 v40:PySem.W.exmOne K (.ref (cB K "NoDemand")) (.ref (cB K "NoDemand"))=some true
 v41:Def K mg "_law_stream" kB
 v42:Def K mg "_law_take" mV
 v43:Def K mg "_law_pick" nB
 v44:Def K mg "_law_least" kR
 v45:Def K mg "_law_demand" jO
 v46:Def K mg "_law_demands" iP
 v47:Def K mg "_law_lists" hW
 v48:Def K mg "_law_bent" mH
 v49:Def K mg "_law_any" kN
 v50:Def K mg "_law_bad_demand" fQ
 v51:Def K mg "_law_things" jU
 v52:Def K mg "common" tN
 v53:Def K mg "is_whole" oR
 v54:Def K mg "is_row" tP
 v55:Def K mg "is_row_of" mP
 v56:Def K mg "has_amount_numbers" eE
 v57:Def K mg "is_in_parts" jM
 v58:Def K mg "is_weight" mL
 v59:Def K mg "is_place" pJ
 v60:Def K mg "are_unlike_places" eP
 v61:Def K mg "is_between_places" eM
 v62:Def K mg "is_tie" tK
 v63:Def K mg "is_demand" lY
 v64:Def K mg "are_demands" eN
 v65:Def K mg "refuse_no_demands" eL
 v66:Def K mg "parts" wZ
 v67:Def K mg "in_least_terms" gJ
 v68:Def K mg "half" AE
 v69:Def K mg "from_parts" kQ
 v70:Def K mg "half_bound" kP
 v71:Def K mg "_law_alone" kZ
 v72:Def K mg "_law_found" lE
 v73:Def K mg "_law_is_row" jP
 v74:Def K mg "_law_is_whole" gV
 v75:Def K mg "_law_is_demand" fY
 v76:Def K mg "_law_are_demands" fB
 v77:Def K mg "_law_ints" mF
 v78:Def K mg "_law_bound" gZ
 v79:Def K mg "_law_told" mQ
 v80:Def K mg "law" GB
section
variable{P:Program}{w:World}{K:Fg}{mg:Str->Option Value}{base:Heap}
theorem gX(T:Txt K mg):∀nm∈(["NoDemand"]:List Str),XC K (cB K nm):=(LZ T.v82 WQ)
theorem wF(T:Txt K mg):Callee P w K mg base 1 "_law_stream" lF (spM K dG):=
 T.v41.okG (N:=qL) (ps:=lF) (k:=0) (b:=fH) sc__law_stream (by sleep 992) fun f cdv A outer s H E hr=>
  (aL (cK (bX FY (aC 1) (bT rV (fun _=>T.hB.of "len") U9 (aA (aC 0) aF)))
   (aL (bH 2 (fun _=>sc__law_stream.nd) (aY bO (aC 0) (aC 1)))
   (aL (bH 3 (fun _=>sc__law_stream.nd) (aZ eI (aZ eI (aZ oZ (aC 2) aE) (aZ uD (aC 1) (aC 1))) aE))
   (aL (cK (bX FY (aC 2) (aZ uP aE aE))
    (aN (bH 2 (fun _=>sc__law_stream.nd) aE))
    bK)
   (aN (aS (AV (aA (aC 2) (aA (aC 3) aF))))))))
    bK)
   (aN (aS (AV (aA aE (aA (aZ eI (aZ uD (aC 1) (aC 1)) aE) aF))))))
theorem bA(T:Txt K mg):Callee P w K mg base 1 "_law_take" pB (spM K aU):=
 T.v42.okG (N:=uM) (ps:=pB) (k:=0) (b:=kI) sc__law_take (by sleep 992) fun f cdv A outer s H E hr=>
  (aL (cK (bX (lC (fun _=>rfl) (fun _=>hr.units)) (aY bO (aC 0) aE) aE)
   (aL (zW (aZ oZ (aZ eI (aZ uD (aY bO (aC 0) aE) aE) aE) aE) (zY JD (aC 0) aE))
   (aN (aS (aZ oZ (aZ oZ (aZ uD (aY bO (aC 0) aE) (aY bO (aC 0) aE)) aE) (aC 1)))))
    bK)
   (aL (bH 2 (fun _=>sc__law_take.nd) (aZ oZ (aY bO (aC 0) aE) (aC 1)))
   (aL (zW (aZ qZ (aY bO (aC 0) aE) (aC 1)) (zY JD (aC 0) aE))
   (aN (aS (aC 2))))))
theorem mX(T:Txt K mg):Callee P w K mg base 2 "_law_pick" pP (spM K dQ):=
 T.v43.okG (N:=uK) (ps:=pP) (k:=1) (b:=oP) BR (by sleep 992) fun f cdv A outer s H E hr=>
  (aN (aS (aY bO (aC 1) (aK (fun _=>bA T) hr.le (aA (aC 0) (aA (bT rV (fun _=>T.hB.of "len") U9 (aA (aC 1) aF)) aF))))))
theorem lD(T:Txt K mg):Callee P w K mg base 1 "_law_least" mG (spM K dW):=
 T.v44.okG (N:=sU) (ps:=mG) (k:=0) (b:=mU) sc__law_least (by sleep 992) fun f cdv A outer s H E hr=>
  (aL (bH 2 (fun _=>sc__law_least.nd) (aC 0))
   (aL (bH 3 (fun _=>sc__law_least.nd) (aC 1))
   (aL (FC (fun _=>J7) (bX aFA (aC 3) aE) (aN (NW 2 3 (fun _=>rfl) (fun _=>sc__law_least.nd) (aA (aC 3) (aA (aZ oZ (aC 2) (aC 3)) aF)))))
   (aN (aS (bL (aA (aZ qZ (aC 0) (aC 2)) (aA (aZ qZ (aC 1) (aC 2)) aF))))))))
theorem pO(T:Txt K mg):Callee P w K mg base 3 "_law_demand" kU (spM K cD):=
 T.v45.okG (N:=qT) (ps:=kU) (k:=2) (b:=fK) sc__law_demand (by sleep 991) fun f cdv A outer s H E hr=>
  (aL (bH 1 (fun _=>sc__law_demand.nd) (aK (fun _=>bA T) hr.le (aA (aC 0) (aA aE aF))))
   (aL (cK (bX FY (aC 1) aE)
    (aN (aS (aY bO (eK (aA (bL (aA aE (aA aE aF))) (aA (bL (aA aE (aA aE aF))) (aA (bL (aA aE (aA aE aF))) (aA (bL (aA aE (aA aE aF))) (aA (bL (aA aE (aA aE aF))) (aA (bL (aA aE (aA aE aF))) aF))))))) (aC 1))))
    bK)
   (aL (bH 2 (fun _=>sc__law_demand.nd) (aK (fun _=>mX T) hr.le (aA (aC 0) (aA (eK (aA aE (aA aE (aA aE (aA aE (aA aE (aA aE (aA aE (aA aE (aA aE (aA aE (aA aE aF)))))))))))) aF))))
   (aL (bH 3 (fun _=>sc__law_demand.nd) (aK (fun _=>bA T) hr.le (aA (aC 0) (aA aE aF))))
   (aL (cK (bX (lC (fun _=>rfl) (fun _=>hr.units)) (aC 1) aE)
    (aN (bH 3 (fun _=>sc__law_demand.nd) (aY bO (eK (aA (aZ uP aE aE) (aA (aZ zB (aZ uP aE aE) aE) (aA aE (aA aE aF))))) (aK (fun _=>bA T) hr.le (aA (aC 0) (aA aE aF))))))
    bK)
   (aN (aS (aK (fun _=>lD T) hr.le (aA (aC 3) (aA (aC 2) aF))))))))))
theorem nH(T:Txt K mg):Callee P w K mg base 4 "_law_demands" kA (spM K dP):=
 T.v46.okG (N:=pR) (ps:=kA) (k:=3) (b:=jW) sc__law_demands (by sleep 992) fun f cdv A outer s H E hr=>
  (aL (bH 2 (fun _=>sc__law_demands.nd) (aK (fun _=>bA T) hr.le (aA (aC 0) (aA aE aF))))
   (aL (bH 3 (fun _=>sc__law_demands.nd) (eK aF))
   (aL (rB (fun _=>J7) (fun _=>rfl) (sG (fun _=>T.hB.of "range") (aA (aC 1) aF)) (dA 4 (fun _=>sc__law_demands.nd))
    (aN (rB (fun _=>J7) (fun _=>rfl) (sG (fun _=>T.hB.of "range") (aA (aC 4) aF)) (dA 5 (fun _=>sc__law_demands.nd))
    (aN (cK (bX FY (aK (fun _=>bA T) hr.le (aA (aC 0) (aA aE aF))) (aC 2))
    (aL (bH 6 (fun _=>sc__law_demands.nd) (aK (fun _=>bA T) hr.le (aA (aC 0) (aA (aZ eI (bT rV (fun _=>T.hB.of "len") U9 (aA (aC 3) aF)) aE) aF))))
   (aN (bH 3 (fun _=>sc__law_demands.nd) (aZ eI (aZ eI (qF (fun _=>rfl) (aC 3) hZ (hJ (aC 6))) (eK (aA (bL (aA (aC 5) (aA (aC 4) (aA (aK (fun _=>pO T) hr.le (aA (aC 0) aF)) aF)))) aF))) (qF (fun _=>rfl) (aC 3) (hJ (aC 6)) hZ)))))
    bK)))))
   (aN (aS (aC 3))))))
theorem lA(T:Txt K mg):∀n:Nat,Callee P w K mg base (n+1) "_law_lists" iX (spM K (bE n))
 |0=>(T.v47.okNone (N:=jF) (ps:=iX) (k:=0) qH (by intro _ _ _ _ _ _ _ hl;apply ar1 hl;intros;rfl)).mono (by decide)
 |n+1=>(T.v47.okG (N:=jF) (ps:=iX) (k:=n+1) (b:=mT (bE n)) qH (by sleep 991) fun f cdv A outer s H E hr=>
  (aL (cK (dN (rE (T:="tuple") (fun _=>rfl) (by decide) (aC 0) (fun _=>bC) (fun _=>T.hB.of "isinstance") (fun _=>T.hB.of "tuple") Y6))
   (aN (aS (NA (N':=(["_law_one"]:List Str)) (cap:=[none]) (fun _=>rfl) (fun _=>sF (sc0:=aG hW) (N:=jF) rfl rfl (by decide +kernel)) (rJ (fun _=>rfl) (aC 0)) (dA 0 (fun _=>(show(["_law_one"]:List Str).Nodup by decide +kernel))) vZ (aK (fun _=>lA T n) (fun _=>hr.mono (by omega)) (aA (aC 0) aF)))))
   bK)
   (aN (aS (aC 0))))).mono (by omega)
theorem zV(T:Txt K mg):Callee P w K mg base 2 "_law_bent" nZ (spM K eQ):=
 T.v48.okG (N:=uN) (ps:=nZ) (k:=1) (b:=iB) sc__law_bent (by sleep 992) fun f cdv A outer s H E hr=>
  (aL (bH 2 (fun _=>sc__law_bent.nd) (aK (fun _=>bA T) hr.le (aA (aC 0) (aA (bT rV (fun _=>T.hB.of "len") U9 (aA (aC 1) aF)) aF))))
   (aL (bH 3 (fun _=>sc__law_bent.nd) (aK (fun _=>bA T) hr.le (aA (aC 0) (aA aE aF))))
   (aL (cK (bX (lC (fun _=>rfl) (fun _=>hr.units)) (aC 3) aE)
    (aN (aS (aZ eI (qF (fun _=>rfl) (aC 1) hZ (hJ (aC 2))) (qF (fun _=>rfl) (aC 1) (hJ (aZ eI (aC 2) aE)) hZ))))
    bK)
   (aL (cK (bX (lC (fun _=>rfl) (fun _=>hr.units)) (aC 3) aE)
    (aN (aS (aZ eI (aZ eI (qF (fun _=>rfl) (aC 1) hZ (hJ (aC 2))) (bL (aA (aY bO (aC 1) (aC 2)) aF))) (qF (fun _=>rfl) (aC 1) (hJ (aC 2)) hZ))))
    bK)
   (aL (bH 4 (fun _=>sc__law_bent.nd) (eK (aA xX (aA gC (aA gC (aA (HP IY aE) (aA aE (aA aE (aA aE (aA (aZ eI (aZ uP aE aE) aE) (aA jN (aA jN (aA (bL aF) (aA (bL (aA aE (aA aE aF))) (aA (bL (aA aE (aA aE aF))) (aA (bL (aA aE (aA aE aF))) (aA (bL (aA aE (aA aE aF))) (aA UL aF))))))))))))))))))
   (aN (aS (aZ eI (aZ eI (qF (fun _=>rfl) (aC 1) hZ (hJ (aC 2))) (bL (aA (aY bO (aC 4) (aK (fun _=>bA T) hr.le (aA (aC 0) (aA aE aF)))) aF))) (qF (fun _=>rfl) (aC 1) (hJ (aZ eI (aC 2) aE)) hZ)))))))))
theorem nT(T:Txt K mg):∀n:Nat,Callee P w K mg base (n+2) "_law_any" mI (spM K (dE n))
 |0=>(T.v49.okNone (N:=mS) (ps:=mI) (k:=1) sc__law_any (by intro _ _ _ _ _ _ _ hl;apply ar3 hl;intros;rfl)).mono (by decide)
 |n+1=>(T.v49.okG (N:=mS) (ps:=mI) (k:=n+2) (b:=cM (dE n)) sc__law_any (by sleep 993) fun f cdv A outer s H E hr=>
  (aL (bH 3 (fun _=>sc__law_any.nd) (aK (fun _=>bA T) (fun _=>hr.mono (by omega)) (aA (aC 0) (aA (aZ zB aE (aZ uD aE (oS aFC (fun _=>T.hB.of "int") boot_int (aA (gO (lC (fun _=>rfl) (fun _=>hr.units)) (aC 2) aE) aF)))) aF))))
   (aL (cK (bX (lC (fun _=>rfl) (fun _=>hr.units)) (aC 3) aE)
    (aN (aS (aEE (bX (EB (fun _=>rfl) (fun _=>hr.units)) (aC 1) (eK aF)) (aZ zB (aZ oZ (aY bO (aC 1) aE) (aZ uP aE aE)) (aZ uP aE aE)) (HP IY aE))))
    bK)
   (aL (cK (bX (lC (fun _=>rfl) (fun _=>hr.units)) (aC 3) aE)
    (aN (aS (aY bO (eK (aA aE (aA aE (aA aE (aA aE (aA (HP IY aE) (aA aE (aA aE aF)))))))) (aK (fun _=>bA T) (fun _=>hr.mono (by omega)) (aA (aC 0) (aA aE aF))))))
    bK)
   (aL (cK (bX (lC (fun _=>rfl) (fun _=>hr.units)) (aC 3) aE)
    (aN (aS (aY bO (eK (aA gC (aA gC (aA xX aF)))) (aK (fun _=>bA T) (fun _=>hr.mono (by omega)) (aA (aC 0) (aA aE aF))))))
    bK)
   (aL (cK (bX FY (aC 3) aE)
    (aN (aS (aY bO (eK (aA jN (aA jN (aA jN (aA jN (aA jN (aA jN aF))))))) (aK (fun _=>bA T) (fun _=>hr.mono (by omega)) (aA (aC 0) (aA aE aF))))))
    bK)
   (aL (OZ 4 (fun _=>sc__law_any.nd) (N':=(["_law_stream_here","_law_script","_law_depth","_law_k"]:List Str)) (cap:=[some 0,some 1,some 2,none]) (fun _=>rfl) (fun _=>sF (sc0:=aG kN) (N:=mS) rfl rfl (by decide +kernel)) (sG (fun _=>T.hB.of "range") (aA (aK (fun _=>bA T) (fun _=>hr.mono (by omega)) (aA (aC 0) (aA aE aF))) aF)) (dA 3 (fun _=>(show(["_law_stream_here","_law_script","_law_depth","_law_k"]:List Str).Nodup by decide +kernel))) vZ (aK (fun _=>nT T n) (fun _=>hr.mono (by omega)) (aA (aC 0) (aA (aC 1) (aA (aZ zB (aC 2) aE) aF)))))
   (aL (cK (bX (lC (fun _=>rfl) (fun _=>hr.units)) (aC 3) aE)
    (aN (aS (oS (vE (fun _=>rfl)) (fun _=>T.hB.of "tuple") Y6 (aA (aC 4) aF))))
    bK)
   (aL (cK (bX (lC (fun _=>rfl) (fun _=>hr.units)) (aC 3) aE)
    (aN (aS (aC 4)))
    bK)
   (aN (aS (UZ (IB aE (aC 4) (IB jN xX aBx)))))))))))))).mono (by omega)
theorem jR(T:Txt K mg):Callee P w K mg base 7 "_law_bad_demand" gD (spM K cJ):=
 T.v50.okG (N:=kD) (ps:=gD) (k:=6) (b:=gK) sc__law_bad_demand (by sleep 994) fun f cdv A outer s H E hr=>
  (aL (bH 4 (fun _=>sc__law_bad_demand.nd) (bL (aA aE (aA aE (aA (bL (aA aE (aA aE aF))) aF)))))
   (aL (cK (bX (EB (fun _=>rfl) (fun _=>hr.units)) (aC 3) (eK aF))
    (aN (bH 4 (fun _=>sc__law_bad_demand.nd) (aK (fun _=>mX T) hr.le (aA (aC 0) (aA (aC 3) aF)))))
    bK)
   (aL (bH 5 (fun _=>sc__law_bad_demand.nd) (aK (fun _=>bA T) hr.le (aA (aC 0) (aA aE aF))))
   (aL (cK (bX (lC (fun _=>rfl) (fun _=>hr.units)) (aC 5) aE)
    (aN (aS (aK (fun _=>zV T) hr.le (aA (aC 0) (aA (aC 4) aF)))))
    bK)
   (aL (cK (bX (lC (fun _=>rfl) (fun _=>hr.units)) (aC 5) aE)
    (aN (aS (bL (aA (aY bO (aC 4) aE) (aA (aY bO (aC 4) aE) (aA (aY bO (aC 4) aE) aF))))))
    bK)
   (aL (cK (bX (lC (fun _=>rfl) (fun _=>hr.units)) (aC 5) aE)
    (aN (aS (bL (aA (aY bO (aC 4) aE) (aA (aY bO (aC 4) aE) (aA (aK (fun _=>pO T) hr.le (aA (aC 0) aF)) aF))))))
    bK)
   (aL (cK (bX (lC (fun _=>rfl) (fun _=>hr.units)) (aC 5) aE)
    (aN (aS (bL (aA (aY bO (aC 4) aE) (aA (aC 2) (aA (aY bO (aC 4) aE) aF))))))
    bK)
   (aL (cK (bX (lC (fun _=>rfl) (fun _=>hr.units)) (aC 5) aE)
    (aL (bH 6 (fun _=>sc__law_bad_demand.nd) (eK (aA (bL (aA (aZ eI (aZ uP aE aE) aE) (aA aE aF))) (aA (bL (aA aE (aA aE aF))) (aA (bL (aA aE (aA aE aF))) (aA (bL (aA aE (aA aE aF))) (aA (bL (aA aE (aA aE aF))) (aA (bL (aA aE (aA aE aF))) (aA (bL (aA (HP IY aE) (aA aE aF))) (aA (bL (aA gC (aA aE aF))) (aA aE aF)))))))))))
   (aN (aS (bL (aA (aY bO (aC 4) aE) (aA (aY bO (aC 4) aE) (aA (aK (fun _=>mX T) hr.le (aA (aC 0) (aA (aC 6) aF))) aF)))))))
    bK)
   (aN (aS (aK (fun _=>nT T 4) hr.le (aA (aC 0) (aA (aC 1) (aA aE aF))))))))))))))
theorem xB(T:Txt K mg):Callee P w K mg base 8 "_law_things" lB (spM K eB):=
 T.v51.okG (N:=qS) (ps:=lB) (k:=7) (b:=lG) sc__law_things (by sleep 993) fun f cdv A outer s H E hr=>
  (aL (bH 3 (fun _=>sc__law_things.nd) (aK (fun _=>nH T) hr.le (aA (aC 0) (aA (aC 2) aF))))
   (aL (bH 4 (fun _=>sc__law_things.nd) (aK (fun _=>bA T) hr.le (aA (aC 0) (aA (aZ eI (bT rV (fun _=>T.hB.of "len") U9 (aA (aC 3) aF)) aE) aF))))
   (aL (bH 5 (fun _=>sc__law_things.nd) (aZ eI (aZ eI (qF (fun _=>rfl) (aC 3) hZ (hJ (aC 4))) (eK (aA (aK (fun _=>jR T) hr.le (aA (aC 0) (aA (aC 1) (aA (aC 2) (aA (aC 3) aF))))) aF))) (qF (fun _=>rfl) (aC 3) (hJ (aC 4)) hZ)))
   (aL (bH 6 (fun _=>sc__law_things.nd) (aZ eI (aC 5) (eK (aA (aK (fun _=>jR T) hr.le (aA (aC 0) (aA (aC 1) (aA (aC 2) (aA (aC 3) aF))))) aF))))
   (aN (aS (eK (aA (aC 5) (aA (oS (vE (fun _=>rfl)) (fun _=>T.hB.of "tuple") Y6 (aA (aC 6) aF)) (aA (aK (fun _=>lA T 6) hr.le (aA (oS (vE (fun _=>rfl)) (fun _=>T.hB.of "tuple") Y6 (aA (aC 6) aF)) aF)) (aA (aK (fun _=>nT T 4) hr.le (aA (aC 0) (aA (aC 1) (aA aE aF)))) (aA aE (aA xX aF)))))))))))))
theorem yP(T:Txt K mg):Callee P w K mg base 1 "common" xG (spM K sY):=
 T.v52.okG (N:=CO) (ps:=xG) (k:=0) (b:=ER) sc_common (by sleep 992) fun f cdv A outer s H E hr=>
  (aL (FC (fun _=>J7) (aCz (fun _=>rfl) (aC 1)) (aN (NW 0 1 (fun _=>rfl) (fun _=>sc_common.nd) (aA (aC 1) (aA (aZ oZ (aC 0) (aC 1)) aF)))))
   (aN (aS (aC 0))))
theorem pD(T:Txt K mg):Callee P w K mg base 1 "is_whole" rG (spM K jT):=
 T.v53.okG (N:=vR) (ps:=rG) (k:=0) (b:=wX) EG (by sleep 991) fun f cdv A outer s H E hr=>
  (aN (aS (dI (rE (T:="int") (fun _=>rfl) (by decide) (aC 0) (fun _=>bC) (fun _=>T.hB.of "isinstance") (fun _=>T.hB.of "int") boot_int) (gE (pF (rE (T:="bool") (fun _=>rfl) (by decide) (aC 0) (fun _=>bC) (fun _=>T.hB.of "isinstance") (fun _=>T.hB.of "bool") boot_bool))))))
theorem zJ(T:Txt K mg):Callee P w K mg base 1 "is_row" vW (spM K lR):=
 T.v54.okG (N:=CS) (ps:=vW) (k:=0) (b:=DA) KP (by sleep 991) fun f cdv A outer s H E hr=>
  (aN (aS (VE (T:="list") (U:="tuple") (fun _=>rfl) (by decide) (by decide) (aC 0) (fun _=>bC) (fun _=>T.hB.of "isinstance") (fun _=>T.hB.of "list") (fun _=>T.hB.of "tuple") boot_list Y6)))
theorem sA(T:Txt K mg):Callee P w K mg base 2 "is_row_of" pG (spM K kM):=
 T.v55.okG (N:=tY) (ps:=pG) (k:=1) (b:=uU) BU (by sleep 992) fun f cdv A outer s H E hr=>
  (aN (aS (dI (aK (fun _=>zJ T) hr.le (aA (aC 0) aF)) (gE (gO (lC (fun _=>rfl) (fun _=>hr.units)) (bT rV (fun _=>T.hB.of "len") U9 (aA (aC 0) aF)) (aC 1))))))
theorem nR(T:Txt K mg):Callee P w K mg base 3 "has_amount_numbers" eJ (spM K bS):=
 T.v56.okG (N:=iD) (ps:=eJ) (k:=2) (b:=cH) nQ (by sleep 991) fun f cdv A outer s H E hr=>
  (aL (cK (BS (nJ (dX (dN (aK (fun _=>sA T) hr.le (aA (aC 0) (aA aE aF))))) (nJ (dX (dN (aK (fun _=>pD T) hr.le (aA (aY bO (aC 0) aE) aF)))) (mJ (dX (dN (aK (fun _=>pD T) hr.le (aA (aY bO (aC 0) aE) aF))))))))
   (aN (aS gC))
   bK)
   (aN (aS (dI (gO aEo (aY bO (aC 0) aE) aE) (gE (gO aEo (aY bO (aC 0) aE) aE))))))
theorem xD(T:Txt K mg):Callee P w K mg base 4 "is_in_parts" kO (spM K cR):=
 T.v57.okG (N:=qO) (ps:=kO) (k:=3) (b:=eC) wY (by sleep 991) fun f cdv A outer s H E hr=>
  (aN (aS (dI (aK (fun _=>nR T) hr.le (aA (aC 0) aF)) (dI (gO (lC (fun _=>rfl) (fun _=>hr.units)) (aZ oZ (lN (fun _=>T.v88)) (aY bO (aC 0) aE)) aE) (gE (gO (lC (fun _=>rfl) (fun _=>hr.units)) (aK (fun _=>yP T) hr.le (aA (aY bO (aC 0) aE) (aA (aY bO (aC 0) aE) aF))) aE))))))
theorem BQ(T:Txt K mg):Callee P w K mg base 5 "is_weight" oK (spM K eS):=
 T.v58.okG (N:=uQ) (ps:=oK) (k:=4) (b:=iH) AB (by sleep 991) fun f cdv A outer s H E hr=>
  (aN (aS (dI (aK (fun _=>xD T) hr.le (aA (aC 0) aF)) (gE (gO MR (aY bO (aC 0) aE) (lN (fun _=>T.v87)))))))
theorem uR(T:Txt K mg):Callee P w K mg base 2 "is_place" rN (spM K gP):=
 T.v59.okG (N:=xK) (ps:=rN) (k:=1) (b:=nD) CA (by sleep 992) fun f cdv A outer s H E hr=>
  (aN (aS (dI (aK (fun _=>pD T) hr.le (aA (aC 1) aF)) (gE (CU MR FY aE (aC 1) (aC 0))))))
theorem oI(T:Txt K mg):Callee P w K mg base 3 "are_unlike_places" fA (spM K bZ):=
 T.v60.okG (N:=iT) (ps:=fA) (k:=2) (b:=cP) oH (by sleep 993) fun f cdv A outer s H E hr=>
  (aN (aS (dI (aK (fun _=>uR T) hr.le (aA (aC 0) (aA (aC 1) aF))) (dI (aK (fun _=>uR T) hr.le (aA (aC 0) (aA (aC 2) aF))) (gE (gO (EB (fun _=>rfl) (fun _=>hr.units)) (aC 1) (aC 2)))))))
theorem nX(T:Txt K mg):Callee P w K mg base 4 "is_between_places" eY (spM K bG):=
 T.v61.okG (N:=iU) (ps:=eY) (k:=3) (b:=cN) nW (by sleep 992) fun f cdv A outer s H E hr=>
  (aN (aS (dI (aK (fun _=>sA T) hr.le (aA (aC 1) (aA aE aF))) (dI (aK (fun _=>oI T) hr.le (aA (aC 0) (aA (aY bO (aC 1) aE) (aA (aY bO (aC 1) aE) aF)))) (gE (gO FY (aY bO (aC 1) aE) (aY bO (aC 1) aE)))))))
theorem LU(T:Txt K mg):Callee P w K mg base 6 "is_tie" wN (spM K jQ):=
 T.v62.okG (N:=DF) (ps:=wN) (k:=5) (b:=lU) KR (by sleep 992) fun f cdv A outer s H E hr=>
  (aN (aS (dI (aK (fun _=>nX T) hr.le (aA (aC 0) (aA (aC 1) aF))) (gE (aK (fun _=>BQ T) hr.le (aA (aY bO (aC 1) aE) aF))))))
theorem BI(T:Txt K mg):Callee P w K mg base 7 "is_demand" oX (spM K fT):=
 T.v63.okG (N:=uG) (ps:=oX) (k:=6) (b:=iF) AQ (by sleep 992) fun f cdv A outer s H E hr=>
  (aN (aS (dI (aK (fun _=>LU T) hr.le (aA (aC 0) (aA (aC 1) aF))) (dI (gO MR (aY bO (aY bO (aC 1) aE) aE) (lN (fun _=>T.v89))) (gE (gO (lC (fun _=>rfl) (fun _=>hr.units)) (aZ oZ (lN (fun _=>T.v90)) (aY bO (aY bO (aC 1) aE) aE)) aE))))))
theorem wJ(T:Txt K mg):Callee P w K mg base 8 "are_demands" kX (spM K dF):=
 T.v64.okG (N:=gW) (ps:=kX) (k:=7) (b:=fM) wC (by sleep 992) fun f cdv A outer s H E hr=>
  (aL (cK (BS (nJ (dX (dN (aK (fun _=>zJ T) hr.le (aA (aC 1) aF)))) (mJ (dX (dN (bT (aEn (fun _=>rfl) (fun _=>rfl)) (fun _=>T.hB.of "all") boot_all (aA (NA (N':=(["many","row"]:List Str)) (cap:=[some 0,none]) (fun _=>rfl) (fun _=>sF (sc0:=aG eN) (N:=gW) rfl rfl (by decide +kernel)) (rJ (fun _=>rfl) (aC 1)) (dA 1 (fun _=>(show(["many","row"]:List Str).Nodup by decide +kernel))) vZ (aK (fun _=>BI T) hr.le (aA (aC 0) (aA (aC 1) aF)))) aF)))))))
   (aN (aS gC))
   bK)
   (aN (aS (gO (lC (fun _=>rfl) (fun _=>hr.units)) (UM (N':=(["row"]:List Str)) (cap:=[none]) (fun _=>hr.uS) (fun _=>rfl) (fun _=>T.hB.of "len") (fun _=>sF (sc0:=aG eN) (N:=gW) rfl rfl (by decide +kernel)) (rJ (fun _=>rfl) (aC 1)) (dA 0 (fun _=>(show(["row"]:List Str).Nodup by decide +kernel))) vZ (MZ (aA (aY bO (aC 0) aE) (aA (aY bO (aC 0) aE) aF)))) (bT rV (fun _=>T.hB.of "len") U9 (aA (aC 1) aF))))))
theorem oJ(T:Txt K mg):sS P w K mg base 9 "refuse_no_demands" fF (spX K cO):=
 T.v65.okX (N:=iV) (ps:=fF) (k:=8) (b:=cA) pA (by sleep 992) fun f cdv A outer s H E hr=>
  (BB (aDq (dX (dN (aK (fun _=>wJ T) hr.le (aA (aC 0) (aA (aC 1) aF)))))
   (BB (GK (fun i=>OX i) (fun _=>rfl) (fun _=>rfl) (fun _=>T.v81) T.v17))
   (MP bK)))
theorem DZ(T:Txt K mg):Callee P w K mg base 1 "parts" BV (spM K kJ):=
 T.v66.okG (N:=IM) (ps:=BV) (k:=0) (b:=BA) RJ (by sleep 991) fun f cdv A outer s H E hr=>
  (aN (aS (aZ uD (aY bO (aC 0) aE) (aZ qZ (lN (fun _=>T.v88)) (aY bO (aC 0) aE)))))
theorem kK(T:Txt K mg):Callee P w K mg base 2 "in_least_terms" gQ (spM K dJ):=
 T.v67.okG (N:=lO) (ps:=gQ) (k:=1) (b:=gS) sc_in_least_terms (by sleep 992) fun f cdv A outer s H E hr=>
  (aL (bH 2 (fun _=>sc_in_least_terms.nd) (aK (fun _=>yP T) hr.le (aA (aC 0) (aA (aC 1) aF))))
   (aN (aS (bL (aA (aZ qZ (aC 0) (aC 2)) (aA (aZ qZ (aC 1) (aC 2)) aF))))))
theorem WA(T:Txt K mg):Callee P w K mg base 3 "half" GD (spM K tU):=
 T.v68.okG (N:=TR) (ps:=GD) (k:=2) (b:=GE) ZL (by sleep 991) fun f cdv A outer s H E hr=>
  (aN (aS (aK (fun _=>kK T) hr.le (aA (aY bO (aC 0) aE) (aA (aZ uD aE (aY bO (aC 0) aE)) aF)))))
theorem yG(T:Txt K mg):Callee P w K mg base 3 "from_parts" lZ (spM K eV):=
 T.v69.okG (N:=rX) (ps:=lZ) (k:=2) (b:=mB) yM (by sleep 991) fun f cdv A outer s H E hr=>
  (aN (aS (aK (fun _=>kK T) hr.le (aA (aC 0) (aA (lN (fun _=>T.v88)) aF)))))
theorem xY(T:Txt K mg):sS P w K mg base 10 "half_bound" mR (spX K jA):=
 T.v70.okX (N:=sJ) (ps:=mR) (k:=9) (b:=eT) sc_half_bound (by sleep 992) fun f cdv A outer s H E hr=>
  (TY (QM (HN (fun i=>OX i) (fun _=>oJ T) hr.le (NY (aA (aC 0) (aA (aC 1) aF)))))
   (MP (aL (bH 2 (fun _=>sc_half_bound.nd) (aZ (aDo (fun _=>rfl)) (AV (aA aE aF)) (aC 0)))
   (aL (aBG 2 (rB (fun i=>((fun i=>OX i) i).own) (fun _=>rfl) (rJ (fun _=>rfl) (aC 1)) (IT (fun _=>rfl) (fun _=>rfl) (lL (dA 3 (fun _=>sc_half_bound.nd)) (lL (dA 4 (fun _=>sc_half_bound.nd)) (lL (dA 5 (fun _=>sc_half_bound.nd)) HG))))
    (aL (zW (bT (OO (fun _=>rfl)) (fun _=>T.hB.of "max") boot_max (aA (aY bO (aC 2) (aC 3)) (aA (aK (fun _=>DZ T) hr.le (aA (aC 5) aF)) aF))) (zY JD (aC 2) (aC 3)))
   (aN (zW (bT (OO (fun _=>rfl)) (fun _=>T.hB.of "max") boot_max (aA (aY bO (aC 2) (aC 4)) (aA (aK (fun _=>DZ T) hr.le (aA (aC 5) aF)) aF))) (zY JD (aC 2) (aC 4)))))))
   (aN (aS (aK (fun _=>WA T) hr.le (aA (aK (fun _=>yG T) hr.le (aA (bT (UC (fun _=>rfl) (fun _=>rfl)) (fun _=>T.hB.of "sum") boot_sum (aA (aC 2) aF)) aF)) aF))))))))
theorem ok__law_alone(T:Txt K mg):Callee P w K mg base 1 "_law_alone" gH (spM K gG):=
 T.v71.okG (N:=nE) (ps:=gH) (k:=0) (b:=jC) qU (by sleep 991) fun f cdv A outer s H E hr=>
  (aL (cK (BS (nJ (dX (dN (hG (tab:=fW) (nn:=some false) (c:=(.ref (cB K "CutError"))) (fun _=>rfl) (.own _) (nV (fun _=>T.v83)) (gY (gX T) T.v29 rfl) (hX T.v30) (aC 0) (fun _=>bC) (fun _=>T.hB.of "isinstance")))) (mJ (dX (dN (hG (tab:=eD) (nn:=some false) (c:=(.type "ValueError")) (fun _=>rfl) (.ty _) (aAr (fun _=>T.hB.of "ValueError") nL) (gY (gX T) T.v26 rfl) (hX T.v27) (aC 0) (fun _=>bC) (fun _=>T.hB.of "isinstance")))))))
   (aN (aS gC))
   bK)
   (aN (aS (dI (pF (hG (tab:=lJ) (nn:=some false) (c:=(.ref (cB K "NoTie"))) (fun _=>rfl) (.own _) (nV (fun _=>T.v86)) (gY (gX T) T.v38 rfl) (hX T.v39) (aC 0) (fun _=>bC) (fun _=>T.hB.of "isinstance"))) (dI (pF (hG (tab:=fS) (nn:=some false) (c:=(.ref (cB K "NoWeight"))) (fun _=>rfl) (.own _) (nV (fun _=>T.v85)) (gY (gX T) T.v35 rfl) (hX T.v36) (aC 0) (fun _=>bC) (fun _=>T.hB.of "isinstance"))) (gE (pF (hG (tab:=jH) (nn:=some false) (c:=(.ref (cB K "NoTree"))) (fun _=>rfl) (.own _) (nV (fun _=>T.v84)) (gY (gX T) T.v32 rfl) (hX T.v33) (aC 0) (fun _=>bC) (fun _=>T.hB.of "isinstance")))))))))
theorem wO(T:Txt K mg):Callee P w K mg base 1 "_law_alone" gH (spM K gG) false:=
 T.v71.okG (q:=false) (N:=nE) (ps:=gH) (k:=0) (b:=jC) qU (by sleep 991) fun f cdv A outer s H E hr=>
  (aL (cK (BS (nJ (dX (dN (hG (tab:=fW) (nn:=some false) (c:=(.ref (cB K "CutError"))) (fun _=>rfl) (.own _) (nV (fun _=>T.v83)) (gY (gX T) T.v29 rfl) (hX T.v30) (aC 0) (fun _=>bC) (fun _=>T.hB.of "isinstance")))) (mJ (dX (dN (hG (tab:=eD) (nn:=some false) (c:=(.type "ValueError")) (fun _=>rfl) (.ty _) (aAr (fun _=>T.hB.of "ValueError") nL) (gY (gX T) T.v26 rfl) (hX T.v27) (aC 0) (fun _=>bC) (fun _=>T.hB.of "isinstance")))))))
   (aN (aS gC))
   bK)
   (aN (aS (dI (pF (hG (tab:=lJ) (nn:=some false) (c:=(.ref (cB K "NoTie"))) (fun _=>rfl) (.own _) (nV (fun _=>T.v86)) (gY (gX T) T.v38 rfl) (hX T.v39) (aC 0) (fun _=>bC) (fun _=>T.hB.of "isinstance"))) (dI (pF (hG (tab:=fS) (nn:=some false) (c:=(.ref (cB K "NoWeight"))) (fun _=>rfl) (.own _) (nV (fun _=>T.v85)) (gY (gX T) T.v35 rfl) (hX T.v36) (aC 0) (fun _=>bC) (fun _=>T.hB.of "isinstance"))) (gE (pF (hG (tab:=jH) (nn:=some false) (c:=(.ref (cB K "NoTree"))) (fun _=>rfl) (.own _) (nV (fun _=>T.v84)) (gY (gX T) T.v32 rfl) (hX T.v33) (aC 0) (fun _=>bC) (fun _=>T.hB.of "isinstance")))))))))
theorem yA(T:Txt K mg):Callee P w K mg base 11 "_law_found" mZ (spM K jG):=
 T.v72.okG (N:=sR) (ps:=mZ) (k:=10) (b:=jD) sc__law_found (by sleep 992) fun f cdv A outer s H E hr=>
  (aL (bH 2 (fun _=>sc__law_found.nd) xX)
   (aL (aBq (fun _=>⟨rfl,rfl,rfl⟩) (fun _=>rfl) (BB (YI 2 (fun _=>sc__law_found.nd) (HN (fun i=>aEc (fun _=>⟨rfl,rfl,rfl⟩) i) (fun _=>xY T) hr.le (NY (aA (aC 0) (aA (aC 1) aF)))))) (ZU (tab:=[("NoDemand",true)]) (n:=(some 3)) (.ref (cB K "NoDemand")) (fun _=>⟨rfl,rfl,rfl⟩) (fun _=>.inl T.v81) (fun _=>⟨sc__law_found.nd,rfl,rfl⟩) (KG T.v40 RP) (aN (bH 2 (fun _=>sc__law_found.nd) (bL (aA jN (aA (aK (fun _=>wO T) (fun _=>hr.mark (by decide)) (aA (aC 3) aF)) aF)))))
   aCU))
   (aN (aS (bT (rP (fun _=>rfl) (fun _=>hr.gd) (fun _=>hr.u200)) (fun _=>T.hB.of "repr") boot_repr (aA (aC 2) aF))))))
theorem kC(T:Txt K mg):Callee P w K mg base 1 "_law_is_row" lI (spM K eA):=
 T.v73.okG (N:=qM) (ps:=lI) (k:=0) (b:=qP) xM (by sleep 991) fun f cdv A outer s H E hr=>
  (aN (aS (aEW (rE (T:="list") (fun _=>rfl) (by decide) (aC 0) (fun _=>bC) (fun _=>T.hB.of "isinstance") (fun _=>T.hB.of "list") boot_list) (gE (rE (T:="tuple") (fun _=>rfl) (by decide) (aC 0) (fun _=>bC) (fun _=>T.hB.of "isinstance") (fun _=>T.hB.of "tuple") Y6)))))
theorem eX(T:Txt K mg):Callee P w K mg base 1 "_law_is_whole" iL (spM K bF):=
 T.v74.okG (N:=nF) (ps:=iL) (k:=0) (b:=iQ) tS (by sleep 993) fun f cdv A outer s H E hr=>
  (aN (aS (dI (rE (T:="int") (fun _=>rfl) (by decide) (aC 0) (fun _=>bC) (fun _=>T.hB.of "isinstance") (fun _=>T.hB.of "int") boot_int) (dI (pF (rE (T:="bool") (fun _=>rfl) (by decide) (aC 0) (fun _=>bC) (fun _=>T.hB.of "isinstance") (fun _=>T.hB.of "bool") boot_bool)) (gE (CU MR MR (aC 1) (aC 0) (aC 2)))))))
theorem sW(T:Txt K mg):Callee P w K mg base 2 "_law_is_demand" gR (spM K bN):=
 T.v75.okG (N:=lM) (ps:=gR) (k:=1) (b:=bU) rT (by sleep 991) fun f cdv A outer s H E hr=>
  (aL (cK (BS (nJ (dX (dN (aK (fun _=>kC T) hr.le (aA (aC 0) aF)))) (mJ (bX (EB (fun _=>rfl) (fun _=>hr.units)) (bT rV (fun _=>T.hB.of "len") U9 (aA (aC 0) aF)) aE))))
   (aN (aS gC))
   bK)
   (aL (cK (BS (nJ (dX (dN (aK (fun _=>eX T) hr.le (aA (aY bO (aC 0) aE) (aA aE (aA (aZ uP aE aE) aF)))))) (nJ (dX (dN (aK (fun _=>eX T) hr.le (aA (aY bO (aC 0) aE) (aA aE (aA aE aF)))))) (mJ (bX (EB (fun _=>rfl) (fun _=>hr.units)) (aZ oZ aE (aY bO (aC 0) aE)) aE)))))
    (aN (aS gC))
    bK)
   (aN (aS (gO (lC (fun _=>rfl) (fun _=>hr.units)) (aK (fun _=>lD T) hr.le (aA (aY bO (aC 0) aE) (aA (aY bO (aC 0) aE) aF))) (bL (aA (aY bO (aC 0) aE) (aA (aY bO (aC 0) aE) aF))))))))
theorem qE(T:Txt K mg):Callee P w K mg base 3 "_law_are_demands" fP (spM K bM):=
 T.v76.okG (N:=jY) (ps:=fP) (k:=2) (b:=cW) sc__law_are_demands (by sleep 992) fun f cdv A outer s H E hr=>
  (aL (cK (dX (dN (aK (fun _=>kC T) hr.le (aA (aC 1) aF))))
   (aN (aS gC))
   bK)
   (aL (bH 2 (fun _=>sc__law_are_demands.nd) (AV aF))
   (aL (rB (fun _=>J7) (fun _=>rfl) (rJ (fun _=>rfl) (aC 1)) (dA 3 (fun _=>sc__law_are_demands.nd))
    (aL (cK (BS (nJ (dX (dN (aK (fun _=>kC T) hr.le (aA (aC 3) aF)))) (nJ (bX (EB (fun _=>rfl) (fun _=>hr.units)) (bT rV (fun _=>T.hB.of "len") U9 (aA (aC 3) aF)) aE) (mJ (dX (dN (aK (fun _=>sW T) hr.le (aA (aY bO (aC 3) aE) aF))))))))
    (aN (aS gC))
    bK)
   (aL (cK (BS (nJ (dX (dN (aK (fun _=>eX T) hr.le (aA (aY bO (aC 3) aE) (aA aE (aA (aZ zB (aC 0) aE) aF)))))) (mJ (dX (dN (aK (fun _=>eX T) hr.le (aA (aY bO (aC 3) aE) (aA (aZ eI (aY bO (aC 3) aE) aE) (aA (aZ zB (aC 0) aE) aF)))))))))
    (aN (aS gC))
    bK)
   (aL (cK (bX (aFH (fun _=>rfl) (fun _=>hr.units1)) (bL (aA (aY bO (aC 3) aE) (aA (aY bO (aC 3) aE) aF))) (aC 2))
    (aN (aS gC))
    bK)
   (aN (VH (LF (fun _=>rfl) (aC 2) (aA (bL (aA (aY bO (aC 3) aE) (aA (aY bO (aC 3) aE) aF))) aF))))))))
   (aN (aS gC)))))
theorem AG(T:Txt K mg):Callee P w K mg base 1 "_law_ints" pK (spM K iE):=
 T.v77.okG (N:=uV) (ps:=pK) (k:=0) (b:=kE) sc__law_ints (by sleep 991) fun f cdv A outer s H E hr=>
  (aL (bH 1 (fun _=>sc__law_ints.nd) OG)
   (aL (rB (fun _=>J7) (fun _=>rfl) (rJ (fun _=>rfl) (aC 0)) (IT (fun _=>rfl) (fun _=>rfl) (lL (dA 2 (fun _=>sc__law_ints.nd)) (lL (dA 3 (fun _=>sc__law_ints.nd)) (lL (dA 4 (fun _=>sc__law_ints.nd)) HG))))
    (aN (cK (bX aFA (aY bO (aC 4) aE) aE)
    (aN (XF (fun _=>hr.u1) (aC 1) (MZ (aA (aC 2) (aA (aC 3) aF))) (aZ qZ (aZ uD (aY bO (aC 4) aE) aE) (aY bO (aC 4) aE))))
    bK)))
   (aN (aS (aC 1)))))
theorem yK(T:Txt K mg):Callee P w K mg base 2 "_law_bound" mM (spM K iY):=
 T.v78.okG (N:=nA) (ps:=mM) (k:=1) (b:=jE) sc__law_bound (by sleep 992) fun f cdv A outer s H E hr=>
  (aL (ZN 2 (bH 2 (fun _=>sc__law_bound.nd) (aK (fun _=>AG T) hr.le (aA (aC 1) aF))))
   (aN (aS (bT (UC (fun _=>rfl) (fun _=>rfl)) (fun _=>T.hB.of "sum") boot_sum (aA (aBW (N':=(["_law_own","_law_place"]:List Str)) (cap:=[some 2,none]) (fun _=>rfl) (fun _=>MB (sc0:=aG gZ) (N:=nA) rfl rfl (by decide +kernel)) (sG (fun _=>T.hB.of "range") (aA (aC 0) aF)) (dA 1 (fun _=>(show(["_law_own","_law_place"]:List Str).Nodup by decide +kernel))) vZ (bT (aCx (fun _=>rfl) (fun _=>rfl)) (fun _=>T.hB.of "max") boot_max (aA (aZ eI (eK (aA aE aF)) (NA (N':=(["_law_own","_law_place","_law_pair"]:List Str)) (cap:=[some 0,some 1,none]) (fun _=>rfl) (fun _=>RT (by decide +kernel)) (OT (aC 0)) (dA 2 (fun _=>(show(["_law_own","_law_place","_law_pair"]:List Str).Nodup by decide +kernel))) (aCk (bX (aFQ (fun _=>rfl) (fun _=>hr.units1)) (aC 1) (aC 2))) (SM (fun _=>rfl) (fun _=>hr.u1) (aC 0) (aC 2)))) aF))) aF)))))
theorem zX(T:Txt K mg):Callee P w K mg base 4 "_law_told" oY (spM K kF):=
 T.v79.okG (N:=uJ) (ps:=oY) (k:=3) (b:=fV) AD (by sleep 992) fun f cdv A outer s H E hr=>
  (aL (cK (dX (dN (aK (fun _=>qE T) hr.le (aA (aC 0) (aA (aC 1) aF)))))
   (aN (aS (bT (rP (fun _=>rfl) (fun _=>hr.gd) (fun _=>hr.u200)) (fun _=>T.hB.of "repr") boot_repr (aA (bL (aA jN (aA gC aF))) aF))))
   bK)
   (aN (aS (bT (rP (fun _=>rfl) (fun _=>hr.gd) (fun _=>hr.u200)) (fun _=>T.hB.of "repr") boot_repr (aA (aK (fun _=>lD T) hr.le (aA (aK (fun _=>yK T) hr.le (aA (aC 0) (aA (aC 1) aF))) (aA aE aF))) aF)))))
theorem fn_law(T:Txt K mg):∃f fd,mg "law"=some (.ref f)/\(∀(s:Shared)(u:Value),BindsTo s fd ⟨[u],[]⟩ [("_law_script",u)])/\∀base,mY P w K mg base CX0 12 f fd aAD (spM K F_law):=
 T.v80.okLG (N:=aAk) (k:=11) (b:=HS) sc_law rfl (by sleep 991) fun base f cdv A outer s H E hr=>
  (aL (rB (fun _=>J7) (fun _=>rfl) (sG (fun _=>T.hB.of "range") (aA aE aF)) (dA 1 (fun _=>sc_law.nd))
   (aL (bH 2 (fun _=>sc_law.nd) (aK (fun _=>wF T) hr.le (aA (aC 0) (aA (aC 1) aF))))
   (aL (bH 3 (fun _=>sc_law.nd) (aZ eI aE (aK (fun _=>bA T) hr.le (aA (aC 2) (aA aE aF)))))
   (aL (bH 4 (fun _=>sc_law.nd) (aK (fun _=>nH T) hr.le (aA (aC 2) (aA (aC 3) aF))))
   (aN (rB (fun _=>J7) (fun _=>rfl) (rJ (fun _=>rfl) (aZ eI (eK (aA (aC 4) (aA (aK (fun _=>lA T 6) hr.le (aA (oS (vE (fun _=>rfl)) (fun _=>T.hB.of "tuple") Y6 (aA (aC 4) aF)) aF)) aF))) (aK (fun _=>xB T) hr.le (aA (aC 2) (aA (aC 0) (aA (aC 3) aF)))))) (dA 5 (fun _=>sc_law.nd))
    (aL (bH 6 (fun _=>sc_law.nd) (bT (rP (fun _=>rfl) (fun _=>hr.gd) (fun _=>hr.u200)) (fun _=>T.hB.of "repr") boot_repr (aA (aC 5) aF)))
   (aN (cK (BS (nJ (bX (EB (fun _=>rfl) (fun _=>hr.units)) (aK (fun _=>yA T) hr.le (aA (aC 3) (aA (aC 5) aF))) (aK (fun _=>zX T) hr.le (aA (aC 3) (aA (aC 5) aF)))) (mJ (bX (EB (fun _=>rfl) (fun _=>hr.units)) (bT (rP (fun _=>rfl) (fun _=>hr.gd) (fun _=>hr.u200)) (fun _=>T.hB.of "repr") boot_repr (aA (aC 5) aF)) (aC 6)))))
    (aN (aS gC))
    bK)))))))))
   (aN (aS gC)))
theorem txt_mk{h:Heap}{v91:Tok}{v92:Tok}{v93:Tok}{v94:Tok}{v95:Addr}{v96:Addr}{v97:Addr}{v98:Addr}{v99:Addr}(X:K.In h)(G:h.Ns mainGlobals mg)(v0:PySem.W.nsIn K mainGlobals "ValueError"=some none)(v1:PySem.W.nsIn K mainGlobals "all"=some none)(v2:PySem.W.nsIn K mainGlobals "bool"=some none)(v3:PySem.W.nsIn K mainGlobals "int"=some none)(v4:PySem.W.nsIn K mainGlobals "isinstance"=some none)(v5:PySem.W.nsIn K mainGlobals "len"=some none)(v6:PySem.W.nsIn K mainGlobals "list"=some none)(v7:PySem.W.nsIn K mainGlobals "max"=some none)(v8:PySem.W.nsIn K mainGlobals "range"=some none)(v9:PySem.W.nsIn K mainGlobals "repr"=some none)(v10:PySem.W.nsIn K mainGlobals "sum"=some none)(v11:PySem.W.nsIn K mainGlobals "tuple"=some none)(v12:PySem.W.nsIn K mainGlobals "MOST_ABOVE"=some (some (.int 1000000000000 v91)))(v13:PySem.W.nsIn K mainGlobals "BELOW"=some (some (.int 55440 v92)))(v14:PySem.W.nsIn K mainGlobals "MOST_DEMAND"=some (some (.int 1000000 v93)))(v15:PySem.W.nsIn K mainGlobals "DEMAND_BELOW"=some (some (.int 27720 v94)))(v16:PySem.W.nsIn K mainGlobals "NoDemand"=some (some (.ref v95)))(v17:PySem.W.excIn K v95 bmV "ValueError.__new__"=true)(v18:PySem.W.findIn K (.ref v95) "__getattribute__"=some (some (.builtin "BaseException.__getattribute__")))(v19:PySem.W.findIn K (.ref v95) "__getattr__"=some none)(v20:PySem.W.subIn K (.ref v95) (.type "BaseException")=some true)(v21:(PySem.W.clsIn K v95).isSome=true)(v22:PySem.W.findIn K (.ref v95) "__class__"=some (some (.builtin "object.__class__")))(v23:PySem.W.specialIn K (.builtin "object.__class__") "__get__"=some (some (.builtin "getset_descriptor.__get__")))(v24:PySem.W.takesIn K (.builtin "object.__class__")=some true)(v25:PySem.W.mroIn K v95 (.type "object")=some true)(v26:pQ K (.type "ValueError") eD=true)(v27:PySem.W.kitOne K (.type "NoneType") (.type "ValueError")=some false)(v28:PySem.W.nsIn K mainGlobals "CutError"=some (some (.ref v96)))(v29:pQ K (.ref v96) fW=true)(v30:PySem.W.kitOne K (.type "NoneType") (.ref v96)=some false)(v31:PySem.W.nsIn K mainGlobals "NoTree"=some (some (.ref v97)))(v32:pQ K (.ref v97) jH=true)(v33:PySem.W.kitOne K (.type "NoneType") (.ref v97)=some false)(v34:PySem.W.nsIn K mainGlobals "NoWeight"=some (some (.ref v98)))(v35:pQ K (.ref v98) fS=true)(v36:PySem.W.kitOne K (.type "NoneType") (.ref v98)=some false)(v37:PySem.W.nsIn K mainGlobals "NoTie"=some (some (.ref v99)))(v38:pQ K (.ref v99) lJ=true)(v39:PySem.W.kitOne K (.type "NoneType") (.ref v99)=some false)(v40:PySem.W.exmOne K (.ref v95) (.ref v95)=some true)(v41:Def K mg "_law_stream" kB)(v42:Def K mg "_law_take" mV)(v43:Def K mg "_law_pick" nB)(v44:Def K mg "_law_least" kR)(v45:Def K mg "_law_demand" jO)(v46:Def K mg "_law_demands" iP)(v47:Def K mg "_law_lists" hW)(v48:Def K mg "_law_bent" mH)(v49:Def K mg "_law_any" kN)(v50:Def K mg "_law_bad_demand" fQ)(v51:Def K mg "_law_things" jU)(v52:Def K mg "common" tN)(v53:Def K mg "is_whole" oR)(v54:Def K mg "is_row" tP)(v55:Def K mg "is_row_of" mP)(v56:Def K mg "has_amount_numbers" eE)(v57:Def K mg "is_in_parts" jM)(v58:Def K mg "is_weight" mL)(v59:Def K mg "is_place" pJ)(v60:Def K mg "are_unlike_places" eP)(v61:Def K mg "is_between_places" eM)(v62:Def K mg "is_tie" tK)(v63:Def K mg "is_demand" lY)(v64:Def K mg "are_demands" eN)(v65:Def K mg "refuse_no_demands" eL)(v66:Def K mg "parts" wZ)(v67:Def K mg "in_least_terms" gJ)(v68:Def K mg "half" AE)(v69:Def K mg "from_parts" kQ)(v70:Def K mg "half_bound" kP)(v71:Def K mg "_law_alone" kZ)(v72:Def K mg "_law_found" lE)(v73:Def K mg "_law_is_row" jP)(v74:Def K mg "_law_is_whole" gV)(v75:Def K mg "_law_is_demand" fY)(v76:Def K mg "_law_are_demands" fB)(v77:Def K mg "_law_ints" mF)(v78:Def K mg "_law_bound" gZ)(v79:Def K mg "_law_told" mQ)(v80:Def K mg "law" GB):Txt K mg:=by
 cases rY v16;cases rY v28;cases rY v31;cases rY v34;cases rY v37;exact⟨(cY (D6 X G v0) (cY (D6 X G v1) (cY (D6 X G v2) (cY (D6 X G v3) (cY (D6 X G v4) (cY (D6 X G v5) (cY (D6 X G v6) (cY (D6 X G v7) (cY (D6 X G v8) (cY (D6 X G v9) (cY (D6 X G v10) (cY (D6 X G v11) SR)))))))))))),⟨_,J0 X G v12⟩,⟨_,J0 X G v13⟩,⟨_,J0 X G v14⟩,⟨_,J0 X G v15⟩,J0 X G v16,v17,⟨⟨v18,v19,v20,v21⟩,v22,v23,v24,v25⟩,v26,v27,J0 X G v28,v29,v30,J0 X G v31,v32,v33,J0 X G v34,v35,v36,J0 X G v37,v38,v39,v40,v41,v42,v43,v44,v45,v46,v47,v48,v49,v50,v51,v52,v53,v54,v55,v56,v57,v58,v59,v60,v61,v62,v63,v64,v65,v66,v67,v68,v69,v70,v71,v72,v73,v74,v75,v76,v77,v78,v79,v80⟩
end
end Q64
end
end
section
namespace Q64
variable{M M':Sto}{J T a b j lo n y:Int}{γ γ':Ga}{d p q r w:PyData}{N c i m ps s:Nat}{v x z:CD}{xs:List CD}{ds l:List PyData}{ts us:List Tie}{f:EF}{ns:List Int}{g:GF}{fa:AF}{g0 g1 g2 g3 g4 g5 g6:Option CD}
open PySem PySem.Spec PyProof.Rows L2
local macro_rules | `(tactic| simp! [$a,*]) => `(tactic| simp only [fnF, fnX, tZ, LQ, aEz, pN, zP, oB, yY, aFx, liA, liE, liS, AZ, GI, LJ, aDh, OJ, setG, uH, aDv, bB, sIf, bD, aEx, bQ, bR, IJ, hName, aCw, eG, yI, hSub, gOr, aGg, gN, gB, GQ, WJ, aI, aB, aH, aD, fC, fOp, fUn, kS, fOr, CQ, fIf, wA, asB, dH, iK, xZ, lP, yC, JE, pI, ifS, aBc, uW, tL, nO, oF, uX, ltI, leI, gtI, geI, Option.bind_some, Option.bind_none, Option.map_some, List.getElem?_cons_zero, List.getElem?_cons_succ, List.length_cons, List.length_nil, List.set_cons_zero, List.set_cons_succ, List.map_cons, List.map_nil, List.replicate_zero, List.replicate_succ, List.cons_append, List.nil_append, List.append_nil, if_true, ite_true, ite_false, Nat.reduceAdd, Nat.reduceSub, reduceIte, Bool.not_true, Bool.not_false, Bool.false_eq_true, $a,*])
noncomputable def sZ:PyData->Bool
 |.int _=>true
 |_=>false
noncomputable def jS:PyData->Bool
 |.list _=>true
 |.tuple _=>true
 |_=>false
theorem mW(x:PyData)(M:Sto):jT [.d x] M=some (.d (.bool (sZ x)),M):=by cases x<;>rfl
theorem FE(x:PyData)(M:Sto):lR [.d x] M=some (.d (.bool (jS x)),M):=by cases x<;>rfl
noncomputable def dR(d:PyData)(n:Int):Bool:=match aW d with
 |some ds=>((ds.length:Int)==n)
 |none=>false
theorem fU(x:PyData)(n:Int)(M:Sto):kM [.d x,.d (.int n)] M=some (.d (.bool (dR x n)),M):=by cases x<;>rfl
theorem DL(x y:Int):Int.gcd y (x % y)=Int.gcd x y:=by
 rw[Int.gcd_comm x y];have:x % y=x-y*(x / y):=by have:=Int.emod_add_mul_ediv x y;omega
 rw[this];simp
noncomputable abbrev I(n:Int):CD:=.d (.int n)
theorem gL{x:Int}(h:0<y):pL x y=true:=by simp[pL,h]
theorem uT(M:Sto):∀(n:Nat)(x y:Int),0<=x->0<=y->y.toNat<n->
 fE (GQ (aD 1)) (DT 0 1 (aB (aD 1) (aB (fOp oF (aD 0) (aD 1)) aH))) n [some (I x),some (I y)] M=some (.nx [some (I (Int.gcd x y)),some (I 0)],M)
 |0=>fun _ _ _ _ h=>by omega
 |n+1=>fun x y hx hy h=>by
  by_cases e:y=0
  .subst e;have:(Int.gcd x 0:Int)=x:=by rw[Int.gcd_zero_right];omega
   rw[this];rfl
  .have hp:0<y:=by omega
   have ih:=uT M n y (x % y) hy (J3 _ e) (by have:=F6 x hp;omega);rw[DL]at ih;rw[<- ih];have hb:(y != 0)=true:=by simp[e]
   simp only[fE,GQ,aD,WJ,DT,aB,fOp,aH,oF,pI,ifS,gL hp,hb,Option.bind,List.getElem?_cons_succ,List.getElem?_cons_zero,if_true,List.set]
theorem ET(M:Sto)(ha:0<=a)(hb:0<=b):sY [I a,I b] M=some (I (Int.gcd a b),M):=by
 have h:rK [some (I a),some (I b)] M=_:=DI (uT M (b.toNat+1) a b ha hb (E7 _));show((bB rK _ [some (I a),some (I b)] M).bind _)=_;unfold bB;rw[h];rfl
noncomputable abbrev B(b:Bool):CD:=.d (.bool b)
noncomputable def sQ(d:PyData):Bool:=match aW d with
 |some [.int a,.int b]=>decide (0<=a)&&decide (1<=b)
 |_=>false
theorem PP{x:PyData}(h:dR x 2=true):∃a b,x=.list [a,b]\/x=.tuple [a,b]:=by
 unfold dR at h;cases x with
 |list ds=>
  have h:((ds.length:Int)==2)=true:=h;rcases ds with _|⟨a,_|⟨b,_|⟨c,r⟩⟩⟩
  .simp at h
  .simp at h
  .exact⟨a,b,.inl rfl⟩
  .simp at h;omega
 |tuple ds=>
  have h:((ds.length:Int)==2)=true:=h;rcases ds with _|⟨a,_|⟨b,_|⟨c,r⟩⟩⟩
  .simp at h
  .simp at h
  .exact⟨a,b,.inr rfl⟩
  .simp at h;omega
 |_=>simp[aW]at h
theorem DW{x:PyData}(h:dR x 2=false):sQ x=false:=by
 unfold sQ;unfold dR at h;cases q:aW x with
 |none=>rfl
 |some ds=>
  rw[q]at h;rcases ds with _|⟨a,_|⟨b,_|⟨c,r⟩⟩⟩
  .rfl
  .cases a<;>rfl
  .simp at h
  .cases a<;>cases b<;>rfl
theorem aFN{a b:PyData}:ixF (.d (.list [a,b])) (I 0) M=some (.d a,M):=rfl
theorem aFS{a b:PyData}:ixF (.d (.list [a,b])) (I 1) M=some (.d b,M):=rfl
theorem aGh{a b:PyData}:ixF (.d (.tuple [a,b])) (I 0) M=some (.d a,M):=rfl
theorem aFY{a b:PyData}:ixF (.d (.tuple [a,b])) (I 1) M=some (.d b,M):=rfl
theorem aEg{p q:Bool}:(if p=true then some (B q,M)else some (B false,M))=some (B (p&&q),M):=by cases p<;>rfl
theorem cZ(x:PyData)(M:Sto):bS [.d x] M=some (B (sQ x),M):=by
 cases h:dR x 2 with
 |false=>
  rw[DW h];simp![bS,cH,fU,h]
 |true=>
  obtain⟨a,b,rfl|rfl⟩:=PP h
  .cases a<;>cases b<;>first|rfl|(rename_i a b;simp![bS,cH,fU,h,mW,aFN,aFS,sZ,aEg];rfl)
  .cases a<;>cases b<;>first|rfl|(rename_i a b;simp![bS,cH,fU,h,mW,aGh,aFY,sZ,aEg];rfl)
noncomputable def P(k:Bool)(a b:Int):PyData:=if k then .list [.int a,.int b]else .tuple [.int a,.int b]
theorem aBJ{k:Bool}:ixF (.d (P k a b)) (I 0) M=some (I a,M):=by cases k<;>rfl
theorem aFf{k:Bool}:ixF (.d (P k a b)) (I 1) M=some (I b,M):=by cases k<;>rfl
theorem sL{i:Int}:eqX false (I i) (I j) M=some (B (i==j),M):=rfl
theorem uY{i:Int}:eqX true (I i) (I j) M=some (B (!(i==j)),M):=rfl
theorem lS{i:Int}:dO (I i) (I j) M=some (I (i+j),M):=rfl
theorem PQ{k:Bool}:sQ (P k a b)=(decide (0<=a)&&decide (1<=b)):=by cases k<;>rfl
theorem aGa(n m:Nat):((n:Int)==(m:Int))=(n==m):=by
 rw[I0];simp;omega
noncomputable def qC(a b:Int):Bool:=decide (0<=a)&&decide (1<=b)&&(55440 % b==0)&&(Int.gcd a b==1)&&decide (a<=1000000000000)
theorem qN(k:Bool)(a b:Int)(M:Sto):cR [.d (P k a b)] M=some (B (decide (0<=a)&&decide (1<=b)&&(55440 % b==0)&&(Int.gcd a b==1)),M):=by
 cases h:(decide (0<=a)&&decide (1<=b))with
 |false=>
  simp![cR,eC,cZ,PQ,h,Bool.false_and]
 |true=>
  have hh:=h;rw[B6]at h;have h1:=C0 h.1;have h2:=C0 h.2;have hm:pL 55440 b=true:=gL (by omega);cases h3:(55440 % b==0)with
  |false=>simp![cR,eC,cZ,PQ,hh,aBJ,aFf,hm,sL,h3,Bool.true_and,Bool.false_and]
  |true=>
   simp![cR,eC,cZ,PQ,hh,aBJ,aFf,hm,sL,h3,Bool.true_and,ET M h1 (Int.le_trans (by decide) h2)];rw[show(1:Int)=((1:Nat):Int)from rfl,aGa]
theorem EY(k:Bool)(a b:Int)(M:Sto):eS [.d (P k a b)] M=some (B (qC a b),M):=by
 cases h:(decide (0<=a)&&decide (1<=b)&&(55440 % b==0)&&(Int.gcd a b==1))with
 |false=>
  have e:qC a b=false:=by unfold qC;rw[h];rfl
  rw[e];simp![eS,iH,qN,h]
 |true=>
  have e:qC a b=decide (a<=1000000000000):=by unfold qC;rw[h];rfl
  rw[e];simp![eS,iH,qN,h,aBJ]
theorem xF(M:Sto)(a b:Int):∀(n:Nat)(x y:Int),0<=x->0<=y->y.toNat<n->
 fE (gB (fOp gtI (aD 3) (fC (.int 0)))) (DT 2 3 (aB (aD 3) (aB (fOp oF (aD 2) (aD 3)) aH))) n [some (I a),some (I b),some (I x),some (I y)] M=some (.nx [some (I a),some (I b),some (I (Int.gcd x y)),some (I 0)],M)
 |0=>fun _ _ _ _ h=>by omega
 |n+1=>fun x y hx hy h=>by
  by_cases e:y=0
  .subst e;have:(Int.gcd x 0:Int)=x:=by rw[Int.gcd_zero_right];omega
   rw[this];rfl
  .have hp:0<y:=by omega
   have ih:=xF M a b n y (x % y) hy (J3 _ e) (by have:=F6 x hp;omega);rw[DL]at ih;rw[<- ih];have hb:decide (0<y)=true:=C2 hp;simp![fE,DT,gL hp,hb]
theorem pZ(h:1<=b):1<=(Int.gcd a b:Int):=by
 have:Int.gcd a b≠0:=fun z=>by have:=(Int.gcd_eq_zero_iff.mp z).2;omega
 omega
theorem GR(h:1<=b):(Int.gcd a b:Int)<=b:=Int.le_of_dvd (by omega) (Int.gcd_dvd_right a b)
theorem wsm(h:0<=y)(h2:y<2 ^ 200):y.natAbs<uL:=by
 have h1:y.natAbs<2 ^ 200:=by omega
 exact A8 h1 (Nat.pow_le_pow_right (by decide) (by decide))
theorem pU{x:Int}(h:0<y)(h2:y.natAbs<uL):oU x y=true:=by simp[oU,h,h2]
theorem vP(M:Sto)(ha:0<=a)(hb:1<=b)(hw:b.natAbs<uL):dW [I a,I b] M=some (.d (.tuple [.int (a / (Int.gcd a b:Int)),.int (b / (Int.gcd a b:Int))]),M):=by
 have h:oG [some (I a),some (I b),some (I a),some (I b)] M=_:=DI (xF M a b (b.toNat+1) a b ha (by omega) (E7 _));have g1:=pZ (a:=a) hb;have g2:=GR (a:=a) hb;have d1:∀x,oU x (Int.gcd a b:Int)=true:=fun x=>pU (by omega) (Y0 (by omega) hw);have sz:(2:Nat)<=sizeLine:=by decide
 simp![dW,mU,h,d1,sz]
theorem aGc{c d:Int}:eqX false (.d (.tuple [.int a,.int b])) (.d (.tuple [.int c,.int d])) M=some (B (a==c&&(b==d&&true)),M):=rfl
theorem OC(ha:0<=a)(hb:1<=b):((a / (Int.gcd a b:Int)==a)&&((b / (Int.gcd a b:Int)==b)&&true))=(Int.gcd a b==1):=by
 have g1:=pZ (a:=a) hb;by_cases h:Int.gcd a b=1
 .rw[h];simp
 .have hb2:b / (Int.gcd a b:Int)<b:=Int.ediv_lt_self_of_pos_of_ne_one (by omega) (by omega);have e1:(b / (Int.gcd a b:Int)==b)=false:=by rw[beq_eq_false_iff_ne];omega
  have e2:(Int.gcd a b==1)=false:=by rw[beq_eq_false_iff_ne];exact h
  rw[e1,e2];simp
noncomputable def kT(a b:Int):Bool:=qC a b&&(decide (a<=1000000)&&(27720 % b==0))
noncomputable def lw(lo hi:Int):PyData->Bool
 |.int i=>decide (lo<=i)&&decide (i<=hi)
 |_=>false
theorem DG(p:PyData)(lo hi:Int)(M:Sto):bF [.d p,I lo,I hi] M=some (B (lw lo hi p),M):=by
 cases p with
 |int i=>
  have hc:lw lo hi (.int i)=(decide (lo<=i)&&decide (i<=hi)):=rfl;have w1:rR "int" (.int i)=true:=rfl;have w2:rR "bool" (.int i)=false:=rfl;rw[hc];cases h0:decide (lo<=i)<;>simp![bF,iQ,w1,w2,h0,Bool.true_and,Bool.false_and]
 |_=>rfl
theorem tI{hi:Int}(h:lw lo hi p=true):∃i,p=.int i/\lo<=i/\i<=hi:=by
 cases p with
 |int i=>
  have h:(decide (lo<=i)&&decide (i<=hi))=true:=h;rw[B6]at h;exact⟨i,rfl,C0 h.1,C0 h.2⟩
 |_=>cases h
theorem fO(x:PyData)(M:Sto):eA [.d x] M=some (B (jS x),M):=by cases x<;>rfl
theorem qA(h:aW r=some ds)(M:Sto):iJ [.d r] M=some (I ds.length,M):=by
 cases r<;>first|(cases h;rfl)|cases h
theorem CZ(h:jS r=true):∃ds,aW r=some ds:=by
 cases r<;>first|exact⟨_,rfl⟩|cases h
noncomputable def eU(w:PyData):Bool:=match aW w with
 |some [.int a,.int b]=>kT a b
 |_=>false
noncomputable def R2'(k:Bool)(p q:PyData):PyData:=if k then .list [p,q]else .tuple [p,q]
theorem vV(k:Bool)(p q:PyData):aW (R2' k p q)=some [p,q]:=by cases k<;>rfl
theorem HL{x:PyData}(h:dR x 2=true):∃k p q,x=R2' k p q:=by
 obtain⟨a,b,rfl|rfl⟩:=PP h
 .exact⟨true,a,b,rfl⟩
 .exact⟨false,a,b,rfl⟩
theorem ix2(k:Bool)(p q:PyData)(M:Sto):ixF (.d (R2' k p q)) (I 0) M=some (.d p,M)/\ixF (.d (R2' k p q)) (I 1) M=some (.d q,M):=by cases k<;>exact⟨rfl,rfl⟩
theorem sN:kT a b=(lw 0 1000000 (.int a)&&(lw 1 27720 (.int b)&&((27720 % b==0)&&(Int.gcd a b==1)))):=by
 show(decide (0<=a)&&decide (1<=b)&&(55440 % b==0)&&(Int.gcd a b==1)&&decide (a<=1000000000000)&&(decide (a<=1000000)&&(27720 % b==0)))=((decide (0<=a)&&decide (a<=1000000))&&((decide (1<=b)&&decide (b<=27720))&&((27720 % b==0)&&(Int.gcd a b==1))));by_cases h1:1<=b
 .by_cases h2:27720 % b=0
  .have d:b ∣ 27720:=Int.dvd_of_emod_eq_zero h2;have h3:55440 % b=0:=Int.emod_eq_zero_of_dvd (Int.dvd_trans d (by decide));have h4:b<=27720:=Int.le_of_dvd (by decide) d;rw[C2 h1,h2,h3,C2 h4];by_cases h5:a<=1000000
   .rw[C2 h5,C2 (show a<=1000000000000 by omega)];cases decide (0<=a)<;>cases (Int.gcd a b==1)<;>rfl
   .rw[D4 h5];cases decide (0<=a)<;>cases (Int.gcd a b==1)<;>cases decide (a<=1000000000000)<;>rfl
  .rw[show(27720 % b==0)=false by simpa using h2];simp
 .rw[D4 h1];simp
theorem dZ(w:PyData)(M:Sto):bN [.d w] M=some (B (eU w),M):=by
 cases hr:dR w 2 with
 |false=>
  have hd:eU w=false:=by
   unfold eU;unfold dR at hr;cases e:aW w with
   |none=>rfl
   |some ds=>
    rw[e]at hr;rcases ds with _|⟨a,_|⟨b,_|⟨c,r⟩⟩⟩
    .rfl
    .cases a<;>rfl
    .simp at hr
    .cases a<;>cases b<;>rfl
  rw[hd];cases hi:jS w with
  |false=>simp![bN,bU,fO,hi]
  |true=>
   obtain⟨ds,e⟩:=CZ hi
   have ln:((ds.length:Int)==2)=false:=by
    unfold dR at hr;rw[e]at hr;exact hr
   simp![bN,bU,fO,hi,qA e,uY,ln]
 |true=>
  obtain⟨k,p,q,rfl⟩:=HL hr;have hi:jS (R2' k p q)=true:=by cases k<;>rfl
  obtain⟨x0,x1⟩:=ix2 k p q M;have ln:=qA (vV k p q) M;have l2:((2:Int)==2)=true:=rfl;have l2':iJ [.d (R2' k p q)] M=some (I 2,M):=ln;have pw:uX (I 10) (I 6) M=some (I 1000000,M):=rfl
  have dd:eU (R2' k p q)=(match some [p,q]with
   |some [.int a,.int b]=>kT a b
   |_=>false):=by unfold eU;rw[vV]
  cases h1:lw 0 1000000 p with
  |false=>
   have z:eU (R2' k p q)=false:=by
    rw[dd];cases p with
    |int a=>cases q with
     |int b=>show kT a b=false;rw[sN,h1];rfl
     |_=>rfl
    |_=>rfl
   rw[z];have t:bF [.d p,I 0,I 1000000] M=some (B false,M):=by rw[DG,h1]
   have pk:wH 10 6=true:=by decide
   have p6:(10:Int) ^ (6:Int).toNat=1000000:=rfl;simp![bN,bU,fO,hi,l2',uY,l2,x0,pk,p6,t]
  |true=>
   obtain⟨a,rfl,a0,a1⟩:=tI h1;have t:bF [I a,I 0,I 1000000] M=some (B true,M):=by rw[DG,h1]
   have pk:wH 10 6=true:=by decide
   have p6:(10:Int) ^ (6:Int).toNat=1000000:=rfl;cases h2:lw 1 27720 q with
   |false=>
    have z:eU (R2' k (.int a) q)=false:=by
     rw[dd];cases q with
     |int b=>show kT a b=false;rw[sN,h1,h2];rfl
     |_=>rfl
    rw[z];have u:bF [.d q,I 1,I 27720] M=some (B false,M):=by rw[DG,h2]
    simp![bN,bU,fO,hi,l2',uY,l2,x0,x1,pk,p6,t,u]
   |true=>
    obtain⟨b,rfl,b0,b1⟩:=tI h2;have u:bF [I b,I 1,I 27720] M=some (B true,M):=by rw[DG,h2]
    have mo:pL 27720 b=true:=gL (by omega)
    have z:eU (R2' k (.int a) (.int b))=((27720 % b==0)&&(Int.gcd a b==1)):=by
     rw[dd];show kT a b=_;rw[sN,h1,h2];rfl
    rw[z];cases h3:(27720 % b==0)with
    |false=>simp![bN,bU,fO,hi,l2',uY,l2,x0,x1,pk,p6,t,u,mo,h3,Bool.false_and]
    |true=>
     have sz:(2:Nat)<=sizeLine:=by decide
     rw[Bool.true_and,<- OC a0 b0];simp![bN,bU,fO,hi,l2',uY,l2,x0,x1,pk,p6,t,u,mo,h3,vP M a0 b0 (wsm (by omega) (by omega)),sz,aGc]
noncomputable def Stm(M:Sto)(i:Nat):Prop:=∃a b:Int,M[i]?=some (.lst [I a,I b])/\0<=a/\0<=b/\b<2 ^ 40
noncomputable def Nxt(i:Nat)(M M':Sto):Prop:=∃a b:Int,M'=M.set i (.lst [I a,I b])/\0<=a/\0<=b/\b<2 ^ 40
theorem Stm.lt(h:Stm M i):i<M.length:=by
 obtain⟨a,b,h,_⟩:=h;exact(List.getElem?_eq_some_iff.mp h).1
theorem Nxt.stm(n:Nxt i M M')(h:Stm M i):Stm M' i:=by
 obtain⟨a,b,rfl,r⟩:=n;exact⟨a,b,by rw[E3 h.lt],r⟩
theorem Nxt.trans{M1 M2:Sto}(n:Nxt i M M1)(m:Nxt i M1 M2):Nxt i M M2:=by
 obtain⟨a,b,rfl,_⟩:=n;obtain⟨c,d,rfl,r⟩:=m;exact⟨c,d,by rw[List.set_set],r⟩
theorem aFG{y:CD}(h:M[i]?=some (.lst [x,y])):ixF (.c i) (I 0) M=some (x,M):=by
 unfold ixF;dsimp only;rw[h];rfl
theorem aEZ{y:CD}(h:M[i]?=some (.lst [x,y])):ixF (.c i) (I 1) M=some (y,M):=by
 unfold ixF;dsimp only;rw[h];rfl
theorem aEI{y:CD}(h:M[i]?=some (.lst [x,y])):tT (.c i) (I 0) z M=some (M.set i (.lst [z,y])):=by
 unfold tT;dsimp only;rw[h];rfl
theorem aED{y:CD}(h:M[i]?=some (.lst [x,y])):tT (.c i) (I 1) z M=some (M.set i (.lst [x,z])):=by
 unfold tT;dsimp only;rw[h];rfl
theorem AW{x:Int}(h:y.natAbs<2 ^ 64):iA x y=true:=by simp only[iA,decide_eq_true h,Bool.or_true,Bool.true_or]
theorem WK{x:Int}(h:x.natAbs<2 ^ 64):iA x y=true:=by simp only[iA,decide_eq_true h,Bool.true_or]
theorem dU{m:Int}(h:Stm M i)(m0:0<m)(m1:m<2 ^ 200):∃r M',aU [.c i,I m] M=some (I r,M')/\0<=r/\r<m/\Nxt i M M':=by
 obtain⟨a,b,hM,a0,b0,b1⟩:=h;have lt:i<M.length:=(List.getElem?_eq_some_iff.mp hM).1;cases e:(a==0)with
 |true=>
  have q0:=J3 (b*48271+12345) (b:=2147483647) (by decide);have q1:=F6 (b*48271+12345) (b:=2147483647) (by decide);have o1:iA b 48271=true:=AW (by decide);have o2:pL (b*48271+12345) 2147483647=true:=gL (by decide);obtain⟨c,hc⟩:∃c,(b*48271+12345) % 2147483647=c:=⟨_,rfl⟩;rw[hc]at q0 q1;have hM1:(M.set i (.lst [I a,I c]))[i]?=some (.lst [I a,I c]):=by rw[E3 lt]
  have o3:iA c c=true:=AW (by omega);have o4:pL (c*c) 2147483629=true:=gL (by decide);have o5:pL (c*c % 2147483629) m=true:=gL m0;refine⟨c*c % 2147483629 % m,M.set i (.lst [I a,I c]),?_,J3 _ (by omega),F6 _ m0,a,c,rfl,a0,q0,by omega⟩;simp![aU,kI,aFG hM,aEZ hM,sL,lS,e,o1,o2,hc,aED hM,aEZ hM1,o3,o4,o5]
 |false=>
  have o1:pL a m=true:=gL m0;have o2:oU a m=true:=pU m0 (wsm (by omega) m1);refine⟨a % m,M.set i (.lst [I (a / m),I b]),?_,J3 _ (by omega),F6 _ m0,a / m,b,rfl,L6 a0 (by omega),b0,b1⟩;simp![aU,kI,aFG hM,sL,e,o1,o2,aEI hM]
theorem ixL{j:Nat}(h:ds[j]?=some d):ixF (.d (.list ds)) (I j) M=some (.d d,M):=by
 have hlt:j<ds.length:=(List.getElem?_eq_some_iff.mp h).1;have e:atI ds (j:Int)=some d:=HD h;unfold ixF;dsimp only;show(some ds).bind _=_;rw[A1,e];rfl
theorem FG(h:Stm M i)(h0:0<ds.length)(h1:ds.length<1000):∃d M',dQ [.c i,.d (.list ds)] M=some (.d d,M')/\d∈ds/\Nxt i M M':=by
 obtain⟨r,M',e,r0,r1,n⟩:=dU (m:=(ds.length:Int)) h (by omega) (by omega);have hlt:r.toNat<ds.length:=by omega
 have hd:ds[r.toNat]?=some ds[r.toNat]:=B9 hlt;have hr:(r.toNat:Int)=r:=U5 r0;have hx:=ixL (M:=M') hd;rw[hr]at hx;have hl:iJ [.d (.list ds)] M=some (I ds.length,M):=rfl;refine⟨ds[r.toNat],M',?_,List.getElem_mem hlt,n⟩;simp![dQ,oP,hl,e,hx]
noncomputable abbrev T2(a b:Int):CD:=.d (.tuple [.int a,.int b])
theorem yN(h0:0<=a)(h1:a<=1000000)(h2:1<=b)(h3:b ∣ 27720):kT (a / (Int.gcd a b:Int)) (b / (Int.gcd a b:Int))=true:=by
 have g1:=pZ (a:=a) h2;have gd:((Int.gcd a b:Int)) ∣ b:=Int.gcd_dvd_right a b;have e1:0<=a / (Int.gcd a b:Int):=L6 h0 (by omega);have e2:a / (Int.gcd a b:Int)<=1000000:=Int.le_trans (O6 _ h0) h1;have e3:0<b / (Int.gcd a b:Int):=Int.ediv_pos_of_pos_of_dvd (by omega) (by omega) gd;have dv:b / (Int.gcd a b:Int) ∣ 27720:=Int.dvd_trans (Int.ediv_dvd_of_dvd gd) h3;have e4:27720 % (b / (Int.gcd a b:Int))=0:=Int.emod_eq_zero_of_dvd dv;have e6:b / (Int.gcd a b:Int)<=27720:=Int.le_of_dvd (by decide) dv;have e5:Int.gcd (a / (Int.gcd a b:Int)) (b / (Int.gcd a b:Int))=1:=Int.gcd_ediv_gcd_ediv_gcd (by omega);rw[sN,e4,e5];show((decide (0<=a / (Int.gcd a b:Int))&&decide (a / (Int.gcd a b:Int)<=1000000))&&((decide (1<=b / (Int.gcd a b:Int))&&decide (b / (Int.gcd a b:Int)<=27720))&&_))=true;rw[C2 e1,C2 e2,C2 (show 1<=b / (Int.gcd a b:Int)by omega),C2 e6];rfl
theorem PU(h:kT a b=true):qC a b=true:=by
 unfold kT at h;rw[B6]at h;exact h.1
theorem UF(h:qC a b=true):0<=a/\a<=1000000000000/\1<=b/\b<=55440:=by
 unfold qC at h;simp only[Bool.and_eq_true,decide_eq_true_eq,beq_iff_eq]at h;obtain⟨⟨⟨⟨h1,h2⟩,h3⟩,_⟩,h5⟩:=h;exact⟨h1,h5,h2,Int.le_of_dvd (by decide) (Int.dvd_of_emod_eq_zero h3)⟩
noncomputable def six:List PyData:=[.tuple [.int 1,.int 1],.tuple [.int 1,.int 1],.tuple [.int 2,.int 1],.tuple [.int 1,.int 2],.tuple [.int 3,.int 4],.tuple [.int 0,.int 1]]
noncomputable def belows:List PyData:=[.int 1,.int 3,.int 5,.int 7,.int 8,.int 9,.int 11,.int 24,.int 360,.int 2520,.int 27720]
theorem NK(h:d∈belows):∃n:Int,d=.int n/\1<=n/\n ∣ 27720/\n<=27720:=by
 unfold belows at h;simp only[List.mem_cons,List.not_mem_nil,or_false]at h;rcases h with rfl|rfl|rfl|rfl|rfl|rfl|rfl|rfl|rfl|rfl|rfl<;>exact⟨_,rfl,by decide,by decide,by decide⟩
theorem aBl{r:Int}(h0:0<=r)(h1:r<6)(M:Sto):∃a b,ixF (.d (.list six)) (I r) M=some (T2 a b,M)/\kT a b=true:=by
 have cs:r=0\/r=1\/r=2\/r=3\/r=4\/r=5:=by omega
 rcases cs with rfl|rfl|rfl|rfl|rfl|rfl<;>exact⟨_,_,rfl,by decide⟩
theorem aGb(γ:Ga)(M:Sto):nN γ M=some (.d (.list six),M):=rfl
theorem aEr(γ:Ga)(M:Sto):nM γ M=some (.d (.list belows),M):=rfl
theorem WW{x z w r:Int}(h0:0<=r)(h1:r<4)(M:Sto):∃c,ixF (.d (.list [.int x,.int y,.int z,.int w])) (I r) M=some (I c,M)/\(c=x\/c=y\/c=z\/c=w):=by
 have cs:r=0\/r=1\/r=2\/r=3:=by omega
 rcases cs with rfl|rfl|rfl|rfl
 .exact⟨x,rfl,.inl rfl⟩
 .exact⟨y,rfl,.inr (.inl rfl)⟩
 .exact⟨z,rfl,.inr (.inr (.inl rfl))⟩
 .exact⟨w,rfl,.inr (.inr (.inr rfl))⟩
theorem DD(h:Stm M i):∃a b M',cD [.c i] M=some (T2 a b,M')/\kT a b=true/\Nxt i M M':=by
 obtain⟨r,M1,e1,r0,r1,n1⟩:=dU (m:=8) h (by decide) (by decide);have s1:=n1.stm h;cases c:decide (r<6)with
 |true=>
  obtain⟨a,b,e2,w⟩:=aBl r0 (C0 c) M1;refine⟨a,b,M1,?_,w,n1⟩;simp![cD,fK,e1,c,aGb,e2]
 |false=>
  obtain⟨d,M2,e2,hd,n2⟩:=FG (ds:=belows) s1 (by decide) (by decide);obtain⟨n,rfl,b0,b1,b2⟩:=NK hd;have s2:=n2.stm s1;obtain⟨t,M3,e3,t0,t1,n3⟩:=dU (m:=1000) s2 (by decide) (by decide);have s3:=n3.stm s2;cases c7:(r==7)with
  |false=>
   refine⟨_,_,M3,?_,yN t0 (by omega) b0 b1,(n1.trans n2).trans n3⟩;simp![cD,fK,e1,c,aEr,e2,e3,sL,c7,vP M3 t0 b0 (wsm (by omega) (by omega))]
  |true=>
   obtain⟨v,M5,e5,v0,v1,n5⟩:=dU (m:=4) s3 (by decide) (by decide);obtain⟨x,e6,hx⟩:=WW (x:=1000000) (y:=999999) (z:=1) (w:=999) v0 v1 M5;have x0:0<=x/\x<=1000000:=by omega
   have k2:=fun γ=>tX γ M3;refine⟨_,_,M5,?_,yN x0.1 x0.2 b0 b1,((n1.trans n2).trans n3).trans n5⟩;simp![cD,fK,e1,c,aEr,e2,e3,sL,c7,k2,e5,e6,vP M5 x0.1 b0 (wsm (by omega) (by omega))]
theorem NU{k:Int}(k0:0<=k)(k1:k<1000):∃M',dG [.d (.list (ns.map .int)),I k] M=some (.c M.length,M')/\Stm M' M.length:=by
 have hl:iJ [.d (.list (ns.map .int))] M=some (I ns.length,M):=by
  show some (I ((ns.map PyData.int).length:Nat),M)=_;rw[A2]
 have k2:k<=1000:=by omega
 have kq:=Int.mul_le_mul k2 k2 k0 (by decide);have kk:0<=k*k/\k*k<=1000000:=⟨Int.mul_nonneg k0 k0,by omega⟩;have o1:iA k k=true:=AW (by omega);have sz:(2:Nat)<=sizeLine:=by decide
 have last:∀x y:Int,0<=x->0<=y->y<2 ^ 40->Stm (M++[.lst [I x,I y]]) M.length:=fun x y h1 h2 h3=>⟨x,y,by simp,h1,h2,h3⟩;cases c:decide (k<(ns.length:Int))with
 |false=>
  refine⟨M++[.lst [I 0,I (k*k+11)]],?_,last _ _ (by decide) (by omega) (by omega)⟩;simp![dG,fH,hl,c,o1,lS,sz]
 |true=>
  have hk:k<(ns.length:Int):=C0 c;have hlt:k.toNat<ns.length:=by omega
  have hd:(ns.map PyData.int)[k.toNat]?=some (.int ns[k.toNat]):=by rw[D0,B9 hlt];rfl
  have hx:=ixL (M:=M) hd;rw[U5 k0]at hx;generalize ns[k.toNat]=x at hx;have o2:pL x 2147483629=true:=gL (by decide);have p1:wH 10 18=true:=by decide
  have q0:=J3 x (b:=2147483629) (by decide);have q1:=F6 x (b:=2147483629) (by decide);have q18:(10:Int) ^ (18:Int).toNat=1000000000000000000:=rfl;cases c2:decide (x<10 ^ (18:Int).toNat)with
  |true=>
   refine⟨M++[.lst [I 0,I (x % 2147483629+k*k+1)]],?_,last _ _ (by decide) (by omega) (by omega)⟩;simp![dG,fH,hl,c,hx,o1,o2,p1,lS,c2,sz]
  |false=>
   have:=of_decide_eq_false c2;refine⟨M++[.lst [I x,I (x % 2147483629+k*k+1)]],?_,last _ _ (by omega) (by omega) (by omega)⟩;simp![dG,fH,hl,c,hx,o1,o2,p1,lS,c2,sz]
noncomputable def iZ(x:PyData):Bool:=match aW x with
 |some [.int a,.int b]=>qC a b
 |_=>false
theorem ZS{x:PyData}(h:sQ x=true):∃k a b,x=P k a b:=by
 have hr:dR x 2=true:=by
  cases e:dR x 2 with
  |true=>rfl
  |false=>rw[DW e]at h;cases h
 obtain⟨k,p,q,rfl⟩:=HL hr;unfold sQ at h;rw[vV]at h;cases p<;>cases q<;>first|exact⟨k,_,_,rfl⟩|simp at h
theorem XU(k:Bool)(a b:Int):iZ (P k a b)=qC a b:=by cases k<;>rfl
theorem DE{x:PyData}(h:sQ x=false):iZ x=false:=by
 unfold sQ at h;unfold iZ;split
 .rename_i a b e;rw[e]at h;dsimp only at h;unfold qC;rw[h];rfl
 .rfl
theorem CV(x:PyData)(M:Sto):eS [.d x] M=some (B (iZ x),M):=by
 cases h:sQ x with
 |false=>
  rw[DE h];have e:cR [.d x] M=some (B false,M):=by simp![cR,eC,cZ,h]
  simp![eS,iH,e]
 |true=>
  obtain⟨k,a,b,rfl⟩:=ZS h;rw[XU];exact EY k a b M
theorem zE{ds:List PyData}(h:∀d∈ds,oks d=true):iM ds=true:=by
 induction ds with
 |nil=>rfl
 |cons d ds ih=>
  show(oks d&&iM ds)=true;rw[h d B7,ih fun e he=>h e (B0 _ he)];rfl
theorem xR{w k:Nat}:∀{ds:List PyData},(∀d∈ds,wt d<=w)->ds.length<=k->gA ds<=k*(w+2)
 |[]=>fun _ _=>D2 _
 |d::ds=>fun h hl=>by
  cases k with
  |zero=>simp at hl
  |succ k=>
   have h1:=h d B7;have h2:=xR (w:=w) (k:=k) (fun e he=>h e (B0 _ he)) (by simpa using hl);show wt d+2+gA ds<=_;rw[Nat.succ_mul];omega
theorem pM{m:Nat}:∀{ds:List PyData},(∀d∈ds,d.depth<=m)->PyData.depthAll ds<=m
 |[]=>fun _=>D2 _
 |d::ds=>fun h=>by
  show max d.depth (PyData.depthAll ds)<=m;exact Nat.max_le.mpr ⟨h d B7,pM fun e he=>h e (B0 _ he)⟩
theorem Fit.list{w k:Nat}{ds:List PyData}(h:∀d∈ds,Fit w m d)(hl:ds.length<=k):Fit (k*(w+2)+3) (m+1) (.list ds):=
 ⟨zE fun d hd=>(h d hd).ok,U1 (xR (fun d hd=>(h d hd).wt) hl) 3,U1 (pM fun d hd=>(h d hd).dp) 1⟩
theorem Fit.tuple{w k:Nat}{ds:List PyData}(h:∀d∈ds,Fit w m d)(hl:ds.length<=k):Fit (k*(w+2)+3) (m+1) (.tuple ds):=
 ⟨zE fun d hd=>(h d hd).ok,U1 (xR (fun d hd=>(h d hd).wt) hl) 3,U1 (pM fun d hd=>(h d hd).dp) 1⟩
theorem Fit.int{i:Int}(h:i.natAbs<2 ^ 1900):Fit 2000 0 (.int i):=⟨C2 h,A6 _,A6 _⟩
theorem cU{i:Int}(h:i.natAbs<2 ^ 200):i.natAbs<2 ^ 1900:=A8 h (Nat.pow_le_pow_right (by decide) (by decide))
theorem Fit.dictA{w:Nat}(f:Fit w m d):Fit (w+2050) (m+1) (.dict [(.int 0,d),(.str "a",.none)]):=by
 refine⟨?_,?_,?_⟩
 .show((oks (.int 0)&&oks d&&(oks (.str "a")&&oks .none&&true)))=true;rw[f.ok];decide +kernel
 .have h1:=f.wt;show(wt (.int 0)+wt d+4+(wt (.str "a")+wt .none+4+0))+3<=_;have e1:wt (.int 0)=2000:=rfl;have e2:wt (.str "a")=3:=by decide +kernel
  have e3:wt PyData.none=4:=rfl;omega
 .have h1:=f.dp;show max (max 0 d.depth) (max (max 0 0) 0)+1<=_;omega
mutual
noncomputable def dS:PyData->PyData
 |.tuple xs=>.list (bY xs)
 |.none=>.none
 |.bool b=>.bool b
 |.int i=>.int i
 |.str x=>.str x
 |.list xs=>.list xs
 |.dict kvs=>.dict kvs
noncomputable def bY:List PyData->List PyData
 |[]=>[]
 |x::xs=>dS x::bY xs
end
mutual
theorem xU:∀d:PyData,wt (dS d)=wt d/\oks (dS d)=oks d/\(dS d).depth=d.depth
 |.tuple xs=>by
  obtain⟨h1,h2,h3⟩:=qI xs;exact⟨by show gA (bY xs)+3=_;rw[h1];rfl,h2,by show PyData.depthAll (bY xs)+1=_;rw[h3];rfl⟩
 |.none=>⟨rfl,rfl,rfl⟩
 |.bool _=>⟨rfl,rfl,rfl⟩
 |.int _=>⟨rfl,rfl,rfl⟩
 |.str _=>⟨rfl,rfl,rfl⟩
 |.list _=>⟨rfl,rfl,rfl⟩
 |.dict _=>⟨rfl,rfl,rfl⟩
theorem qI:∀ds:List PyData,gA (bY ds)=gA ds/\iM (bY ds)=iM ds/\PyData.depthAll (bY ds)=PyData.depthAll ds
 |[]=>⟨rfl,rfl,rfl⟩
 |x::xs=>by
  obtain⟨h1,h2,h3⟩:=xU x;obtain⟨k1,k2,k3⟩:=qI xs;refine⟨?_,?_,?_⟩
  .show wt (dS x)+2+gA (bY xs)=_;rw[h1,k1];rfl
  .show(oks (dS x)&&iM (bY xs))=_;rw[h2,k2];rfl
  .show max (dS x).depth (PyData.depthAll (bY xs))=_;rw[h3,k3];rfl
end
theorem Fit.lists{n:Nat}(f:Fit n m d):Fit n m (dS d):=by
 obtain⟨h1,h2,h3⟩:=xU d;exact⟨by rw[h2];exact f.ok,by rw[h1];exact f.wt,by rw[h3];exact f.dp⟩
theorem lV:∀ds:List PyData,lP (ds.map .d)=some ds
 |[]=>rfl
 |d::ds=>by
  show(lP (ds.map .d)).map (d::·)=_;rw[lV ds];rfl
theorem xN{self:FN}{M:Sto}{s:Option CD}:∀{ds:List PyData},(∀d∈ds,self [.d d] M=some (.d (dS d),M))->∀s,lcF (hName 0) kY (aI self (aB (aD 0) aH)) (ds.map .d) [s] M=some ((bY ds).map .d,M)
 |[]=>fun _ s=>rfl
 |d::ds=>fun h s=>by
  have e:=h d B7;have ih:=xN (s:=s) (fun e he=>h e (B0 _ he)) (some (.d d));show(Option.bind ((self [.d d] M)) fun r=>(lcF (hName 0) kY (aI self (aB (aD 0) aH)) (ds.map .d) [some (.d d)] r.2).bind fun q=>some (r.1::q.1,q.2))=_;rw[e,A1];dsimp only;rw[ih];rfl
theorem zF:∀ds:List PyData,2*ds.length<=gA ds
 |[]=>D2 _
 |d::ds=>by
  have:=zF ds;show 2*(ds.length+1)<=wt d+2+gA ds;omega
theorem zU{m:Nat}:∀{ds:List PyData},PyData.depthAll ds<=m->∀d∈ds,d.depth<=m
 |[]=>fun _ d hd=>absurd hd (by simp)
 |x::xs=>fun h d hd=>by
  have h':max x.depth (PyData.depthAll xs)<=m:=h;rcases List.mem_cons.mp hd with rfl|hd
  .omega
  .exact zU (by omega) d hd
theorem TX:∀{ds:List PyData},∀d∈ds,wt d<=gA ds
 |[]=>fun d hd=>absurd hd (by simp)
 |x::xs=>fun d hd=>by
  show _<=wt x+2+gA xs;rcases List.mem_cons.mp hd with rfl|hd
  .omega
  .have:=TX d hd;omega
theorem HU(M:Sto):∀(n:Nat)(d:PyData),d.depth<n->wt d<=sizeLine->bE n [.d d] M=some (.d (dS d),M)
 |0=>fun _ h _=>by omega
 |n+1=>fun d h hw=>by
  cases d with
  |tuple ds=>
   have h':PyData.depthAll ds+1<n+1:=h;have hw':gA ds+3<=sizeLine:=hw;have hl:=zF ds;have hs:∀e∈ds,bE n [.d e] M=some (.d (dS e),M):=fun e he=>HU M n e (by have:=zU (m:=PyData.depthAll ds) (A6 _) e he;omega) (by have:=TX e he;omega);have lp:=xN (s:=none) hs none
   have hlen:(bY ds).length=ds.length:=by
    have:∀xs:List PyData,(bY xs).length=xs.length:=fun xs=>by
     induction xs with
     |nil=>rfl
     |cons x xs ih=>show(bY xs).length+1=_;rw[ih];rfl
    exact this ds
   have c:oQ (bE n) [some (.d (.tuple ds))] M=some (.d (.list (bY ds)),M):=by
    have e1:qQ [none] (dD (aD 0)) (hName 0) kY (aI (bE n) (aB (aD 0) aH)) [some (.d (.tuple ds))] M=some ((bY ds).map .d,M):=by
     show(if (ds.map CD.d).length<=sizeLine then lcF (hName 0) kY (aI (bE n) (aB (aD 0) aH)) (ds.map .d) [none] M else none)=_;rw[A3 (by rw[A2];omega)];exact lp
    show(Option.bind (qQ _ _ _ _ _ _ _) _)=_;rw[e1,A1];dsimp only;rw[lV,A1,A3 (by rw[hlen];omega)]
   have ht:rR "tuple" (.tuple ds)=true:=rfl;simp![bE,mT,ht,c];rfl
  |_=>rfl
theorem vN{ds:List PyData}{r:Int}(h0:0<=r)(h1:r<ds.length)(M:Sto):∃d∈ds,ixF (.d (.list ds)) (I r) M=some (.d d,M):=by
 have hlt:r.toNat<ds.length:=by omega
 have hd:ds[r.toNat]?=some ds[r.toNat]:=B9 hlt;have hx:=ixL (M:=M) hd;rw[U5 h0]at hx;exact⟨_,List.getElem_mem hlt,hx⟩
theorem oO{i:Int}:eqX false (I i) (I j) M=some (B (i==j),M):=rfl
noncomputable def Wn:Nat->Nat
 |0=>2000
 |k+1=>3*(Wn k+2)+3+2050
theorem aAI:∀k,2000<=Wn k
 |0=>A6 _
 |k+1=>by
  have:=aAI k;show 2000<=3*(Wn k+2)+3+2050;omega
noncomputable def AK:List PyData:=[.int 0,.int 1,.int 2,.int 3,.int (-1),.int 40,.int 55440]
noncomputable def BM:List PyData:=[.bool true,.bool false,.none]
noncomputable def ID:List PyData:=[.str "",.str "1",.str "1/2",.str "place",.str "tie",.str "ab"]
theorem aCM(γ:Ga)(M:Sto):sP γ M=some (.d (.list AK),M):=rfl
theorem aDt(γ:Ga)(M:Sto):sD γ M=some (.d (.list BM),M):=rfl
theorem aBu(γ:Ga)(M:Sto):rS γ M=some (.d (.list ID),M):=rfl
theorem GX:∀d∈AK,Fit 2000 0 d:=by
 intro d hd;unfold AK at hd;simp only[List.mem_cons,List.not_mem_nil,or_false]at hd;rcases hd with rfl|rfl|rfl|rfl|rfl|rfl|rfl<;>exact Fit.int (cU (by decide))
theorem FO:∀d∈BM,Fit 2000 0 d:=by
 intro d hd;unfold BM at hd;simp only[List.mem_cons,List.not_mem_nil,or_false]at hd;rcases hd with rfl|rfl|rfl<;>exact⟨rfl,by decide,A6 _⟩
theorem JW:∀d∈ID,Fit 2000 0 d:=by
 intro d hd;unfold ID at hd;simp only[List.mem_cons,List.not_mem_nil,or_false]at hd;rcases hd with rfl|rfl|rfl|rfl|rfl|rfl<;>exact⟨rfl,by decide +kernel,A6 _⟩
theorem uO:∀ns:List Int,PyData.canLayAll0 (ns.map .int)=true
 |[]=>rfl
 |n::ns=>by show(true&&PyData.canLayAll0 (ns.map .int))=true;rw[uO ns];rfl
theorem wG:∀ns:List Int,PyData.depthAll (ns.map .int)=0
 |[]=>rfl
 |n::ns=>by show max 0 (PyData.depthAll (ns.map .int))=0;rw[wG ns];rfl
theorem shaped_ints(ns:List Int):SeqAt.shaped (.list (ns.map .int))=true:=by
 unfold SeqAt.shaped;have e1:PyData.canLay0 (.list (ns.map .int))=true:=uO ns;have e2:PyData.depth (.list (ns.map .int))=1:=by show PyData.depthAll (ns.map .int)+1=1;rw[wG]
 rw[e1,e2];rfl
theorem ne_nil(ns:List Int)(M:Sto):eqX true (.d (.list (ns.map .int))) (.d (.list [])) M=some (B (!ns.isEmpty),M):=by
 have e1:=shaped_ints ns;have e2:SeqAt.shaped (.list [])=true:=rfl;show(if (SeqAt.shaped (.list (ns.map .int))&&SeqAt.shaped (.list []))=true then some (B (!PyData.eqv (.list (ns.map .int)) (.list [])),M)else none)=_;rw[e1,e2];cases ns<;>rfl
noncomputable abbrev Sc(ns:List Int):CD:=.d (.list (ns.map .int))
noncomputable def Few(d:PyData):Prop:=∀l,aW d=some l->l.length<=3
noncomputable def tF(f:Option (CD×Sto))(i w m:Nat):Prop:=∃d M',f=some (.d d,M')/\(Fit w m d/\Few d)/\Stm M' i
theorem FU{ds:List PyData}(h:ds.all (fun d=>(aW d).isNone)=true):∀d∈ds,Few d:=fun d hd l e=>by
 have:=List.all_eq_true.mp h d hd;rw[e]at this;cases this
theorem EN{self:FN}{i w m:Nat}{S:CD}{k:Int}(hself:∀M,Stm M i->tF (self [.c i,S,I (k-1)] M) i w m):∀(xs:List CD)(s:Option CD)(M:Sto),Stm M i->
 ∃(ds:List PyData)(M':Sto),lcF (hName 3) kY (aI self (aB (aD 0) (aB (aD 1) (aB (fOp uW (aD 2) (fC (.int 1))) aH)))) xs [some (.c i),some S,some (I k),s] M=some (ds.map .d,M')/\ds.length=xs.length/\(∀d∈ds,Fit w m d)/\Stm M' i
 |[]=>fun s M h=>⟨[],M,rfl,rfl,by simp,h⟩
 |x::xs=>fun s M h=>by
  obtain⟨d,M1,e1,f1,s1⟩:=hself M h;obtain⟨ds,M2,e2,l2,f2,s2⟩:=EN hself xs (some x) M1 s1;refine⟨d::ds,M2,?_,by simp[l2],?_,s2⟩
  .show(Option.bind (self [.c i,S,I (k-1)] M) fun r=>(lcF (hName 3) kY (aI self (aB (aD 0) (aB (aD 1) (aB (fOp uW (aD 2) (fC (.int 1))) aH)))) xs [some (.c i),some S,some (I k),some x] r.2).bind fun q=>some (r.1::q.1,q.2))=_;rw[e1,A1];dsimp only;rw[e2];rfl
  .intro y hy;rcases List.mem_cons.mp hy with rfl|hy
   .exact f1.1
   .exact f2 y hy
theorem MN{self:FN}{w:Nat}{S:CD}{k:Int}{a b:Option CD}(hself:∀M,Stm M i->tF (self [.c i,S,I (k-1)] M) i w m){M:Sto}(h:Stm M i):
 ∃(ds:List PyData)(M':Sto),sI self [some (.c i),some S,some (I k),a,b] M=some (.d (.list ds),M')/\ds.length<=3/\(∀d∈ds,Fit w m d)/\Stm M' i:=by
 obtain⟨r,M1,e1,r0,r1,n1⟩:=dU (m:=4) h (by decide) (by decide);obtain⟨ds,M2,e2,l2,f2,s2⟩:=EN hself (lH 0 r.toNat) none M1 (n1.stm h);have hlen:(lH 0 r.toNat).length=r.toNat:=by simp[lH]
 have hl:ds.length<=3:=by rw[l2,hlen];omega
 have sz:(3:Nat)<=sizeLine:=by decide
 refine⟨ds,M2,?_,hl,f2,s2⟩
 have sm:gI r=true:=by
  unfold gI;rw[C2 (show -(2 ^ 62)<=r by omega),C2 (show r<2 ^ 62 by omega)];rfl
 have e3:jK (aB (aI aU (aB (aD 0) (aB (fC (.int 4)) aH))) aH) [some (.c i),some S,some (I k),a,b] M=some (lH 0 r.toNat,M1):=by
  simp![jK,e1,sm]
 show(Option.bind (qQ _ _ _ _ _ _ _) _)=_
 have e4:qQ [some 0,some 1,some 2,none] (jK (aB (aI aU (aB (aD 0) (aB (fC (.int 4)) aH))) aH)) (hName 3) kY (aI self (aB (aD 0) (aB (aD 1) (aB (fOp uW (aD 2) (fC (.int 1))) aH)))) [some (.c i),some S,some (I k),a,b] M=some (ds.map .d,M2):=by
  unfold qQ;rw[e3,A1];dsimp only;rw[A3 (by rw[hlen];omega)];exact e2
 rw[e4,A1];dsimp only;rw[lV,A1,A3 (by omega)]
theorem ZK{a b c e:Option CD}:DK [((fC (.int 0)),(aD 4)),((fC (.str "a")),(fC .none))] [a,b,c,e,some (.d d)] M=some (.d (.dict [(.int 0,d),(.str "a",.none)]),(M++[Cell.dk []]).set M.length Cell.dead):=by
 have e1:BH [((fC (.int 0)),(aD 4)),((fC (.str "a")),(fC .none))] [a,b,c,e,some (.d d)] (M++[.dk []])=some ([(I 0,.d d),(.d (.str "a"),.d .none)],M++[.dk []]):=rfl;have e2:(M++[Cell.dk []])[M.length]?=some (.dk []):=by simp
 have nd:(([(.inl 0,d),(.inr "a",PyData.none)]:List (Key×PyData)).map (·.1)).Nodup:=by
  show([.inl 0,.inr "a"]:List Key).Nodup;simp
 unfold DK;rw[e1,A1];dsimp only;rw[e2];have e3:keyed [(I 0,.d d),(.d (.str "a"),.d .none)]=some [(.inl 0,d),(.inr "a",.none)]:=rfl;rw[e3,A1,A3 ⟨(by show 2<=15;decide),nd⟩];rfl
theorem NO(h:Stm M i):Stm ((M++[Cell.dk []]).set M.length Cell.dead) i:=by
 have hlt:=h.lt;obtain⟨a,b,h1,r⟩:=h;refine⟨a,b,?_,r⟩;rw[F7 (by omega),List.getElem?_append_left hlt];exact h1
theorem YZ(n:Int)(ns:List Int)(M:Sto):ixF (Sc (n::ns)) (I 0) M=some (I n,M):=ixL (ds:=(n::ns).map .int) (j:=0) (d:=.int n) rfl
theorem int_bool(b:Bool)(M:Sto):NF [B b] M=some (I (if b then 1 else 0),M):=rfl
theorem aDd(ds:List PyData)(M:Sto):gM [.d (.list ds)] M=some (.d (.tuple ds),M):=rfl
theorem NV{w m:Nat}{k:Nat}(f:Fit 2000 0 d):Fit (Wn k) (2*k) d:=f.mono (aAI k) (D2 _)
theorem NX(k:Nat)(self:FN)(hself:k≠0->∀M,Stm M i->tF (self [.c i,Sc ns,I ((k:Int)-1)] M) i (Wn (k-1)) (2*(k-1))){M:Sto}(h:Stm M i):
 tF (fnF 3 5 (cM self) [.c i,Sc ns,I (k:Int)] M) i (Wn k) (2*k):=by
 have o3:∀b:Bool,iA 3 (if b=true then 1 else 0)=true:=fun b=>WK (by decide);have sz:(0:Nat)<=sizeLine:=D2 _;have p1:wH 10 40=true:=by decide
 have p2:wH 10 39=true:=by decide
 obtain⟨r,M1,e1,r0,r1,n1⟩:∃r M1,aU [.c i,I (9-3*(if ((k:Int)==0)=true then 1 else 0))] M=some (I r,M1)/\0<=r/\r<9-3*(if ((k:Int)==0)=true then 1 else 0)/\Nxt i M M1:=by
  cases ((k:Int)==0)with
  |true=>exact dU (m:=9-3*1) h (by decide) (by decide)
  |false=>exact dU (m:=9-3*0) h (by decide) (by decide)
 have s1:=n1.stm h;cases c0:(r==0)with
 |true=>
  cases ns with
  |nil=>
   refine⟨.int (-1),M1,?_,⟨NV (w:=0) (m:=0) (Fit.int (cU (by decide))),fun _ z=>nomatch z⟩,s1⟩;have ne:=ne_nil [] M1;simp![cM,DY,oO,int_bool,o3,e1,c0,sz,ne];rfl
  |cons n ns=>
   have q:(10:Int) ^ (40:Int).toNat=10 ^ 40:=rfl;have q':(10:Int) ^ (39:Int).toNat=10 ^ 39:=rfl;have m1:pL n (10 ^ (40:Int).toNat)=true:=gL (by decide);have b0:=J3 n (b:=10 ^ (40:Int).toNat) (by decide);have b1:=F6 n (b:=10 ^ (40:Int).toNat) (by decide);refine⟨.int (n % 10 ^ (40:Int).toNat-10 ^ (39:Int).toNat),M1,?_,⟨NV (w:=0) (m:=0) (Fit.int (cU (by rw[q,q']at *;omega))),fun _ z=>nomatch z⟩,s1⟩;have ne:=ne_nil (n::ns) M1;have em:(!(n::ns).isEmpty)=true:=rfl;simp![cM,oO,int_bool,o3,e1,c0,sz,ne,em,YZ,p1,p2,m1]
 |false=>
  cases c1:(r==1)with
  |true=>
   obtain⟨t,M2,e2,t0,t1,n2⟩:=dU (m:=7) s1 (by decide) (by decide);obtain⟨d,hd,e3⟩:=vN (ds:=AK) t0 t1 M2;refine⟨d,M2,?_,⟨NV (w:=0) (m:=0) (GX d hd),FU (by decide) d hd⟩,n2.stm s1⟩;simp![cM,oO,int_bool,o3,e1,c0,c1,e2,aCM,e3]
  |false=>
   cases c2:(r==2)with
   |true=>
    obtain⟨t,M2,e2,t0,t1,n2⟩:=dU (m:=3) s1 (by decide) (by decide);obtain⟨d,hd,e3⟩:=vN (ds:=BM) t0 t1 M2;refine⟨d,M2,?_,⟨NV (w:=0) (m:=0) (FO d hd),FU (by decide) d hd⟩,n2.stm s1⟩;simp![cM,oO,int_bool,o3,e1,c0,c1,c2,e2,aDt,e3]
   |false=>
    cases c6:decide (r<6)with
    |true=>
     obtain⟨t,M2,e2,t0,t1,n2⟩:=dU (m:=6) s1 (by decide) (by decide);obtain⟨d,hd,e3⟩:=vN (ds:=ID) t0 t1 M2;refine⟨d,M2,?_,⟨NV (w:=0) (m:=0) (JW d hd),FU (by decide) d hd⟩,n2.stm s1⟩;simp![cM,oO,int_bool,o3,e1,c0,c1,c2,c6,e2,aBu,e3]
    |false=>
     have r6:6<=r:=by have:=of_decide_eq_false c6;omega
     have k0:k≠0:=by
      intro z;subst z;have:r<9-3*(if (((0:Nat):Int)==0)=true then 1 else 0):=r1;simp at this;omega
     obtain⟨ds,M2,e2,l2,f2,s2⟩:=MN (S:=Sc ns) (k:=(k:Int)) (a:=some (I r)) (b:=none) (hself k0) s1;obtain⟨k',rfl⟩:∃k',k=k'+1:=⟨k-1,by omega⟩;have f2':∀d∈ds,Fit (Wn k') (2*k') d:=f2;have w1:3*(Wn k'+2)+3<=Wn (k'+1):=Nat.le_add_right _ _;have d1:2*k'+1<=2*(k'+1):=by omega
     cases c7:(r==6)with
     |true=>
      refine⟨.tuple ds,M2,?_,⟨(Fit.tuple f2' l2).mono w1 d1,fun l z=>by cases z;exact l2⟩,s2⟩;simp![cM,oO,int_bool,o3,e1,c0,c1,c2,c6,e2,c7,aDd]
     |false=>
      cases c8:(r==7)with
      |true=>
       refine⟨.list ds,M2,?_,⟨(Fit.list f2' l2).mono w1 d1,fun l z=>by cases z;exact l2⟩,s2⟩;simp![cM,oO,int_bool,o3,e1,c0,c1,c2,c6,e2,c7,c8]
      |false=>
       have fd:=Fit.dictA (Fit.list f2' l2);refine⟨_,_,?_,⟨fd.mono (A6 _) (by omega),fun _ z=>nomatch z⟩,NO s2⟩;have e3:=ZK (a:=some (.c i)) (b:=some (Sc ns)) (c:=some (I ((k'+1:Nat):Int))) (e:=some (I r)) (d:=.list ds) (M:=M2);simp![cM,oO,int_bool,o3,e1,c0,c1,c2,c6,e2,c7,c8,e3]
theorem NQ{ns:List Int}{i:Nat}:∀(n k:Nat),k<n->∀{M:Sto},Stm M i->tF (dE n [.c i,Sc ns,I (k:Int)] M) i (Wn k) (2*k)
 |0,_,h,_,_=>by omega
 |n+1,k,h,M,hs=>by
  show tF (fnF 3 5 (cM (dE n)) [.c i,Sc ns,I (k:Int)] M) i (Wn k) (2*k);refine NX k _ (fun k0 M' hs'=>?_) hs;have:=NQ (ns:=ns) n (k-1) (by omega) hs';have e:((k-1:Nat):Int)=(k:Int)-1:=by omega
  rw[e]at this;exact this
theorem cat_tup(xs ys:List PyData)(M:Sto)(h:xs.length+ys.length<=sizeLine):dO (.d (.tuple xs)) (.d (.tuple ys)) M=some (.d (.tuple (xs++ys)),M):=by
 cases xs with
 |nil=>rfl
 |cons x xs=>
  show(if (x::xs)≠[]/\(x::xs).length+ys.length<=sizeLine then some (CD.d (.tuple ((x::xs)++ys)),M)else none)=_;rw[A3 ⟨by simp,h⟩]
theorem sM{α:Type}{xs:List α}{lo hi:Option Int}{x:α}(h:x∈fI xs lo hi):x∈xs:=S9 (S8 h)
theorem AU{α:Type}(xs:List α)(lo hi:Option Int):(fI xs lo hi).length<=xs.length:=by
 unfold fI;rw[E4,F5];omega
theorem slT(xs:List PyData)(lo hi:Option Int)(M:Sto):slF (.d (.tuple xs)) lo hi M=some (.d (.tuple (fI xs lo hi)),M):=rfl
theorem DM(i:Int):asI (I i)=some i:=rfl
theorem aBZ{ds:List PyData}{r:Int}(h0:0<=r)(h1:r<ds.length)(M:Sto):∃d∈ds,ixF (.d (.tuple ds)) (I r) M=some (.d d,M):=by
 have hlt:r.toNat<ds.length:=by omega
 have hd:ds[r.toNat]?=some ds[r.toNat]:=B9 hlt
 have e:atI ds r=some ds[r.toNat]:=by
  have:=HD hd
  rwa [U5 h0]at this
 refine⟨_,List.getElem_mem hlt,?_⟩;unfold ixF;dsimp only;show(some ds).bind _=_;rw[A1,e];rfl
noncomputable def WG:List PyData:=[.none,(.bool true),(.bool false),(.int (-1)),(.int 0),(.int 1),(.int 40),(.int 1000000000001),(.str ""),(.str "1"),(.tuple []),(.tuple [(.int 1),(.int 2)]),(.tuple [(.int 2),(.int 2)]),(.tuple [(.int 0),(.int 2)]),(.tuple [(.int 1),(.int 13)]),(.dict [])]
theorem aDP(γ:Ga)(M:Sto):qJ γ M=some (.d (.list WG),M):=rfl
theorem cG(ha:a.natAbs<2 ^ 200)(hb:b.natAbs<2 ^ 200):Fit 4100 1 (.tuple [.int a,.int b]):=
 (Fit.tuple (w:=2000) (m:=0) (k:=2) (ds:=[.int a,.int b]) (fun d hd=>by
  simp only[List.mem_cons,List.not_mem_nil,or_false]at hd;rcases hd with rfl|rfl
  .exact Fit.int (cU ha)
  .exact Fit.int (cU hb)) (A6 _)).mono (by decide) (A6 _)
theorem OR:∀d∈WG,Fit 4100 1 d:=by
 intro d hd;unfold WG at hd;simp only[List.mem_cons,List.not_mem_nil,or_false]at hd;rcases hd with rfl|rfl|rfl|rfl|rfl|rfl|rfl|rfl|rfl|rfl|rfl|rfl|rfl|rfl|rfl|rfl
 .exact⟨rfl,by decide,by decide⟩
 .exact⟨rfl,by decide,by decide⟩
 .exact⟨rfl,by decide,by decide⟩
 .exact(Fit.int (cU (by decide))).mono (by decide) (by decide)
 .exact(Fit.int (cU (by decide))).mono (by decide) (by decide)
 .exact(Fit.int (cU (by decide))).mono (by decide) (by decide)
 .exact(Fit.int (cU (by decide))).mono (by decide) (by decide)
 .exact(Fit.int (cU (by decide))).mono (by decide) (by decide)
 .exact⟨rfl,by decide +kernel,by decide⟩
 .exact⟨rfl,by decide +kernel,by decide⟩
 .exact⟨rfl,by decide,by decide⟩
 .exact cG (by decide) (by decide)
 .exact cG (by decide) (by decide)
 .exact cG (by decide) (by decide)
 .exact cG (by decide) (by decide)
 .exact⟨rfl,by decide,by decide⟩
structure Row(n:Nat)(ds:List PyData):Prop where
 fit:∀d∈ds,Fit 4100 1 d
 len:ds.length<=n
theorem aAV{n:Nat}(h:Stm M i)(hr:Row n ds)(h0:0<ds.length)(hn:n<=100):∃es M',eQ [.c i,.d (.tuple ds)] M=some (.d (.tuple es),M')/\Row (2*n+1) es/\Nxt i M M':=by
 have hl:=hr.len;obtain⟨p,M1,e1,p0,p1,n1⟩:=dU (m:=(ds.length:Int)) h (by omega) (by omega);have s1:=n1.stm h;obtain⟨c,M2,e2,c0,c1,n2⟩:=dU (m:=4) s1 (by decide) (by decide);have s2:=n2.stm s1;have hlen:iJ [.d (.tuple ds)] M=some (I ds.length,M):=rfl;have big:sizeLine=16777216:=J8;have l1:=AU ds none (some p);have l2:=AU ds (some (p+1)) none;have l3:=AU ds (some p) none;have sz1:(1:Nat)<=sizeLine:=by decide
 cases k0:(c==0)with
 |true=>
  refine⟨fI ds none (some p)++fI ds (some (p+1)) none,M2,?_,⟨fun d hd=>?_,by rw[B4];omega⟩,n1.trans n2⟩
  .have e3:=cat_tup (fI ds none (some p)) (fI ds (some (p+1)) none) M2 (by omega);simp![eQ,iB,fSl,dB,iG,hlen,e1,e2,oO,k0,slT,DM,lS,e3]
  .rcases List.mem_append.mp hd with hd|hd<;>exact hr.fit d (sM hd)
 |false=>
  cases k1:(c==1)with
  |true=>
   obtain⟨y,hy,e4⟩:=aBZ p0 p1 M2;refine⟨(fI ds none (some p)++[y])++fI ds (some p) none,M2,?_,⟨fun d hd=>?_,by rw[B4,B4];simp only[List.length_singleton];omega⟩,n1.trans n2⟩
   .have e3:=cat_tup (fI ds none (some p)) [y] M2 (by simp only[List.length_singleton];omega);have e5:=cat_tup (fI ds none (some p)++[y]) (fI ds (some p) none) M2 (by rw[B4];simp only[List.length_singleton];omega);simp![eQ,iB,fSl,dB,iG,hlen,e1,e2,oO,k0,k1,slT,DM,lS,e4,sz1,e3,e5]
   .rcases List.mem_append.mp hd with hd|hd
    .rcases List.mem_append.mp hd with hd|hd
     .exact hr.fit d (sM hd)
     .rw[List.mem_singleton.mp hd];exact hr.fit y hy
    .exact hr.fit d (sM hd)
  |false=>
   obtain⟨q,M3,e4,q0,q1,n3⟩:=dU (m:=16) s2 (by decide) (by decide);obtain⟨y,hy,e5⟩:=vN (ds:=WG) q0 q1 M3;refine⟨(fI ds none (some p)++[y])++fI ds (some (p+1)) none,M3,?_,⟨fun d hd=>?_,by rw[B4,B4];simp only[List.length_singleton];omega⟩,(n1.trans n2).trans n3⟩
   .have e3:=cat_tup (fI ds none (some p)) [y] M3 (by simp only[List.length_singleton];omega);have e6:=cat_tup (fI ds none (some p)++[y]) (fI ds (some (p+1)) none) M3 (by rw[B4];simp only[List.length_singleton];omega);simp![eQ,iB,fSl,dB,iG,hlen,e1,e2,oO,k0,k1,slT,DM,lS,aDP,e4,e5,sz1,e3,e6]
   .rcases List.mem_append.mp hd with hd|hd
    .rcases List.mem_append.mp hd with hd|hd
     .exact hr.fit d (sM hd)
     .rw[List.mem_singleton.mp hd];exact OR y hy
    .exact hr.fit d (sM hd)
structure Tie where
 i:Int
 j:Int
 a:Int
 b:Int
deriving DecidableEq
noncomputable def f2(t:Tie):List PyData:=[.int t.i,.int t.j,.tuple [.int t.a,.int t.b]]
noncomputable def aR(us:List Tie):List PyData:=us.map fun t=>.tuple (f2 t)
theorem sz{n:Nat}(hn:n<=1000):n<=sizeLine:=by rw[J8];exact C9 hn (by decide)
theorem z1:(1:Nat)<=sizeLine:=sz (by decide)
theorem z2:(2:Nat)<=sizeLine:=sz (by decide)
theorem z3:(3:Nat)<=sizeLine:=sz (by decide)
theorem z6:(6:Nat)<=sizeLine:=sz (by decide)
noncomputable def R3(k:Bool)(p q w:PyData):PyData:=if k then .list [p,q,w]else .tuple [p,q,w]
theorem gF(k:Bool)(p q w:PyData):aW (R3 k p q w)=some [p,q,w]:=by cases k<;>rfl
theorem BE{x:PyData}(h:dR x 3=true):∃k p q w,x=R3 k p q w:=by
 have aux:∀ds:List PyData,((ds.length:Int)==3)=true->∃p q w,ds=[p,q,w]:=fun ds h=>by
  match ds,h with
  |[p,q,w],_=>exact⟨p,q,w,rfl⟩
  |[],h=>exact absurd h (by decide)
  |[_],h=>exact absurd h (by simp)
  |[_,_],h=>exact absurd h (by simp)
  |_::_::_::_::r,h=>
   have:((r.length+1+1+1+1:Nat):Int)=3:=by simpa using h
   omega
 cases x with
 |list ds=>obtain⟨p,q,w,rfl⟩:=aux ds h;exact⟨true,p,q,w,rfl⟩
 |tuple ds=>obtain⟨p,q,w,rfl⟩:=aux ds h;exact⟨false,p,q,w,rfl⟩
 |_=>cases h
noncomputable def plc(n:Int):PyData->Bool
 |.int i=>decide (0<=i)&&decide (i<n)
 |_=>false
theorem qY(n:Int)(p:PyData)(M:Sto):gP [I n,.d p] M=some (B (plc n p),M):=by
 cases hp:sZ p with
 |false=>
  have e:plc n p=false:=by cases p<;>first|rfl|cases hp
  rw[e];simp![gP,nD,mW,hp]
 |true=>
  obtain⟨i,rfl⟩:∃i,p=.int i:=by cases p<;>first|exact⟨_,rfl⟩|cases hp
  have hc:plc n (.int i)=(decide (0<=i)&&decide (i<n)):=rfl;rw[hc];cases h0:decide (0<=i)<;>simp![gP,nD,mW,hp,h0,Bool.true_and,Bool.false_and]
noncomputable def ulk(n:Int)(p q:PyData):Bool:=match p,q with
 |.int i,.int j=>plc n p&&(plc n q&&!(i==j))
 |_,_=>false
theorem vL(h:plc n p=true):∃i,p=.int i/\0<=i/\i<n:=by
 cases p with
 |int i=>simp only[plc,Bool.and_eq_true,decide_eq_true_eq]at h;exact⟨i,rfl,h.1,h.2⟩
 |_=>cases h
theorem aAw(n:Int)(p q:PyData)(M:Sto):bZ [I n,.d p,.d q] M=some (B (ulk n p q),M):=by
 cases h1:plc n p with
 |false=>
  have e:ulk n p q=false:=by
   unfold ulk;split
   .rw[h1];rfl
   .rfl
  rw[e];simp![bZ,cP,qY,h1]
 |true=>
  obtain⟨i,rfl,_⟩:=vL h1;cases h2:plc n q with
  |false=>
   have e:ulk n (.int i) q=false:=by
    unfold ulk;split
    .rw[h2,Bool.false_and,Bool.and_false]
    .rfl
   rw[e];simp![bZ,cP,qY,h1,h2]
  |true=>
   obtain⟨j,rfl,_⟩:=vL h2;have e:ulk n (.int i) (.int j)=!(i==j):=by show(plc n (.int i)&&(plc n (.int j)&&!(i==j)))=_;rw[h1,h2];rfl
   rw[e];simp![bZ,cP,qY,h1,h2,uY]
noncomputable def fJ(n:Int)(r:PyData):Option Tie:=match aW r with
 |some [.int i,.int j,w]=>match aW w with
  |some [.int a,.int b]=>if 0<=i/\i<j/\j<n/\qC a b=true then some ⟨i,j,a,b⟩else none
  |_=>none
 |_=>none
theorem LN(h:iZ w=true):∃a b,aW w=some [.int a,.int b]/\qC a b=true:=by
 unfold iZ at h;split at h
 .rename_i a b e;exact⟨a,b,e,h⟩
 .cases h
theorem IS{i:Int}(hr:aW r=some [.int i,.int j,w])(hw:aW w=some [.int a,.int b])(h:0<=i/\i<j/\j<n/\qC a b=true):fJ n r=some ⟨i,j,a,b⟩:=by
 unfold fJ;rw[hr];dsimp only;rw[hw];dsimp only;rw[A3 h]
theorem fL{t:Tie}(h:fJ n r=some t):∃w,aW r=some [.int t.i,.int t.j,w]/\aW w=some [.int t.a,.int t.b]/\0<=t.i/\t.i<t.j/\t.j<n/\qC t.a t.b=true:=by
 unfold fJ at h;split at h
 .rename_i i j w hr;split at h
  .rename_i a b hw;split at h
   .rename_i c;cases h;exact⟨w,hr,hw,c⟩
   .cases h
  .cases h
 .cases h
theorem ix3(k:Bool)(p q w:PyData)(M:Sto):ixF (.d (R3 k p q w)) (I 0) M=some (.d p,M)/\ixF (.d (R3 k p q w)) (I 1) M=some (.d q,M)/\ixF (.d (R3 k p q w)) (I 2) M=some (.d w,M):=by cases k<;>exact⟨rfl,rfl,rfl⟩
theorem SX(n:Int)(r:PyData)(M:Sto):jQ [I n,.d r] M=some (B (fJ n r).isSome,M):=by
 cases h3:dR r 3 with
 |false=>
  have e:fJ n r=none:=by
   cases h:fJ n r with
   |none=>rfl
   |some t=>
    obtain⟨w,hr,_⟩:=fL h;unfold dR at h3;rw[hr]at h3;cases h3
  have bt:bG [I n,.d r] M=some (B false,M):=by
   simp![bG,cN,fU,h3]
  rw[e];simp![jQ,lU,bt,Option.isSome_none]
 |true=>
  obtain⟨k,p,q,w,rfl⟩:=BE h3;obtain⟨x0,x1,x2⟩:=ix3 k p q w M;cases hu:ulk n p q with
  |false=>
   have e:fJ n (R3 k p q w)=none:=by
    cases h:fJ n (R3 k p q w)with
    |none=>rfl
    |some t=>
     obtain⟨w',hr,_,i0,ij,jn,_⟩:=fL h;rw[gF]at hr;cases hr
     have:ulk n (.int t.i) (.int t.j)=true:=by
      have ne:(!(t.i==t.j))=true:=by simp;omega
      show(plc n (.int t.i)&&(plc n (.int t.j)&&!(t.i==t.j)))=true;rw[ne];simp only[plc,decide_eq_true i0,decide_eq_true jn,decide_eq_true (show t.i<n by omega),decide_eq_true (show(0:Int)<=t.j by omega),Bool.and_true,Bool.true_and]
     rw[this]at hu;cases hu
   have bt:bG [I n,.d (R3 k p q w)] M=some (B false,M):=by
    simp![bG,cN,fU,h3,x0,x1,aAw,hu]
   rw[e];simp![jQ,lU,bt,Option.isSome_none]
  |true=>
   obtain⟨i,j,rfl,rfl,i0,jn⟩:∃i j,p=.int i/\q=.int j/\0<=i/\j<n:=by
    unfold ulk at hu;split at hu
    .rename_i i j;rw[B6,B6]at hu;obtain⟨i',e1,q1,_⟩:=vL hu.1;obtain⟨j',e2,_,q2⟩:=vL hu.2.1;cases e1;cases e2;exact⟨i,j,rfl,rfl,q1,q2⟩
    .cases hu
   have bt:bG [I n,.d (R3 k (.int i) (.int j) w)] M=some (B (decide (i<j)),M):=by
    simp![bG,cN,fU,h3,x0,x1,aAw,hu]
   cases ij:decide (i<j)with
   |false=>
    have e:fJ n (R3 k (.int i) (.int j) w)=none:=by
     cases h:fJ n (R3 k (.int i) (.int j) w)with
     |none=>rfl
     |some t=>
      obtain⟨w',hr,_,_,z,_⟩:=fL h;rw[gF]at hr;cases hr;exact absurd z (of_decide_eq_false ij)
    rw[ij]at bt;rw[e];simp![jQ,lU,bt,Option.isSome_none]
   |true=>
    rw[ij]at bt
    have e:(fJ n (R3 k (.int i) (.int j) w)).isSome=iZ w:=by
     cases hw:iZ w with
     |true=>
      obtain⟨a,b,w1,w2⟩:=LN hw;rw[IS (gF ..) w1 ⟨i0,C0 ij,jn,w2⟩];rfl
     |false=>
      cases h:fJ n (R3 k (.int i) (.int j) w)with
      |none=>rfl
      |some t=>
       obtain⟨w',hr,h2,_,_,_,h3'⟩:=fL h;rw[gF]at hr;cases hr;unfold iZ at hw;rw[h2]at hw;dsimp only at hw;rw[h3']at hw;cases hw
    rw[e];simp![jQ,lU,bt,x2,CV]
noncomputable def fX(n:Int)(r:PyData):Option (Int×Int):=(fJ n r).bind fun t=>if kT t.a t.b=true then some (t.i,t.j)else none
theorem DS(n:Int)(r:PyData)(M:Sto):fT [I n,.d r] M=some (B (fX n r).isSome,M):=by
 have ti:=SX n r M;cases h:fJ n r with
 |none=>
  rw[h]at ti;have z:fX n r=none:=by unfold fX;rw[h];rfl
  rw[z];simp![fT,iF,ti,Option.isSome_none]
 |some t=>
  rw[h]at ti;obtain⟨w,hr,hw,h0,h1,h2,hg⟩:=fL h
  have x2:ixF (.d r) (I 2) M=some (.d w,M):=by
   cases r<;>first|(cases hr;rfl)|cases hr
  have y0:ixF (.d w) (I 0) M=some (I t.a,M):=by
   cases w<;>first|(cases hw;rfl)|cases hw
  have y1:ixF (.d w) (I 1) M=some (I t.b,M):=by
   cases w<;>first|(cases hw;rfl)|cases hw
  have b0:0<t.b:=by have:=UF hg;omega
  have z:(fX n r).isSome=(decide (t.a<=1000000)&&(27720 % t.b==0)):=by
   unfold fX kT;rw[h,A1,hg];show Option.isSome (if (true&&(decide (t.a<=1000000)&&(27720 % t.b==0)))=true then some (t.i,t.j)else none)=_;cases decide (t.a<=1000000)<;>cases (27720 % t.b==0)<;>rfl
  rw[z];cases c:decide (t.a<=1000000)with
  |false=>simp![fT,iF,ti,Option.isSome_some,x2,y0,c,Bool.false_and]
  |true=>simp![fT,iF,ti,Option.isSome_some,x2,y0,y1,c,gL b0,sL,Bool.true_and]
theorem eF{f g:SF}(h:f γ M=some (.nx γ',M')):bB f g γ M=g γ' M':=by simp only[bB,h,Option.bind_some]
theorem FH{f g:SF}(h:f γ M=some (.rt x,M')):bB f g γ M=some (.rt x,M'):=by simp only[bB,h,Option.bind_some]
theorem tG(h:f γ M=some (x,M')):bR f (hName i) γ M=some (.nx (γ.set i (some x)),M'):=by simp only[bR,hName,h,Option.bind_some]
theorem uI{b:SF}(h:xs.length=ps)(hb:b (xs.map some++List.replicate (N-xs.length) none) M=some (.rt x,M')):fnF ps N b xs M=some (x,M'):=by simp only[fnF,if_pos h,hb,Option.bind_some]
theorem tH{f:AF}{b:SF}{M1:Sto}{r:Option (Out×Sto)}(h:f γ M=some (xs,M1))(hb:gT g b xs γ M1=r):rZ f g b γ M=r:=by simp only[rZ,h,Option.bind_some,hb]
theorem DN{b:SF}{γ1 γ2:Ga}{M1 M2:Sto}(h:g x γ M=some (γ1,M1))(hb:b γ1 M1=some (.nx γ2,M2)):gT g b (x::xs) γ M=gT g b xs γ2 M2:=by
 conv=>lhs;unfold gT
 rw[h,A1];dsimp only;rw[hb];rfl
theorem aV{g:AF}{M1 M2:Sto}(h1:f γ M=some (x,M1))(h2:g γ M1=some (xs,M2)):aB f g γ M=some (x::xs,M2):=by simp only[aB,h1,h2,Option.bind_some]
theorem bP:aH γ M=some ([],M):=rfl
theorem bI{F:FN}{M1 M2:Sto}{y:CD}(ha:fa γ M=some (xs,M1))(h:F xs M1=some (y,M2)):aI F fa γ M=some (y,M2):=by simp only[aI,ha,Option.bind_some,h]
theorem jV{k:F2}{g:EF}{M1 M2 M3:Sto}{a b c:CD}(h1:f γ M=some (a,M1))(h2:g γ M1=some (b,M2))(h:k a b M2=some (c,M3)):fOp k f g γ M=some (c,M3):=by simp only[fOp,h1,h2,Option.bind_some,h]
theorem uE{M1:Sto}{b:Bool}(h:f γ M=some (B b,M1)):gB f γ M=some (b,M1):=by
 unfold gB;rw[h];rfl
theorem QP{c:TF}{a b:SF}(h:c γ M=some (true,M')):sIf c a b γ M=a γ M':=by simp only[sIf,h,Option.bind_some,if_true]
theorem JF{c:TF}{a b:SF}(h:c γ M=some (false,M')):sIf c a b γ M=b γ M':=by simp only[sIf,h,Option.bind_some,Bool.false_eq_true,if_false]
theorem AA{i:Int}:fC (.int i) γ M=some (I i,M):=rfl
theorem BP{p:Int×Int}(h:fX n r=some p):∃t,fJ n r=some t/\kT t.a t.b=true/\p=(t.i,t.j):=by
 unfold fX at h;obtain⟨t,ht,h⟩:=aJ h;refine⟨t,ht,?_⟩;by_cases c:kT t.a t.b=true
 .rw[A3 c]at h;exact⟨c,(C4 h).symm⟩
 .rw[A7 c]at h;cases h
theorem aBr(h:eU w=true):∃a b,aW w=some [.int a,.int b]/\kT a b=true:=by
 unfold eU at h;split at h
 .rename_i a b e;exact⟨a,b,e,h⟩
 .cases h
noncomputable abbrev LG(n:Int)(x:CD)(c:Nat)(r:PyData):Ga:=[some (I n),some x,some (.c c),some (.d r)]
theorem aAc(ht:fX n r=none):aQ (LG n x c r) M=some (.rt (B false),M):=by
 cases hr:jS r with
 |false=>simp![aQ,fO,hr]
 |true=>
  obtain⟨ds,hd⟩:=CZ hr;cases h3:((ds.length:Int)==3)with
  |false=>simp![aQ,fO,hr,qA hd,uY,h3]
  |true=>
   have h3':dR r 3=true:=by unfold dR;rw[hd];exact h3
   obtain⟨kk,p,q,w,rfl⟩:=BE h3';rw[gF]at hd;cases hd;obtain⟨x0,x1,x2⟩:=ix3 kk p q w M;have l3:iJ [.d (R3 kk p q w)] M=some (I 3,M):=qA (gF kk p q w) M;have n3:((3:Int)==3)=true:=rfl;cases hw:eU w with
   |false=>simp![aQ,fO,hr,l3,uY,n3,x2,dZ,hw]
   |true=>
    cases hp:lw 0 (n-1) p with
    |false=>simp![aQ,fO,hr,l3,uY,n3,x0,x2,dZ,hw,DG,hp]
    |true=>
     obtain⟨i,rfl,i0,i1⟩:=tI hp;cases hq:lw (i+1) (n-1) q with
     |false=>simp![aQ,fO,hr,l3,uY,n3,x0,x1,x2,dZ,hw,DG,hp,lS,hq]
     |true=>
      obtain⟨j,rfl,j0,j1⟩:=tI hq;obtain⟨a,b,w1,w2⟩:=aBr hw;unfold fX at ht;rw[IS (gF ..) w1 ⟨i0,by omega,by omega,PU w2⟩,A1,A3 w2]at ht;cases ht
noncomputable def prD(p:Int×Int):PyData:=.tuple [.int p.1,.int p.2]
theorem aCl(p q:Int×Int):PyData.eqv (prD p) (prD q)=decide (p=q):=by
 obtain⟨a,b⟩:=p;obtain⟨c,d⟩:=q;show(a==c&&(b==d&&true))=_;rw[I0];simp
theorem aCW(l:List (Int×Int))(p:Int×Int):(l.map prD).any (fun d=>PyData.eqv d (prD p))=decide (p∈l):=by
 rw[List.any_map,I0];simp only[List.any_eq_true,Function.comp,aCl,decide_eq_true_eq];exact⟨fun⟨q,h,e⟩=>e▸h,fun h=>⟨p,h,rfl⟩⟩
theorem HX{n:Nat}{M:Sto}:∀ds:List PyData,qR n M (ds.map .d)=some ds
 |[]=>by unfold qR;rfl
 |d::ds=>by
  rw[A9];unfold qR;rw[FS,A1,HX ds];rfl
theorem aFO{l:List (Int×Int)}{i:Int}(h:M[c]?=some (.lst ((l.map prD).map .d))):inC false (.d (.tuple [.int i,.int j])) (.c c) M=some (B (decide ((i,j)∈l)),M):=by
 have s1:snap 5 M (.c c)=some (.list (l.map prD)):=by
  unfold snap;rw[h];dsimp only;rw[HX,A1]
 have s2:(SeqAt.shaped (.tuple [.int i,.int j])&&(l.map prD).all SeqAt.shaped)=true:=by
  rw[B6];refine⟨rfl,List.all_eq_true.mpr fun d hd=>?_⟩;obtain⟨p,_,rfl⟩:=List.mem_map.mp hd;rfl
 unfold inC;rw[FS,A1,s1,A1];show(some (l.map prD)).bind _=_;rw[A1,A3 s2,A7 A5];rw[show(PyData.tuple [.int i,.int j])=prD (i,j)from rfl,aCW]
theorem SY{x:CD}{p:Int×Int}{l:List (Int×Int)}(ht:fX n r=some p)(h:M[c]?=some (.lst ((l.map prD).map .d)))(hl:l.length<1000):
 aQ (LG n x c r) M=if p∈l then some (.rt (B false),M)else some (.nx (LG n x c r),M.set c (.lst (((l++[p]).map prD).map .d))):=by
 obtain⟨t,ht',hd,rfl⟩:=BP ht;obtain⟨w,hr,hw,i0,ij,jn,hv⟩:=fL ht';have h3:dR r 3=true:=by unfold dR;rw[hr];rfl
 obtain⟨kk,p,q,w',rfl⟩:=BE h3;rw[gF]at hr;cases hr;obtain⟨x0,x1,x2⟩:=ix3 kk (.int t.i) (.int t.j) w M;have rr:jS (R3 kk (.int t.i) (.int t.j) w)=true:=by cases kk<;>rfl
 have l3:iJ [.d (R3 kk (.int t.i) (.int t.j) w)] M=some (I 3,M):=qA (gF kk (.int t.i) (.int t.j) w) M;have n3:((3:Int)==3)=true:=rfl;have hw':eU w=true:=by unfold eU;rw[hw];exact hd
 have hp:lw 0 (n-1) (.int t.i)=true:=by
  simp only[lw,decide_eq_true i0,decide_eq_true (show t.i<=n-1 by omega),Bool.and_true]
 have hq:lw (t.i+1) (n-1) (.int t.j)=true:=by
  simp only[lw,decide_eq_true (show t.i+1<=t.j by omega),decide_eq_true (show t.j<=n-1 by omega),Bool.and_true]
 have ei:=aFO (i:=t.i) (j:=t.j) h;by_cases hm:(t.i,t.j)∈l
 .rw[A3 hm];have hm':decide ((t.i,t.j)∈l)=true:=C2 hm;simp![aQ,fO,rr,l3,uY,n3,x0,x1,x2,dZ,hw',DG,hp,lS,hq,ei,hm',if_pos z2,Nat.zero_add]
 .rw[A7 hm];have hm':decide ((t.i,t.j)∈l)=false:=D4 hm
  have ap:pW (.c c) [.d (.tuple [.int t.i,.int t.j])] M=some (.d .none,M.set c (.lst (((l++[(t.i,t.j)]).map prD).map .d))):=by
   have hz:((l.map prD).map CD.d).length<sizeLine:=by rw[A2,A2,J8];omega
   unfold pW;dsimp only;rw[h];dsimp only;rw[A3 hz,E5,E5];rfl
  have ty:tyB "list" M (.c c)=true:=by unfold tyB;dsimp only;rw[h];rfl
  simp![aQ,fO,rr,l3,uY,n3,x0,x1,x2,dZ,hw',DG,hp,lS,hq,ei,hm',if_pos z2,Nat.zero_add,IZ,ty,ap]
noncomputable def goL(n:Int):List PyData->List (Int×Int)->Bool
 |[],_=>true
 |r::l,kn=>match fX n r with
  |none=>false
  |some p=>if p∈kn then false else goL n l (kn++[p])
theorem oM{c:Cell}:(M++[c])[M.length]?=some c:=by rw[U7 (A6 _),Nat.sub_self];rfl
theorem pT{c c':Cell}:(M++[c]).set M.length c'=M++[c']:=by
 rw[List.set_append_right _ _ (A6 _),Nat.sub_self];rfl
theorem EC{n:Int}{x:CD}{M:Sto}:∀(l:List PyData)(kn:List (Int×Int))(g:Option CD),kn.length+l.length<1000->
 ∃L,(goL n l kn=false->gT (hName 3) aQ (l.map .d) [some (I n),some x,some (.c M.length),g] (M++[.lst ((kn.map prD).map .d)])=some (.rt (B false),M++L)) /\
  (goL n l kn=true->∃g',gT (hName 3) aQ (l.map .d) [some (I n),some x,some (.c M.length),g] (M++[.lst ((kn.map prD).map .d)])=some (.nx [some (I n),some x,some (.c M.length),g'],M++L))
 |[]=>fun kn g _=>⟨[.lst ((kn.map prD).map .d)],fun h=>(by cases h),fun _=>⟨g,rfl⟩⟩
 |r::l=>fun kn g hl=>by
  have nm:hName 3 (.d r) [some (I n),some x,some (.c M.length),g] (M++[.lst ((kn.map prD).map .d)])=some (LG n x M.length r,M++[.lst ((kn.map prD).map .d)]):=rfl
  have fr:∀M' o,aQ (LG n x M.length r) (M++[.lst ((kn.map prD).map .d)])=some (.rt o,M')->gT (hName 3) aQ ((r::l).map .d) [some (I n),some x,some (.c M.length),g] (M++[.lst ((kn.map prD).map .d)])=some (.rt o,M'):=fun M' o e=>by
   rw[A9]
   conv=>lhs;unfold gT
   rw[nm,A1];dsimp only;rw[e];rfl
  rw[C3]at hl;cases hd:fX n r with
  |none=>
   have z:goL n (r::l) kn=false:=by show(match fX n r with|none=>false|some p=>_)=false;rw[hd]
   exact⟨[.lst ((kn.map prD).map .d)],fun _=>fr _ _ (aAc hd),fun h=>by rw[z]at h;cases h⟩
  |some p=>
   have lg:=SY (n:=n) (x:=x) (c:=M.length) hd (oM (M:=M) (c:=.lst ((kn.map prD).map .d))) (by omega);by_cases hm:p∈kn
   .have z:goL n (r::l) kn=false:=by show(match fX n r with|none=>false|some p=>if p∈kn then false else _)=false;rw[hd];exact A3 hm
    rw[A3 hm]at lg;exact⟨[.lst ((kn.map prD).map .d)],fun _=>fr _ _ lg,fun h=>by rw[z]at h;cases h⟩
   .have z:goL n (r::l) kn=goL n l (kn++[p]):=by show(match fX n r with|none=>false|some p=>if p∈kn then false else _)=_;rw[hd];exact A7 hm
    rw[A7 hm,pT]at lg;obtain⟨L,h1,h2⟩:=EC (n:=n) (x:=x) (M:=M) l (kn++[p]) (some (.d r)) (by rw[B4,D7];omega)
    have st:gT (hName 3) aQ ((r::l).map .d) [some (I n),some x,some (.c M.length),g] (M++[.lst ((kn.map prD).map .d)])=gT (hName 3) aQ (l.map .d) [some (I n),some x,some (.c M.length),some (.d r)] (M++[.lst (((kn++[p]).map prD).map .d)]):=by
     rw[A9]
     conv=>lhs;unfold gT
     rw[nm,A1];dsimp only;rw[lg];rfl
    rw[st,z];exact⟨L,h1,h2⟩
theorem KN{n:Int}{d:PyData}{M:Sto}(hl:∀l,aW d=some l->l.length<1000):∃L,bM [I n,.d d] M=some (B (match aW d with
 |some l=>goL n l []
 |none=>false),M++L):=by
 cases hd:aW d with
 |none=>
  have hr:jS d=false:=by cases d<;>first|rfl|cases hd
  refine⟨[],?_⟩;rw[D1];simp![bM,cW,fO,hr]
 |some l=>
  have hr:jS d=true:=by cases d<;>first|rfl|cases hd
  obtain⟨L,h1,h2⟩:=EC (n:=n) (x:=.d d) (M:=M) l [] none (by have:=hl l hd;simp only[List.length_nil];omega);refine⟨L,?_⟩
  have s1:sIf (gN (gB (aI eA (aB (aD 1) aH)))) (bD (fC (.bool false))) bQ [some (I n),some (.d d),none,none] M=some (.nx [some (I n),some (.d d),none,none],M):=by
   simp![fO,hr]
  have s0:(0:Nat)<=sizeLine:=D2 _
  have s2:bR (xZ aH) (hName 2) [some (I n),some (.d d),none,none] M=some (.nx [some (I n),some (.d d),some (.c M.length),none],M++[.lst []]):=by
   simp![s0]
  have it:dD (aD 1) [some (I n),some (.d d),some (.c M.length),none] (M++[.lst []])=some (l.map .d,M++[.lst []]):=by
   unfold dD;show(aW d).bind _=_;rw[hd];rfl
  refine uI rfl ?_;show cW [some (I n),some (.d d),none,none] M=_;unfold cW;rw[eF s1,eF s2];show _=some (Out.rt (B (goL n l [])),M++L);cases g:goL n l []with
  |false=>exact FH (tH it (h1 g))
  |true=>
   obtain⟨g',e⟩:=h2 g;rw[eF (tH it e)];rfl
theorem FQ{cap:List (Option Nat)}{f:AF}{c:TF}{ee:EF}{M1 M2:Sto}(it:f γ M=some (xs,M1))(hl:xs.length<=sizeLine)(e:lcF g c ee xs (vB cap γ) M1=some (ds.map .d,M2))(hd:ds.length<=sizeLine):fLc cap f g c ee γ M=some (.d (.list ds),M2):=by
 have h1:qQ cap f g c ee γ M=some (ds.map .d,M2):=by
  unfold qQ;rw[it,A1,A3 hl];exact e
 show(qQ cap f g c ee γ M).bind _=_;rw[h1,A1,lV,A1,A3 hd]
theorem xI{α:Type}{e:EF}{M:Sto}{x0:Option CD}(f:α->CD)(h:α->PyData):∀(xs:List α)(g:Option CD),(∀x∈xs,e [x0,some (f x)] M=some (.d (h x),M))->lcF (hName 1) kY e (xs.map f) [x0,g] M=some ((xs.map h).map .d,M)
 |[]=>fun _ _=>rfl
 |x::xs=>fun g he=>by
  have ih:=xI (M:=M) (e:=e) (x0:=x0) f h xs (some (f x)) fun y hy=>he y (B0 _ hy);have e1:=he x B7;rw[A9,A9,A9];show(hName 1 (f x) [x0,g] M).bind _=_;rw[show hName 1 (f x) [x0,g] M=some ([x0,some (f x)],M)from rfl,A1];show(kY _ M).bind _=_;rw[show kY [x0,some (f x)] M=some (true,M)from rfl,A1,A3 rfl,e1,A1];dsimp only;rw[ih,A1]
theorem DU{α:Type}(f:α->Bool):∀l:List α,boolsOf (l.map fun a=>.bool (f a))=some (l.map f)
 |[]=>rfl
 |a::l=>by
  show(boolsOf (l.map fun a=>.bool (f a))).bind _=_;rw[DU f l];rfl
theorem aDG{α:Type}(f:α->Bool)(l:List α)(M:Sto):yH [.d (.list (l.map fun a=>.bool (f a)))] M=some (B (l.all f),M):=by
 simp only[yH,DU,Option.bind_some,List.all_map];rfl
noncomputable def kp(p:Int×Int):List Key:=[.inl p.1,.inl p.2]
theorem aBh{p q:Int×Int}(h:kp p=kp q):p=q:=by
 obtain⟨a,b⟩:=p;obtain⟨c,d⟩:=q;unfold kp at h;simp only[List.cons.injEq,Sum.inl.injEq,and_true]at h;rw[h.1,h.2]
theorem aEq{p:Int×Int}(h:fX n r=some p)(M:Sto):ixF (.d r) (I 0) M=some (I p.1,M)/\ixF (.d r) (I 1) M=some (I p.2,M):=by
 obtain⟨t,ht,_,rfl⟩:=BP h;obtain⟨w,hr,_⟩:=fL ht;cases r<;>first|(cases hr;exact⟨rfl,rfl⟩)|cases hr
theorem JI{n:Int}{M:Sto}:∀(l:List PyData)(ps:List (Int×Int))(g:Option CD),l.map (fX n)=ps.map some->scF (hName 0) kY (BX (aB (fOp ixF (aD 0) (fC (.int 0))) (aB (fOp ixF (aD 0) (fC (.int 1))) aH))) (l.map .d) [g] M=some (ps.map kp,M)
 |[],[],_,_=>rfl
 |[],_::_,_,h=>by simp at h
 |_::_,[],_,h=>by simp at h
 |r::l,p::ps,g,h=>by
  rw[A9,A9]at h;injection h with h1 h2
  have ih:=JI (n:=n) (M:=M) l ps (some (.d r)) h2;obtain⟨x0,x1⟩:=aEq h1 M;have s2:(2:Nat)<=sizeLine:=by decide
  have kk:BX (aB (fOp ixF (aD 0) (fC (.int 0))) (aB (fOp ixF (aD 0) (fC (.int 1))) aH)) [some (.d r)] M=some (.inr (kp p),M):=by
   simp![BX,x0,x1,keysOf,keyOf,s2];rfl
  rw[A9,A9];show(hName 0 (.d r) [g] M).bind _=_;rw[show hName 0 (.d r) [g] M=some ([some (.d r)],M)from rfl,A1];show(kY [some (.d r)] M).bind _=_;rw[show kY [some (CD.d r)] M=some (true,M)from rfl,A1,A3 rfl,kk,A1];show(scF _ _ _ _ [some (.d r)] M).bind _=_;rw[ih];rfl
theorem all_some{n:Int}:∀{l:List PyData},(l.all fun r=>(fX n r).isSome)=true->∃ps:List (Int×Int),l.map (fX n)=ps.map some
 |[]=>fun _=>⟨[],rfl⟩
 |r::l=>fun h=>by
  rw[List.all_cons,B6]at h;obtain⟨ps,e⟩:=all_some h.2;obtain⟨p,hp⟩:=Option.isSome_iff_exists.mp h.1;exact⟨p::ps,by rw[A9,A9,e,hp]⟩
theorem DV:∀ks:List (List Key),(kW ks).length=ks.length↔ks.Nodup
 |[]=>⟨fun _=>J9,fun _=>rfl⟩
 |k::ks=>by
  have ih:=DV ks;have le:=wU ks;have mm:=sH k ks;rw[List.nodup_cons];by_cases c:k∈kW ks
  .have e:kW (k::ks)=kW ks:=by show(if _ then _ else _)=_;exact A3 (any_mem.mpr c)
   rw[e,C3];exact⟨fun h=>by omega,fun h=>absurd (mm.mp c) h.1⟩
  .have e:kW (k::ks)=k::kW ks:=by show(if _ then _ else _)=_;exact A7 fun z=>c (any_mem.mp z)
   rw[e,C3,C3];exact⟨fun h=>⟨fun z=>c (mm.mpr z),ih.mp (by omega)⟩,fun h=>by rw[ih.mpr h.2]⟩
theorem aFi(ps:List (Int×Int)):(ps.map kp).Nodup↔ps.Nodup:=by
 constructor
 .intro h;exact(List.pairwise_map.mp h).imp fun ne e=>ne (by rw[e])
 .intro h;exact List.pairwise_map.mpr (h.imp fun ne e=>ne (aBh e))
theorem AL{n:Int}:∀(l:List PyData)(kn:List (Int×Int)),goL n l kn=true->(l.all fun r=>(fX n r).isSome)=true
 |[]=>fun _ _=>rfl
 |r::l=>fun kn h=>by
  have h:(match fX n r with|none=>false|some p=>if p∈kn then false else goL n l (kn++[p]))=true:=h;cases hd:fX n r with
  |none=>rw[hd]at h;cases h
  |some p=>
   rw[hd]at h;dsimp only at h;by_cases c:p∈kn
   .rw[A3 c]at h;cases h
   .rw[A7 c]at h;rw[List.all_cons,hd,AL l _ h];rfl
theorem GO{n:Int}:∀(l:List PyData)(ps kn:List (Int×Int)),l.map (fX n)=ps.map some->kn.Nodup->(goL n l kn=true↔(kn++ps).Nodup)
 |[],[]=>fun kn _ hk=>by rw[D1];exact⟨fun _=>hk,fun _=>rfl⟩
 |[],_::_=>fun _ h _=>by simp at h
 |_::_,[]=>fun _ h _=>by simp at h
 |r::l,p::ps=>fun kn h hk=>by
  rw[A9,A9]at h;injection h with h1 h2
  have u:goL n (r::l) kn=if p∈kn then false else goL n l (kn++[p]):=by show(match fX n r with|none=>false|some p=>_)=_;rw[h1]
  have ap:kn++p::ps=(kn++[p])++ps:=by rw[D9];rfl
  rw[u];by_cases c:p∈kn
  .rw[A3 c];refine⟨fun z=>(by cases z),fun z=>?_⟩;rw[List.nodup_append]at z;exact absurd rfl (z.2.2 p c p B7)
  .rw[A7 c,ap];refine GO l ps (kn++[p]) h2 ?_;rw[List.nodup_append];refine⟨hk,List.nodup_cons.mpr ⟨by simp,J9⟩,fun a ha b hb e=>?_⟩;rw[List.mem_singleton.mp hb]at e;exact c (e▸ha)
noncomputable def rQ(n:Int)(d:PyData):Bool:=match aW d with
 |some l=>goL n l []
 |none=>false
theorem aEt(hl:∀l,aW d=some l->l.length<=70):dF [I n,.d d] M=some (B (rQ n d),M):=by
 unfold rQ;cases hd:aW d with
 |none=>
  have hr:jS d=false:=by cases d<;>first|rfl|cases hd
  simp![dF,fM,FE,hr]
 |some l=>
  have l7:=hl l hd;have hr:jS d=true:=by cases d<;>first|rfl|cases hd
  have it:dD (aD 1) [some (I n),some (.d d)] M=some (l.map .d,M):=by
   unfold dD;show(aW d).bind _=_;rw[hd];rfl
  have c0:dY [some (I n),some (.d d)] M=some (.d (.list (l.map fun r=>.bool (fX n r).isSome)),M):=by
   unfold dY;refine FQ it (by rw[A2];exact sz (by omega)) ?_ (by rw[A2];exact sz (by omega));rw[show vB [some 0,none] [some (I n),some (.d d)]=[some (I n),none]from rfl];exact xI (x0:=some (I n)) (fun r=>.d r) (fun r=>.bool (fX n r).isSome) l none fun r _=>bI (aV (show aD 0 [some (I n),some (.d r)] M=some (I n,M)from rfl) (aV (show aD 1 [some (I n),some (.d r)] M=some (.d r,M)from rfl) bP)) (DS n r M)
  have ca:=bI (F:=yH) (aV c0 bP) (aDG (fun r=>(fX n r).isSome) l M);have t1:=uE (bI (F:=lR) (aV (show aD 1 [some (I n),some (.d d)] M=some (.d d,M)from rfl) bP) (FE d M));rw[hr]at t1;have t2:=uE ca
  have t:gOr (gN (gB (aI lR (aB (aD 1) aH)))) (gN (gB (aI yH (aB dY aH)))) [some (I n),some (.d d)] M=some (!(l.all fun r=>(fX n r).isSome),M):=by
   unfold gOr gN;rw[t1];show((gB (aI yH (aB dY aH)) [some (I n),some (.d d)] M).bind _)=_;rw[t2];rfl
  refine uI rfl ?_;show fM [some (I n),some (.d d)] M=some (.rt (B (goL n l [])),M);unfold fM;cases ha:(l.all fun r=>(fX n r).isSome)with
  |false=>
   rw[ha]at t
   have g:goL n l []=false:=by
    cases g:goL n l []with
    |false=>rfl
    |true=>rw[AL l [] g]at ha;cases ha
   rw[g];exact FH ((QP t).trans rfl)
  |true=>
   rw[ha]at t;obtain⟨ps,e⟩:=all_some ha;have lp:ps.length=l.length:=by have:=L5 List.length e;rw[A2,A2]at this;exact this.symm
   rw[eF ((JF t).trans rfl)]
   have c1:iO [some (I n),some (.d d)] M=some (I ((kW (ps.map kp)).length:Nat),M):=by
    unfold iO BY;rw[it,A1];dsimp only;rw[A3 (by rw[A2];exact l7),show vB [none] [some (I n),some (.d d)]=[none]from rfl,JI l ps none e];rfl
   have le:=bI (F:=iJ) (aV (show aD 1 [some (I n),some (.d d)] M=some (.d d,M)from rfl) bP) (qA hd M);obtain⟨A,hA⟩:∃A:Int,(((kW (ps.map kp)).length:Nat):Int)=A:=⟨_,rfl⟩;obtain⟨C,hC⟩:∃C:Int,((l.length:Nat):Int)=C:=⟨_,rfl⟩;rw[hA]at c1;rw[hC]at le;have q:=jV (k:=eqX false) c1 le sL
   have fin:(A==C)=goL n l []:=by
    rw[I0,GO l ps [] e J9,U2,<- aFi,<- DV,A2,lp,beq_iff_eq,<- hA,<- hC];omega
   rw[<- fin];simp only[bD,q,Option.bind_some]
noncomputable def Tie.key(t:Tie):List Key:=[.inl t.i,.inl t.j]
noncomputable def Ok(n:Int)(us:List Tie):Prop:=(∀t∈us,kT t.a t.b=true/\0<=t.i/\t.i<t.j/\t.j<n)/\(us.map Tie.key).Nodup/\us.length<64
theorem ED(lo:Int)(m:Nat):lH lo (m+1)=I lo::lH (lo+1) m:=by
 unfold lH;rw[List.range_succ_eq_map,A9,U6];congr 1
 .show CD.d (.int (lo+((0:Nat):Int)))=_;rw[show lo+((0:Nat):Int)=lo by omega]
 .refine List.map_congr_left fun i _=>?_;show CD.d (.int (lo+((i+1:Nat):Int)))=.d (.int (lo+1+(i:Nat)));rw[show lo+((i+1:Nat):Int)=lo+1+(i:Nat)by omega]
theorem slL(xs:List PyData)(lo hi:Option Int)(M:Sto):slF (.d (.list xs)) lo hi M=some (.d (.list (fI xs lo hi)),M):=rfl
theorem qX{xs ys:List PyData}(hl:(xs++ys).length<=sizeLine):dO (.d (.list xs)) (.d (.list ys)) M=some (.d (.list (xs++ys)),M):=by
 have a:aBc (.d (.list xs)) (.d (.list ys)) M=none:=rfl
 have c:XM (.d (.list xs)) (.d (.list ys)) M=some (.d (.list (xs++ys)),M):=by
  unfold XM;simp only[DO,Option.bind_some];rw[<- E5,lV,A1,A3 hl]
 unfold dO GV;rw[a];dsimp only;rw[c]
theorem TB{xs:List PyData}{r:Nat}(h:r<=xs.length):fI xs none (some (r:Int))=xs.take r:=by
 unfold fI;rw[HT.sIx_none,HT.sIx_nat,List.drop_zero,Nat.sub_zero,Nat.min_eq_left h]
theorem EA{xs:List PyData}{r:Nat}(h:r<=xs.length):fI xs (some (r:Int)) none=xs.drop r:=by
 unfold fI;rw[HT.sIx_none,HT.sIx_nat,Nat.min_eq_left h,List.take_of_length_le];rw[F5];exact A6 _
theorem dC(us:List Tie):(aR us).length=us.length:=by unfold aR;rw[A2]
theorem OW{n c j i:Int}{g6:Option CD}(h:Stm M s)(h64:us.length<64):
 ∃us' g M',cT [some (.c s),some (I n),some (I c),some (.d (.list (aR us))),some (I j),some (I i),g6] M=some (.nx [some (.c s),some (I n),some (I c),some (.d (.list (aR us'))),some (I j),some (I i),g],M')/\Stm M' s/\(us'=us\/∃a b,kT a b=true/\us'.Perm (⟨i,j,a,b⟩::us)):=by
 obtain⟨r,M1,e1,r0,r1,n1⟩:=dU (m:=4) h (by decide) (by decide);have h1:=n1.stm h;by_cases q:r<c
 .have ln:iJ [.d (.list (aR us))] M1=some (I us.length,M1):=by
   unfold iJ;dsimp only;rw[show aW (.list (aR us))=some (aR us)from rfl,A1,dC]
  obtain⟨k,M2,e2,k0,k1,n2⟩:=dU (m:=(us.length:Int)+1) h1 (by omega) (by
   have:(2:Int) ^ 200=1606938044258990275541962092341162602522202993782792835301376:=by decide
   omega)
  have h2:=n2.stm h1;obtain⟨a,b,M3,e3,w3,n3⟩:=DD h2;have h3:=n3.stm h2;obtain⟨k,rfl⟩:∃z:Nat,k=(z:Int):=⟨k.toNat,by omega⟩;have kl:k<=(aR us).length:=by rw[dC];omega
  have rr:aR us=(aR us).take k++(aR us).drop k:=(S1 ..).symm;have c1:=TB kl;have c2:=EA kl;have lt:((aR us).take k).length<=us.length:=by rw[E4,dC];omega
  have ld:((aR us).drop k).length<=us.length:=by rw[F5,dC];omega
  have a1:dO (.d (.list ((aR us).take k))) (.d (.list [.tuple [.int i,.int j,.tuple [.int a,.int b]]])) M3=some (.d (.list ((aR us).take k++[.tuple [.int i,.int j,.tuple [.int a,.int b]]])),M3):=qX (sz (by rw[B4,C3,List.length_nil];omega));have a2:dO (.d (.list ((aR us).take k++[.tuple [.int i,.int j,.tuple [.int a,.int b]]]))) (.d (.list ((aR us).drop k))) M3=some (.d (.list ((aR us).take k++[.tuple [.int i,.int j,.tuple [.int a,.int b]]]++(aR us).drop k)),M3):=qX (sz (by rw[B4,B4,C3,List.length_nil];omega))
  have er:(aR us).take k++[.tuple [.int i,.int j,.tuple [.int a,.int b]]]++(aR us).drop k=aR (us.take k++[⟨i,j,a,b⟩]++us.drop k):=by
   unfold aR;rw[E5,E5,List.map_take,List.map_drop];rfl
  have e3:cD [.c s] M2=some (.d (.tuple [.int a,.int b]),M3):=e3;refine⟨us.take k++[⟨i,j,a,b⟩]++us.drop k,some (I k),M3,?_,h3,.inr ⟨a,b,w3,?_⟩⟩
  .rw[<- er];simp![cT,fSl,dB,iG,e1,decide_eq_true q,ln,lS,e2,slL,DM,c1,c2,e3,z1,z2,z3,a1,a2]
  .rw[D9];have p:=List.perm_middle (a:=(⟨i,j,a,b⟩:Tie)) (l₁:=us.take k) (l₂:=us.drop k);rw[S1]at p;exact p
 .refine⟨us,g6,M1,?_,h1,.inl rfl⟩;simp![cT,e1,decide_eq_false q]
structure Dr(n J K:Int)(us:List Tie):Prop where
 ok:∀t∈us,(kT t.a t.b=true/\0<=t.i/\t.i<t.j/\t.j<n)/\(t.j<J\/(t.j=J/\t.i<K))
 nd:(us.map Tie.key).Nodup
theorem Dr.more{K a b:Int}{us':List Tie}(d:Dr n J K us)(k0:0<=K)(kj:K<J)(jn:J<n)(h:us'=us\/∃a b,kT a b=true/\us'.Perm (⟨K,J,a,b⟩::us)):Dr n J (K+1) us'/\us'.length<=us.length+1:=by
 rcases h with rfl|⟨a,b,w,p⟩
 .exact⟨⟨fun t ht=>⟨(d.ok t ht).1,by have:=(d.ok t ht).2;omega⟩,d.nd⟩,by omega⟩
 .refine⟨⟨fun t ht=>?_,?_⟩,by rw[p.length_eq,C3];exact A6 _⟩
  .rcases List.mem_cons.mp (p.subset ht)with rfl|ht
   .exact⟨⟨w,k0,kj,jn⟩,.inr ⟨rfl,by show K<K+1;omega⟩⟩
   .exact⟨(d.ok t ht).1,by have:=(d.ok t ht).2;omega⟩
  .rw[(p.map Tie.key).nodup_iff,A9,List.nodup_cons];refine⟨fun z=>?_,d.nd⟩;obtain⟨t,ht,e⟩:=List.mem_map.mp z;have e:([.inl t.i,.inl t.j]:List Key)=[.inl K,.inl J]:=e;injection e with e1 e2
   injection e2 with e2 _
   injection e1 with e1
   injection e2 with e2
   have:=(d.ok t ht).2;omega
theorem inner{s:Nat}{n c j:Int}(jn:j<n):∀(m:Nat)(i:Int)(us:List Tie)(g5 g6:Option CD)(M:Sto),0<=i->i+m=j->Stm M s->Dr n j i us->us.length+m<64->
 ∃us' g g' M',gT (hName 5) cT (lH i m) [some (.c s),some (I n),some (I c),some (.d (.list (aR us))),some (I j),g5,g6] M=some (.nx [some (.c s),some (I n),some (I c),some (.d (.list (aR us'))),some (I j),g,g'],M')/\Stm M' s/\Dr n j j us'/\us'.length<=us.length+m
 |0=>fun i us g5 g6 M i0 hi h d _=>⟨us,g5,g6,M,rfl,h,by rwa [show i=j by omega]at d,A6 _⟩
 |m+1=>fun i us g5 g6 M i0 hi h d hl=>by
  obtain⟨us1,g,M1,e1,h1,q⟩:=OW (n:=n) (c:=c) (j:=j) (i:=i) (g6:=g6) h (us:=us) (by omega);obtain⟨d1,l1⟩:=d.more (a:=0) (b:=0) i0 (by omega) jn q;obtain⟨us2,g2,g3,M2,e2,h2,d2,l2⟩:=inner jn m (i+1) us1 (some (I i)) g M1 (by omega) (by omega) h1 d1 (by omega);refine⟨us2,g2,g3,M2,?_,h2,d2,by omega⟩;rw[ED];unfold gT;simp only[hName,List.set_cons_zero,List.set_cons_succ,List.length_cons,Option.bind_some,e1];exact e2
noncomputable def tri:Nat->Nat
 |0=>0
 |k+1=>tri k+k
theorem CP(h0:0<=J)(h1:J<=40):gI J=true:=by
 simp only[gI,Bool.and_eq_true,decide_eq_true_eq];omega
theorem YJ{x0 x1 x2 x3:CD}(h0:0<=J)(h1:J<=40)(e:gT (hName 5) cT (lH 0 J.toNat) [some x0,some x1,some x2,some x3,some (I J),g5,g6] M=some (.nx γ',M')):cV [some x0,some x1,some x2,some x3,some (I J),g5,g6] M=some (.nx γ',M'):=by
 have sm:=CP h0 h1;simp![cV,rZ,jK,sm,e]
theorem QD(k:Nat):tri (k+1)=tri k+k:=rfl
theorem aFU{j:Nat}(h:j<=8):tri j<=28:=by
 have:j=0\/j=1\/j=2\/j=3\/j=4\/j=5\/j=6\/j=7\/j=8:=by omega
 rcases this with rfl|rfl|rfl|rfl|rfl|rfl|rfl|rfl|rfl<;>decide
theorem RB{c:Int}(n9:n<=9){j:Nat}{g4 g5 g6:Option CD}(hj:(j:Int)<n)(h:Stm M s)(d:Dr n j 0 us)(l:us.length<=tri j):
 ∃us' g' g'' M',cV [some (.c s),some (I n),some (I c),some (.d (.list (aR us))),some (I j),g5,g6] M=some (.nx [some (.c s),some (I n),some (I c),some (.d (.list (aR us'))),some (I j),g',g''],M')/\Stm M' s/\Dr n ((j+1:Nat):Int) 0 us'/\us'.length<=tri (j+1):=by
 have t8:=aFU (j:=j) (by omega);obtain⟨us1,g,g',M1,e1,h1,d1,l1⟩:=inner (s:=s) (n:=n) (c:=c) (j:=(j:Int)) hj j 0 us g5 g6 M (by omega) (by omega) h d (by omega);have d2:Dr n ((j+1:Nat):Int) 0 us1:=⟨fun t ht=>⟨(d1.ok t ht).1,by have:=(d1.ok t ht).2;omega⟩,d1.nd⟩;refine⟨us1,g,g',M1,?_,h1,d2,by rw[QD];omega⟩;exact YJ (by omega) (by omega) (by rw[O9];exact e1)
theorem outer{c:Int}(n9:n<=9)(m:Nat):∀(j:Nat)(us:List Tie)(g4 g5 g6:Option CD)(M:Sto),((j+m:Nat):Int)=n->Stm M s->Dr n j 0 us->us.length<=tri j->
 ∃us' g g' g'' M',gT (hName 4) cV (lH j m) [some (.c s),some (I n),some (I c),some (.d (.list (aR us))),g4,g5,g6] M=some (.nx [some (.c s),some (I n),some (I c),some (.d (.list (aR us'))),g,g',g''],M')/\Stm M' s/\Dr n n 0 us'/\us'.length<=tri (j+m):=by
 induction m with
 |zero=>intro j us g4 g5 g6 M hj h d l;exact⟨us,g4,g5,g6,M,rfl,h,by rwa [show((j:Nat):Int)=n by omega]at d,l⟩
 |succ m ih=>
  intro j us g4 g5 g6 M hj h d l;obtain⟨us1,g,g',M1,e1,h1,d1,l1⟩:=RB (c:=c) (g4:=g4) (g5:=g5) (g6:=g6) n9 (j:=j) (us:=us) (M:=M) (by omega) h d l;obtain⟨us2,q1,q2,q3,M2,e2,h2,d2,l2⟩:=ih (j+1) us1 (some (I j)) g g' M1 (by omega) h1 d1 l1;refine⟨us2,q1,q2,q3,M2,?_,h2,d2,by rwa [show j+(m+1)=j+1+m by omega]⟩;rw[ED,show((j:Nat):Int)+1=((j+1:Nat):Int)by omega];unfold gT;rw[show hName 4 (I j) [some (.c s),some (I n),some (I c),some (.d (.list (aR us))),g4,g5,g6] M=some ([some (.c s),some (I n),some (I c),some (.d (.list (aR us))),some (I j),g5,g6],M)from rfl,A1,e1,A1];exact e2
theorem yQ(h:Stm M s)(n1:1<=n)(n9:n<=9):∃us M',dP [.c s,I n] M=some (.d (.list (aR us)),M')/\Stm M' s/\Ok n us/\us.length<=36:=by
 obtain⟨c,M1,e1,c0,c1,m1⟩:=dU (m:=5) h (by decide) (by decide);obtain⟨us,g,g',g'',M2,e2,h2,d2,l2⟩:=outer (s:=s) (n:=n) (c:=c) n9 n.toNat 0 [] none none none M1 (by omega) (m1.stm h) ⟨fun t ht=>(by cases ht),J9⟩ (A6 _);have e2:gT (hName 4) cV (lH 0 n.toNat) [some (.c s),some (I n),some (I c),some (.d (.list [])),none,none,none] M1=_:=e2
 have t9:tri (0+n.toNat)<=36:=by
  obtain⟨k,hk⟩:∃k,n.toNat=k:=⟨_,rfl⟩;rw[hk];have:k=0\/k=1\/k=2\/k=3\/k=4\/k=5\/k=6\/k=7\/k=8\/k=9:=by omega
  rcases this with rfl|rfl|rfl|rfl|rfl|rfl|rfl|rfl|rfl|rfl<;>decide
 refine⟨us,M2,?_,h2,⟨fun t ht=>(d2.ok t ht).1,d2.nd,by omega⟩,by omega⟩
 have sm:gI n=true:=by
  simp only[gI,Bool.and_eq_true,decide_eq_true_eq];omega
 have z0:(0:Nat)<=sizeLine:=D2 _;simp![dP,jW,rZ,jK,e1,z0,sm,e2]
noncomputable def Sml(t:Tie):Prop:=t.i.natAbs<2 ^ 200/\t.j.natAbs<2 ^ 200/\t.a.natAbs<2 ^ 200/\t.b.natAbs<2 ^ 200
theorem NZ{us:List Tie}(ok:Ok n us)(n40:n<=40):∀t∈us,Sml t:=fun t ht=>by
 obtain⟨h1,h2,h3,h4⟩:=ok.1 t ht;obtain⟨a0,a1,b0,b1⟩:=UF (PU h1);exact⟨by omega,by omega,by omega,by omega⟩
theorem TZ(hp:Fit 4100 1 p)(hq:Fit 4100 1 q)(hw:Fit 4100 1 w):Fit 30000 4 (.tuple [p,q,w]):=
 (Fit.tuple (w:=4100) (m:=1) (k:=3) (ds:=[p,q,w]) (fun d hd=>by
  simp only[List.mem_cons,List.not_mem_nil,or_false]at hd;rcases hd with rfl|rfl|rfl
  .exact hp
  .exact hq
  .exact hw) (A6 _)).mono (by decide) (by decide)
theorem tD{i:Int}(h:i.natAbs<2 ^ 200):Fit 4100 1 (.int i):=(Fit.int (cU h)).mono (by decide) (by decide)
theorem aDw{t:Tie}(h:Sml t):Row 3 (f2 t):=⟨fun d hd=>by
 unfold f2 at hd;simp only[List.mem_cons,List.not_mem_nil,or_false]at hd;rcases hd with rfl|rfl|rfl
 .exact tD h.1
 .exact tD h.2.1
 .exact cG h.2.2.1 h.2.2.2,A6 _⟩
theorem aBN{t:Tie}(h:Sml t):Fit 30000 4 (.tuple (f2 t)):=TZ (tD h.1) (tD h.2.1) (cG h.2.2.1 h.2.2.2)
noncomputable def XY:List PyData:=[(.tuple [(.int 1000001),(.int 1)]),(.tuple [(.int 1),(.int 16)]),(.tuple [(.int 1),(.int 55440)]),(.tuple [(.int 1),(.int 13)]),(.tuple [(.int 2),(.int 2)]),(.tuple [(.int 0),(.int 2)]),(.tuple [(.int (-1)),(.int 1)]),(.tuple [(.bool true),(.int 1)]),(.int 1)]
theorem aCd(γ:Ga)(M:Sto):fG γ M=some (.d (.list XY),M):=rfl
theorem QG:∀d∈XY,Fit 4100 1 d:=by
 intro d hd;unfold XY at hd;simp only[List.mem_cons,List.not_mem_nil,or_false]at hd;rcases hd with rfl|rfl|rfl|rfl|rfl|rfl|rfl|rfl|rfl
 .exact cG (by decide) (by decide)
 .exact cG (by decide) (by decide)
 .exact cG (by decide) (by decide)
 .exact cG (by decide) (by decide)
 .exact cG (by decide) (by decide)
 .exact cG (by decide) (by decide)
 .exact cG (by decide) (by decide)
 .refine(Fit.tuple (w:=2000) (m:=0) (k:=2) (ds:=[.bool true,.int 1]) (fun d hd=>?_) (A6 _)).mono (by decide) (A6 _);simp only[List.mem_cons,List.not_mem_nil,or_false]at hd;rcases hd with rfl|rfl
  .exact⟨rfl,by decide,by decide⟩
  .exact Fit.int (cU (by decide))
 .exact tD (by decide)
noncomputable def jB:SF:=(bB (bR (aI aU (aB (aD 0) (aB (fC (.int 6)) aH))) (hName 5))
 (bB (sIf (gB (fOp (eqX false) (aD 5) (fC (.int 0))))
  (bD (aI eQ (aB (aD 0) (aB (aD 4) aH))))
  bQ)
 (bB (sIf (gB (fOp (eqX false) (aD 5) (fC (.int 1))))
  (bD (dH (aB (fOp ixF (aD 4) (fC (.int 1))) (aB (fOp ixF (aD 4) (fC (.int 0))) (aB (fOp ixF (aD 4) (fC (.int 2))) aH)))))
  bQ)
 (bB (sIf (gB (fOp (eqX false) (aD 5) (fC (.int 2))))
  (bD (dH (aB (fOp ixF (aD 4) (fC (.int 0))) (aB (fOp ixF (aD 4) (fC (.int 1))) (aB (aI cD (aB (aD 0) aH)) aH)))))
  bQ)
 (bB (sIf (gB (fOp (eqX false) (aD 5) (fC (.int 3))))
  (bD (dH (aB (fOp ixF (aD 4) (fC (.int 0))) (aB (aD 2) (aB (fOp ixF (aD 4) (fC (.int 2))) aH)))))
  bQ)
 (bB (sIf (gB (fOp (eqX false) (aD 5) (fC (.int 4))))
  (bB (bR fG (hName 6))
 (bD (dH (aB (fOp ixF (aD 4) (fC (.int 0))) (aB (fOp ixF (aD 4) (fC (.int 1))) (aB (aI dQ (aB (aD 0) (aB (aD 6) aH))) aH))))))
  bQ)
 (bD (aI (dE 4) (aB (aD 0) (aB (aD 1) (aB (fC (.int 2)) aH)))))))))))
theorem MV:gK=bB (bR fD (hName 4)) (bB (sIf (gB (fOp (eqX true) (aD 3) (iK aH))) (bR (aI dQ (aB (aD 0) (aB (aD 3) aH))) (hName 4)) bQ) jB):=rfl
theorem VI(t:Tie)(M:Sto):ixF (.d (.tuple (f2 t))) (I 0) M=some (I t.i,M)/\ixF (.d (.tuple (f2 t))) (I 1) M=some (I t.j,M)/\ixF (.d (.tuple (f2 t))) (I 2) M=some (T2 t.a t.b,M):=⟨rfl,rfl,rfl⟩
theorem EW{ns:List Int}{x:CD}{t:Tie}(h:Stm M i)(ht:Sml t)(n0:0<=n)(n40:n<=40):
 ∃d M',jB [some (.c i),some (Sc ns),some (I n),some x,some (.d (.tuple (f2 t))),none,none] M=some (.rt (.d d),M')/\Fit 30000 4 d/\Stm M' i:=by
 obtain⟨c,M1,e1,c0,c1,n1⟩:=dU (m:=6) h (by decide) (by decide);have s1:=n1.stm h;have fn:Fit 4100 1 (.int n):=tD (by omega);cases q0:(c==0)with
 |true=>
  obtain⟨es,M2,e2,r2,n2⟩:=aAV s1 (aDw ht) (Nat.succ_pos 2) (by decide);refine⟨.tuple es,M2,?_,(Fit.tuple r2.fit r2.len).mono (by decide) (by decide),n2.stm s1⟩;simp![jB,e1,sL,q0,e2]
 |false=>
  cases q1:(c==1)with
  |true=>
   obtain⟨x0,x1,x2⟩:=VI t M1;refine⟨.tuple [.int t.j,.int t.i,.tuple [.int t.a,.int t.b]],M1,?_,TZ (tD ht.2.1) (tD ht.1) (cG ht.2.2.1 ht.2.2.2),s1⟩;simp![jB,e1,sL,q0,q1,x0,x1,x2,if_pos z3,Nat.zero_add]
  |false=>
   cases q2:(c==2)with
   |true=>
    obtain⟨x0,x1,x2⟩:=VI t M1;obtain⟨a,b,M2,e2,w2,n2⟩:=DD s1;obtain⟨a0,a1,b0,b1⟩:=UF (PU w2);refine⟨.tuple [.int t.i,.int t.j,.tuple [.int a,.int b]],M2,?_,TZ (tD ht.1) (tD ht.2.1) (cG (by omega) (by omega)),n2.stm s1⟩;simp![jB,e1,sL,q0,q1,q2,x0,x1,e2,if_pos z3,Nat.zero_add]
   |false=>
    cases q3:(c==3)with
    |true=>
     obtain⟨x0,x1,x2⟩:=VI t M1;refine⟨.tuple [.int t.i,.int n,.tuple [.int t.a,.int t.b]],M1,?_,TZ (tD ht.1) fn (cG ht.2.2.1 ht.2.2.2),s1⟩;simp![jB,e1,sL,q0,q1,q2,q3,x0,x2,if_pos z3,Nat.zero_add]
    |false=>
     cases q4:(c==4)with
     |true=>
      obtain⟨x0,x1,x2⟩:=VI t M1;obtain⟨d,M2,e2,hd,n2⟩:=FG (ds:=XY) s1 (by decide) (by decide);refine⟨.tuple [.int t.i,.int t.j,d],M2,?_,TZ (tD ht.1) (tD ht.2.1) (QG d hd),n2.stm s1⟩;simp![jB,e1,sL,q0,q1,q2,q3,q4,aCd,x0,x1,e2,if_pos z3,Nat.zero_add]
     |false=>
      obtain⟨d,M2,e2,f2',s2⟩:=NQ (ns:=ns) 4 2 (by decide) s1;refine⟨d,M2,?_,f2'.1.mono (by decide) (by decide),s2⟩;have e2:dE 4 [.c i,Sc ns,I 2] M1=some (.d d,M2):=e2;simp![jB,e1,sL,q0,q1,q2,q3,q4,e2]
theorem uC:∀us:List Tie,PyData.canLayAll0 (aR us)=true
 |[]=>rfl
 |t::us=>by show(true&&PyData.canLayAll0 (aR us))=true;rw[uC us];rfl
theorem xH:∀us:List Tie,PyData.depthAll (aR us)<=2
 |[]=>by decide
 |t::us=>by
  show max 2 (PyData.depthAll (aR us))<=2;exact Nat.max_le.mpr ⟨A6 _,xH us⟩
theorem UY(us:List Tie)(M:Sto):eqX true (.d (.list (aR us))) (.d (.list [])) M=some (B (!us.isEmpty),M):=by
 have e1:SeqAt.shaped (.list (aR us))=true:=by
  unfold SeqAt.shaped;have e2:PyData.canLay0 (.list (aR us))=true:=uC us
  have e3:PyData.depth (.list (aR us))<=64:=by
   show PyData.depthAll (aR us)+1<=64;have:=xH us;omega
  rw[e2,C2 e3];rfl
 have e2:SeqAt.shaped (.list [])=true:=rfl;show(if (SeqAt.shaped (.list (aR us))&&SeqAt.shaped (.list []))=true then some (B (!PyData.eqv (.list (aR us)) (.list [])),M)else none)=_;rw[e1,e2];cases us<;>rfl
theorem aAB{ns:List Int}(h:Stm M i)(ok:Ok n us)(n1:1<=n)(n40:n<=40):
 ∃d M',cJ [.c i,Sc ns,I n,.d (.list (aR us))] M=some (.d d,M')/\Fit 30000 4 d/\Stm M' i:=by
 have z0:(0:Nat)<=sizeLine:=D2 _;have ne:=UY us M;cases hu:us with
 |nil=>
  subst hu;obtain⟨d,M1,e1,f1,s1⟩:=EW (ns:=ns) (n:=n) (x:=.d (.list (aR []))) (t:=⟨0,1,1,1⟩) h ⟨by decide,by decide,by decide,by decide⟩ (by omega) n40;have e1:jB [some (.c i),some (Sc ns),some (I n),some (.d (.list (aR []))),some (.d (.tuple [(.int 0),(.int 1),(.tuple [(.int 1),(.int 1)])])),none,none] M=some (.rt (.d d),M1):=e1;refine⟨d,M1,?_,f1,s1⟩;have em:(!([]:List Tie).isEmpty)=false:=rfl;rw[em]at ne;simp![cJ,MV,iI,if_pos z0,ne,e1]
 |cons t0 us'=>
  have l0:0<(aR us).length:=by rw[dC,hu];exact Nat.succ_pos _
  have l1:(aR us).length<1000:=by rw[dC];have:=ok.2.2;omega
  obtain⟨d0,M0,e0,hd0,n0⟩:=FG (ds:=aR us) h l0 l1;obtain⟨t,ht,rfl⟩:=List.mem_map.mp hd0;obtain⟨d,M1,e1,f1,s1⟩:=EW (ns:=ns) (n:=n) (x:=.d (.list (aR us))) (t:=t) (n0.stm h) (NZ ok n40 t ht) (by omega) n40;have em:(!us.isEmpty)=true:=by rw[hu];rfl
  rw[em]at ne;rw[<- hu];refine⟨d,M1,?_,f1,s1⟩;simp![cJ,MV,iI,if_pos z0,ne,e0,e1]
noncomputable def vT(t:Tie):Int:=t.a*(27720 / t.b)
noncomputable def at_(v:Int)(t:Tie):Bool:=(t.i==v) || (t.j==v)
noncomputable def big(ts:List Tie):List Tie:=ts.filter fun t=>decide (0<t.a)
noncomputable def best(v:Int)(ts:List Tie):Int:=sV 0 (((big ts).filter (at_ v)).map vT)
noncomputable def mxZ(a b:Int):Int:=if a<b then b else a
theorem yT(y:Int):∀(xs:List Int)(a:Int),sV a (xs++[y])=mxZ (sV a xs) y
 |[]=>fun _=>rfl
 |x::xs=>fun a=>yT y xs _
structure Gd(n:Int)(t:Tie):Prop where
 i0:0<=t.i
 ij:t.i<t.j
 jn:t.j<n
 a0:0<=t.a
 a1:t.a<=1000000
 b0:1<=t.b
 b1:t.b<=27720
 dv:t.b ∣ 27720
theorem Gd.of{t:Tie}(h:fJ n r=some t)(hd:kT t.a t.b=true):Gd n t:=by
 obtain⟨w,_,_,h0,h1,h2,_⟩:=fL h;rw[sN,B6,B6,B6]at hd;obtain⟨a,e,a0,a1⟩:=tI hd.1;cases e;obtain⟨b,e,b0,b1⟩:=tI hd.2.1;cases e;exact⟨h0,h1,h2,a0,a1,b0,b1,Int.dvd_of_emod_eq_zero (eq_of_beq hd.2.2.1)⟩
theorem Gd.two{t:Tie}(g:Gd n t):t.a*(55440 / t.b)=2*vT t/\t.a*27720 / t.b=vT t/\0<=vT t/\vT t<=1000000*27720:=by
 obtain⟨c,hc⟩:=g.dv;have b0:=g.b0;have e1:(27720:Int) / t.b=c:=by rw[hc];exact Int.mul_ediv_cancel_left c (by omega)
 have e2:(55440:Int) / t.b=2*c:=by
  rw[show(55440:Int)=t.b*(2*c)by rw[<- S3,Int.mul_comm t.b 2,S3,<- hc];rfl];exact Int.mul_ediv_cancel_left _ (by omega)
 have e3:t.a*27720 / t.b=t.a*c:=by
  rw[hc,show t.a*(t.b*c)=t.b*(t.a*c)by rw[<- S3,Int.mul_comm t.a t.b,S3]];exact Int.mul_ediv_cancel_left _ (by omega)
 have c0:0<=c:=by rw[<- e1];exact L6 (by decide) (by omega)
 have c1:c<=27720:=by rw[<- e1];exact O6 _ (by decide)
 unfold vT;rw[e1,e2,e3];refine⟨by rw[<- S3,Int.mul_comm t.a 2,S3],rfl,Int.mul_nonneg g.a0 c0,Int.mul_le_mul g.a1 c1 c0 (by decide)⟩
theorem CN(v:Int)(ts:List Tie):0<=best v ts:=(vH _ 0).2 0 B7
theorem LD(v:Int)(ts:List Tie){t:Tie}(g:Gd n t):best v (ts++[t])=if at_ v t=true then mxZ (best v ts) (vT t)else best v ts:=by
 have bp:=CN v ts
 have e:best v (ts++[t])=sV 0 ((((big ts).filter (at_ v))++((big [t]).filter (at_ v))).map vT):=by
  unfold best big;rw[List.filter_append,List.filter_append]
 rw[e];by_cases ha:0<t.a
 .have b1:big [t]=[t]:=by unfold big;rw[L4,A3 (C2 ha)];rfl
  rw[b1];by_cases c:at_ v t=true
  .rw[A3 c,show[t].filter (at_ v)=[t]by rw[L4,A3 c];rfl,E5];exact yT _ _ _
  .rw[A7 c,show[t].filter (at_ v)=[]by rw[L4,A7 c];rfl,D1];rfl
 .have b1:big [t]=[]:=by unfold big;rw[L4,A7 (by simpa using ha)];rfl
  have z:vT t=0:=by unfold vT;rw[show t.a=0 by have:=g.a0;omega,Int.zero_mul]
  rw[b1,List.filter_nil,D1];show best v ts=_;split
  .unfold mxZ;rw[z,A7 (by omega)]
  .rfl
noncomputable def Gs(N:Nat)(f:Int->Int):List CD:=(List.range N).map fun(v:Nat)=>I (2*f (v:Int))
theorem RH(N:Nat)(f:Int->Int):(Gs N f).length=N:=by unfold Gs;rw[A2,E8]
theorem aEb{k:Nat}{f:Int->Int}(h:k<N):atI (Gs N f) (k:Int)=some (I (2*f k)):=by
 unfold atI ixN;rw[RH,A3 (by omega),A3 (by omega),A1,O9];unfold Gs;rw[D0,O7 h];rfl
theorem aDB{k:Nat}{f:Int->Int}{x:Int}:(Gs N f).set k (I (2*x))=Gs N fun v=>if v=(k:Int)then x else f v:=by
 unfold Gs;refine List.ext_getElem? fun j=>?_;rw[List.getElem?_set,D0,D0,A2,E8];by_cases hk:k=j
 .subst hk;rw[A3 rfl];by_cases hn:k<N
  .rw[A3 hn,O7 hn];show _=some (I (2*if (k:Int)=(k:Int)then x else f k));rw[A3 rfl]
  .rw[A7 hn,List.getElem?_eq_none (by rw[E8];omega)];rfl
 .rw[A7 hk];by_cases hn:j<N
  .rw[O7 hn];show some (I (2*f j))=some (I (2*if (j:Int)=(k:Int)then x else f j));rw[A7 (by omega)]
  .rw[List.getElem?_eq_none (by rw[E8];omega)];rfl
theorem SV{f g:Int->Int}(h:∀v,f v=g v):Gs N f=Gs N g:=by rw[show f=g from funext h]
theorem XW:wW [I (2*a),I (2*b)] M=some (I (2*mxZ a b),M):=by
 show some (I (if 2*b > 2*a then 2*b else 2*a),M)=_;unfold mxZ;by_cases h:a<b
 .rw[A3 h,A3 (by omega)]
 .rw[A7 h,A7 (by omega)]
theorem QX{γ:Ga}{k q:Nat}{f:Int->Int}{V:Int}{w:PyData}(hM:M[c]?=some (.lst (Gs N f)))(hk:k<N)
 (v2:∀M,aD 2 γ M=some (.c c,M)) (vq:∀M,aD q γ M=some (I k,M)) (v5:∀M,aD 5 γ M=some (.d w,M)) (hp:∀M,kJ [.d w] M=some (I (2*V),M)):
 bR (aI wW (aB (fOp ixF (aD 2) (aD q)) (aB (aI kJ (aB (aD 5) aH)) aH))) (hSub (aD 2) (aD q) tT) γ M=some (.nx γ,M.set c (.lst (Gs N fun v=>if v=(k:Int)then mxZ (f v) V else f v))):=by
 have ix:ixF (.c c) (I k) M=some (I (2*f k),M):=by
  show(match M[c]? with|some (.lst xs)=>(atI xs (k:Int)).bind fun e=>some (e,M)|_=>none)=_;rw[hM];dsimp only;rw[aEb hk];rfl
 have ca:=bI (aV (jV (k:=ixF) (v2 M) (vq M) ix) (aV (bI (F:=kJ) (aV (v5 M) bP) (hp M)) bP)) (XW (a:=f k) (b:=V) (M:=M))
 have st:tT (.c c) (I k) (I (2*mxZ (f k) V)) M=some (M.set c (.lst (Gs N fun v=>if v=(k:Int)then mxZ (f v) V else f v))):=by
  show(match M[c]? with|some (.lst xs)=>(ixN xs.length (k:Int)).bind fun j=>some (M.set c (.lst (xs.set j _)))|_=>none)=_;rw[hM];dsimp only;unfold ixN;rw[RH,A3 (by omega),A3 (by omega),A1,O9,aDB]
  rw[SV (g:=fun v=>if v=(k:Int)then mxZ (f v) V else f v) fun v=>by
   by_cases e:v=(k:Int)
   .rw[A3 e,A3 e,e]
   .rw[A7 e,A7 e]]
 unfold bR hSub;rw[ca,A1];dsimp only;rw[v2,A1];dsimp only;rw[vq,A1];dsimp only;rw[st];rfl
theorem BD{i:Int}(h:i.natAbs<18446744073709551616):iA i j=true:=by
 unfold iA;rw[C2 (show i.natAbs<2 ^ 64 from h)];rfl
theorem HK{t:Tie}(hw:aW w=some [.int t.a,.int t.b])(g:Gd n t)(M:Sto):kJ [.d w] M=some (I (2*vT t),M):=by
 have b0:=g.b0;have b1:=g.b1
 have y0:ixF (.d w) (I 0) M=some (I t.a,M):=by
  cases w<;>first|(cases hw;rfl)|cases hw
 have y1:ixF (.d w) (I 1) M=some (I t.b,M):=by
  cases w<;>first|(cases hw;rfl)|cases hw
 have dk:oU 55440 t.b=true:=pU (by omega) (wsm (by omega) (by omega))
 have mk:iA t.a (55440 / t.b)=true:=by
  have h1:=g.two;have h2:0<=(55440:Int) / t.b:=L6 (by decide) (by omega);have h3:(55440:Int) / t.b<=55440:=O6 _ (by decide);have a0:=g.a0;have a1:=g.a1;exact BD (by omega)
 rw[<- g.two.1];simp![kJ,BA,y0,y1,dk,mk]
theorem VJ(T:Nat):(2*T / Nat.gcd (2*T) 55440) / Nat.gcd (2*T / Nat.gcd (2*T) 55440) (2*(55440 / Nat.gcd (2*T) 55440))=T / Nat.gcd T 55440 /\
 (2*(55440 / Nat.gcd (2*T) 55440)) / Nat.gcd (2*T / Nat.gcd (2*T) 55440) (2*(55440 / Nat.gcd (2*T) 55440))=55440 / Nat.gcd T 55440:=by
 have gp:0<Nat.gcd (2*T) 55440:=Nat.gcd_pos_of_pos_right _ (by decide);obtain⟨a,ha⟩:=Nat.gcd_dvd_left (2*T) 55440;obtain⟨b,hb⟩:=Nat.gcd_dvd_right (2*T) 55440;generalize Nat.gcd (2*T) 55440=g at gp ha hb;have e1:2*T / g=a:=by rw[ha];exact Nat.mul_div_cancel_left _ gp
 have e2:(55440:Nat) / g=b:=by rw[hb];exact Nat.mul_div_cancel_left _ gp
 rw[e1,e2]
 have hh:g*Nat.gcd a (2*b)=2*Nat.gcd T 55440:=by
  rw[<- Nat.gcd_mul_left,<- Nat.gcd_mul_left,<- ha,show g*(2*b)=2*55440 by rw[Nat.mul_left_comm,<- hb]]
 have q:∀x:Nat,g*x / (g*Nat.gcd a (2*b))=x / Nat.gcd a (2*b):=fun x=>Nat.mul_div_mul_left _ _ gp;have r:∀x:Nat,2*x / (2*Nat.gcd T 55440)=x / Nat.gcd T 55440:=fun x=>Nat.mul_div_mul_left _ _ (by decide);refine⟨?_,?_⟩
 .rw[<- q a,<- ha,hh,r]
 .rw[<- q (2*b),hh,show g*(2*b)=2*55440 by rw[Nat.mul_left_comm,<- hb],r]
theorem YE(h:0<=T):(2*T / (Int.gcd (2*T) 55440:Int)) / (Int.gcd (2*T / (Int.gcd (2*T) 55440:Int)) (2*(55440 / (Int.gcd (2*T) 55440:Int))):Int)=T / (Int.gcd T 55440:Int) /\
 (2*(55440 / (Int.gcd (2*T) 55440:Int))) / (Int.gcd (2*T / (Int.gcd (2*T) 55440:Int)) (2*(55440 / (Int.gcd (2*T) 55440:Int))):Int)=55440 / (Int.gcd T 55440:Int):=by
 obtain⟨t,rfl⟩:∃t:Nat,T=(t:Int):=⟨T.toNat,by omega⟩;have h:=VJ t;have g1:Int.gcd (2*(t:Int)) 55440=Nat.gcd (2*t) 55440:=rfl;rw[g1];generalize Nat.gcd (2*t) 55440=g at h;have g2:Int.gcd (2*(t:Int) / (g:Int)) (2*(55440 / (g:Int)))=Nat.gcd (2*t / g) (2*(55440 / g)):=rfl;have g3:Int.gcd (t:Int) 55440=Nat.gcd t 55440:=rfl;rw[g2,g3];generalize Nat.gcd (2*t / g) (2*(55440 / g))=k at h;generalize Nat.gcd t 55440=m at h;refine⟨?_,?_⟩
 .show(((2*t / g / k:Nat)):Int)=((t / m:Nat):Int);rw[h.1]
 .show((((2*(55440 / g)) / k:Nat)):Int)=((55440 / m:Nat):Int);rw[h.2]
theorem JK(M:Sto)(ha:0<=a)(hb:1<=b)(h2:b<1000000):dJ [I a,I b] M=some (.d (.tuple [.int (a / (Int.gcd a b:Int)),.int (b / (Int.gcd a b:Int))]),M):=by
 have g1:=pZ (a:=a) hb;have g2:=GR (a:=a) hb;have ec:=ET M ha (show 0<=b by omega);generalize (Int.gcd a b:Int)=g at ec g1 g2;have d1:oU a g=true:=pU (by omega) (wsm (by omega) (by omega));have d2:oU b g=true:=pU (by omega) (wsm (by omega) (by omega));simp![dJ,gS,ec,d1,d2,z2]
theorem CK(M:Sto)(h:0<=T):∃x:PyData,eV [I (2*T)] M=some (.d x,M)/\tU [.d x] M=some (.d (.tuple [.int (T / (Int.gcd T 55440:Int)),.int (55440 / (Int.gcd T 55440:Int))]),M):=by
 have e1:=JK (a:=2*T) (b:=55440) M (by omega) (by decide) (by decide);have r:=YE h;have p1:=pZ (a:=2*T) (b:=55440) (by decide);have p2:=GR (a:=2*T) (b:=55440) (by decide);have a0:0<=2*T / (Int.gcd (2*T) 55440:Int):=L6 (by omega) (by omega);have b1:1<=55440 / (Int.gcd (2*T) 55440:Int):=(Int.le_ediv_iff_mul_le (by omega)).mpr (by omega);have b2:55440 / (Int.gcd (2*T) 55440:Int)<=55440:=O6 _ (by decide);refine⟨.tuple [.int (2*T / (Int.gcd (2*T) 55440:Int)),.int (55440 / (Int.gcd (2*T) 55440:Int))],?_,?_⟩
 .simp![eV,mB,e1]
 .generalize 2*T / (Int.gcd (2*T) 55440:Int)=a at a0 r;generalize 55440 / (Int.gcd (2*T) 55440:Int)=b at b1 b2 r;have e2:=JK (a:=a) (b:=2*b) M a0 (by omega) (by omega);rw[r.1,r.2]at e2;have mk:iA 2 b=true:=BD (by decide);have y0:ixF (.d (.tuple [.int a,.int b])) (I 0) M=some (I a,M):=rfl;have y1:ixF (.d (.tuple [.int a,.int b])) (I 1) M=some (I b,M):=rfl;simp![tU,GE,y0,y1,mk,e2]
noncomputable def pr(t:Tie):Int×Int:=(t.i,t.j)
structure Gds(n:Int)(l:List PyData)(ts:List Tie):Prop where
 ti:l.map (fJ n)=ts.map some
 gd:∀t∈ts,Gd n t
 nd:(ts.map pr).Nodup
theorem IL{n:Int}:∀{l:List PyData}{ps:List (Int×Int)},l.map (fX n)=ps.map some->∃ts:List Tie,l.map (fJ n)=ts.map some/\(∀t∈ts,Gd n t)/\ts.map pr=ps
 |[],[],_=>⟨[],rfl,fun _ h=>(by cases h),rfl⟩
 |[],_::_,h=>by simp at h
 |_::_,[],h=>by simp at h
 |r::l,p::ps,h=>by
  rw[A9,A9]at h;injection h with h1 h2
  obtain⟨ts,e,g,q⟩:=IL h2;obtain⟨t,ht,hd,rfl⟩:=BP h1;refine⟨t::ts,by rw[A9,A9,e,ht],fun x hx=>?_,by rw[A9,q];rfl⟩;rcases List.mem_cons.mp hx with rfl|hx
  .exact Gd.of ht hd
  .exact g x hx
theorem aAX(h:goL n l []=true):∃ts,Gds n l ts:=by
 obtain⟨ps,e⟩:=all_some (AL l [] h);have nd:=(GO l ps [] e J9).mp h;rw[U2]at nd;obtain⟨ts,e1,g,q⟩:=IL e;exact⟨ts,e1,g,q▸nd⟩
theorem hT(h:aW r=some [p,q,w]):qG 3 (eG (hName 3) (eG (hName 4) (eG (hName 5) yI))) (.d r) [g0,g1,g2,g3,g4,g5] M=some ([g0,g1,g2,some (.d p),some (.d q),some (.d w)],M):=by
 cases r<;>first|(cases h;rfl)|cases h
theorem JB{N:Nat}{x:CD}{M:Sto}:∀(l:List PyData)(ts done:List Tie)(g3 g4 g5:Option CD),l.map (fJ N)=ts.map some->(∀t∈ts,Gd N t)->
 ∃a3 a4 a5,gT (qG 3 (eG (hName 3) (eG (hName 4) (eG (hName 5) yI)))) fZ (l.map .d) [some (I N),some x,some (.c M.length),g3,g4,g5] (M++[.lst (Gs N fun v=>best v done)])=some (.nx [some (I N),some x,some (.c M.length),a3,a4,a5],M++[.lst (Gs N fun v=>best v (done++ts))])
 |[],[],done,g3,g4,g5,_,_=>⟨g3,g4,g5,by rw[D1];rfl⟩
 |[],_::_,_,_,_,_,h,_=>by simp at h
 |_::_,[],_,_,_,_,h,_=>by simp at h
 |r::l,t::ts,done,g3,g4,g5,h,hg=>by
  rw[A9,A9]at h;injection h with h1 h2
  have g:=hg t B7;obtain⟨w,hr,hw,_⟩:=fL h1;obtain⟨i,hi⟩:∃i:Nat,t.i=(i:Int):=⟨t.i.toNat,by have:=g.i0;omega⟩;obtain⟨j,hj⟩:∃j:Nat,t.j=(j:Int):=⟨t.j.toNat,by have:=g.i0;have:=g.ij;omega⟩;have ij:=g.ij;have jn:=g.jn;rw[hi,hj]at hr ij;rw[hj]at jn;have pt:=hT (g0:=some (I N)) (g1:=some x) (g2:=some (.c M.length)) (g3:=g3) (g4:=g4) (g5:=g5) (M:=M++[.lst (Gs N fun v=>best v done)]) hr;obtain⟨γ,hγ⟩:∃γ:Ga,[some (I N),some x,some (.c M.length),some (I i),some (I j),some (.d w)]=γ:=⟨_,rfl⟩;have v2:∀M',aD 2 γ M'=some (.c M.length,M'):=fun M'=>by rw[<- hγ];rfl
  have v3:∀M',aD 3 γ M'=some (I i,M'):=fun M'=>by rw[<- hγ];rfl
  have v4:∀M',aD 4 γ M'=some (I j,M'):=fun M'=>by rw[<- hγ];rfl
  have v5:∀M',aD 5 γ M'=some (.d w,M'):=fun M'=>by rw[<- hγ];rfl
  have s1:=QX (k:=i) (N:=N) (f:=fun v=>best v done) oM (by omega) v2 v3 v5 (HK hw g);rw[pT]at s1;have s2:=QX (k:=j) (N:=N) (f:=fun v=>if v=(i:Int)then mxZ (best v done) (vT t)else best v done) oM (by omega) v2 v4 v5 (HK hw g);rw[pT]at s2
  have ge:Gs N (fun v=>if v=(j:Int)then mxZ (if v=(i:Int)then mxZ (best v done) (vT t)else best v done) (vT t)else if v=(i:Int)then mxZ (best v done) (vT t)else best v done)=Gs N fun v=>best v (done++[t]):=SV fun v=>by
   rw[LD v done g];unfold at_;rw[hi,hj];by_cases c1:v=(j:Int)
   .rw[A3 c1,A7 (show ¬v=(i:Int)by omega),A3 (by rw[c1];simp)]
   .rw[A7 c1];by_cases c2:v=(i:Int)
    .rw[A3 c2,A3 (by rw[c2];simp)]
    .rw[A7 c2,A7];simp only[Bool.or_eq_true,beq_iff_eq,not_or];exact⟨fun z=>c2 z.symm,fun z=>c1 z.symm⟩
  rw[ge]at s2;obtain⟨a3,a4,a5,ih⟩:=JB (x:=x) (M:=M) l ts (done++[t]) (some (I i)) (some (I j)) (some (.d w)) h2 fun y hy=>hg y (B0 _ hy);rw[D9]at ih;refine⟨a3,a4,a5,?_⟩;rw[A9,DN (γ2:=γ) (M2:=M++[.lst (Gs N fun v=>best v (done++[t]))]) (pt.trans (by rw[hγ])) (by unfold fZ;rw[eF s1];exact s2),<- hγ];exact ih
theorem VC{h:FX}(ha:fa γ M=some (xs,M))(hh:h xs M=some (.v v,M')):pN (oB h (liA fa)) γ M=some (.o (.nx γ),M'):=by
 unfold pN oB yY liA;rw[ha,A1,A1];dsimp only;rw[hh,A1]
theorem XD{h:FX}{e:Exc}(ha:fa γ M=some (xs,M))(hh:h xs M=some (.x e,M')):pN (oB h (liA fa)) γ M=some (.xc γ e,M'):=by
 unfold pN oB yY liA;rw[ha,A1,A1];dsimp only;rw[hh,A1]
theorem XZ{f g:SFX}(h:f γ M=some (.o (.nx γ'),M')):tZ f g γ M=g γ' M':=by
 unfold tZ;rw[h,A1]
theorem XJ{f g:SFX}{e:Exc}(h:f γ M=some (.xc γ' e,M')):tZ f g γ M=some (.xc γ' e,M'):=by
 unfold tZ;rw[h,A1]
theorem aBt{b:SFX}(h:xs.length=ps)(hb:b (xs.map some++List.replicate (N-xs.length) none) M=some (.o (.rt x),M')):fnX ps N b xs M=some (.v x,M'):=by
 unfold fnX;rw[A3 h,hb,A1]
theorem QZ{b:SFX}{e:Exc}(h:xs.length=ps)(hb:b (xs.map some++List.replicate (N-xs.length) none) M=some (.xc γ e,M')):fnX ps N b xs M=some (.x e,M'):=by
 unfold fnX;rw[A3 h,hb,A1]
theorem aBV{f:SF}(h:f γ M=some (.rt x,M')):liS f γ M=some (.o (.rt x),M'):=by
 unfold liS;rw[h,A1]
theorem aAm(hl:∀l,aW d=some l->l.length<=70):gN (gB (aI dF (aB (aD 0) (aB (aD 1) aH)))) [some (I n),some (.d d)] M=some (!rQ n d,M):=by
 have t:=uE (bI (F:=dF) (aV (show aD 0 [some (I n),some (.d d)] M=some (I n,M)from rfl) (aV (show aD 1 [some (I n),some (.d d)] M=some (.d d,M)from rfl) bP)) (aEt (n:=n) (d:=d) (M:=M) hl));unfold gN;show((gB (aI dF (aB (aD 0) (aB (aD 1) aH))) [some (I n),some (.d d)] M).bind _)=_;rw[t];rfl
theorem aBi(hl:∀l,aW d=some l->l.length<=70)(h:rQ n d=false):cO [I n,.d d] M=some (.x ⟨"NoDemand",[]⟩,M):=by
 have t:=aAm (n:=n) (M:=M) hl;rw[h]at t;refine QZ (γ:=[some (I n),some (.d d)]) rfl ?_;show cA [some (I n),some (.d d)] M=_;unfold cA LQ;rw[t];rfl
theorem YX(hl:∀l,aW d=some l->l.length<=70)(h:rQ n d=true):cO [I n,.d d] M=some (.v (.d .none),M):=by
 have t:=aAm (n:=n) (M:=M) hl;rw[h]at t;unfold cO fnX;rw[A3 (show[I n,CD.d d].length=2 from rfl)];show(cA [some (I n),some (.d d)] M).bind _=_;unfold cA LQ;rw[t];rfl
theorem aEA(hl:∀l,aW d=some l->l.length<=70)(h:rQ n d=false):jA [I n,.d d] M=some (.x ⟨"NoDemand",[]⟩,M):=by
 refine QZ (γ:=[some (I n),some (.d d),none,none,none,none]) rfl ?_;show eT [some (I n),some (.d d),none,none,none,none] M=_;unfold eT;exact XJ (XD (xs:=[I n,.d d]) rfl (aBi hl h))
noncomputable def Tot(N:Nat)(ts:List Tie):Int:=((List.range N).map fun(v:Nat)=>best (v:Int) ts).sum
theorem IR(f:Nat->Int):∀l:List Nat,(l.map fun v=>2*f v).sum=2*(l.map f).sum
 |[]=>rfl
 |v::l=>by rw[A9,A9,List.sum_cons,List.sum_cons,IR f l,Int.mul_add]
theorem IC{f:Nat->Int}(h:∀v,0<=f v):∀l:List Nat,0<=(l.map f).sum
 |[]=>Int.le_refl _
 |v::l=>by rw[A9,List.sum_cons];exact Int.add_nonneg (h v) (IC h l)
theorem AN(N:Nat)(ts:List Tie):0<=Tot N ts:=IC (fun v=>CN v ts) _
theorem ints_map(f:Nat->Int):∀l:List Nat,nG (l.map fun v=>.int (f v))=some (l.map f)
 |[]=>rfl
 |v::l=>by
  show(nG (l.map fun v=>.int (f v))).bind _=_;rw[ints_map f l];rfl
theorem NB(f:Nat->Int)(l:List Nat)(M:Sto):sumF [.d (.list (l.map fun v=>.int (f v)))] M=some (I (l.map f).sum,M):=by
 show(nG (l.map fun v=>.int (f v))).bind _=_;rw[ints_map];rfl
theorem aBO(N:Nat):(List.replicate N [I 0]).flatten=Gs N fun v=>best v []:=by
 have e:(List.replicate N [I 0]).flatten=List.replicate N (I 0):=by
  induction N with
  |zero=>rfl
  |succ n ih=>rw[E9,F9,ih,E9];rfl
 rw[e];refine List.ext_getElem? fun k=>?_;unfold Gs;rw[List.getElem?_replicate,D0];by_cases h:k<N
 .rw[A3 h,O7 h];rfl
 .rw[A7 h,List.getElem?_eq_none (by rw[E8];omega)];rfl
theorem WD(N:Nat)(f:Int->Int):lP (Gs N f)=some ((List.range N).map fun(v:Nat)=>.int (2*f (v:Int))):=by
 have e:Gs N f=((List.range N).map fun(v:Nat)=>PyData.int (2*f (v:Int))).map .d:=by unfold Gs;rw[U6];rfl
 rw[e,lV]
noncomputable abbrev low(T:Int):PyData:=.tuple [.int (T / (Int.gcd T 55440:Int)),.int (55440 / (Int.gcd T 55440:Int))]
theorem aAe(n9:N<=9):mulC (.c M.length) (I N) (M++[Cell.lst [I 0]])=some (.c (M++[Cell.lst [I 0]]).length,(M++[Cell.lst [I 0]])++[Cell.lst (List.replicate N [I 0]).flatten]):=by
 obtain⟨k,hk⟩:∃k:Int,(N:Int)=k:=⟨_,rfl⟩;have hN:N=k.toNat:=by omega
 rw[hk,hN];have c:0<=k/\k<2 ^ 62/\[I 0].length*k.toNat<=sizeLine:=⟨by omega,by omega,sz (by show 1*k.toNat<=1000;omega)⟩;unfold mulC;dsimp only;rw[oM];dsimp only;rw[A3 c]
theorem aCC(n9:N<=9)(hd:aW d=some l)(ll:l.length<=70)(h:rQ N d=true)(g:Gds N l ts):∃L,jA [I N,.d d] M=some (.v (.d (low (Tot N ts))),M++L):=by
 have hl:∀l,aW d=some l->l.length<=70:=fun l' e=>by rw[hd]at e;cases e;exact ll
 have e0:mulC (.c M.length) (I N) (M++[Cell.lst [I 0]])=some (.c (M++[Cell.lst [I 0]]).length,(M++[Cell.lst [I 0]])++[Cell.lst (Gs N fun v=>best v [])]):=by
  rw[<- aBO];exact aAe n9
 have s1:bR (fOp mulC (xZ (aB (fC (.int 0)) aH)) (aD 0)) (hName 2) [some (I N),some (.d d),none,none,none,none] M=some (.nx [some (I N),some (.d d),some (.c (M++[Cell.lst [I 0]]).length),none,none,none],(M++[Cell.lst [I 0]])++[Cell.lst (Gs N fun v=>best v [])]):=by
  refine tG (jV (k:=mulC) (a:=.c M.length) (M1:=M++[Cell.lst [I 0]]) ?_ (show aD 0 _ _=some (I N,_)from rfl) e0);unfold xZ;rw[aV (AA (i:=0)) bP,A1];exact A3 z1
 generalize hP:M++[Cell.lst [I 0]]=P at s1;obtain⟨a3,a4,a5,lp⟩:=JB (N:=N) (x:=.d d) (M:=P) l ts [] none none none g.ti g.gd;rw[U2]at lp
 have it:dD (aD 1) [some (I N),some (.d d),some (.c P.length),none,none,none] (P++[Cell.lst (Gs N fun v=>best v [])])=some (l.map .d,P++[Cell.lst (Gs N fun v=>best v [])]):=by
  unfold dD;show(aW d).bind _=_;rw[hd];rfl
 have fo:=tH it lp
 have s2:NL 2 (rZ (dD (aD 1)) (qG 3 (eG (hName 3) (eG (hName 4) (eG (hName 5) yI)))) fZ) [some (I N),some (.d d),some (.c P.length),none,none,none] (P++[Cell.lst (Gs N fun v=>best v [])])=some (.nx [some (I N),some (.d d),some (.d (.list ((List.range N).map fun(v:Nat)=>.int (2*best (v:Int) ts)))),a3,a4,a5],P++[.dead]):=by
  unfold NL;rw[fo,A1];dsimp only
  have fz:YR 2 [some (I N),some (.d d),some (.c P.length),a3,a4,a5] (P++[Cell.lst (Gs N fun v=>best v ts)])=some ([some (I N),some (.d d),some (.d (.list ((List.range N).map fun(v:Nat)=>.int (2*best (v:Int) ts)))),a3,a4,a5],P++[.dead]):=by
   show(match (P++[Cell.lst (Gs N fun v=>best v ts)])[P.length]? with|some (.lst xs)=>(lP xs).bind fun ds=>some ([some (I N),some (CD.d d),some (.c P.length),a3,a4,a5].set 2 (some (.d (.list ds))),(P++[Cell.lst (Gs N fun v=>best v ts)]).set P.length .dead)|_=>none)=_;rw[oM];dsimp only;rw[WD,A1,pT];rfl
  rw[fz];rfl
 have sm:=NB (fun v=>2*best (v:Int) ts) (List.range N) (P++[.dead]);rw[IR]at sm;obtain⟨x,x1,x2⟩:=CK (P++[.dead]) (AN N ts)
 have s3:bD (aI tU (aB (aI eV (aB (aI sumF (aB (aD 2) aH)) aH)) aH)) [some (I N),some (.d d),some (.d (.list ((List.range N).map fun(v:Nat)=>.int (2*best (v:Int) ts)))),a3,a4,a5] (P++[.dead])=some (.rt (.d (low (Tot N ts))),P++[.dead]):=by
  unfold bD;rw[bI (F:=tU) (aV (bI (F:=eV) (aV (bI (F:=sumF) (aV (show aD 2 _ (P++[.dead])=some (.d (.list ((List.range N).map fun(v:Nat)=>.int (2*best (v:Int) ts))),P++[.dead])from rfl) bP) sm) bP) x1) bP) x2];rfl
 refine⟨[Cell.lst [I 0],.dead],?_⟩;rw[show M++[Cell.lst [I 0],.dead]=P++[.dead]by rw[<- hP,D9];rfl];refine aBt rfl ?_;show eT [some (I N),some (.d d),none,none,none,none] M=_;unfold eT;rw[XZ (VC (xs:=[I N,.d d]) rfl (YX hl h))];refine aBV ?_;rw[eF s1,eF s2];exact s3
noncomputable def ent(t:Tie):List Key×CD:=(t.key,I (vT t))
noncomputable def qB(t:Tie):List Key×PyData:=(t.key,.int (vT t))
theorem XH{kvs:List (List Key×CD)}{k:List Key}(h:∀kv∈kvs,kv.1≠k):putD kvs k v=kvs++[(k,v)]:=by
 unfold putD;rw[A7];intro z;obtain⟨kv,hm,e⟩:=List.any_eq_true.mp z;exact h kv hm (C0 e)
theorem OS{t u:Tie}(h:t.key=u.key):pr t=pr u:=by
 unfold Tie.key at h;unfold pr;injection h with h1 h2
 injection h1 with h1
 injection h2 with h2 _
 injection h2 with h2
 rw[h1,h2]
theorem OH(ts:List Tie)(t:Tie):big (ts++[t])=if 0<t.a then big ts++[t]else big ts:=by
 unfold big;rw[List.filter_append];by_cases h:0<t.a
 .rw[A3 h,show[t].filter (fun t=>decide (0<t.a))=[t]by rw[L4,A3 (C2 h)];rfl]
 .rw[A7 h,show[t].filter (fun t=>decide (0<t.a))=[]by rw[L4,A7 (by simpa using h)];rfl,D1]
theorem hT5(h:aW r=some [p,q,w]):qG 3 (eG (hName 2) (eG (hName 3) (eG (hName 4) yI))) (.d r) [g0,g1,g2,g3,g4] M=some ([g0,g1,some (.d p),some (.d q),some (.d w)],M):=by
 cases r<;>first|(cases h;rfl)|cases h
theorem aFK{i:Int}:gtI (I i) (I j) M=some (B (decide (i > j)),M):=rfl
theorem KD{x:CD}{M:Sto}{t:Tie}{done:List Tie}(hw:aW w=some [.int t.a,.int t.b])(g:Gd n t)(hk:∀u∈done,u.key≠t.key)(hl:done.length<1000):
 hV [some x,some (.c M.length),some (I t.i),some (I t.j),some (.d w)] (M++[Cell.dt ((big done).map ent)])=some (.nx [some x,some (.c M.length),some (I t.i),some (I t.j),some (.d w)],M++[Cell.dt ((big (done++[t])).map ent)]):=by
 have b0:=g.b0;have b1:=g.b1;have a0:=g.a0;have a1:=g.a1
 have y0:∀N,ixF (.d w) (I 0) N=some (I t.a,N):=fun N=>by
  cases w<;>first|(cases hw;rfl)|cases hw
 have y1:∀N,ixF (.d w) (I 1) N=some (I t.b,N):=fun N=>by
  cases w<;>first|(cases hw;rfl)|cases hw
 have lb:(big done).length<=done.length:=S2 _ _;rw[OH];obtain⟨c,hc⟩:∃c,M.length=c:=⟨_,rfl⟩;obtain⟨γ,hγ⟩:∃γ:Ga,[some x,some (.c M.length),some (I t.i),some (I t.j),some (.d w)]=γ:=⟨_,rfl⟩;have v1:∀N,aD 1 γ N=some (.c M.length,N):=fun N=>by rw[<- hγ];rfl
 have v2:∀N,aD 2 γ N=some (I t.i,N):=fun N=>by rw[<- hγ];rfl
 have v3:∀N,aD 3 γ N=some (I t.j,N):=fun N=>by rw[<- hγ];rfl
 have v4:∀N,aD 4 γ N=some (.d w,N):=fun N=>by rw[<- hγ];rfl
 rw[hγ];have tt:=fun N=>uE (jV (k:=gtI) (jV (k:=ixF) (v4 N) (AA (i:=0)) (y0 N)) (AA (i:=0)) aFK);unfold hV;by_cases h:0<t.a
 .rw[A3 h];have tt:=tt (M++[Cell.dt ((big done).map ent)]);rw[show decide (t.a > 0)=true from C2 h]at tt;rw[QP tt];have mk:iA t.a 27720=true:=BD (by omega);have dk:oU (t.a*27720) t.b=true:=pU (by omega) (wsm (by omega) (by omega))
  have mm:∀N,tL (I t.a) (I 27720) N=some (I (t.a*27720),N):=fun N=>by
   show(ifS (iA t.a 27720) (.int (t.a*27720))).bind _=_;rw[mk];rfl
  have dd:∀N,nO (I (t.a*27720)) (I t.b) N=some (I (vT t),N):=fun N=>by
   show(ifS (oU (t.a*27720) t.b) (.int (t.a*27720 / t.b))).bind _=_;rw[dk,g.two.2.1];rfl
  have val:=fun N=>jV (k:=nO) (jV (k:=tL) (jV (k:=ixF) (v4 N) (AA (i:=0)) (y0 N)) (AA (i:=27720)) (mm N)) (jV (k:=ixF) (v4 N) (AA (i:=1)) (y1 N)) (dd N)
  have kk:∀N,BX (aB (aD 2) (aB (aD 3) aH)) γ N=some (.inr t.key,N):=fun N=>by
   unfold BX;rw[aV (v2 N) (aV (v3 N) bP),A1];show(if t.key.length<=sizeLine then some ((Sum.inr t.key:KY),N)else none)=_;exact A3 z2
  have sd:QK (M++[Cell.dt ((big done).map ent)]) (.c M.length) (.inr t.key) (I (vT t))=some (M++[Cell.dt ((big done++[t]).map ent)]):=by
   unfold QK;dsimp only;rw[oM];dsimp only;rw[A3 (by rw[A2];exact A8 (Y0 lb hl) (sz (A6 _))),pT,XH,E5]
   .rfl
   .intro kv hm;obtain⟨u,hu,rfl⟩:=List.mem_map.mp hm;exact hk u (List.mem_filter.mp hu).1
  unfold AR;rw[val,A1];dsimp only;rw[v1,A1];dsimp only;rw[kk,A1];dsimp only;rw[sd];rfl
 .rw[A7 h];have tt:=tt (M++[Cell.dt ((big done).map ent)]);rw[show decide (t.a > 0)=false from D4 h]at tt;rw[JF tt];rfl
theorem zK{n:Int}{x:CD}{M:Sto}:∀(l:List PyData)(ts done:List Tie)(g2 g3 g4:Option CD),l.map (fJ n)=ts.map some->(∀t∈ts,Gd n t)->((done++ts).map pr).Nodup->done.length+ts.length<1000->
 ∃a2 a3 a4,gT (qG 3 (eG (hName 2) (eG (hName 3) (eG (hName 4) yI)))) hV (l.map .d) [some x,some (.c M.length),g2,g3,g4] (M++[Cell.dt ((big done).map ent)])=some (.nx [some x,some (.c M.length),a2,a3,a4],M++[Cell.dt ((big (done++ts)).map ent)])
 |[],[],done,g2,g3,g4,_,_,_,_=>⟨g2,g3,g4,by rw[D1];rfl⟩
 |[],_::_,_,_,_,_,h,_,_,_=>by simp at h
 |_::_,[],_,_,_,_,h,_,_,_=>by simp at h
 |r::l,t::ts,done,g2,g3,g4,h,hg,nd,hl=>by
  rw[A9,A9]at h;injection h with h1 h2
  rw[C3]at hl;have g:=hg t B7;obtain⟨w,hr,hw,_⟩:=fL h1
  have hk:∀u∈done,u.key≠t.key:=fun u hu e=>by
   rw[E5,List.nodup_append]at nd;exact nd.2.2 (pr u) (O8 hu) (pr t) (O8 B7) (OS e)
  have pt:=hT5 (g0:=some x) (g1:=some (.c M.length)) (g2:=g2) (g3:=g3) (g4:=g4) (M:=M++[Cell.dt ((big done).map ent)]) hr;have tn:=KD (n:=n) (x:=x) (M:=M) (done:=done) hw g hk (by omega);obtain⟨a2,a3,a4,ih⟩:=zK (x:=x) (M:=M) l ts (done++[t]) (some (I t.i)) (some (I t.j)) (some (.d w)) h2 (fun y hy=>hg y (B0 _ hy)) (by rw[D9];exact nd) (by rw[B4,D7];omega);rw[D9]at ih;refine⟨a2,a3,a4,?_⟩;rw[A9,DN pt tn];exact ih
theorem aCR(hd:aW d=some l)(ll:l.length<=70)(g:Gds n l ts):iE [.d d] M=some (.c M.length,M++[Cell.dt ((big ts).map ent)]):=by
 have lt:ts.length=l.length:=by have:=L5 List.length g.ti;rw[A2,A2]at this;exact this.symm
 obtain⟨a2,a3,a4,lp⟩:=zK (n:=n) (x:=.d d) (M:=M) l ts [] none none none g.ti g.gd g.nd (by rw[lt];simp only[List.length_nil];omega);rw[U2]at lp
 have it:dD (aD 0) [some (.d d),some (.c M.length),none,none,none] (M++[Cell.dt []])=some (l.map .d,M++[Cell.dt []]):=by
  unfold dD;show(aW d).bind _=_;rw[hd];rfl
 refine uI rfl ?_;show kE [some (.d d),none,none,none,none] M=_;unfold kE;rw[eF (show bR zZ (hName 1) [some (.d d),none,none,none,none] M=some (.nx [some (.d d),some (.c M.length),none,none,none],M++[Cell.dt []])from rfl),eF (tH it lp)];rfl
theorem HE:∀ts:List Tie,xA (ts.map ent)=some (ts.map qB)
 |[]=>rfl
 |t::ts=>by
  show(xA (ts.map ent)).bind _=_;rw[HE ts];rfl
theorem QR{t:Tie}:∀{ts:List Tie},(ts.map pr).Nodup->t∈ts->lkP (ts.map qB) t.key=some (.int (vT t))
 |u::ts,nd,hm=>by
  rw[A9,List.nodup_cons]at nd;unfold lkP;rw[A9,List.find?_cons];by_cases e:u.key=t.key
  .rw[show(decide ((qB u).1=t.key))=true from C2 e];rcases List.mem_cons.mp hm with rfl|hm
   .rfl
   .exact absurd (OS e▸O8 hm) nd.1
  .rw[show(decide ((qB u).1=t.key))=false from D4 e];rcases List.mem_cons.mp hm with rfl|hm
   .exact absurd rfl e
   .exact QR nd.2 hm
theorem EK{α:Type}{c:TF}{e:EF}{M:Sto}{x0 x1:Option CD}(f:α->CD)(p:α->Bool)(h:α->PyData):∀(xs:List α)(g:Option CD),(∀x∈xs,c [x0,x1,some (f x)] M=some (p x,M)/\e [x0,x1,some (f x)] M=some (.d (h x),M))->lcF (hName 2) c e (xs.map f) [x0,x1,g] M=some (((xs.filter p).map h).map .d,M)
 |[]=>fun _ _=>rfl
 |x::xs=>fun g he=>by
  have ih:=EK (M:=M) (c:=c) (e:=e) (x0:=x0) (x1:=x1) f p h xs (some (f x)) fun y hy=>he y (B0 _ hy);obtain⟨c1,e1⟩:=he x B7;rw[A9,L4];show(hName 2 (f x) [x0,x1,g] M).bind _=_;rw[show hName 2 (f x) [x0,x1,g] M=some ([x0,x1,some (f x)],M)from rfl,A1];dsimp only;rw[c1,A1];dsimp only;cases p x with
  |false=>rw[A7 A5,A7 A5];exact ih
  |true=>
   rw[A3 rfl,A3 rfl,e1,A1];dsimp only;rw[ih];rfl
theorem aEw{v:Int}{t:Tie}:inD false (I v) (.d (.tuple [.int t.i,.int t.j])) M=some (B (at_ v t),M):=by
 show some (CD.d (.bool ((t.i==v) || ((t.j==v) || false))),M)=_;rw[Bool.or_false];rfl
theorem aFM{v:Int}(nd:(ts.map pr).Nodup)(hl:ts.length<=70):jI [some (.f (ts.map qB)),some (I v)] M=some (.d (.list ((ts.filter (at_ v)).map fun t=>.int (vT t))),M):=by
 have it:AC (aD 0) [some (.f (ts.map qB)),some (I v)] M=some (ts.map fun t=>.d (.tuple [.int t.i,.int t.j]),M):=by
  show some ((ts.map qB).map (fun kv=>CD.d (.tuple (kv.1.map JS))),M)=_;rw[U6];rfl
 have lf:(ts.filter (at_ v)).length<=ts.length:=S2 _ _;unfold jI;refine FQ it (by rw[A2];exact sz (by omega)) ?_ (by rw[A2];exact sz (by omega));rw[show vB [some 0,some 1,none] [some (CD.f (ts.map qB)),some (I v)]=[some (.f (ts.map qB)),some (I v),none]from rfl];refine EK (fun t:Tie=>.d (.tuple [.int t.i,.int t.j])) (at_ v) (fun t=>.int (vT t)) ts none fun t ht=>⟨?_,?_⟩
 .exact uE (jV (k:=inD false) (show aD 1 _ M=some (I v,M)from rfl) (show aD 2 _ M=some (.d (.tuple [.int t.i,.int t.j]),M)from rfl) aEw)
 .show((some ((lkP (ts.map qB) t.key).map CD.d)).bind fun r=>r.bind fun x=>some (x,M))=_;rw[QR nd ht];rfl
theorem aBj{vs:List Int}:EM [.d (.list (.int 0::vs.map .int))] M=some (I (sV 0 vs),M):=by
 have e:∀vs:List Int,nG (vs.map .int)=some vs:=fun vs=>by
  induction vs with
  |nil=>rfl
  |cons a r ih=>show(nG (r.map .int)).bind _=_;rw[ih];rfl
 show((nG (vs.map .int)).bind fun ns=>some ((0:Int)::ns)).bind _=_;rw[e];rfl
theorem RK{α:Type}{e:EF}{x0:Option CD}(f:α->CD)(h:α->PyData)(xs:List α)(g:Option CD)(he:∀x∈xs,e [x0,some (f x)] M=some (.d (h x),M)):lcF (hName 1) kY e (xs.map f) [x0,g] M=some ((xs.map h).map .d,M):=xI f h xs g he
theorem aDa(n9:N<=9)(v0:aD 0 γ M=some (I N,M)):jK (aB (aD 0) aH) γ M=some ((List.range N).map fun(v:Nat)=>I (v:Int),M):=by
 obtain⟨k,hk⟩:∃k:Int,(N:Int)=k:=⟨_,rfl⟩;have hN:N=k.toNat:=by omega
 rw[hk]at v0;have s:=CP (J:=k) (by omega) (by omega);unfold jK;rw[aV v0 bP,A1];dsimp only;rw[hN];simp![s,lH,Int.zero_add]
theorem aFI(n9:N<=9)(nd:(ts.map pr).Nodup)(hl:ts.length<=70):jZ [some (I N),some (.d d),some (.f ((big ts).map qB))] M=some (.d (.list ((List.range N).map fun(v:Nat)=>.int (best (v:Int) ts))),M):=by
 have nb:((big ts).map pr).Nodup:=nd.sublist (List.Sublist.map _ List.filter_sublist);have lb:(big ts).length<=70:=C9 (S2 _ _) hl;unfold jZ;refine FQ (aDa n9 rfl) (by rw[A2,E8];exact sz (by omega)) ?_ (by rw[A2,E8];exact sz (by omega));rw[show vB [some 2,none] [some (I N),some (CD.d d),some (.f ((big ts).map qB))]=[some (.f ((big ts).map qB)),none]from rfl];refine RK (fun v:Nat=>I (v:Int)) (fun v=>.int (best (v:Int) ts)) (List.range N) none fun v _=>?_;obtain⟨k,hk⟩:∃k:Int,(v:Int)=k:=⟨_,rfl⟩;rw[hk];have lf:((big ts).filter (at_ k)).length<=(big ts).length:=S2 _ _;have ci:=aFM (v:=k) (M:=M) nb lb;have ad:=jV (k:=dO) (vD [some (.f ((big ts).map qB)),some (I k)] M) ci (qX (sz (by rw[B4,A2,D7];omega)));refine bI (aV ad bP) ?_;have e:[PyData.int 0]++((big ts).filter (at_ k)).map (fun t=>PyData.int (vT t))=.int 0::(((big ts).filter (at_ k)).map vT).map .int:=by rw[U6];rfl
 rw[e];exact aBj
theorem YB(n9:N<=9)(hd:aW d=some l)(ll:l.length<=70)(g:Gds N l ts):iY [I N,.d d] M=some (I (Tot N ts),M++[.dead]):=by
 have lt:ts.length=l.length:=by have:=L5 List.length g.ti;rw[A2,A2]at this;exact this.symm
 have s1:CC 2 (bR (aI iE (aB (aD 1) aH)) (hName 2)) [some (I N),some (.d d),none] M=some (.nx [some (I N),some (.d d),some (.f ((big ts).map qB))],M++[.dead]):=by
  have a:=tG (i:=2) (bI (F:=iE) (aV (show aD 1 [some (I N),some (.d d),none] M=some (.d d,M)from rfl) bP) (aCR (M:=M) hd ll g));unfold CC;rw[a,A1];dsimp only
  have fz:DR 2 [some (I N),some (.d d),some (.c M.length)] (M++[Cell.dt ((big ts).map ent)])=some ([some (I N),some (.d d),some (.f ((big ts).map qB))],M++[.dead]):=by
   show(match (M++[Cell.dt ((big ts).map ent)])[M.length]? with|some (.dt kvs)=>(xA kvs).bind fun ds=>some ([some (I N),some (CD.d d),some (.c M.length)].set 2 (some (.f ds)),(M++[Cell.dt ((big ts).map ent)]).set M.length .dead)|_=>none)=_;rw[oM];dsimp only;rw[HE,A1,pT];rfl
  show(DR 2 [some (I N),some (.d d),some (.c M.length)] (M++[Cell.dt ((big ts).map ent)])).bind _=_;rw[fz];rfl
 have co:=aFI (d:=d) (M:=M++[.dead]) n9 g.nd (by omega);refine uI rfl ?_;show jE [some (I N),some (.d d),none] M=_;unfold jE;rw[eF s1];unfold bD;rw[bI (F:=sumF) (aV co bP) (NB (fun v=>best (v:Int) ts) (List.range N) (M++[.dead]))];rfl
theorem xT{g:GF}{b:SF}(Inv:Ga->Sto->Prop):∀xs:List CD,(∀x∈xs,∀γ M,Inv γ M->∃γ1 M1 γ' M',g x γ M=some (γ1,M1)/\b γ1 M1=some (.nx γ',M')/\Inv γ' M')->∀γ M,Inv γ M->∃γ' M',gT g b xs γ M=some (.nx γ',M')/\Inv γ' M'
 |[]=>fun _ γ M h=>⟨γ,M,rfl,h⟩
 |x::xs=>fun hs γ M h=>by
  obtain⟨γ1,M1,γ2,M2,e1,e2,h2⟩:=hs x B7 γ M h;obtain⟨γ',M',e3,h3⟩:=xT Inv xs (fun y hy=>hs y (B0 _ hy)) γ2 M2 h2;refine⟨γ',M',?_,h3⟩;unfold gT;rw[e1,A1];dsimp only;rw[e2,A1];exact e3
theorem VT{n:Nat}(h:x∈lH lo n):∃j:Nat,j<n/\x=I (lo+j):=by
 unfold lH at h;obtain⟨j,hj,rfl⟩:=List.mem_map.mp h;exact⟨j,List.mem_range.mp hj,rfl⟩
theorem sX:∀ds:List PyData,(bY ds).length=ds.length
 |[]=>rfl
 |d::ds=>by unfold bY;rw[C3,C3,sX ds]
noncomputable abbrev S(x:Str):CD:=.d (.str x)
structure Nc(d:PyData):Prop where
 fit:Fit 4000000 12 d
 few:∀l,aW d=some l->l.length<=40
theorem vM{x:PyData}(f:Fit 4000000 12 x):iS [.d x] M=some (S x.shown,M):=by
 rw[XN];exact RO f
theorem aFp{x:Str}:eqX true (S x) (S x) M=some (B false,M):=by
 show some (CD.d (.bool (!(x==x))),M)=_;rw[L3];rfl
noncomputable abbrev RX:PyData:=.tuple [.str "none",.bool true]
theorem NN:Fit 4000000 12 RX:=by
 refine(Fit.tuple (w:=2000) (m:=0) (k:=2) (ds:=[.str "none",.bool true]) (fun d hd=>?_) (A6 _)).mono (by decide) (by decide);simp only[List.mem_cons,List.not_mem_nil,or_false]at hd;rcases hd with rfl|rfl<;>exact⟨by decide +kernel,by decide +kernel,by decide +kernel⟩
theorem XR{ts:List Tie}(g:∀t∈ts,Gd n t)(v:Int):best v ts<=27720000000:=by
 rcases List.mem_cons.mp (vH (((big ts).filter (at_ v)).map vT) 0).1 with e|e
 .show sV 0 _<=_;rw[e];decide
 .obtain⟨t,ht,e⟩:=List.mem_map.mp e;have:=(g t (List.mem_filter.mp (List.mem_filter.mp ht).1).1).two.2.2.2;show sV 0 _<=_;rw[<- e];omega
theorem QE{f:Nat->Int}(h:∀v,f v<=27720000000):∀l:List Nat,(l.map f).sum<=27720000000*(l.length:Int)
 |[]=>by show(0:Int)<=27720000000*0;decide
 |v::l=>by
  have h1:=h v;have h2:=QE h l;rw[A9,List.sum_cons,C3];omega
theorem ZG(h0:0<=T)(h1:T<=27720000000*9):Fit 4000000 12 (low T):=by
 have p1:=pZ (a:=T) (b:=55440) (by decide);have a0:0<=T / (Int.gcd T 55440:Int):=L6 h0 (by omega);have a1:T / (Int.gcd T 55440:Int)<=T:=O6 _ h0;have b0:0<=55440 / (Int.gcd T 55440:Int):=L6 (by decide) (by omega);have b1:55440 / (Int.gcd T 55440:Int)<=55440:=O6 _ (by decide);exact(cG (by omega) (by omega)).mono (by decide) (by decide)
noncomputable def ans(N:Nat)(d:PyData)(p:PyData):Prop:=(rQ N d=false/\p=RX)\/∃l ts,rQ N d=true/\aW d=some l/\Gds N l ts/\p=low (Tot N ts)
theorem HH(n9:N<=9)(h:ans N d p):Fit 4000000 12 p:=by
 rcases h with⟨_,rfl⟩|⟨l,ts,_,_,g,rfl⟩
 .exact NN
 .have h:=QE (f:=fun v=>best (v:Int) ts) (fun v=>XR g.gd v) (List.range N);rw[E8]at h;refine ZG (AN N ts) ?_;show((List.range N).map fun(v:Nat)=>best (v:Int) ts).sum<=_;omega
theorem aBB(N:Nat)(d:PyData):∃p,ans N d p:=by
 cases h:rQ N d with
 |false=>exact⟨_,.inl ⟨h,rfl⟩⟩
 |true=>
  cases hd:aW d with
  |none=>
   unfold rQ at h;rw[hd]at h;cases h
  |some l=>
   have h':=h;unfold rQ at h';rw[hd]at h';obtain⟨ts,g⟩:=aAX h';exact⟨_,.inr ⟨l,ts,h,hd,g,rfl⟩⟩
theorem aDc{e:Cell}:(M++[e])[M.length]?=some e:=oM
theorem ZT:gG [.c M.length] (M++[.exc false "NoDemand" []])=some (B true,M++[.exc false "NoDemand" []]):=by
 have l1:List.lookup ("NoDemand":Str) fW=some true:=by decide +kernel
 have l2:List.lookup ("NoDemand":Str) eD=some true:=by decide +kernel
 have l3:List.lookup ("NoDemand":Str) lJ=some false:=by decide +kernel
 have l4:List.lookup ("NoDemand":Str) fS=some false:=by decide +kernel
 have l5:List.lookup ("NoDemand":Str) jH=some false:=by decide +kernel
 have ea:=aDc (M:=M) (e:=.exc false "NoDemand" []);simp![gG,jC,ea,l1,l2,l3,l4,l5]
theorem YU(n9:N<=9)(nc:Nc d)(h:ans N d p):∃L,jG [I N,.d d] M=some (S p.shown,M++L):=by
 have rp:=fun M=>vM (M:=M) (HH n9 h);have hl:∀l,aW d=some l->l.length<=70:=fun l e=>by have:=nc.few l e;omega
 have s1:bR (fC .none) (hName 2) [some (I N),some (.d d),none,none] M=some (.nx [some (I N),some (.d d),some (.d .none),none],M):=rfl
 obtain⟨L,γ,hγ,tr⟩:∃L γ,aD 2 γ=(fun M=>some (.d p,M))/\GI dM [⟨[("NoDemand",true)],(some 3),jL⟩] [some (I N),some (.d d),some (.d .none),none] M=some (.nx γ,M++L):=by
  rcases h with⟨h,rfl⟩|⟨l,ts,h,hd,g,rfl⟩
  .have b:dM [some (I N),some (.d d),some (.d .none),none] M=some (.xc [some (I N),some (.d d),some (.d .none),none] ⟨"NoDemand",[]⟩,M):=by
    unfold dM zP oB yY liA;rw[show aB (aD 0) (aB (aD 1) aH) [some (I N),some (.d d),some (.d .none),none] M=some ([I N,.d d],M)from rfl,A1,A1];dsimp only;rw[aEA hl h];rfl
   have lk:List.lookup ("NoDemand":Str) [(("NoDemand":Str),true)]=some true:=by decide +kernel
   have ea:=ZT (M:=M);refine⟨[.exc false "NoDemand" []],[some (I N),some (.d d),some (.d RX),none],rfl,?_⟩;unfold GI;rw[b,A1];simp![LJ,lk,jL,ea,z2]
  .obtain⟨L,e⟩:=aCC (M:=M) n9 hd (hl l hd) h g
   have b:dM [some (I N),some (.d d),some (.d .none),none] M=some (.o (.nx [some (I N),some (.d d),some (.d (low (Tot N ts))),none]),M++L):=by
    unfold dM zP oB yY liA;rw[show aB (aD 0) (aB (aD 1) aH) [some (I N),some (.d d),some (.d .none),none] M=some ([I N,.d d],M)from rfl,A1,A1];dsimp only;rw[e];rfl
   refine⟨L,[some (I N),some (.d d),some (.d (low (Tot N ts))),none],rfl,?_⟩;unfold GI;rw[b,A1]
 refine⟨L,uI rfl ?_⟩;show jD [some (I N),some (.d d),none,none] M=_;unfold jD;rw[eF s1,eF tr];unfold bD;rw[bI (F:=iS) (aV (show aD 2 γ (M++L)=some (.d p,M++L)by rw[hγ]) bP) (rp (M++L))];rfl
theorem aDR(n9:N<=9)(nc:Nc d)(h:ans N d p):∃L,kF [I N,.d d] M=some (S p.shown,M++L):=by
 have rp:=fun M=>vM (M:=M) (HH n9 h);have hl:∀l,aW d=some l->l.length<=70:=fun l e=>by have:=nc.few l e;omega
 obtain⟨L,e⟩:=KN (n:=N) (d:=d) (M:=M) fun l hl=>by have:=nc.few l hl;omega
 have e:bM [I N,.d d] M=some (B (rQ N d),M++L):=e;have v0:∀Z,aD 0 [some (I N),some (.d d)] Z=some (I N,Z):=fun Z=>rfl;have v1:∀Z,aD 1 [some (I N),some (.d d)] Z=some (.d d,Z):=fun Z=>rfl;have t:=uE (bI (F:=bM) (aV (v0 M) (aV (v1 M) bP)) e)
 have t':gN (gB (aI bM (aB (aD 0) (aB (aD 1) aH)))) [some (I N),some (.d d)] M=some (!rQ N d,M++L):=by
  unfold gN;show((gB (aI bM (aB (aD 0) (aB (aD 1) aH))) [some (I N),some (.d d)] M).bind _)=_;rw[t];rfl
 rcases h with⟨h,rfl⟩|⟨l,ts,h,hd,g,rfl⟩
 .rw[h]at t';refine⟨L,uI rfl ?_⟩;show fV [some (I N),some (.d d)] M=_;unfold fV;refine FH ((QP t').trans ?_);unfold bD;rw[bI (F:=iS) (aV (xO _ _) bP) (rp (M++L))];rfl
 .rw[h]at t';have eb:=YB (M:=M++L) n9 hd (hl l hd) g;have el:=vP (a:=Tot N ts) (b:=55440) ((M++L)++[.dead]) (AN N ts) (by decide) (wsm (by decide) (by decide));refine⟨L++[.dead],uI rfl ?_⟩;rw[<- D9];show fV [some (I N),some (.d d)] M=_;unfold fV;rw[eF ((JF t').trans rfl)];unfold bD;rw[bI (F:=iS) (aV (bI (F:=dW) (aV (bI (F:=iY) (aV (v0 _) (aV (v1 _) bP)) eb) (aV (AA (i:=55440)) bP)) el) bP) (rp (M++L++[.dead]))];rfl
theorem IE{us:List Tie}(ok:Ok n us)(n40:n<=40)(l:us.length<=36):(∀d∈aR us,Fit 30000 4 d)/\Nc (.list (aR us)):=by
 have fr:∀d∈aR us,Fit 30000 4 d:=fun d hd=>by
  obtain⟨t,ht,rfl⟩:=List.mem_map.mp hd;exact aBN (NZ ok n40 t ht)
 refine⟨fr,(Fit.list (k:=38) fr (by rw[dC];omega)).mono (by decide) (by decide),fun l e=>?_⟩;cases e;rw[dC];omega
theorem GY{ds:List PyData}(h:∀d∈ds,Fit 30000 4 d)(l:ds.length<=38):Nc (.list ds)/\Nc (.tuple ds)/\Nc (dS (.tuple ds))/\∀M,bE 6 [.d (.tuple ds)] M=some (.d (dS (.tuple ds)),M):=by
 have F1:Fit 2000000 5 (.list ds):=(Fit.list (k:=38) h l).mono (by decide) (by decide);have F2:Fit 2000000 5 (.tuple ds):=(Fit.tuple (k:=38) h l).mono (by decide) (by decide);refine⟨⟨F1.mono (by decide) (by decide),fun l e=>by cases e;omega⟩,⟨F2.mono (by decide) (by decide),fun l e=>by cases e;omega⟩,⟨(Fit.lists F2).mono (by decide) (by decide),fun l e=>?_⟩,fun M=>?_⟩
 .have e:some (bY ds)=some l:=e;cases e;rw[sX];omega
 .exact HU M 6 (.tuple ds) (Y0 F2.dp (by decide)) (C9 F2.wt (by rw[J8];decide))
theorem ND(h:Stm M i)(n1:1<=n)(n9:n<=9):∃(ds:List PyData)(M':Sto),eB [.c i,Sc ns,I n] M=some (.d (.list ds),M')/\(∀d∈ds,Nc d)/\ds.length=6/\Stm M' i:=by
 obtain⟨us,M3,e3,s3,ok,lu⟩:=yQ (n:=n) h n1 n9
 have ln:iJ [.d (.list (aR us))] M3=some (I us.length,M3):=by
  unfold iJ;dsimp only;rw[show aW (.list (aR us))=some (aR us)from rfl,A1,dC]
 obtain⟨p,M4,e4,p0,p1,n4⟩:=dU (m:=(us.length:Int)+1) s3 (by omega) (by
  have:(2:Int) ^ 200=1606938044258990275541962092341162602522202993782792835301376:=by decide
  omega)
 have s4:=n4.stm s3;obtain⟨p,rfl⟩:∃z:Nat,p=(z:Int):=⟨p.toNat,by omega⟩;have pl:p<=(aR us).length:=by rw[dC];omega
 have q1:=TB pl;have q2:=EA pl;obtain⟨b1,M5,e5,f5,s5⟩:=aAB (ns:=ns) s4 ok (by omega) (by omega);obtain⟨b2,M6,e6,f6,s6⟩:=aAB (ns:=ns) s5 ok (by omega) (by omega);have lt:((aR us).take p).length<=us.length:=by rw[E4,dC];omega
 have ld:((aR us).drop p).length<=us.length:=by rw[F5,dC];omega
 have lo:((aR us).take p++[b1]++(aR us).drop p).length=us.length+1:=by
  rw[B4,B4,E4,F5,dC,D7];have:p<=us.length:=by omega
  omega
 have a1:dO (.d (.list ((aR us).take p))) (.d (.list [b1])) M5=some (.d (.list ((aR us).take p++[b1])),M5):=qX (sz (by rw[B4,D7];omega));have a2:dO (.d (.list ((aR us).take p++[b1]))) (.d (.list ((aR us).drop p))) M5=some (.d (.list ((aR us).take p++[b1]++(aR us).drop p)),M5):=qX (sz (by rw[lo];omega));obtain⟨fr,_⟩:=IE ok (by omega) lu
 have fo:∀d∈(aR us).take p++[b1]++(aR us).drop p,Fit 30000 4 d:=by
  intro d hd;rcases List.mem_append.mp hd with hd|hd
  .rcases List.mem_append.mp hd with hd|hd
   .exact fr d (S8 hd)
   .rw[List.mem_singleton.mp hd];exact f5
  .exact fr d (S9 hd)
 generalize (aR us).take p++[b1]++(aR us).drop p=one at a2 lo fo;have lo2:(one++[b2]).length=us.length+2:=by rw[B4,lo];rfl
 have a3:dO (.d (.list one)) (.d (.list [b2])) M6=some (.d (.list (one++[b2])),M6):=qX (sz (by rw[lo2];omega))
 have ft:∀d∈one++[b2],Fit 30000 4 d:=fun d hd=>by
  rcases List.mem_append.mp hd with hd|hd
  .exact fo d hd
  .rw[List.mem_singleton.mp hd];exact f6
 generalize one++[b2]=two at a3 lo2 ft;obtain⟨c1,_,_,_⟩:=GY fo (by omega);obtain⟨_,c2,c3,l2⟩:=GY ft (by omega);have t2:∀N:Sto,gM [.d (.list two)] N=some (.d (.tuple two),N):=fun _=>rfl;obtain⟨w,M7,e7,f7,s7⟩:=NQ (ns:=ns) 4 3 (by decide) s6;have e7:dE 4 [.c i,Sc ns,I 3] M6=some (.d w,M7):=e7;refine⟨[.list one,.tuple two,dS (.tuple two),w,.int 7,.none],M7,?_,fun x hx=>?_,rfl,s7⟩
 .simp![eB,lG,fSl,dB,iG,e3,ln,lS,e4,slL,DM,q1,q2,e5,if_pos z1,Nat.zero_add,a1,a2,e6,a3,t2,l2,e7,if_pos z6]
 .simp only[List.mem_cons,List.not_mem_nil,or_false]at hx;rcases hx with rfl|rfl|rfl|rfl|rfl|rfl
  .exact c1
  .exact c2
  .exact c3
  .exact⟨f7.1.mono (by decide) (by decide),fun l e=>C9 (f7.2 l e) (by decide)⟩
  .exact⟨(Fit.int (cU (by decide))).mono (by decide) (by decide),fun l e=>by cases e⟩
  .exact⟨⟨rfl,by decide,by decide⟩,fun l e=>by cases e⟩
theorem aFz{Z:Sto}(n9:N<=9)(nc:Nc d):∃Z',vJ [g0,g1,g2,some (I N),g4,some (.d d),g6] Z=some (.nx [g0,g1,g2,some (I N),g4,some (.d d),some (S d.shown)],Z'):=by
 obtain⟨p,hp⟩:=aBB N d;have v5:∀g Y,aD 5 [g0,g1,g2,some (I N),g4,some (.d d),g] Y=some (.d d,Y):=fun _ _=>rfl;have a1:bR (aI iS (aB (aD 5) aH)) (hName 6) [g0,g1,g2,some (I N),g4,some (.d d),g6] Z=some (.nx [g0,g1,g2,some (I N),g4,some (.d d),some (S d.shown)],Z):=tG (bI (aV (v5 g6 Z) bP) (vM nc.fit));obtain⟨γ,hγ⟩:∃γ:Ga,[g0,g1,g2,some (I N),g4,some (.d d),some (S d.shown)]=γ:=⟨_,rfl⟩;rw[hγ]at a1;have w3:∀Y,aD 3 γ Y=some (I N,Y):=fun Y=>by rw[<- hγ];rfl
 have w5:∀Y,aD 5 γ Y=some (.d d,Y):=fun Y=>by rw[<- hγ];rfl
 have w6:∀Y,aD 6 γ Y=some (S d.shown,Y):=fun Y=>by rw[<- hγ];rfl
 obtain⟨L1,e1⟩:=YU (M:=Z) n9 nc hp;obtain⟨L2,e2⟩:=aDR (M:=Z++L1) n9 nc hp;have t1:=uE (jV (k:=eqX true) (bI (F:=jG) (aV (w3 Z) (aV (w5 Z) bP)) e1) (bI (F:=kF) (aV (w3 _) (aV (w5 _) bP)) e2) aFp);have t2:=uE (jV (k:=eqX true) (bI (F:=iS) (aV (w5 (Z++L1++L2)) bP) (vM nc.fit)) (w6 _) aFp);refine⟨Z++L1++L2,?_⟩;rw[hγ];have hγ':[g0,g1,g2,some (I N),g4,some (.d d),g6].set 6 (some (S d.shown))=γ:=hγ;unfold vJ;rw[eF a1];refine(JF (M':=Z++L1++L2) ?_).trans rfl;unfold gOr;rw[t1];exact t2
noncomputable abbrev GL(g0 g1 g2 g3 g4 g5 g6:Option CD):Ga:=[g0,g1,g2,g3,g4,g5,g6]
theorem turn{ns:List Int}{k:Int}{g2 g3 g4 g5 g6:Option CD}{M:Sto}(k0:0<=k)(k1:k<5):
 ∃a2 a3 a4 a5 a6 M',vK (GL (some (Sc ns)) (some (I k)) g2 g3 g4 g5 g6) M=some (.nx (GL (some (Sc ns)) (some (I k)) a2 a3 a4 a5 a6),M'):=by
 obtain⟨M1,e1,s1⟩:=NU (ns:=ns) (M:=M) k0 (by omega);obtain⟨i,hi⟩:∃i,M.length=i:=⟨_,rfl⟩;rw[hi]at e1 s1;obtain⟨c,M2,e2,c0,c1,n2⟩:=dU (m:=9) s1 (by decide) (by decide);have s2:=n2.stm s1;obtain⟨N,hN⟩:∃N:Nat,1+c=(N:Int):=⟨(1+c).toNat,by omega⟩;have n9:N<=9:=by omega
 obtain⟨us,M3,e3,s3,ok,lu⟩:=yQ (n:=(N:Int)) s2 (by omega) (by omega);obtain⟨fr,nr⟩:=IE ok (by omega) lu;obtain⟨_,_,nl,el⟩:=GY fr (by rw[dC];omega);obtain⟨ds,M4,e4,nd,dl,s4⟩:=ND (ns:=ns) (n:=(N:Int)) s3 (by omega) (by omega);have a1:bR (aI dG (aB (aD 0) (aB (aD 1) aH))) (hName 2) (GL (some (Sc ns)) (some (I k)) g2 g3 g4 g5 g6) M=some (.nx (GL (some (Sc ns)) (some (I k)) (some (.c i)) g3 g4 g5 g6),M1):=tG (bI (aV (show aD 0 (GL (some (Sc ns)) (some (I k)) g2 g3 g4 g5 g6) M=some (Sc ns,M)from rfl) (aV (show aD 1 (GL (some (Sc ns)) (some (I k)) g2 g3 g4 g5 g6) M=some (I k,M)from rfl) bP)) e1);have ad1:dO (I 1) (I c) M2=some (I N,M2):=by rw[<- hN];exact lS
 have a2:bR (fOp dO (fC (.int 1)) (aI aU (aB (aD 2) (aB (fC (.int 9)) aH)))) (hName 3) (GL (some (Sc ns)) (some (I k)) (some (.c i)) g3 g4 g5 g6) M1=some (.nx (GL (some (Sc ns)) (some (I k)) (some (.c i)) (some (I N)) g4 g5 g6),M2):=tG (jV (k:=dO) (AA (i:=1)) (bI (F:=aU) (aV (show aD 2 (GL (some (Sc ns)) (some (I k)) (some (.c i)) g3 g4 g5 g6) M1=some (.c i,M1)from rfl) (aV (AA (i:=9)) bP)) e2) ad1);have a3:bR (aI dP (aB (aD 2) (aB (aD 3) aH))) (hName 4) (GL (some (Sc ns)) (some (I k)) (some (.c i)) (some (I N)) g4 g5 g6) M2=some (.nx (GL (some (Sc ns)) (some (I k)) (some (.c i)) (some (I N)) (some (.d (.list (aR us)))) g5 g6),M3):=tG (bI (aV (show aD 2 (GL (some (Sc ns)) (some (I k)) (some (.c i)) (some (I N)) g4 g5 g6) M2=some (.c i,M2)from rfl) (aV (show aD 3 (GL (some (Sc ns)) (some (I k)) (some (.c i)) (some (I N)) g4 g5 g6) M2=some (I N,M2)from rfl) bP)) e3);have v4:∀Z,aD 4 (GL (some (Sc ns)) (some (I k)) (some (.c i)) (some (I N)) (some (.d (.list (aR us)))) g5 g6) Z=some (.d (.list (aR us)),Z):=fun _=>rfl
 have l1:iK (aB (aD 4) (aB (aI (bE 6) (aB (aI gM (aB (aD 4) aH)) aH)) aH)) (GL (some (Sc ns)) (some (I k)) (some (.c i)) (some (I N)) (some (.d (.list (aR us)))) g5 g6) M3=some (.d (.list [.list (aR us),dS (.tuple (aR us))]),M3):=by
  unfold iK;rw[aV (v4 M3) (aV (bI (F:=bE 6) (aV (bI (F:=gM) (aV (v4 M3) bP) (show gM [.d (.list (aR us))] M3=some (.d (.tuple (aR us)),M3)from rfl)) bP) (el M3)) bP),A1];show(some [PyData.list (aR us),dS (.tuple (aR us))]).bind _=_;rw[A1];exact A3 (sz (show(2:Nat)<=1000 by decide))
 have th:=bI (F:=eB) (aV (show aD 2 (GL (some (Sc ns)) (some (I k)) (some (.c i)) (some (I N)) (some (.d (.list (aR us)))) g5 g6) M3=some (.c i,M3)from rfl) (aV (show aD 0 (GL (some (Sc ns)) (some (I k)) (some (.c i)) (some (I N)) (some (.d (.list (aR us)))) g5 g6) M3=some (Sc ns,M3)from rfl) (aV (show aD 3 (GL (some (Sc ns)) (some (I k)) (some (.c i)) (some (I N)) (some (.d (.list (aR us)))) g5 g6) M3=some (I N,M3)from rfl) bP))) e4;have ad:=jV (k:=dO) l1 th (qX (sz (by rw[B4,dl];show 2+6<=1000;decide)))
 have it:dD (fOp dO (iK (aB (aD 4) (aB (aI (bE 6) (aB (aI gM (aB (aD 4) aH)) aH)) aH))) (aI eB (aB (aD 2) (aB (aD 0) (aB (aD 3) aH))))) (GL (some (Sc ns)) (some (I k)) (some (.c i)) (some (I N)) (some (.d (.list (aR us)))) g5 g6) M3=some (([.list (aR us),dS (.tuple (aR us))]++ds).map .d,M4):=by
  unfold dD;rw[ad,A1];rfl
 have nc:∀d∈[.list (aR us),dS (.tuple (aR us))]++ds,Nc d:=fun d hd=>by
  rcases List.mem_append.mp hd with z|z
  .simp only[List.mem_cons,List.not_mem_nil,or_false]at z;rcases z with rfl|rfl
   .exact nr
   .exact nl
  .exact nd d z
 obtain⟨γ',M5,e5,h5,h6,rfl⟩:=xT (g:=hName 5) (b:=vJ) (fun γ _=>∃h h',γ=GL (some (Sc ns)) (some (I k)) (some (.c i)) (some (I N)) (some (.d (.list (aR us)))) h h') (([.list (aR us),dS (.tuple (aR us))]++ds).map .d) (fun x hx γ Z hI=>by
  obtain⟨h,h',rfl⟩:=hI;obtain⟨d,hd,rfl⟩:=List.mem_map.mp hx;obtain⟨Z',e⟩:=aFz (Z:=Z) (g0:=some (Sc ns)) (g1:=some (I k)) (g2:=some (.c i)) (g4:=some (.d (.list (aR us)))) (g6:=h') n9 (nc d hd);exact⟨_,Z,_,Z',rfl,e,_,_,rfl⟩) (GL (some (Sc ns)) (some (I k)) (some (.c i)) (some (I N)) (some (.d (.list (aR us)))) g5 g6) M4 ⟨_,_,rfl⟩
 refine⟨some (.c i),some (I N),some (.d (.list (aR us))),h5,h6,M5,?_⟩;unfold vK;rw[eF a1,eF a2,eF a3];exact tH it e5
theorem main(ns:List Int)(hl:ns.length<=63):∃M',F_law [.d (.list (ns.map .int))] []=some (.d (.bool true),M'):=by
 obtain⟨γ2,M2,e2,_⟩:=xT (g:=hName 1) (b:=vK) (fun γ _=>∃a1 a2 a3 a4 a5 a6,γ=GL (some (Sc ns)) a1 a2 a3 a4 a5 a6) (lH 0 5) (fun x hx γ N hI=>by
  obtain⟨a1,a2,a3,a4,a5,a6,rfl⟩:=hI;obtain⟨j,hj,rfl⟩:=VT hx;obtain⟨b2,b3,b4,b5,b6,M',e⟩:=turn (ns:=ns) (k:=0+(j:Int)) (g2:=a2) (g3:=a3) (g4:=a4) (g5:=a5) (g6:=a6) (M:=N) (by omega) (by omega);exact⟨_,N,_,M',rfl,e,_,_,_,_,_,_,rfl⟩) (GL (some (Sc ns)) none none none none none none) [] ⟨_,_,_,_,_,_,rfl⟩
 have rg:jK (aB (fC (.int 5)) aH) (GL (some (Sc ns)) none none none none none none) []=some (lH 0 5,[]):=rfl;refine⟨M2,uI rfl ?_⟩;show HS (GL (some (Sc ns)) none none none none none none) []=_;unfold HS;rw[eF (tH rg e2)];rfl
end Q64
end
end
open PySem PySem.W PyProof.Rows
set_option maxRecDepth 100000 in
set_option maxHeartbeats 0 in
theorem PySem.Challenge.cw_cutstree_k64_half_bound_holds : PySem.Challenge.rw_cutstree_k64_half_bound.Holds := by
 refine Q64.k_top ?_
 k_fill
 refine L2.law_walk (l:=PySem.Challenge.rw_cutstree_k64_half_bound) (F:=Q64.F_law) (k:=12) (p:="_law_script") (by decide +kernel) rfl rfl ⟨fun _=>rfl,by decide,by decide,rfl⟩ (fun w h Y=>PySem.W.kIn_of Y) ?T Q64.main
 case T=>
  intro w mg h KX G;refine Q64.fn_law (K:=_) (mg:=mg) ?TT
  refine' Q64.txt_mk KX G ?v0 ?v1 ?v2 ?v3 ?v4 ?v5 ?v6 ?v7 ?v8 ?v9 ?v10 ?v11 ?v12 ?v13 ?v14 ?v15 ?v16 ?v17 ?v18 ?v19 ?v20 ?v21 ?v22 ?v23 ?v24 ?v25 ?v26 ?v27 ?v28 ?v29 ?v30 ?v31 ?v32 ?v33 ?v34 ?v35 ?v36 ?v37 ?v38 ?v39 ?v40 ?v41 ?v42 ?v43 ?v44 ?v45 ?v46 ?v47 ?v48 ?v49 ?v50 ?v51 ?v52 ?v53 ?v54 ?v55 ?v56 ?v57 ?v58 ?v59 ?v60 ?v61 ?v62 ?v63 ?v64 ?v65 ?v66 ?v67 ?v68 ?v69 ?v70 ?v71 ?v72 ?v73 ?v74 ?v75 ?v76 ?v77 ?v78 ?v79 ?v80
  (case v0|v1|v2|v3|v4|v5|v6|v7|v8|v9|v10|v11|v12|v13|v14|v15|v16|v18|v19|v20|v22|v23|v24|v25|v28|v31|v34|v37=>k_is)
  (case v17|v21|v26|v27|v29|v30|v32|v33|v35|v36|v38|v39|v40=>kernel_rfl)
  (case v41|v42|v43|v44|v45|v46|v47|v48|v49|v50|v51|v52|v53|v54|v55|v56|v57|v58|v59|v60|v61|v62|v63|v64|v65|v66|v67|v68|v69|v70|v71|v72|v73|v74|v75|v76|v77|v78|v79|v80=>exact L2.def_mk KX G (by k_is) (by k_is) (by k_is) (by k_is))