import PyProof.Rows.All
import OpenK.KLine
import OpenK.KWalk
import OpenK.KMore
import OpenK.KOwn
import OpenK.KRaise
import KE.KSortTup
import PyProof.EqAt
import PyProof.EqKinds
import PyProof.TupleCall
import PyProof.ReprLen
import KE.KIsAll
import PyProof.ExcArgsOwn
import PyProof.NsDelKeeps
import KE.KTryMore
import PyProof.InstStoreFacts
import PyProof.ExcInit
import PyProof.ExcClass2
import PyProof.Rows.ListMul
import PyProof.Draws
import PyProof.EnumMake
import PyProof.Rows.EnumRows
import KE.KItemsList
import PyProof.DictCompW
import PyProof.ListRange
import PyProof.ZipIter
import PyProof.AttrMissHeap
import KE.KDictOf
import KE.KUnpack
import PyProof.SetKind
import PyProof.Rows.SetFrom
import KE.KIntText
import PySem.Challenge.RW_cutstree_k63_demands_told
theorem ar1{α:Type}{P:List α->Prop}{us:List α}(hl:us.length=1)(h:∀a0,P [a0]):P us:=by
 rcases us with _|⟨a0,_|⟨c,r⟩⟩<;>first|exact h _|cases hl
theorem ar2{α:Type}{P:List α->Prop}{us:List α}(hl:us.length=2)(h:∀a0 a1,P [a0,a1]):P us:=by
 rcases us with _|⟨a0,_|⟨a1,_|⟨c,r⟩⟩⟩<;>first|exact h _ _|cases hl
theorem ar3{α:Type}{P:List α->Prop}{us:List α}(hl:us.length=3)(h:∀a0 a1 a2,P [a0,a1,a2]):P us:=by
 rcases us with _|⟨a0,_|⟨a1,_|⟨a2,_|⟨c,r⟩⟩⟩⟩<;>first|exact h _ _ _|cases hl
theorem ar4{α:Type}{P:List α->Prop}{us:List α}(hl:us.length=4)(h:∀a0 a1 a2 a3,P [a0,a1,a2,a3]):P us:=by
 rcases us with _|⟨a0,_|⟨a1,_|⟨a2,_|⟨a3,_|⟨c,r⟩⟩⟩⟩⟩<;>first|exact h _ _ _ _|cases hl
set_option hygiene false
local macro_rules | `(tactic| sleep 990) => `(tactic| exact ⟨rfl, rfl, rfl, by decide +kernel, rfl, by decide +kernel, by decide +kernel⟩)
local macro_rules | `(tactic| sleep 991) => `(tactic| (intro _ _ _ _ _ _ _ hl; apply ar1 hl; intros; rfl))
local macro_rules | `(tactic| sleep 992) => `(tactic| (intro _ _ _ _ _ _ _ hl; apply ar2 hl; intros; rfl))
local macro_rules | `(tactic| sleep 993) => `(tactic| (intro _ _ _ _ _ _ _ hl; apply ar3 hl; intros; rfl))
local macro_rules | `(tactic| sleep 994) => `(tactic| (intro _ _ _ _ _ _ _ hl; apply ar4 hl; intros; rfl))
set_option hygiene true
set_option Elab.async false
section
set_option maxRecDepth 100000
set_option maxHeartbeats 0
namespace Q63
open PySem
noncomputable def qv:Program:={ PySem.Challenge.rw_cutstree_k63_demands_told.prog with main:={ PySem.Challenge.rw_cutstree_k63_demands_told.prog.main with body:=(((((PySem.Challenge.rw_cutstree_k63_demands_told.prog.main.body.eraseIdx 21).eraseIdx 16).eraseIdx 14).eraseIdx 7).eraseIdx 0) } }
end Q63
open PySem PySem.W PyProof.Rows
local macro_rules | `(tactic| o_head $H) => `(tactic| (
 refine holds_open (r:=PySem.Challenge.rw_cutstree_k63_demands_told.row) (q:=Q63.qv) (loose:=[]) (Xt:=fun s=>xlAt Q63.qv [] s&&recOk (RowW.records (OpenRow.toRowW PySem.Challenge.rw_cutstree_k63_demands_told.row)) s) (XP:=XL Q63.qv []) (Yf:=Hook.obs $H) (Ya:=Hook.val $H) (YP:=Hook.says $H) (N:=6100) ?hl (Hook.of $H) (Hook.keeps $H) (fun s e=>xl_of s (Bool.and_eq_true_iff.mp e).1) XL.keeps (by rfl) (by rfl) (by rfl) (fun s e=>recFacts_of (Bool.and_eq_true_iff.mp e).2) (by rfl) (by first|assumption|decide +kernel) (by decide +kernel) ⟨rfl,rfl,rfl,rfl,rfl,by decide +kernel⟩ ?hw ?hc
 (case hl=>intro w;kernel_rfl)))
open_top Q63.k_top for PySem.Challenge.rw_cutstree_k63_demands_told
end
section
set_option linter.all false
set_option maxRecDepth 100000
set_option maxHeartbeats 4000000
noncomputable abbrev Fg:=PySem.W.Frag
noncomputable section
abbrev A0:=@PySem.wpAny_bind
abbrev A1:=@Bool.false_ne_true
abbrev A2:=@Option.bind_some
abbrev A3:=@List.length_map
abbrev A4:=@Nat.le_refl
abbrev A5:=@Array.getD_eq_getD_getElem?
abbrev A6:=@if_pos
abbrev A7:=@PySem.wpAny_pure
abbrev A8:=@Nat.lt_of_lt_of_le
abbrev A9:=@List.length_append
abbrev B0:=@if_neg
abbrev B1:=@Bool.and_eq_true
abbrev B2:=@PySem.Heap.get?_push_of_some
abbrev B3:=@PySem.Heap.lt_size
abbrev B4:=@List.mem_append_right
abbrev B5:=@List.getElem?_eq_getElem
abbrev B6:=@List.map_cons
abbrev B7:=@List.mem_cons_of_mem
abbrev B8:=@of_decide_eq_true
abbrev B9:=@List.size_toArray
abbrev C0:=@Nat.ne_of_lt
abbrev C1:=@List.length_cons
abbrev C2:=@List.mem_cons_self
abbrev C3:=@decide_eq_true
abbrev C4:=@List.lookup_cons
abbrev C5:=@Option.some.inj
abbrev C6:=@Nat.zero_le
abbrev C7:=@Nat.le_trans
abbrev C8:=@decide_eq_false
abbrev C9:=@List.mem_append_left
abbrev D0:=@Array.getElem?_toList
abbrev D1:=@PySem.Heap.get?_push_size
abbrev D2:=@PySem.W.mg_none_of
abbrev D3:=@List.length_take
abbrev D4:=@PySem.mem_of_lookup
abbrev D5:=@Array.length_toList
abbrev D6:=@List.getElem?_map
abbrev D7:=@Array.getElem?_eq_getElem
abbrev D8:=@PySem.wpAny_mono
abbrev D9:=@PySem.wpAny_truthy_bool
abbrev E1:=@List.length_singleton
abbrev E2:=@List.length_drop
abbrev E3:=@Int.emod_lt_of_pos
abbrev E4:=@List.mem_of_getElem?
abbrev E5:=@Bool.eq_iff_iff
abbrev E6:=@List.getElem?_set_self
abbrev E7:=@beq_self_eq_true
abbrev E8:=@List.getD_eq_getElem?_getD
abbrev E9:=@List.map_append
abbrev F0:=@Int.emod_nonneg
abbrev F4:=@Nat.lt_irrefl
abbrev F5:=@PyProof.Rows.slot_tuple_getitem
abbrev F6:=@List.filterMap_cons
abbrev F7:=@PySem.wpAny_newObj_type
abbrev F8:=@Nat.lt_succ_self
abbrev F9:=@List.append_nil
abbrev I0:=@PySem.sizeLine_eq
abbrev J0:=@List.append_assoc
abbrev J1:=@List.getElem?_set_ne
abbrev J2:=@PySem.wpAny_passesOwn
abbrev J3:=@PySem.PassesOwn.never
abbrev J4:=@PySem.wpAny_holding
abbrev J5:=@List.any_cons
abbrev J6:=@congrArg
abbrev J7:=@PySem.wpAny_standAt
abbrev J8:=@List.nodup_nil
abbrev J9:=@List.take_append_drop
abbrev L0:=@List.mem_of_mem_take
abbrev L1:=@List.mem_of_mem_drop
abbrev L3:=@PySem.wpAny_setState_of
abbrev L4:=@Nat.add_le_add_right
abbrev L5:=@Nat.not_lt_zero
abbrev L6:=@List.zip_eq_zipWith
abbrev L7:=@Int.toNat_of_nonneg
abbrev L8:=@List.getElem?_append_right
abbrev L9:=@PySem.boot_len
abbrev O0:=@PyProof.Rows.boot_tuple
namespace L2
variable{H:Hp}{s:Shared}{σ:St}{K:Fg}{A:Around}{pos:Pos}
open PySem PySem.Spec PyProof.Rows
noncomputable abbrev Key:=Sum Int Str
noncomputable def pC:Key->Value->Bool
 |.inl k,v=>Value.isInt k v
 |.inr x,v=>Value.isStrOf x v
noncomputable def XT(w:World):Key->Int
 |.inl k=>hashInt k
 |.inr x=>hashStr w x
theorem cC:∀{k:Key}{v:Value},pC k v=true->(∃i t,k=Sum.inl i/\v=Value.int i t)\/(∃x t,k=Sum.inr x/\v=Value.str x t)
 |.inl i,v=>fun h=>by
  obtain⟨t,e⟩:=Value.isInt_shape (k:=i) (v:=v) h;exact .inl ⟨i,t,rfl,e⟩
 |.inr x,v=>fun h=>by
  obtain⟨t,e⟩:=Value.isStrOf_shape (x:=x) (v:=v) h;exact .inr ⟨x,t,rfl,e⟩
theorem BW(i:Int)(t:Tok):pC (.inl i) (.int i t)=true:=by simp[pC,Value.isInt]
theorem CB(x:Str)(t:Tok):pC (.inr x) (.str x t)=true:=by simp[pC,Value.isStrOf]
theorem RF(a b:Int):decide ((Sum.inl a:Key)=Sum.inl b)=(a==b):=by
 by_cases e:a=b
 .subst e;simp
 .have h:¬(Sum.inl a:Key)=Sum.inl b:=fun q=>e (Sum.inl.inj q);rw[C8 h];exact(beq_eq_false_iff_ne.mpr e).symm
theorem RG(a b:Str):decide ((Sum.inr a:Key)=Sum.inr b)=decide (a=b):=by
 by_cases e:a=b
 .subst e;simp
 .have h:¬(Sum.inr a:Key)=Sum.inr b:=fun q=>e (Sum.inr.inj q);rw[C8 h,C8 e]
theorem PB(a:Int)(b:Str):decide ((Sum.inl a:Key)=Sum.inr b)=false:=C8 (fun q=>nomatch q)
theorem OL(a:Str)(b:Int):decide ((Sum.inr a:Key)=Sum.inl b)=false:=C8 (fun q=>nomatch q)
noncomputable def cM(prog:Program)(w:World):PySem.KeyKind prog w Key where
 is:=pC
 hash:=XT w
 inj:=fun v a b ha hb=>by
  rcases cC ha with⟨i,t,rfl,rfl⟩|⟨x,t,rfl,rfl⟩
  .rcases cC hb with⟨j,u,rfl,e⟩|⟨y,u,rfl,e⟩
   .injection e with e1 _;rw[e1]
   .exact nomatch e
  .rcases cC hb with⟨j,u,rfl,e⟩|⟨y,u,rfl,e⟩
   .exact nomatch e
   .injection e with e1 _;rw[e1]
 byValue:=fun k v h=>by
  rcases cC h with⟨i,t,rfl,rfl⟩|⟨x,t,rfl,rfl⟩<;>rfl
 pyHash:=fun hv h=>by
  rcases cC hv with⟨i,t,rfl,rfl⟩|⟨x,t,rfl,rfl⟩
  .exact wpAny_pyHash_int h
  .exact wpAny_pyHash_str h
 eqBool:=fun hu hv h=>by
  rcases cC hu with⟨i,t,rfl,rfl⟩|⟨x,t,rfl,rfl⟩
  .rcases cC hv with⟨j,u,rfl,rfl⟩|⟨y,u,rfl,rfl⟩
   .rw[RF]at h;exact wpAny_eqBool_int h
   .rw[PB]at h;exact SeqAt.EqAt.int_str i t y u _ _ _ _ h
  .rcases cC hv with⟨j,u,rfl,rfl⟩|⟨y,u,rfl,rfl⟩
   .rw[OL]at h;exact SeqAt.EqAt.str_int x t j u _ _ _ _ h
   .rw[RG]at h;exact wpAny_eqBool_str h
 «strs»:=fun k x t v h=>by
  rcases cC h with⟨i,u,rfl,e⟩|⟨y,u,rfl,e⟩
  .exact nomatch e
  .injection e with e1 _
   subst e1;cases v<;>rfl
theorem xF(prog:Program)(w:World)(i:Int)(t:Tok):(cM prog w).is (.inl i) (.int i t)=true:=BW i t
theorem xA(prog:Program)(w:World)(x:Str)(t:Tok):(cM prog w).is (.inr x) (.str x t)=true:=CB x t
inductive V where
 |non|bl (b:Bool)|int (i:Int)|str (x:Str)|byt (b:Array UInt8)|flt (b:UInt64)|ref (a:Addr)|ty (n:String)
 deriving DecidableEq
noncomputable def RelV:V->Value->Prop
 |.non,u=>u=Value.none
 |.bl b,u=>u=Value.bool b
 |.int i,u=>∃t,u=Value.int i t
 |.str x,u=>∃t,u=Value.str x t
 |.byt b,u=>∃t,u=Value.bytes b t
 |.flt b,u=>∃t,u=Value.float b t
 |.ref a,u=>u=Value.ref a
 |.ty n,u=>u=Value.type n
noncomputable abbrev bH:List V->List Value->Prop:=Paired RelV
theorem bH.length{xs:List V}{us:List Value}(r:bH xs us):xs.length=us.length:=Paired.length r
theorem bH.get:∀{xs:List V}{us:List Value}{i:Nat}{x:V},bH xs us->xs[i]?=some x->∃u,us[i]?=some u/\RelV x u
 |_,_,_,_,.nil=>fun e=>by simp at e
 |_,_,0,_,.cons r _=>fun e=>by simp at e;subst e;exact⟨_,rfl,r⟩
 |_,_,i+1,x,.cons _ t=>fun e=>by
  obtain⟨u,h1,h2⟩:=bH.get (i:=i) (x:=x) t (by simpa using e);exact⟨u,by simpa using h1,h2⟩
theorem bH.set{x:V}{u:Value}(r:RelV x u):∀{xs:List V}{us:List Value}(i:Nat),bH xs us->bH (xs.set i x) (us.set i u)
 |_,_,_,.nil=>.nil
 |_,_,0,.cons _ t=>.cons r t
 |_,_,i+1,.cons q t=>.cons q (bH.set r i t)
theorem bH.append:∀{xs ys:List V}{us ws:List Value},bH xs us->bH ys ws->bH (xs++ys) (us++ws)
 |_,_,_,_,.nil=>fun s=>s
 |_,_,_,_,.cons r t=>fun s=>.cons r (bH.append t s)
theorem bH.take:∀{xs:List V}{us:List Value}(n:Nat),bH xs us->bH (xs.take n) (us.take n)
 |_,_,0,_=>.nil
 |_,_,_+1,.nil=>.nil
 |_,_,n+1,.cons r t=>.cons r (bH.take n t)
theorem bH.drop:∀{xs:List V}{us:List Value}(n:Nat),bH xs us->bH (xs.drop n) (us.drop n)
 |_,_,0,r=>r
 |_,_,_+1,.nil=>.nil
 |_,_,n+1,.cons _ t=>bH.drop n t
noncomputable def UJ:Option V->Option Value->Prop
 |some v,some u=>RelV v u
 |none,none=>True
 |_,_=>False
noncomputable def KV{κ:Type}:List (κ×V)->List (κ×Value)->Prop:=Paired fun(p:κ×V)(q:κ×Value)=>p.1=q.1/\RelV p.2 q.2
noncomputable def kV:Key->V
 |.inl i=>.int i
 |.inr x=>.str x
inductive HO where
 |lst (xs:List V)
 |tup (xs:List V)
 |dK (kvs:List (Key×V))|dT (kvs:List (List Key×V))
 |set (S:Int->Bool) (n:Nat)
 |ins (C dx:Addr) (fs:List (Str×V))
 |own (x:Addr)
 |xd (fs:List (Str×V))
 |met (f x:Addr)
 |rng (lo hi:Int)
 |frz (o:Obj) (u:HO)
 |tbl (ps:Array Value)
 |ext (φ:Heap->Prop)
noncomputable abbrev Hp:=Addr->Option HO
noncomputable def upd(H:Hp)(a:Addr)(o:HO):Hp:=fun b=>if b=a then some o else H b
theorem bB{a:Addr}{o:HO}:upd H a o a=some o:=by unfold upd;rw[A6 rfl]
theorem aV{a b:Addr}{o:HO}(h:b≠a):upd H a o b=H b:=by unfold upd;rw[B0 h]
theorem aS{a b:Addr}{o:HO}(h:H a=some o)(h':H b=none):a≠b:=by
 intro e;subst e;rw[h]at h';cases h'
section
variable(P:Program)(w:World)
noncomputable def dS(H:Hp)(h:Heap)(a:Addr):HO->Prop
 |.lst xs=>xs.length<=sizeLine/\∃(its:List Value)(n:Nat),bH xs its/\h.get? a=some { cls:=.type "list",data:=.seq its.toArray n }
 |.tup xs=>xs.length<=sizeLine/\∃its:List Value,bH xs its/\IsTup h a its.toArray
 |.dK kvs=>kvs.length<=sizeLine/\(a==sysModules)=false/\∃vs,KV kvs vs/\h.DictOf (cM P w) a vs
 |.dT kvs=>kvs.length<=sizeLine/\(a==sysModules)=false/\∃xs:List (List Key×Addr×Value),
  Paired (fun(p:List Key×V)(q:List Key×Addr×Value)=>p.1=q.1/\H q.2.1=some (.tup (p.1.map kV))/\RelV p.2 q.2.2) kvs xs /\
  ∃o es ep,h.get? a=some o/\o.ExactDict/\o.data=.dict es ep/\es.toList=xs.map (entryOfKey (tupleKind (cM P w)))/\(xs.map (·.1)).Nodup
 |.set S n=>h.SetOf (intKind P w) a S n
 |.ins C dx fs=>H dx=some (.own a)/\fs.length<=1000/\dx≠a/\h.get? a=some (PySem.W.instObj C dx) /\
  ∃mA,h.Ns1 dx mA/\(∀f,UJ (fs.lookup f) (mA f))/\PySem.Within mA (fs.map (·.1))
 |.own _=>∃o,h.get? a=some o
 |.xd fs=>∃mA,h.Ns1 a mA/\∀f,UJ (fs.lookup f) (mA f)
 |.rng lo hi=>∃t u v,h.get? a=some { cls:=.type "range",data:=.fields #[.int lo t,.int hi u,.int 1 v] }
 |.frz o u=>h.get? a=some o/\dS H h a u
 |.tbl ps=>h.get? a=some { cls:=.none,data:=.fields ps }
 |.met f x=>h.get? a=some (PySem.W.methodObj (.ref f) (.ref x))
 |.ext φ=>φ h/\(∃o,h.get? a=some o)/\∀h1 h2:Heap,φ h1->(∀o,h1.get? a=some o->h2.get? a=some o)->φ h2
noncomputable def HOk(H:Hp)(h:Heap):Prop:=∀a o,H a=some o->dS P w H h a o
end
section
variable{P:Program}{w:World}{H H':Hp}{h h':Heap}{a:Addr}{o:HO}
theorem dS.lt(x:dS P w H h a o):a<h.objs.size:=by
 cases o with
 |lst xs=>obtain⟨_,_,_,_,e⟩:=x;exact B3 e
 |tup xs=>obtain⟨_,_,_,p⟩:=x;exact p.lt
 |dK kvs=>obtain⟨_,_,_,_,o,_,_,e,_⟩:=x;exact B3 e
 |dT kvs=>obtain⟨_,_,_,_,o,_,_,e,_⟩:=x;exact B3 e
 |set S n=>obtain⟨o,_,_,_,e,_⟩:=x;exact B3 e
 |ins C dx fs=>obtain⟨_,_,_,e,_⟩:=x;exact B3 e
 |own y=>obtain⟨_,e⟩:=x;exact B3 e
 |xd fs=>obtain⟨_,⟨_,_,_,e,_⟩,_⟩:=x;exact B3 e
 |rng lo hi=>obtain⟨_,_,_,e⟩:=x;exact B3 e
 |frz ob u=>obtain⟨e,_⟩:=x;exact B3 e
 |tbl ps=>exact B3 (show h.get? a=some _ from x)
 |met f y=>exact B3 (show h.get? a=some _ from x)
 |ext φ=>obtain⟨_,⟨_,e⟩,_⟩:=x;exact B3 e
theorem Paired.mapP{α β:Type}{F G:α->β->Prop}:∀{l₁:List α}{l₂:List β},Paired F l₁ l₂->(∀a b,F a b->G a b)->Paired G l₁ l₂
 |_,_,.nil=>fun _=>.nil
 |_,_,.cons r t=>fun f=>.cons (f _ _ r) (Paired.mapP t f)
theorem dS.stay(x:dS P w H h a o)(k:∀b u,(b=a\/H b=some (.own a))->h.get? b=some u->h'.get? b=some u)
 (ho:∀b,H b=some (.own a)->H' b=some (.own a)) (ht:∀b xs,H b=some (.tup xs)->H' b=some (.tup xs)):dS P w H' h' a o:=by
 induction o with
 |lst xs=>obtain⟨z,its,n,r,e⟩:=x;exact⟨z,its,n,r,k _ _ (.inl rfl) e⟩
 |tup xs=>obtain⟨z,its,r,ob,e,c⟩:=x;exact⟨z,its,r,ob,k _ _ (.inl rfl) e,c⟩
 |dK kvs=>obtain⟨z,y,vs,r,ob,es,ep,e,c⟩:=x;exact⟨z,y,vs,r,ob,es,ep,k _ _ (.inl rfl) e,c⟩
 |dT kvs=>
  obtain⟨z,y,xs,r,ob,es,ep,e,c⟩:=x;exact⟨z,y,xs,Paired.mapP r fun p q z=>⟨z.1,ht _ _ z.2.1,z.2.2⟩,ob,es,ep,k _ _ (.inl rfl) e,c⟩
 |set S n=>obtain⟨ob,es,ep,t,e,c⟩:=x;exact⟨ob,es,ep,t,k _ _ (.inl rfl) e,c⟩
 |ins C dx fs=>
  obtain⟨d,z,ne,e,mA,⟨od,es,ep,e2,c⟩,r⟩:=x;exact⟨ho _ d,z,ne,k _ _ (.inl rfl) e,mA,⟨od,es,ep,k _ _ (.inr d) e2,c⟩,r⟩
 |own y=>obtain⟨ob,e⟩:=x;exact⟨ob,k _ _ (.inl rfl) e⟩
 |xd fs=>obtain⟨mA,⟨od,es,ep,e,c⟩,r⟩:=x;exact⟨mA,⟨od,es,ep,k _ _ (.inl rfl) e,c⟩,r⟩
 |rng lo hi=>obtain⟨t,u,v,e⟩:=x;exact⟨t,u,v,k _ _ (.inl rfl) e⟩
 |frz ob u ih=>obtain⟨e,q⟩:=x;exact⟨k _ _ (.inl rfl) e,ih q⟩
 |tbl ps=>
  have e:h.get? a=some { cls:=.none,data:=.fields ps }:=x;show h'.get? a=some { cls:=.none,data:=.fields ps };exact k a _ (.inl rfl) e
 |met f y=>
  have e:h.get? a=some (PySem.W.methodObj (.ref f) (.ref y)):=x;show h'.get? a=some (PySem.W.methodObj (.ref f) (.ref y));exact k a _ (.inl rfl) e
 |ext φ=>obtain⟨p,⟨o,e⟩,st⟩:=x;exact⟨st _ _ p fun o q=>k _ _ (.inl rfl) q,⟨o,k _ _ (.inl rfl) e⟩,st⟩
theorem HOk.lt(x:HOk P w H h)(e:H a=some o):a<h.objs.size:=(x a o e).lt
theorem HOk.fresh(x:HOk P w H h)(e:h.objs.size<=a):H a=none:=by
 cases q:H a with
 |none=>rfl
 |some u=>exact absurd (A8 (x.lt q) e) (F4 _)
theorem HOk.kept(x:HOk P w H h)(k:∀b u,h.get? b=some u->h'.get? b=some u):HOk P w H h':=fun a o e=>
 (x a o e).stay (fun b u _ q=>k b u q) (fun _ q=>q) fun _ _ q=>q
theorem HOk.laid(x:HOk P w H h)(k:∀b u,h.get? b=some u->h'.get? b=some u)(hp:h.objs.size<=a)(new:dS P w (upd H a o) h' a o):HOk P w (upd H a o) h':=fun b u e=>by
 have hn:=x.fresh hp;by_cases hb:b=a
 .subst hb;rw[bB]at e;cases e;exact new
 .rw[aV hb]at e;exact(x b u e).stay (fun c v _ q=>k c v q) (fun c q=>by rw[aV (aS q hn)];exact q) fun c xs q=>by rw[aV (aS q hn)];exact q
end
noncomputable def Rd(H:Hp)(a:Addr)(u:HO):Prop:=H a=some u\/∃o,H a=some (.frz o u)
theorem Rd.ok{P:Program}{w:World}{h:Heap}{a:Addr}{u:HO}(r:Rd H a u)(x:HOk P w H h):dS P w H h a u:=by
 rcases r with r|⟨o,r⟩
 .exact x a u r
 .obtain⟨_,q⟩:=x a _ r;exact q
noncomputable def Mut:Option HO->Prop
 |some (.lst _)=>True
 |some (.dK _)=>True
 |some (.dT _)=>True
 |some (.set _ _)=>True
 |some (.ins _ _ _)=>True
 |some (.ext _)=>True
 |_=>False
section
variable{P:Program}{w:World}{H:Hp}{h h':Heap}{x e:Addr}{o':HO}
theorem HOk.write(ok:HOk P w H h)(mu:Mut (H x))(he:e=x\/H e=some (.own x))(k:∀b u,b≠e->h.get? b=some u->h'.get? b=some u)(heo:∃u,h'.get? e=some u)
 (new:dS P w (upd H x o') h' x o'):HOk P w (upd H x o') h':=fun b u q=>by
 have nown:∀c y,H c=some (.own y)->c≠x:=fun c y r z=>by subst z;rw[r]at mu;exact mu
 have ntup:∀c xs,H c=some (.tup xs)->c≠x:=fun c xs r z=>by subst z;rw[r]at mu;exact mu
 by_cases hb:b=x
 .subst hb;rw[bB]at q;cases q;exact new
 .rw[aV hb]at q;by_cases hbe:b=e
  .have q':H b=some (.own x):=by
    rcases he with z|z
    .exact absurd (hbe.trans z) hb
    .rw[hbe];exact z
   rw[q]at q';cases q';obtain⟨v,hv⟩:=heo;exact⟨v,by rw[hbe];exact hv⟩
  .refine(ok b u q).stay (fun c v hc r=>k c v ?_ r) (fun c r=>by rw[aV (nown c b r)];exact r) fun c xs r=>by rw[aV (ntup c xs r)];exact r
   rcases hc with rfl|hc
   .exact hbe
   .rintro rfl;rcases he with z|z
    .exact nown c b hc z
    .rw[hc]at z;cases z;exact hb rfl
end
structure Un(fs ex:List Addr)(H H':Hp)(h h':Heap):Prop where
 keep:∀b o,h.get? b=some o->H b=none->b∉fs->b∉ex->h'.get? b=some o
 slot:∀b o,h.get? b=some o->H b=none->b∈fs->b∉ex->∃sl,h'.get? b=some { o with slots:=sl }
 free:∀b o,h.get? b=some o->H b=none->b∉ex->H' b=none
 there:∀b o,h.get? b=some o->b∉ex->∃o',h'.get? b=some o'
 tups:∀b xs,H b=some (.tup xs)->H' b=some (.tup xs)
 frzs:∀b o u,H b=some (.frz o u)->H' b=some (.frz o u)
 tbls:∀b ps,H b=some (.tbl ps)->∃more,H' b=some (.tbl (ps++more))
section
variable{fs fs' ex ex':List Addr}{H H1 H2:Hp}{h h1 h2 h':Heap}{a x e:Addr}{o:HO}
theorem Un.any(u:Un fs ex H H1 h h1){b:Addr}{ob:Obj}(q:h.get? b=some ob)(n:H b=none)(hx:b∉ex):∃sl,h1.get? b=some { ob with slots:=sl }:=by
 by_cases hb:b∈fs
 .exact u.slot b ob q n hb hx
 .exact⟨ob.slots,u.keep b ob q n hb hx⟩
theorem Un.kept(k:∀b u,h.get? b=some u->h'.get? b=some u):Un fs ex H H h h':=
 ⟨fun b ob q _ _ _=>k b ob q,fun b ob q _ _ _=>⟨ob.slots,k b ob q⟩,fun _ _ _ n _=>n,fun b ob q _=>⟨ob,k b ob q⟩,fun _ _ q=>q,fun _ _ _ q=>q,fun _ ps q=>⟨#[],by rw[q];simp⟩⟩
theorem Un.refl:Un fs ex H H h h:=Un.kept fun _ _ q=>q
theorem Un.laid(k:∀b u,h.get? b=some u->h'.get? b=some u)(hp:h.objs.size<=a)(hn:H a=none):Un fs ex H (upd H a o) h h' where
 keep:=fun b u q _ _ _=>k b u q
 slot:=fun b u q _ _ _=>⟨u.slots,k b u q⟩
 free:=fun b u q n _=>by rw[aV (C0 (A8 (B3 q) hp))];exact n
 there:=fun b u q _=>⟨u,k b u q⟩
 tups:=fun b xs q=>by rw[aV (aS q hn)];exact q
 frzs:=fun b u xs q=>by rw[aV (aS q hn)];exact q
 tbls:=fun b ps q=>⟨#[],by rw[aV (aS q hn),q];simp⟩
theorem Un.write(mu:Mut (H x))(he:e=x\/H e=some (.own x))(k:∀b u,b≠e->h.get? b=some u->h'.get? b=some u)(heo:∃u,h'.get? e=some u):Un fs ex H (upd H x o) h h':=by
 have hx:∀b,H b=none->b≠x:=fun b n z=>by subst z;rw[n]at mu;exact mu
 have hb:∀b,H b=none->b≠e:=fun b n z=>by
  subst z;rcases he with r|r
  .exact hx b n r
  .rw[n]at r;cases r
 have hm:∀b u,H b=some u->¬Mut (some u)->b≠x:=fun b u q nm z=>by subst z;rw[q]at mu;exact nm mu
 refine⟨fun b u q n _ _=>k b u (hb b n) q,fun b u q n _ _=>⟨u.slots,k b u (hb b n) q⟩,fun b u q n _=>by rw[aV (hx b n)];exact n,fun b u q _=>?_,
  fun b xs q=>by rw[aV (hm b _ q fun z=>z)];exact q,fun b u xs q=>by rw[aV (hm b _ q fun z=>z)];exact q,fun b ps q=>⟨#[],by rw[aV (hm b _ q fun z=>z),q];simp⟩⟩
 by_cases hbe:b=e
 .subst hbe;exact heo
 .exact⟨u,k b u hbe q⟩
end
noncomputable def trk(h:Heap)(H:Hp):List Addr:=(List.range h.objs.size).filter fun a=>(H a).isSome
noncomputable def tS(h:Heap)(H:Hp):Heap:=PySem.W.hideAll h (trk h H)
theorem BB(h:Heap)(H:Hp):(tS h H).objs.size=h.objs.size:=PySem.W.hideAll_size _ _
theorem GM{h:Heap}{b:Addr}{o:Obj}(e:h.get? b=some o)(n:H b=none):(tS h H).get? b=some o:=
 PySem.W.hideAll_get _ e fun hm=>by
  have q:(H b).isSome=true:=(List.mem_filter.mp hm).2;rw[n]at q;simp at q
theorem JQ{h:Heap}{b:Addr}{o:Obj}(e:(tS h H).get? b=some o):h.get? b=some o/\H b=none:=by
 have e':h.get? b=some o:=PySem.W.of_hideAll (trk h H) e;refine⟨e',?_⟩;cases q:H b with
 |none=>rfl
 |some x=>
  have hm:b∈trk h H:=List.mem_filter.mpr ⟨List.mem_range.mpr (B3 e'),by simp[q]⟩;have z:(tS h H).get? b=none:=PySem.W.hideAll_none (trk h H) hm;rw[z]at e;cases e
noncomputable def IJ(g h:Heap)(L:Addr):List (Addr×Obj):=(List.range h.objs.size).filterMap fun a=>if a=L\/(g.get? a).isSome=true then none else(h.get? a).map fun o=>(a,o)
noncomputable def rest(g h:Heap)(L d:Addr):List (Addr×Obj):=(IJ g h L).filter fun p=>decide (p.1≠d)
structure Mod(K:Fg)(mg:Str->Option Value)(base:Heap):Prop where
 kin:K.In base
 glob:base.Ns mainGlobals mg
 blt:∃mb,base.Ns builtinsNs mb/\∀x:Str,x≠"__name__"->mb x=bootBuiltins x
 nolimit:base.NoLimit
 sysm:∃o es ep,base.get? sysModules=some o/\o.data=.dict es ep
structure Cx where
 prog:Program
 w:World
 K:Fg
 mg:Str->Option Value
 base:Heap
 A:Around
 N:List Str
 s₀:Shared
 H₀:Hp
 env:Env
 outer:List Env
 stack:List Env
 ex:List Addr
 fn:Str->Bool
 calm:Bool
 pn:List (Addr×Obj)
 xe:Value->Shared->Prop
noncomputable def frs(l:List Env):List Addr:=l.filterMap (·.frame)
noncomputable abbrev Cx.fs(X:Cx):List Addr:=frs X.outer
noncomputable def Vis(sc:Scope)(x:Str):Prop:=sc.names.lookup x=some .local\/sc.names.lookup x=some .cell\/sc.names.lookup x=some .free
noncomputable def Loc(sc:Scope)(x:Str):Prop:=sc.names.lookup x=some .local\/sc.names.lookup x=some .cell
noncomputable def Look(env:Env)(h:Heap)(m:Str->Option Value)(x:Str)(u:Value):Prop:=
 (env.kindOf x=some .local/\m x=some u)\/((env.kindOf x=some .cell\/env.kindOf x=some .free)/\∃c,env.cells.lookup x=some c/\h.IsCell c (some u))
structure Cx.Ok(X:Cx):Prop where
 mod:Mod X.K X.mg X.base
 kind:X.env.scope.kind=.function
 glob:X.env.globals=mainGlobals
 blt:X.env.builtins=builtinsNs
 above:X.s₀.heap.objs.size<=X.env.locals
 inj:∀x y c,X.env.cells.lookup x=some c->X.env.cells.lookup y=some c->x=y
 has:∀x,(X.env.kindOf x=some .cell\/X.env.kindOf x=some .free)->∃c,X.env.cells.lookup x=some c
 cab:∀x c,X.fn x=true->X.env.cells.lookup x=some c->X.s₀.heap.objs.size<=c
 hd:X.calm=true->X.A.handled=none
 frames:X.A.frames=some X.stack
 stk:X.stack=X.outer\/(X.stack=X.env::X.outer/\X.env.frame=some X.env.locals)
 exf:∀b∈X.ex,b≠X.env.locals/\∀x c,X.env.cells.lookup x=some c->c≠b
 bs:∀b o,X.base.get? b=some o->X.s₀.heap.get? b=some o/\X.H₀ b=none
 bsz:X.base.objs.size<=X.s₀.heap.objs.size
 noex:∀b o,X.base.get? b=some o->b∉X.ex
 exfs:∀b∈X.ex,b∉X.fs
 funs:X.s₀.heap.FunFrames X.base X.outer
 frf:∀b∈X.fs,X.H₀ b=none
structure Inv(X:Cx)(pins:List (Addr×Obj))(σ:List (Option V))(H:Hp)(s:Shared):Prop where
 ok:X.Ok
 os:s.os=X.s₀.os
 bare:AllBare s.gens
 base:Un X.fs X.ex X.H₀ H X.s₀.heap s.heap
 loc:∃m,s.heap.Ns X.env.locals m/\∀(i:Nat)(x:Str)(v:V),X.N[i]?=some x->σ[i]?=some (some v)->Vis X.env.scope x->∃u,RelV v u/\Look X.env s.heap m x u
 cell:∀x c,X.env.cells.lookup x=some c->∃v,s.heap.IsCell c v
 free:H X.env.locals=none
 freeC:∀x c,X.env.cells.lookup x=some c->H c=none
 pin:∀p∈X.pn++pins,s.heap.get? p.1=some p.2/\H p.1=none/\p.1≠X.env.locals/\p.1∉X.fs/\∀v,p.2.data≠.cell v
 hok:HOk X.prog X.w H s.heap
 len:σ.length=X.N.length
section
variable{X:Cx}{pins:List (Addr×Obj)}{σ:List (Option V)}{H H':Hp}{s:Shared}{h':Heap}
theorem Cx.Ok.nofr(ok:X.Ok){b:Addr}{o:Obj}(e:X.base.get? b=some o):b∉X.fs:=fun hb=>by
 have:=(ok.funs.mem hb).1;rw[e]at this;cases this
theorem Inv.bs(I:Inv X pins σ H s):∀b o,X.base.get? b=some o->s.heap.get? b=some o/\H b=none:=fun b o e=>
 ⟨I.base.keep b o (I.ok.bs b o e).1 (I.ok.bs b o e).2 (I.ok.nofr e) (I.ok.noex b o e),I.base.free b o (I.ok.bs b o e).1 (I.ok.bs b o e).2 (I.ok.noex b o e)⟩
theorem Inv.bk(I:Inv X pins σ H s):∀b o,X.base.get? b=some o->s.heap.get? b=some o:=fun b o e=>(I.bs b o e).1
theorem Inv.mod(I:Inv X pins σ H s):Mod X.K X.mg X.base:=I.ok.mod
theorem Inv.kIn(I:Inv X pins σ H s):X.K.In s.heap:=I.ok.mod.kin.keeps I.bk
theorem Inv.lt(I:Inv X pins σ H s):X.env.locals<s.heap.objs.size:=let⟨_,hn,_⟩:=I.loc;hn.lt
theorem Inv.sz(I:Inv X pins σ H s):X.s₀.heap.objs.size<=s.heap.objs.size:=C7 I.ok.above (Nat.le_of_lt I.lt)
theorem Inv.nofs(I:Inv X pins σ H s){a:Addr}(h:s.heap.objs.size<=a):a∉X.fs:=fun hb=>by
 obtain⟨_,o,ho,_⟩:=I.ok.funs.mem hb;exact absurd (A8 (B3 ho) (C7 I.sz h)) (F4 _)
theorem Inv.cne(I:Inv X pins σ H s):∀x c,X.env.cells.lookup x=some c->c≠X.env.locals:=fun x c e z=>by
 obtain⟨v,o,ho,hd⟩:=I.cell x c e;obtain⟨m,⟨o',es,ep,ho',hd',_⟩,_⟩:=I.loc;rw[z,ho']at ho;cases ho;rw[hd']at hd;cases hd
theorem Inv.funs(I:Inv X pins σ H s):s.heap.FunFrames X.base X.outer:=by
 have all:∀(l:List Env),(∀b∈frs l,b∈X.fs)->X.s₀.heap.FunFrames X.base l->s.heap.FunFrames X.base l:=by
  intro l
  induction l with
  |nil=>intro _ _;trivial
  |cons env r ih=>
   intro hs hl;obtain⟨hk,⟨L,o,hf,hn,ho,hd⟩,hr⟩:=hl;have hL:L∈X.fs:=hs L (by unfold frs;rw[F6,hf];exact C2);obtain⟨sl,e⟩:=I.base.slot L o ho (I.ok.frf L hL) hL fun z=>I.ok.exfs L z hL;exact⟨hk,⟨L,_,hf,hn,e,hd⟩,ih (fun b hb=>hs b (by unfold frs;rw[F6,hf];exact B7 _ hb)) hr⟩
 exact all X.outer (fun _ hb=>hb) I.ok.funs
theorem Inv.stack(I:Inv X pins σ H s):s.heap.FunFrames X.base X.stack:=by
 rcases I.ok.stk with e|⟨e,hf⟩
 .rw[e];exact I.funs
 .rw[e];obtain⟨m,hn,_⟩:=I.loc;refine .cons (by rw[I.ok.kind];decide) hf hn ?_ I.funs;exact Heap.get?_none_of_le (C7 I.ok.bsz I.ok.above)
theorem Inv.stkSub(I:Inv X pins σ H s):∀b∈frs X.stack,b∈X.env.locals::X.fs:=fun b hb=>by
 rcases I.ok.stk with e|⟨e,hf⟩
 .rw[e]at hb;exact B7 _ hb
 .rw[e]at hb;unfold frs at hb;rw[F6,hf]at hb;exact hb
theorem Inv.stkFree(I:Inv X pins σ H s):∀b∈frs X.stack,H b=none:=fun b hb=>by
 rcases List.mem_cons.mp (I.stkSub b hb)with e|hb
 .rw[e];exact I.free
 .obtain⟨_,o,ho,_⟩:=I.ok.funs.mem hb;exact I.base.free b o ho (I.ok.frf b hb) fun z=>I.ok.exfs b z hb
theorem Inv.step{g':Array GenState}{t':Nat}{d':Drawn}{ch:List Addr}(I:Inv X pins σ H s)
 (hch:∀b∈ch,(b∈X.ex\/X.s₀.heap.objs.size<=b)/\b≠X.env.locals/\(∀x c,X.env.cells.lookup x=some c->c≠b)/\∀p∈X.pn++pins,p.1≠b)
 (keep:∀b o,b≠X.env.locals->b∉X.fs->b∉ch->s.heap.get? b=some o->H b=none->h'.get? b=some o)
 (slot:∀b o,b≠X.env.locals->b∈X.fs->b∉ch->s.heap.get? b=some o->H b=none->∃sl,h'.get? b=some { o with slots:=sl }) (free:∀b o,b∉ch->s.heap.get? b=some o->H b=none->H' b=none)
 (there:∀b o,b∉ch->s.heap.get? b=some o->∃o',h'.get? b=some o')
 (tups:∀b xs,H b=some (.tup xs)->H' b=some (.tup xs)) (frzs:∀b o u,H b=some (.frz o u)->H' b=some (.frz o u)) (tbls:∀b ps,H b=some (.tbl ps)->∃more,H' b=some (.tbl (ps++more)))
 (ns:∀m,s.heap.Ns X.env.locals m->h'.Ns X.env.locals m) (hok:HOk X.prog X.w H' h') (hg:AllBare g'):
 Inv X pins σ H' { s with heap:=h',gens:=g',drawn:=d',toks:=t' }:=by
 have neL:∀b o,X.s₀.heap.get? b=some o->b≠X.env.locals:=fun b o e=>C0 (A8 (B3 e) I.ok.above)
 have neC:∀b o,X.s₀.heap.get? b=some o->b∉X.ex->b∉ch:=fun b o e hx hb=>by
  rcases (hch b hb).1 with z|z
  .exact hx z
  .exact absurd (A8 (B3 e) z) (F4 _)
 have cellK:∀x c,X.env.cells.lookup x=some c->∀v,s.heap.IsCell c v->h'.IsCell c v:=fun x c e v ⟨o,ho,hd⟩=>by
  have nch:c∉ch:=fun z=>(hch c z).2.2.1 x c e rfl;by_cases hc:c∈X.fs
  .obtain⟨sl,q⟩:=slot c o (I.cne x c e) hc nch ho (I.freeC x c e);exact⟨_,q,hd⟩
  .exact⟨o,keep c o (I.cne x c e) hc nch ho (I.freeC x c e),hd⟩
 refine⟨I.ok,I.os,hg,⟨fun b o e n hb hx=>?_,fun b o e n hb hx=>?_,fun b o e n hx=>?_,fun b o e hx=>?_,fun b xs e=>tups b xs (I.base.tups b xs e),fun b o xs e=>frzs b o xs (I.base.frzs b o xs e),fun b ps e=>?_⟩,?_,fun x c e=>?_,?_,fun x c e=>?_,fun p hp=>?_,hok,I.len⟩
 .exact keep b o (neL b o e) hb (neC b o e hx) (I.base.keep b o e n hb hx) (I.base.free b o e n hx)
 .obtain⟨sl,e1⟩:=I.base.slot b o e n hb hx;obtain⟨sl',e2⟩:=slot b _ (neL b o e) hb (neC b o e hx) e1 (I.base.free b o e n hx);exact⟨sl',e2⟩
 .obtain⟨o',e1⟩:=I.base.there b o e hx;exact free b o' (neC b o e hx) e1 (I.base.free b o e n hx)
 .obtain⟨o',e1⟩:=I.base.there b o e hx;exact there b o' (neC b o e hx) e1
 .obtain⟨m1,e1⟩:=I.base.tbls b ps e;obtain⟨m2,e2⟩:=tbls b _ e1;exact⟨m1++m2,by rw[e2,Array.append_assoc]⟩
 .obtain⟨m,hn,hl⟩:=I.loc;refine⟨m,ns m hn,fun i x v e1 e2 e3=>?_⟩;obtain⟨u,r,l⟩:=hl i x v e1 e2 e3;refine⟨u,r,?_⟩;rcases l with l|⟨k,c,e,z⟩
  .exact .inl l
  .exact .inr ⟨k,c,e,cellK x c e _ z⟩
 .obtain⟨v,z⟩:=I.cell x c e;exact⟨v,cellK x c e v z⟩
 .obtain⟨m,⟨o,_,_,ho,_⟩,_⟩:=I.loc;exact free _ o (fun z=>(hch _ z).2.1 rfl) ho I.free
 .obtain⟨v,o,ho,hd⟩:=I.cell x c e;exact free c o (fun z=>(hch c z).2.2.1 x c e rfl) ho (I.freeC x c e)
 .obtain⟨e,n,ne,nf,d⟩:=I.pin p hp;have nch:p.1∉ch:=fun z=>(hch p.1 z).2.2.2 p hp rfl;exact⟨keep p.1 p.2 ne nf nch e n,free p.1 p.2 nch e n,ne,nf,d⟩
theorem Inv.un{t':Nat}(I:Inv X pins σ H s)(u:Un X.fs [] H H' s.heap h')(hok:HOk X.prog X.w H' h'):Inv X pins σ H' { s with heap:=h',toks:=t' }:=by
 obtain⟨m,⟨o,es,ep,ho,r⟩,_⟩:=id I.loc;obtain⟨sl,hL⟩:=u.any ho I.free (by simp)
 exact I.step (g':=s.gens) (d':=s.drawn) (ch:=[]) (fun _ z=>nomatch z) (fun b o _ hb _ e n=>u.keep b o e n hb (by simp)) (fun b o _ hb _ e n=>u.slot b o e n hb (by simp)) (fun b o _ e n=>u.free b o e n (by simp)) (fun b o _ e=>u.there b o e (by simp)) u.tups u.frzs u.tbls (fun m' hm=>by
  obtain⟨o',es',ep',ho',r'⟩:=hm;rw[ho]at ho';cases ho';exact⟨_,es',ep',hL,r'⟩) hok I.bare
theorem Inv.call{g':Array GenState}{t':Nat}{d':Drawn}{ch:List Addr}(I:Inv X pins σ H s)(u:Un (frs X.stack) ch H H' s.heap h')(hok:HOk X.prog X.w H' h')(hg:AllBare g')
 (hch:∀b∈ch,(b∈X.ex\/X.s₀.heap.objs.size<=b)/\b≠X.env.locals/\(∀x c,X.env.cells.lookup x=some c->c≠b)/\∀p∈X.pn++pins,p.1≠b):
 Inv X pins σ H' { s with heap:=h',gens:=g',drawn:=d',toks:=t' }:=by
 obtain⟨m,⟨o,es,ep,ho,r⟩,_⟩:=id I.loc;obtain⟨sl,hL⟩:=u.any ho I.free fun z=>(hch _ z).2.1 rfl
 exact I.step (ch:=ch) hch (fun b o hL hb hc e n=>u.keep b o e n (fun z=>(List.mem_cons.mp (I.stkSub b z)).elim hL hb) hc) (fun b o _ _ hc e n=>u.any e n hc) (fun b o hc e n=>u.free b o e n hc) (fun b o hc e=>u.there b o e hc) u.tups u.frzs u.tbls (fun m' hm=>by
  obtain⟨o',es',ep',ho',r'⟩:=hm;rw[ho]at ho';cases ho';exact⟨_,es',ep',hL,r'⟩) hok hg
theorem Inv.turned{t':Nat}{it:Addr}(I:Inv X pins σ H s)(k:∀b o,b≠it->s.heap.get? b=some o->h'.get? b=some o)(hn:H it=none)(hL:it≠X.env.locals)
 (h1:it∈X.ex\/X.s₀.heap.objs.size<=it) (h2:∀x c,X.env.cells.lookup x=some c->c≠it) (h3:∀p∈X.pn++pins,p.1≠it):Inv X pins σ H { s with heap:=h',toks:=t' }:=by
 have nit:∀b u,H b=some u->b≠it:=fun b u e z=>by rw[z,hn]at e;cases e
 refine I.step (g':=s.gens) (d':=s.drawn) (ch:=[it]) (fun b hb=>?_) (fun b o _ _ hc e _=>k b o (fun z=>hc (by simp[z])) e) (fun b o _ _ hc e _=>⟨o.slots,k b o (fun z=>hc (by simp[z])) e⟩) (fun _ _ _ _ n=>n)
  (fun b o hc e=>⟨o,k b o (fun z=>hc (by simp[z])) e⟩) (fun _ _ e=>e) (fun _ _ _ e=>e) (fun b ps e=>⟨#[],by rw[e];simp⟩) (fun m hm=>?_) (fun b u e=>?_) I.bare
 .have e:b=it:=by simpa using hb
  subst e;exact⟨h1,hL,h2,h3⟩
 .obtain⟨o,es,ep,ho,r⟩:=hm;exact⟨o,es,ep,k _ o (Ne.symm hL) ho,r⟩
 .refine(I.hok b u e).stay (fun c v hc q=>k c v ?_ q) (fun _ q=>q) fun _ _ q=>q;rcases hc with z|z
  .rw[z];exact nit b u e
  .exact nit c _ z
theorem Inv.tok(I:Inv X pins σ H s)(t:Nat):Inv X pins σ H { s with toks:=t }:=I.un (h':=s.heap) (t':=t) Un.refl I.hok
theorem Inv.kept{t':Nat}(I:Inv X pins σ H s)(k:∀b u,s.heap.get? b=some u->h'.get? b=some u):Inv X pins σ H { s with heap:=h',toks:=t' }:=I.un (Un.kept k) (I.hok.kept k)
theorem Inv.laid{a:Addr}{o:HO}{t':Nat}(I:Inv X pins σ H s)(k:∀b u,s.heap.get? b=some u->h'.get? b=some u)(hp:s.heap.objs.size<=a)(new:dS X.prog X.w (upd H a o) h' a o):
 Inv X pins σ (upd H a o) { s with heap:=h',toks:=t' }:=I.un (Un.laid k hp (I.hok.fresh hp)) (I.hok.laid k hp new)
theorem Inv.write{x e:Addr}{o:HO}{t':Nat}(I:Inv X pins σ H s)(mu:Mut (H x))(he:e=x\/H e=some (.own x))(k:∀b u,b≠e->s.heap.get? b=some u->h'.get? b=some u)(heo:∃u,h'.get? e=some u)
 (new:dS X.prog X.w (upd H x o) h' x o):Inv X pins σ (upd H x o) { s with heap:=h',toks:=t' }:=I.un (Un.write mu he k heo) (I.hok.write mu he k heo new)
theorem Inv.pins_of{pins':List (Addr×Obj)}(I:Inv X pins σ H s)(h:∀p∈pins',s.heap.get? p.1=some p.2/\H p.1=none/\p.1≠X.env.locals/\p.1∉X.fs/\∀v,p.2.data≠.cell v):Inv X pins' σ H s:=
 ⟨I.ok,I.os,I.bare,I.base,I.loc,I.cell,I.free,I.freeC,fun p hp=>(List.mem_append.mp hp).elim (fun z=>I.pin p (C9 _ z)) (h p),I.hok,I.len⟩
theorem wM{N:List Str}(hN:N.Nodup){i j:Nat}{x:Str}(a:N[i]?=some x)(b:N[j]?=some x):i=j:=by
 obtain⟨h1,e1⟩:=List.getElem?_eq_some_iff.mp a;obtain⟨h2,e2⟩:=List.getElem?_eq_some_iff.mp b;exact(List.getElem_inj hN).mp (e1.trans e2.symm)
theorem sY{M:Model}{A:Around}{E:Value->Shared->Prop}{i:Nat}{x:Str}{v:V}{u:Value}{Q:Unit->Shared->Prop}(I:Inv X pins σ H s)(hN:X.N.Nodup)(hi:X.N[i]?=some x)(hx:Loc X.env.scope x)(r:RelV v u)
 (h:∀s',Inv X pins (σ.set i (some v)) H s'->(∃a,Heap.SameBut a s.heap s'.heap/\(a=X.env.locals\/X.env.cells.lookup x=some a))->Q () s') (hf:X.fn x=true\/X.env.scope.names.lookup x=some .local:=by first|exact .inl rfl|exact .inr rfl|assumption):wpAny M A (storeName X.env x u) Q E s:=by
 obtain⟨m,hn,hl⟩:=id I.loc;have hcls:(X.env.scope.kind==.class || (X.env.scope.kind==.module&&X.env.locals != X.env.globals))=false:=by rw[I.ok.kind];rfl
 have hiσ:i<σ.length:=by rw[I.len];exact(List.getElem?_eq_some_iff.mp hi).1
 have cne:=I.cne
 have tracked:∀{a:Addr}{h':Heap},(∃o,s.heap.get? a=some o/\H a=none)->Heap.SameBut a s.heap h'->HOk X.prog X.w H h':=fun{a h'} ha hs b ob e=>by
  obtain⟨_,_,hfree⟩:=ha;refine(I.hok b ob e).stay (fun c w' hc q=>(hs.2 c ?_).trans q) (fun _ q=>q) fun _ _ q=>q;rintro rfl;rcases hc with rfl|hc
  .rw[hfree]at e;cases e
  .rw[hfree]at hc;cases hc
 rcases hx with hk|hk
 .refine wpAny_storeName_local hk hn (fun h' hn' hs=>?_) hcls;obtain⟨oL,_,_,hoL,_⟩:=id hn;refine h _ ⟨I.ok,I.os,I.bare,⟨fun b o e n hb hx=>?_,fun b o e n hb hx=>?_,I.base.free,fun b o e hx=>?_,I.base.tups,I.base.frzs,I.base.tbls⟩,⟨_,hn',fun j y v' e1 e2 e3=>?_⟩,fun y c e=>?_,I.free,I.freeC,fun p hp=>?_,tracked ⟨oL,hoL,I.free⟩ hs,by simpa using I.len⟩ ⟨_,hs,.inl rfl⟩
  .exact(hs.2 b (C0 (A8 (B3 e) I.ok.above))).trans (I.base.keep b o e n hb hx)
  .obtain⟨sl,e1⟩:=I.base.slot b o e n hb hx;exact⟨sl,(hs.2 b (C0 (A8 (B3 e) I.ok.above))).trans e1⟩
  .obtain⟨o',e1⟩:=I.base.there b o e hx;exact⟨o',(hs.2 b (C0 (A8 (B3 e) I.ok.above))).trans e1⟩
  .by_cases hj:j=i
   .subst hj;rw[hi]at e1;cases e1;rw[E6 hiσ]at e2;cases e2;exact⟨u,r,.inl ⟨hk,by simp⟩⟩
   .rw[J1 (Ne.symm hj)]at e2;obtain⟨u',r',q⟩:=hl j y v' e1 e2 e3;refine⟨u',r',?_⟩;rcases q with⟨k,e⟩|⟨k,c,e,z⟩
    .refine .inl ⟨k,?_⟩;have:y≠x:=fun e=>hj (wM hN e1 (e▸hi));simp[this,e]
    .exact .inr ⟨k,c,e,z.sameBut hs (cne y c e)⟩
  .obtain⟨w',z⟩:=I.cell y c e;exact⟨w',z.sameBut hs (cne y c e)⟩
  .obtain⟨e,n,ne,nf,d⟩:=I.pin p hp;exact⟨(hs.2 p.1 ne).trans e,n,ne,nf,d⟩
 .have hfn:X.fn x=true:=by
   rcases hf with z|z
   .exact z
   .rw[z]at hk;cases hk
  obtain⟨c,hc⟩:=I.ok.has x (.inl hk);obtain⟨w',z⟩:=I.cell x c hc;refine wpAny_storeName_cell I.ok.kind hk hc z (fun h' hc' hs=>?_);obtain⟨oc,hoc,hocd⟩:=id z;refine h { s with heap:=h' } ⟨I.ok,I.os,I.bare,⟨fun b o e n hb hx=>?_,fun b o e n hb hx=>?_,I.base.free,fun b o e hx=>?_,I.base.tups,I.base.frzs,I.base.tbls⟩,⟨m,hn.sameBut hs (Ne.symm (cne x c hc)),fun j y v' e1 e2 e3=>?_⟩,fun y c' e=>?_,I.free,I.freeC,fun p hp=>?_,tracked ⟨oc,hoc,I.freeC x c hc⟩ hs,by simpa using I.len⟩ ⟨c,hs,.inr hc⟩
  .exact(hs.2 b (C0 (A8 (B3 e) (I.ok.cab x c hfn hc)))).trans (I.base.keep b o e n hb hx)
  .obtain⟨sl,e1⟩:=I.base.slot b o e n hb hx;exact⟨sl,(hs.2 b (C0 (A8 (B3 e) (I.ok.cab x c hfn hc)))).trans e1⟩
  .obtain⟨o',e1⟩:=I.base.there b o e hx;exact⟨o',(hs.2 b (C0 (A8 (B3 e) (I.ok.cab x c hfn hc)))).trans e1⟩
  .by_cases hj:j=i
   .subst hj;rw[hi]at e1;cases e1;rw[E6 hiσ]at e2;cases e2;exact⟨u,r,.inr ⟨.inl hk,c,hc,hc'⟩⟩
   .rw[J1 (Ne.symm hj)]at e2;obtain⟨u',r',q⟩:=hl j y v' e1 e2 e3;refine⟨u',r',?_⟩;rcases q with q|⟨k,c',e,z'⟩
    .exact .inl q
    .refine .inr ⟨k,c',e,z'.sameBut hs ?_⟩;rintro rfl;exact hj (wM hN e1 (I.ok.inj _ _ _ e hc▸hi))
  .by_cases hcc:c'=c
   .subst hcc;exact⟨_,hc'⟩
   .obtain⟨w2,z2⟩:=I.cell y c' e;exact⟨w2,z2.sameBut hs hcc⟩
  .obtain⟨e,n,ne,nf,d⟩:=I.pin p hp;refine⟨(hs.2 p.1 ?_).trans e,n,ne,nf,d⟩;intro q;rw[q,hoc]at e;have q':oc=p.2:=C5 e;exact d w' (by rw[<- q'];exact hocd)
theorem nG{M:Model}{A:Around}{E:Value->Shared->Prop}{i:Nat}{x:Str}{v:V}{u:Value}{Q:Unit->Shared->Prop}(I:Inv X pins σ H s)(hN:X.N.Nodup)(hi:X.N[i]?=some x)(hx:Loc X.env.scope x)(r:RelV v u)
 (h:∀s',Inv X pins (σ.set i (some v)) H s'->Q () s') (hf:X.fn x=true\/X.env.scope.names.lookup x=some .local:=by first|exact .inl rfl|exact .inr rfl|assumption):wpAny M A (storeName X.env x u) Q E s:=
 sY I hN hi hx r (fun s' I' _=>h s' I') hf
end
noncomputable abbrev XK:=Value->Option Addr->Hp->Prop
noncomputable abbrev St:=List (Option V)
noncomputable abbrev VK:=V->Hp->Prop
noncomputable abbrev TE:=St->Hp->VK->Prop
noncomputable abbrev TT:=St->Hp->(Bool->Hp->Prop)->Prop
noncomputable abbrev TA:=St->Hp->(List V->Hp->Prop)->Prop
structure Ends where
 nx:St->Hp->Prop
 rt:VK
 bk:St->Hp->Prop:=fun _ _=>False
 ct:St->Hp->Prop:=fun _ _=>False
noncomputable abbrev TS:=Ends->St->Hp->Prop
noncomputable def EP(X:Cx)(pins:List (Addr×Obj))(σ:St)(Q:VK)(u:Value)(s':Shared):Prop:=∃v H',Inv X pins σ H' s'/\RelV v u/\Q v H'
noncomputable def TP(X:Cx)(pins:List (Addr×Obj))(σ:St)(Q:Bool->Hp->Prop)(b:Bool)(s':Shared):Prop:=∃H',Inv X pins σ H' s'/\Q b H'
noncomputable def AP(X:Cx)(pins:List (Addr×Obj))(σ:St)(Q:List V->Hp->Prop)(us:List Value)(s':Shared):Prop:=∃vs H',Inv X pins σ H' s'/\bH vs us/\Q vs H'
noncomputable def SP(X:Cx)(pins:List (Addr×Obj))(D:Ends)(f:Flow)(s':Shared):Prop:=
 match f with
 |.next=>∃σ' H',Inv X pins σ' H' s'/\D.nx σ' H'
 |.brk=>∃σ' H',Inv X pins σ' H' s'/\D.bk σ' H'
 |.cont=>∃σ' H',Inv X pins σ' H' s'/\D.ct σ' H'
 |.ret u=>∃v σ' H',Inv X pins σ' H' s'/\RelV v u/\D.rt v H'
noncomputable def PE(X:Cx)(e:Expr)(t:TE):Prop:=
 ∀(pins:List (Addr×Obj))(s:Shared)(σ:St)(H:Hp)(Q:VK),Inv X pins σ H s->t σ H Q->wpAny (model X.prog X.w) X.A (eval e X.env) (EP X pins σ Q) X.xe s
noncomputable def PT(X:Cx)(e:Expr)(t:TT):Prop:=
 ∀(pins:List (Addr×Obj))(s:Shared)(σ:St)(H:Hp)(Q:Bool->Hp->Prop),Inv X pins σ H s->t σ H Q->wpAny (model X.prog X.w) X.A (isTrue e X.env (eval e X.env)) (TP X pins σ Q) X.xe s
noncomputable def PW(X:Cx)(e:Expr)(t:TT):Prop:=
 ∀(whole:Sem Value)(pins:List (Addr×Obj))(s:Shared)(σ:St)(H:Hp)(Q:Bool->Hp->Prop),Inv X pins σ H s->t σ H Q->wpAny (model X.prog X.w) X.A (isTrue e X.env whole) (TP X pins σ Q) X.xe s
theorem PW.pt{X:Cx}{e:Expr}{t:TT}(h:PW X e t):PT X e t:=h _
noncomputable def PA(X:Cx)(es:List Expr)(t:TA):Prop:=
 ∀(pos:Pos)(pins:List (Addr×Obj))(s:Shared)(σ:St)(H:Hp)(Q:List V->Hp->Prop),Inv X pins σ H s->t σ H Q->wpAny (model X.prog X.w) X.A (spliced (backTo pos (starEach es X.env))) (AP X pins σ Q) X.xe s
noncomputable def PS(X:Cx)(st:Stmt)(t:TS):Prop:=
 ∀(pins:List (Addr×Obj))(s:Shared)(σ:St)(H:Hp)(D:Ends),Inv X pins σ H s->t D σ H->wpAny (model X.prog X.w) X.A (exec st X.env) (SP X pins D) X.xe s
noncomputable def PSs(X:Cx)(st:List Stmt)(t:TS):Prop:=
 ∀(pins:List (Addr×Obj))(s:Shared)(σ:St)(H:Hp)(D:Ends),Inv X pins σ H s->t D σ H->wpAny (model X.prog X.w) X.A (execs st X.env) (SP X pins D) X.xe s
theorem thn{α:Type}{t:Sem α}{Q Q':α->Shared->Prop}{M:Model}{E:Value->Shared->Prop}{s:Shared}(h:wpAny M A t Q E s)(hQ:∀a s,Q a s->Q' a s):wpAny M A t Q' E s:=D8 h hQ fun _ _ x=>x
section
variable{X:Cx}
theorem bin{a b:Expr}{ta tb:TE}(ha:PE X a ta)(hb:PE X b tb){pins:List (Addr×Obj)}{R:V->V->Hp->Prop}(I:Inv X pins σ H s)(h:ta σ H fun x H1=>tb σ H1 fun y H2=>R x y H2)
 {α:Type} {Q:α->Shared->Prop} {f:Value->Value->Sem α}
 (hf:∀v u s2 x y H2,Inv X pins σ H2 s2->RelV x v->RelV y u->R x y H2->wpAny (model X.prog X.w) X.A (f v u) Q X.xe s2):
 wpAny (model X.prog X.w) X.A (eval a X.env) (fun v s₁=>wpAny (model X.prog X.w) X.A (eval b X.env) (fun u s₂=>wpAny (model X.prog X.w) X.A (f v u) Q X.xe s₂) X.xe s₁) X.xe s:=by
 refine thn (ha pins s σ H _ I h) fun v s1 ⟨x,H1,I1,r1,q1⟩=>?_;refine thn (hb pins s1 σ H1 _ I1 q1) fun u s2 ⟨y,H2,I2,r2,q2⟩=>?_;exact hf v u s2 x y H2 I2 r1 r2 q2
noncomputable def WA(i:Nat):TE:=fun σ H Q=>∃v,σ[i]?=some (some v)/\Q v H
noncomputable def tC(v:V):TE:=fun _ H Q=>Q v H
theorem OW{i:Nat}{x:Str}(hN:X.N[i]?=some x)(hv:Vis X.env.scope x)(hd:(x==("__debug__":Str))=false:=by decide)(hcd:(x==("__classdict__":Str))=false:=by decide):PE X (.Name x pos) (WA i):=by
 intro pins s σ H Q I h;obtain⟨v,e,h⟩:=h;obtain⟨m,hn,hl⟩:=I.loc;obtain⟨u,r,l⟩:=hl i x v hN e hv;have fin:EP X pins σ Q u s:=⟨v,H,I,r,h⟩;rcases l with⟨hk,hm⟩|⟨hk,c,hc,hcell⟩
 .exact wpAny_Name (wpAny_loadName_local I.ok.kind hk hn hm fin) hd
 .rcases hk with hk|hk
  .exact wpAny_Name (wpAny_loadName_cell I.ok.kind hk hc hcell fin) hd
  .exact wpAny_Name (wpAny_loadName_free I.ok.kind hk hc hcell fin hcd) hd
theorem SL{i j pos}:PE X (.Constant (.int i) j pos) (tC (.int i)):=fun _ _ _ H _ I h=>wpAny_Constant_int ⟨.int i,H,I.tok _,⟨_,rfl⟩,h⟩
theorem WK{b j pos}:PE X (.Constant (.bool b) j pos) (tC (.bl b)):=fun _ _ _ H _ I h=>Constant_bool ⟨.bl b,H,I,rfl,h⟩
theorem RL{j pos}:PE X (.Constant .none j pos) (tC .non):=fun _ _ _ H _ I h=>Constant_none ⟨.non,H,I,rfl,h⟩
theorem NR{x j pos}:PE X (.Constant (.str x) j pos) (tC (.str x)):=fun _ _ _ H _ I h=>Calls.Constant_str ⟨.str x,H,I.tok _,⟨_,rfl⟩,h⟩
noncomputable def Gl(X:Cx)(x:Str):Prop:=X.env.kindOf x=some .globalImplicit
theorem zU{E:Value->Shared->Prop}{pins:List (Addr×Obj)}{x:Str}{u:Value}{pos:Pos}{Q:Value->Shared->Prop}(I:Inv X pins σ H s)(hg:Gl X x)(hm:X.mg x=some u)(h:Q u s)
 (hd:(x==("__debug__":Str))=false:=by decide):wpAny (model X.prog X.w) X.A (eval (.Name x pos) X.env) Q E s:=
 Calls.Name_function_global I.ok.kind hg (Calls.loadGlobal_global (by rw[I.ok.glob];exact I.mod.glob.keeps I.bk) hm h) hd
theorem tY{E:Value->Shared->Prop}{pins:List (Addr×Obj)}{x:Str}{u:Value}{pos:Pos}{Q:Value->Shared->Prop}(I:Inv X pins σ H s)(hg:Gl X x)(hm:X.mg x=none)(hv:bootBuiltins x=some u)(h:Q u s)
 (hn:x≠"__name__":=by decide) (hd:(x==("__debug__":Str))=false:=by decide):wpAny (model X.prog X.w) X.A (eval (.Name x pos) X.env) Q E s:=by
 obtain⟨mb,h1,h2⟩:=I.mod.blt;exact Calls.Name_function_global I.ok.kind hg (Calls.loadGlobal_builtin (by rw[I.ok.glob];exact I.mod.glob.keeps I.bk) hm (by rw[I.ok.blt];exact h1.keeps I.bk) ((h2 x hn).trans hv) h) hd
theorem JX{x:Str}{v:V}{u:Value}(hg:Gl X x)(hm:X.mg x=some u)(r:RelV v u)(hd:(x==("__debug__":Str))=false:=by decide):PE X (.Name x pos) (tC v):=
 fun _ _ _ H _ I h=>zU I hg hm ⟨v,H,I,r,h⟩ hd
theorem vD{x:Str}{v:V}{u:Value}(hg:Gl X x)(hm:X.mg x=none)(hv:bootBuiltins x=some u)(r:RelV v u)(hn:x≠"__name__":=by decide)(hd:(x==("__debug__":Str))=false:=by decide):PE X (.Name x pos) (tC v):=
 fun _ _ _ H _ I h=>tY I hg hm hv ⟨v,H,I,r,h⟩ hn hd
variable{a b:Expr}{ta tb:TE}{pos:Pos}
noncomputable def PC(X:Cx)(op:CmpOp)(a b:Expr)(t:TE):Prop:=
 ∀(pins:List (Addr×Obj))(s:Shared)(σ:St)(H:Hp)(Q:VK),Inv X pins σ H s->t σ H Q->
  wpAny (model X.prog X.w) X.A (eval a X.env) (fun v s₁=>wpAny (model X.prog X.w) X.A (eval b X.env) (fun u s₂=>wpAny (model X.prog X.w) X.A (compareOp op v u) (EP X pins σ Q) X.xe s₂) X.xe s₁) X.xe s
theorem GR(b:Expr){op:CmpOp}(h:op≠.In)(h2:op≠.NotIn):behindInMarks op b=false:=by
 have e1:(op==CmpOp.In)=false:=by cases op<;>first|rfl|exact absurd rfl h
 have e2:(op==CmpOp.NotIn)=false:=by cases op<;>first|rfl|exact absurd rfl h2
 cases b<;>simp[behindInMarks,e1,e2]
noncomputable def tB(t:TE):TT:=fun σ H Q=>t σ H fun x H1=>∃c,x=.bl c/\Q c H1
theorem pt_cmp{op:CmpOp}{t:TE}(h:PC X op a b t)(h1:behindInMarks op b=false:=by first|exact GR _ (by decide) (by decide)|rfl):PT X (.Compare a [op] [b] pos) (tB t):=by
 intro pins s σ H Q I hw;refine wpAny_isTrue_Compare1 (thn (h pins s σ H _ I hw) fun v s1 h1=>thn h1 fun u s2 h2=>thn h2 fun c s3 ⟨x,H1,I1,r1,q1⟩=>?_) h1;obtain⟨d,rfl,q⟩:=q1;cases r1;exact D9 ⟨H1,I1,q⟩
theorem PR{e:Expr}{t:TE}(h:PE X e t)(he:∀whole,isTrue e X.env whole=(do let v <- whole;standAt e.pos;holding [v] (truthy v)):=by intro _;rfl):PT X e (tB t):=by
 intro pins s σ H Q I hw;refine isTrue_plain (thn (h pins s σ H _ I hw) fun v s1 ⟨x,H1,I1,r1,q1⟩=>?_) (he _);obtain⟨d,rfl,q⟩:=q1;cases r1;exact D9 ⟨H1,I1,q⟩
variable{tA tB':TT}{rest:List Expr}
noncomputable def tOr(t u:TT):TT:=fun σ H Q=>t σ H fun c H1=>if c=true then Q true H1 else u σ H1 Q
noncomputable def VG(t:TT):TT:=fun σ H Q=>t σ H fun c H1=>Q (!c) H1
theorem SH(ha:PT X a tA):PW X (.BoolOp .Or [a] pos) tA:=by
 intro wh pins s σ H Q I h;refine isTrue_or (thn (ha pins s σ H Q I h) fun c s1 e=>?_);cases c with
 |false=>exact isTrue_or_nil e
 |true=>exact e
theorem UE(ha:PT X a tA)(hb:PW X (.BoolOp .Or (b::rest) pos) tB'):PW X (.BoolOp .Or (a::b::rest) pos) (tOr tA tB'):=by
 intro wh pins s σ H Q I h;refine isTrue_or (thn (ha pins s σ H _ I h) fun c s1 ⟨H1,I1,q1⟩=>?_);cases c with
 |true=>exact⟨H1,I1,q1⟩
 |false=>exact hb wh pins s1 σ H1 Q I1 q1
theorem NU(ha:PT X a tA):PT X (.UnaryOp .Not a pos) (VG tA):=by
 intro pins s σ H Q I h;exact isTrue_not (ha pins s σ H (fun c H1=>Q (!c) H1) I h)
noncomputable def MB(ta tb:TE):TE:=fun σ H Q=>ta σ H fun x H1=>∃c,x=.bl c/\if c=true then tb σ H1 Q else Q (.bl false) H1
noncomputable def WI(ta tb:TE):TE:=fun σ H Q=>ta σ H fun x H1=>∃c,x=.bl c/\if c=true then Q (.bl true) H1 else tb σ H1 Q
noncomputable def LH(ta:TE):TE:=fun σ H Q=>ta σ H fun x H1=>∃c,x=.bl c/\Q (.bl (!c)) H1
theorem PU{op}{t:TE}(h:PE X a t):PE X (.BoolOp op [a] pos) t:=fun pins s σ H Q I hw=>BoolOp_one (h pins s σ H Q I hw)
theorem SU(ha:PE X a ta)(hb:PE X (.BoolOp .And (b::rest) pos) tb):PE X (.BoolOp .And (a::b::rest) pos) (MB ta tb):=by
 intro pins s σ H Q I h;refine BoolOp_and (thn (ha pins s σ H _ I h) fun v s1 ⟨x,H1,I1,r1,q1⟩=>?_);obtain⟨c,rfl,q1⟩:=q1;cases r1;refine D9 ?_;cases c with
 |true=>exact hb pins s1 σ H1 Q I1 q1
 |false=>exact⟨.bl false,H1,I1,rfl,q1⟩
theorem VT(ha:PE X a ta)(hb:PE X (.BoolOp .Or (b::rest) pos) tb):PE X (.BoolOp .Or (a::b::rest) pos) (WI ta tb):=by
 intro pins s σ H Q I h;refine BoolOp_or (thn (ha pins s σ H _ I h) fun v s1 ⟨x,H1,I1,r1,q1⟩=>?_);obtain⟨c,rfl,q1⟩:=q1;cases r1;refine D9 ?_;cases c with
 |false=>exact hb pins s1 σ H1 Q I1 q1
 |true=>exact⟨.bl true,H1,I1,rfl,q1⟩
theorem QP(ha:PE X a ta):PE X (.UnaryOp .Not a pos) (LH ta):=by
 intro pins s σ H Q I h;refine UnaryOp_ (thn (ha pins s σ H _ I h) fun v s1 ⟨x,H1,I1,r1,q1⟩=>?_);obtain⟨c,rfl,q1⟩:=q1;cases r1;exact not_of (D9 ⟨.bl (!c),H1,I1,rfl,q1⟩)
noncomputable def tIf(t:TT)(ta tb:TE):TE:=fun σ H Q=>t σ H fun c H1=>if c=true then ta σ H1 Q else tb σ H1 Q
theorem CK{c:Expr}(hc:PT X c tA)(ha:PE X a ta)(hb:PE X b tb):PE X (.IfExp c a b pos) (tIf tA ta tb):=by
 intro pins s σ H Q I h;refine wpAny_IfExp (thn (hc pins s σ H _ I h) fun d s1 ⟨H1,I1,q1⟩=>?_);cases d with
 |true=>exact ha pins s1 σ H1 Q I1 q1
 |false=>exact hb pins s1 σ H1 Q I1 q1
end
noncomputable def SqL(K:Fg)(H:Hp)(a:Addr)(xs:List V):Prop:=
 Rd H a (.lst xs) \/
  ∃(o:Obj)(its:Array Value)(n:Nat),K.lookup a=some o/\o.cls=.type "list"/\o.dict=none/\o.data=.seq its n/\its.size<=sizeLine/\bH xs its.toList
noncomputable def SqT(K:Fg)(H:Hp)(a:Addr)(xs:List V):Prop:=
 Rd H a (.tup xs) \/
  ∃(o:Obj)(its:Array Value)(n:Nat),K.lookup a=some o/\o.cls=.type "tuple"/\o.data=.seq its n/\its.size<=sizeLine/\bH xs its.toList
noncomputable def XQ:Value->Option V
 |.none=>some .non
 |.bool b=>some (.bl b)
 |.int i _=>some (.int i)
 |.str x _=>some (.str x)
 |.bytes b _=>some (.byt b)
 |.float b _=>some (.flt b)
 |.ref a=>some (.ref a)
 |.type n=>some (.ty n)
 |_=>none
theorem RelV.abs{x:V}{u:Value}(r:RelV x u):XQ u=some x:=by
 cases x with
 |non=>cases r;rfl
 |bl _=>cases r;rfl
 |int _=>obtain⟨t,rfl⟩:=r;rfl
 |str _=>obtain⟨t,rfl⟩:=r;rfl
 |byt _=>obtain⟨t,rfl⟩:=r;rfl
 |flt _=>obtain⟨t,rfl⟩:=r;rfl
 |ref _=>cases r;rfl
 |ty _=>cases r;rfl
theorem RelV.inj{x y:V}{u:Value}(r:RelV x u)(q:RelV y u):x=y:=C5 (r.abs.symm.trans q.abs)
theorem bH.inj:∀{xs ys:List V}{us:List Value},bH xs us->bH ys us->xs=ys
 |_,_,_,.nil,.nil=>rfl
 |_,_,_,.cons r t,.cons r' t'=>by rw[r.inj r',bH.inj t t']
section
variable{X:Cx}{pins:List (Addr×Obj)}{σ:St}{H:Hp}{s:Shared}{a:Addr}{xs ys:List V}
theorem SqL.of(h:H a=some (.lst xs)):SqL K H a xs:=.inl (.inl h)
theorem SqT.of(h:H a=some (.tup xs)):SqT K H a xs:=.inl (.inl h)
theorem Inv.list(I:Inv X pins σ H s)(h:SqL X.K H a xs):∃its:List Value,bH xs its/\PlainL s.heap a its.toArray/\xs.length<=sizeLine:=by
 rcases h with h|⟨o,its,n,hk,hc,hd,hs,hz,r⟩
 .obtain⟨z,its,n,r,e⟩:=h.ok I.hok;exact⟨its,r,⟨_,n,e,rfl,rfl,rfl⟩,z⟩
 .refine⟨its.toList,r,⟨o,n,I.kIn a o hk,hc,hd,by simpa using hs⟩,?_⟩;have e:=r.length;simp only[Array.length_toList]at e;omega
theorem Inv.tuple(I:Inv X pins σ H s)(h:SqT X.K H a xs):∃its:List Value,bH xs its/\IsTup s.heap a its.toArray/\xs.length<=sizeLine:=by
 rcases h with h|⟨o,its,n,hk,hc,hs,hz,r⟩
 .obtain⟨z,its,r,p⟩:=h.ok I.hok;exact⟨its,r,p,z⟩
 .refine⟨its.toList,r,⟨o,I.kIn a o hk,hc,n,by simpa using hs⟩,?_⟩;have e:=r.length;simp only[Array.length_toList]at e;omega
theorem Inv.list_inj(I:Inv X pins σ H s)(h:SqL X.K H a xs)(h':SqL X.K H a ys):xs=ys:=by
 obtain⟨its,r,⟨o,n,e,_,_,d⟩,_⟩:=I.list h;obtain⟨its',r',⟨o',n',e',_,_,d'⟩,_⟩:=I.list h';rw[e]at e';cases e';rw[d]at d';injection d' with d1 _
 have:its=its':=by simpa using J6 Array.toList d1
 subst this;exact r.inj r'
theorem Inv.tuple_inj(I:Inv X pins σ H s)(h:SqT X.K H a xs)(h':SqT X.K H a ys):xs=ys:=by
 obtain⟨its,r,⟨o,e,_,n,d⟩,_⟩:=I.tuple h;obtain⟨its',r',⟨o',e',_,n',d'⟩,_⟩:=I.tuple h';rw[e]at e';cases e';rw[d]at d';injection d' with d1 _
 have:its=its':=by simpa using J6 Array.toList d1
 subst this;exact r.inj r'
end
noncomputable abbrev Cx.wish(X:Cx)(E:Value->Shared->Prop):Cx:={ X with xe:=E }
noncomputable abbrev Cx.nox(X:Cx):Cx:=X.wish fun _ _=>False
theorem Cx.Ok.wish{X:Cx}(ok:X.Ok)(E:Value->Shared->Prop):(X.wish E).Ok:=
 ⟨ok.mod,ok.kind,ok.glob,ok.blt,ok.above,ok.inj,ok.has,ok.cab,ok.hd,ok.frames,ok.stk,ok.exf,ok.bs,ok.bsz,ok.noex,ok.exfs,ok.funs,ok.frf⟩
theorem Cx.Ok.unwish{X:Cx}{E:Value->Shared->Prop}(ok:(X.wish E).Ok):X.Ok:=
 ⟨ok.mod,ok.kind,ok.glob,ok.blt,ok.above,ok.inj,ok.has,ok.cab,ok.hd,ok.frames,ok.stk,ok.exf,ok.bs,ok.bsz,ok.noex,ok.exfs,ok.funs,ok.frf⟩
section
variable{X:Cx}{pins:List (Addr×Obj)}{σ:St}{H:Hp}{s:Shared}{E:Value->Shared->Prop}
theorem Inv.wish(I:Inv X pins σ H s)(E:Value->Shared->Prop):Inv (X.wish E) pins σ H s:=⟨I.ok.wish E,I.os,I.bare,I.base,I.loc,I.cell,I.free,I.freeC,I.pin,I.hok,I.len⟩
theorem Inv.unwish(I:Inv (X.wish E) pins σ H s):Inv X pins σ H s:=⟨I.ok.unwish,I.os,I.bare,I.base,I.loc,I.cell,I.free,I.freeC,I.pin,I.hok,I.len⟩
theorem SP.unwish{D:Ends}{f:Flow}{s':Shared}(h:SP (X.wish E) pins D f s'):SP X pins D f s':=by
 cases f with
 |next=>obtain⟨σ',H',I,q⟩:=h;exact⟨σ',H',I.unwish,q⟩
 |brk=>obtain⟨σ',H',I,q⟩:=h;exact⟨σ',H',I.unwish,q⟩
 |cont=>obtain⟨σ',H',I,q⟩:=h;exact⟨σ',H',I.unwish,q⟩
 |ret u=>obtain⟨v,σ',H',I,r,q⟩:=h;exact⟨v,σ',H',I.unwish,r,q⟩
theorem PSs.nox{st:List Stmt}{t:TS}(h:PSs X.nox st t):PSs X st t:=fun pins s σ H D I hw=>
 D8 (h pins s σ H D (I.wish _) hw) (fun _ _ q=>q.unwish) fun _ _ z=>False.elim z
end
section
variable{X:Cx}{st:Stmt}{rest:List Stmt}{t u:TS}{e:Expr}{te:TE}{pos:Pos}
noncomputable def MV:TS:=fun D σ H=>D.nx σ H
noncomputable def UI(t u:TS):TS:=fun D σ H=>t { D with nx:=u D } σ H
theorem JC:PSs X [] MV:=fun _ _ σ H _ I h=>wpAny_execs_nil ⟨σ,H,I,h⟩
theorem GD(h1:PS X st t)(h2:PSs X rest u):PSs X (st::rest) (UI t u):=by
 intro pins s σ H D I h;refine wpAny_execs_cons (thn (h1 pins s σ H { D with nx:=u D } I h) fun f s1 q=>?_);cases f with
 |next=>
  obtain⟨σ',H',I',q⟩:=q;exact h2 pins s1 σ' H' D I' q
 |ret v=>exact q
 |brk=>exact q
 |cont=>exact q
theorem JP(h1:PS X st t):PSs X [st] t:=by
 intro pins s σ H D I h;refine wpAny_execs_cons (thn (h1 pins s σ H D I h) fun f s1 q=>?_);cases f with
 |next=>exact wpAny_execs_nil q
 |ret v=>exact q
 |brk=>exact q
 |cont=>exact q
theorem Inv.quiet{pins:List (Addr×Obj)}(I:Inv X pins σ H s):interactive X.env=false:=by simp[interactive,I.ok.kind]
noncomputable def LY(te:TE):TS:=fun D σ H=>te σ H fun _ H1=>D.nx σ H1
theorem KH(he:PE X e te)(hs:swapsWith e none pos.line X.env=pure false:=by rfl):PS X (.Expr e pos) (LY te):=by
 intro pins s σ H D I h;exact wpAny_Expr_any (thn (he pins s σ H _ I h) fun v s1 ⟨x,H1,I1,r1,q1⟩=>⟨σ,H1,I1,q1⟩) I.quiet hs
noncomputable def VP(te:TE):TS:=fun D σ H=>te σ H D.rt
theorem QB(he:PE X e te):PS X (.Return (some e) pos) (VP te):=by
 intro pins s σ H D I h;exact wpAny_Return_some (thn (he pins s σ H _ I h) fun v s1 ⟨x,H1,I1,r1,q1⟩=>⟨x,σ,H1,I1,r1,q1⟩)
noncomputable def SW(c:TT)(t u:TS):TS:=fun D σ H=>c σ H fun b H1=>if b=true then t D σ H1 else u D σ H1
theorem VW{c:Expr}{a b:List Stmt}{tc:TT}(hc:PT X c tc)(ha:PSs X a t)(hb:PSs X b u):PS X (.If c a b pos) (SW tc t u):=by
 intro pins s σ H D I h;refine wpAny_If (thn (hc pins s σ H _ I h) fun d s1 ⟨H1,I1,q1⟩=>?_);cases d with
 |true=>exact ha pins s1 σ H1 D I1 q1
 |false=>exact hb pins s1 σ H1 D I1 q1
end
noncomputable abbrev TG:=V->St->Hp->(St->Hp->Prop)->Prop
noncomputable abbrev TGs:=List V->St->Hp->(St->Hp->Prop)->Prop
noncomputable def PG(X:Cx)(target:Expr)(t:TG):Prop:=
 ∀(pins:List (Addr×Obj))(s:Shared)(σ:St)(H:Hp)(v:V)(u:Value)(Q:St->Hp->Prop),Inv X pins σ H s->RelV v u->t v σ H Q->
  wpAny (model X.prog X.w) X.A (assign target X.env u) (fun _ s'=>∃σ' H',Inv X pins σ' H' s'/\Q σ' H') X.xe s
noncomputable abbrev IE:=V->V->V->Hp->(Hp->Prop)->Prop
noncomputable def OM(X:Cx)(t:IE):Prop:=
 ∀(pins:List (Addr×Obj))(s:Shared)(σ:St)(H:Hp)(o i v:V)(ov iv u:Value)(Q:Hp->Prop),Inv X pins σ H s->RelV o ov->RelV i iv->RelV v u->t o i v H Q->
  wpAny (model X.prog X.w) X.A (setItem ov iv u) (fun _ s'=>∃H',Inv X pins σ H' s'/\Q H') X.xe s
section
variable{X:Cx}{pos:Pos}
noncomputable def xH(i:Nat):TG:=fun v σ H Q=>Q (σ.set i (some v)) H
theorem LA{i:Nat}{x:Str}(hN:X.N.Nodup)(hi:X.N[i]?=some x)(hx:Loc X.env.scope x)(hf:X.fn x=true\/X.env.scope.names.lookup x=some .local:=by first|exact .inl rfl|exact .inr rfl|assumption):PG X (.Name x pos) (xH i):=by
 intro pins s σ H v u Q I r h;exact wpAny_assign_Name (nG I hN hi hx r (fun s' I'=>⟨_,H,I',h⟩) hf)
noncomputable def TR(to ti:TE)(t:IE):TG:=fun v σ H Q=>to σ H fun o H1=>ti σ H1 fun i H2=>t o i v H2 fun H3=>Q σ H3
theorem QJ{o i:Expr}{to ti:TE}{t:IE}(ho:PE X o to)(hi:PE X i ti)(hs:OM X t)
 (ha:∀v,assign (.Subscript o i pos) X.env v=(do
  let ov <- holding [v] (eval o X.env);let iv <- holding [v,ov] (eval i X.env)
  standAt pos
  holding [v,ov,iv] (setItem ov iv v)
  release [v,ov,iv] []):=by intro _;rfl):PG X (.Subscript o i pos) (TR to ti t):=by
 intro pins s σ H v u Q I r h;rw[ha];refine A0 (J4 (thn (ho pins s σ H _ I h) fun ov s1 ⟨x,H1,I1,r1,q1⟩=>?_));refine A0 (J4 (thn (hi pins s1 σ H1 _ I1 q1) fun iv s2 ⟨y,H2,I2,r2,q2⟩=>?_));refine A0 (J7 (A0 (J4 (thn (hs pins s2 σ H2 x y v ov iv u _ I2 r1 r2 r q2) fun _ s3 ⟨H3,I3,q3⟩=>?_))));exact wpAny_release ⟨σ,H3,I3,q3⟩
noncomputable def JN(te:TE)(g:TG):TS:=fun D σ H=>te σ H fun x H1=>g x σ H1 D.nx
theorem NA{tg e:Expr}{te:TE}{g:TG}(he:PE X e te)(hg:PG X tg g)(hs:swapsWithSole [tg] e pos.line X.env=pure false:=by rfl)(hw:swappedStores [tg] e X.env=pure none:=by rfl)
 (h1:(assignEach [tg] X.env).map (·.2)=[assign tg X.env]:=by rfl):PS X (.Assign [tg] e pos) (JN te g):=by
 intro pins s σ H D I h;refine wpAny_Assign_stores (thn (he pins s σ H _ I h) fun v s1 ⟨x,H1,I1,r1,q1⟩=>?_) hs hw;rw[h1];exact thn (hg pins s1 σ H1 x v _ I1 r1 q1) fun _ s2 q=>q
theorem RS{i:Nat}{x:Str}{e:Expr}{te:TE}{pos':Pos}(hN:X.N.Nodup)(hi:X.N[i]?=some x)(hx:Loc X.env.scope x)(he:PE X e te)(hs:swapsWith e (some (.Name x pos')) pos.line X.env=pure false:=by rfl)(hf:X.fn x=true\/X.env.scope.names.lookup x=some .local:=by first|exact .inl rfl|exact .inr rfl|assumption):
 PS X (.Assign [.Name x pos'] e pos) (JN te (xH i)):=by
 intro pins s σ H D I h;refine wpAny_Assign_Name (thn (he pins s σ H _ I h) fun v s1 ⟨y,H1,I1,r1,q1⟩=>?_) hs;exact nG I1 hN hi hx r1 (fun s2 I2=>⟨_,H1,I2,q1⟩) hf
noncomputable def US(i j:Nat)(ta:TA):TS:=fun D σ H=>ta σ H fun vs H1=>∃v w,vs=[v,w]/\D.nx ((σ.set i (some v)).set j (some w)) H1
theorem OY{i j:Nat}{x y:Str}{a b:Expr}{ta:TA}{px py pt:Pos}{kt k2 pt2}(hc:X.calm=true)(hN:X.N.Nodup)(hi:X.N[i]?=some x)(hj:X.N[j]?=some y)(hij:i≠j)
 (hx:X.env.scope.names.lookup x=some .local) (hy:X.env.scope.names.lookup y=some .local) (ha:PA X [a,b] ta)
 (hw:swappedStores [.Tuple [.Name x px,.Name y py] kt pt] (.Tuple [a,b] k2 pt2) X.env=pure (some [x,y]))
 (hs:swapsWithSole [.Tuple [.Name x px,.Name y py] kt pt] (.Tuple [a,b] k2 pt2) pos.line X.env=pure false:=by rfl):
 PS X (.Assign [.Tuple [.Name x px,.Name y py] kt pt] (.Tuple [a,b] k2 pt2) pos) (US i j ta):=by
 intro pins s σ H D I h;rw[exec_Assign_arm];refine A0 (J7 ?_);rw[hs];refine A0 (A7 ?_);rw[B0 (by decide)];refine A0 (Tuple_ (thn (ha _ pins s σ H _ I h) fun us s1 ⟨vs,H1,I1,r1,q1⟩=>?_));obtain⟨v,w,e1,q1⟩:=q1;subst e1
 obtain⟨u1,u2,rfl,rv,rw'⟩:∃u1 u2,us=[u1,u2]/\RelV v u1/\RelV w u2:=by
  cases r1 with
  |cons p q=>
   cases q with
   |cons p' q'=>
    cases q';exact⟨_,_,rfl,p,p'⟩
 refine F7 ?_ (by show 2<=sizeLine;decide);have I2:Inv X pins σ H1 { s1 with heap:=s1.heap.push { cls:=.type "tuple",data:=.seq [u1,u2].toArray } }:=I1.kept (t':=s1.toks) fun b o e=>B2 _ e;rw[hw];refine A0 (A7 ?_);show wpAny (model X.prog X.w) X.A (do rule "assign.swapped-stores";let items <- unpackItems (.ref s1.heap.objs.size) 2 none;assignInOrder [fun v=>bindName X.env y v,fun v=>bindName X.env x v] items.reverse;pure Flow.next) _ _ _;refine A0 (wpAny_rule (A0 (unpackItems_tuple (items:=#[u1,u2]) (I.ok.hd hc) (IsTup.new s1.heap _) fun h' hx'=>?_)));have I3:=I2.kept (h':=h') (t':=s1.toks) fun b o e=>hx' b o (C0 (B3 e)) e;show wpAny _ _ (assignInOrder [fun v=>bindName X.env y v,fun v=>bindName X.env x v] [u2,u1] >>= fun _=>pure Flow.next) _ _ _;refine A0 (assignInOrder_cons (wpAny_bindName (nG I3 hN hj (.inl hy) rw' (fun s2 I4=>?_) (.inr hy))));refine assignInOrder_cons (wpAny_bindName (nG I4 hN hi (.inl hx) rv (fun s3 I5=>assignInOrder_nil (A7 ?_)) (.inr hx)));rw[List.set_comm _ _ (Ne.symm hij)]at I5;exact⟨_,H1,I5,q1⟩
end
section
variable{X:Cx}{pos:Pos}
noncomputable def DM(c:TT)(tb:TS):TS:=fun D σ H=>∃W:Nat->St->Hp->Prop,(∃m,W m σ H)/\∀m σ H,W m σ H->
 c σ H fun b H1=>if b=true then ∃N:St->Hp->Prop,(∀σ' H',N σ' H'->∃m',m'<m/\W m' σ' H')/\tb { D with nx:=N,ct:=N,bk:=D.nx } σ H1 else D.nx σ H1
theorem EG{c:Expr}{body:List Stmt}{tc:TT}{tb:TS}(hp:PassesOwn (model X.prog X.w) X.A X.env X.xe)(hc:PT X c tc)(hb:PSs X body tb):PS X (.While c body [] pos) (DM tc tb):=by
 intro pins s σ H D I h;obtain⟨W,⟨m0,w0⟩,turn⟩:=h;refine wpAny_While (codeAny_whileLoop (fun n s'=>∃σ' H',Inv X pins σ' H' s'/\W n σ' H') ?_ m0 ⟨σ,H,I,w0⟩);rintro n s1 ⟨σ1,H1,I1,w1⟩;refine J2 hp (thn (hc pins s1 σ1 H1 _ I1 (turn n σ1 H1 w1)) fun b s2 ⟨H2,I2,q2⟩=>?_);cases b with
 |true=>
  obtain⟨N,hN,q2⟩:=q2;rw[A6 rfl];refine J2 hp (thn (hb pins s2 σ1 H2 _ I2 q2) fun f s3 q3=>?_);cases f with
  |next=>
   obtain⟨σ3,H3,I3,n3⟩:=q3;obtain⟨m',hm,w3⟩:=hN σ3 H3 n3;exact⟨m',hm,σ3,H3,I3,w3⟩
  |cont=>
   obtain⟨σ3,H3,I3,n3⟩:=q3;obtain⟨m',hm,w3⟩:=hN σ3 H3 n3;exact⟨m',hm,σ3,H3,I3,w3⟩
  |brk=>exact q3
  |ret v=>exact q3
 |false=>
  rw[B0 A1];exact wpAny_execs_nil ⟨σ1,H2,I2,q2⟩
end
structure It where
 go:Nat->Hp->Prop
 yld:Nat->Hp->V->Hp->Prop
 stop:Nat->Hp->Prop
noncomputable def pK(X:Cx)(pins:List (Addr×Obj))(H:Hp)(b:Addr):Prop:=
 H b=none/\b≠X.env.locals/\b∉X.fs/\(b∈X.ex\/X.s₀.heap.objs.size<=b)/\(∀x c,X.env.cells.lookup x=some c->c≠b)/\∀p∈X.pn++pins,p.1≠b
theorem Inv.fpOk{X:Cx}{pins:List (Addr×Obj)}{H':Hp}{b:Addr}(I:Inv X pins σ H s)(hb:s.heap.objs.size<=b)(hn:H' b=none):pK X pins H' b:=by
 refine⟨hn,Nat.ne_of_gt (A8 I.lt hb),I.nofs hb,.inr (C7 I.sz hb),fun x c e z=>?_,fun p hp z=>?_⟩
 .obtain⟨v,q⟩:=I.cell x c e;exact absurd (A8 q.lt (by rw[z];exact hb)) (F4 _)
 .exact absurd (A8 (B3 (I.pin p hp).1) (by rw[z];exact hb)) (F4 _)
structure Turn(P:Program)(w:World)(K:Fg)(tg:Expr)(J:It)(fp:List Addr)(it:Addr)(tn:Nat->Heap->Prop):Prop where
 mem:it∈fp
 obj:∀i h,tn i h->∀b∈fp,∃o,h.get? b=some o/\∀v,o.data≠.cell v
 keep:∀i h h',tn i h->(∀b∈fp,∀o,h.get? b=some o->h'.get? b=some o)->tn i h'
 item:∀(X:Cx),X.prog=P->X.w=w->X.K=K->X.calm=true->∀(i:Nat)(pins:List (Addr×Obj))(s:Shared)(σ:St)(H:Hp)(E:Value->Shared->Prop),Inv X pins σ H s->(∀b∈fp,pK X pins H b)->tn i s.heap->J.go i H->
  wpAny (model P w) X.A (pyNext (.ref it)) (fun r s1=>∃u,r=some u /\
   wpAny (model P w) X.A (letOwnedTupleGo tg (.ref it) u) (fun _ s2=>∃x H',Inv X pins σ H' s2/\RelV x u/\J.yld i H x H'/\tn (i+1) s2.heap/\∀b∈fp,H' b=none) E s1) E s
 done:∀(X:Cx),X.prog=P->X.w=w->X.K=K->X.calm=true->∀(i:Nat)(pins:List (Addr×Obj))(s:Shared)(σ:St)(H:Hp)(E:Value->Shared->Prop),Inv X pins σ H s->(∀b∈fp,pK X pins H b)->tn i s.heap->J.stop i H->
  wpAny (model P w) X.A (pyNext (.ref it)) (fun r s1=>r=none/\Inv X pins σ H s1) E s
 self:∀(A:Around)(i:Nat)(s:Shared)(Q:Value->Shared->Prop)(E:Value->Shared->Prop),tn i s.heap->Q (.ref it) s->wpAny (model P w) A (pyIter (.ref it)) Q E s
noncomputable abbrev TI:=St->Hp->(It->Hp->Prop)->Prop
noncomputable def PIE(X:Cx)(pins:List (Addr×Obj))(σ:St)(tg:Expr)(R:It->Hp->Prop)(itv:Value)(s2:Shared):Prop:=
 ∃(it:Addr)(fp:List Addr)(tn:Nat->Heap->Prop)(J:It)(H':Hp),itv=.ref it/\Inv X pins σ H' s2/\Turn X.prog X.w X.K tg J fp it tn/\tn 0 s2.heap/\(∀b∈fp,pK X pins H' b)/\R J H'
noncomputable def PI(X:Cx)(tg iter:Expr)(wi:TI):Prop:=
 ∀(pins:List (Addr×Obj))(s:Shared)(σ:St)(H:Hp)(R:It->Hp->Prop),Inv X pins σ H s->wi σ H R->
  wpAny (model X.prog X.w) X.A (eval iter X.env) (fun v s1=>wpAny (model X.prog X.w) X.A (pyIter v) (PIE X pins σ tg R) X.xe s1) X.xe s
theorem DU{M:Model}{A:Around}{E:Value->Shared->Prop}{tg:Expr}{it:Addr}{u:Value}{o:Obj}{n:String}{vs:Array Value}{Q:Unit->Shared->Prop}(ho:s.heap.get? it=some o)(hc:o.cls=.type n)(hd:o.data=.fields vs)
 (hn:["enumerate","zip","dict_itemiterator","dict_reverseitemiterator","odict_iterator","itertools.zip_longest","itertools.pairwise"].contains n=false) (hQ:Q () s):wpAny M A (letOwnedTupleGo tg (.ref it) u) Q E s:=by
 unfold letOwnedTupleGo
 cases tg<;>first
  |exact A7 hQ
  |(cases u<;>first
   |exact A7 hQ
   | (refine A0 (wpAny_load ho ?_)
      rw[hc,hd];show wpAny M A (if (["enumerate","zip","dict_itemiterator","dict_reverseitemiterator","odict_iterator","itertools.zip_longest","itertools.pairwise"].contains n&&vs[0]?==some (rawInt _))=true then _ else _) Q E s;rw[B0 (by intro h;rw[hn,Bool.false_and]at h;cases h)];exact A7 hQ))
noncomputable def Itl(K:Fg)(a:Addr):It:=
 ⟨fun i H=>∃xs x,SqL K H a xs/\xs[i]?=some x,fun i H x H'=>H'=H/\∀xs,SqL K H a xs->xs[i]?=some x,fun i H=>∃xs,SqL K H a xs/\xs.length<=i⟩
noncomputable def Itt(K:Fg)(a:Addr):It:=
 ⟨fun i H=>∃xs x,SqT K H a xs/\xs[i]?=some x,fun i H x H'=>H'=H/\∀xs,SqT K H a xs->xs[i]?=some x,fun i H=>∃xs,SqT K H a xs/\xs.length<=i⟩
noncomputable def Itr(lo:Int)(n:Nat):It:=⟨fun i _=>i<n,fun i H x H'=>H'=H/\x=.int (lo+i),fun i _=>n<=i⟩
theorem BL{P:Program}{w:World}{tg:Expr}(a it:Addr):Turn P w K tg (Itl K a) [it] it (fun i h=>h.IsListIter it a i) where
 mem:=by simp
 obj:=fun i h st b hb=>by
  have e:b=it:=by simpa using hb
  subst e;obtain⟨o,e,c,d⟩:=st;exact⟨o,e,fun v z=>by rw[d]at z;cases z⟩
 keep:=fun i h h' st k=>st.at fun o e=>k it (by simp) o e
 item:=by
  intro X hP hw hK hc i pins s σ H E I hf st hg;subst hP hw hK;obtain⟨xs,x,hq,hx⟩:=hg;obtain⟨its,rv,p,hz⟩:=I.list hq;obtain⟨u,hu,ru⟩:=rv.get hx;obtain⟨f0,f1,f2,f3,f4,f5⟩:=hf it (by simp);refine wpAny_pyNext_list_item st p.isList (x:=u) (by simpa using hu) fun h' st' sb=>?_;have I1:Inv X pins σ H { s with heap:=h' }:=I.turned (t':=s.toks) (fun b o hb e=>(sb.2 b hb).trans e) f0 f1 f3 f4 f5;obtain⟨o,e,c,d⟩:=id st';exact⟨u,rfl,DU (s:={ s with heap:=h' }) e c d (by decide) ⟨x,H,I1,ru,⟨rfl,fun ys hy=>by rw[I.list_inj hy hq];exact hx⟩,st',fun b hb=>(hf b hb).1⟩⟩
 done:=by
  intro X hP hw hK hc i pins s σ H E I hf st hg;subst hP hw hK;obtain⟨xs,hq,hx⟩:=hg;obtain⟨its,rv,p,hz⟩:=I.list hq;obtain⟨f0,f1,f2,f3,f4,f5⟩:=hf it (by simp);have hl:=rv.length;exact wpAny_pyNext_list_end (I.ok.hd hc) st p.isList (by simp;omega) fun h' eb=>⟨rfl,I.turned (t':=s.toks) (fun b o hb e=>eb b o hb e) f0 f1 f3 f4 f5⟩
 self:=fun _ _ _ _ _ st h=>wpAny_pyIter_listiter st h
theorem xT{P:Program}{w:World}{tg:Expr}(a it:Addr):Turn P w K tg (Itt K a) [it] it (fun i h=>h.IsTupleIter it a i) where
 mem:=by simp
 obj:=fun i h st b hb=>by
  have e:b=it:=by simpa using hb
  subst e;obtain⟨o,e,c,d⟩:=st;exact⟨o,e,fun v z=>by rw[d]at z;cases z⟩
 keep:=fun i h h' st k=>st.at fun o e=>k it (by simp) o e
 item:=by
  intro X hP hw hK hc i pins s σ H E I hf st hg;subst hP hw hK;obtain⟨xs,x,hq,hx⟩:=hg;obtain⟨its,rv,p,hz⟩:=I.tuple hq;obtain⟨u,hu,ru⟩:=rv.get hx;obtain⟨f0,f1,f2,f3,f4,f5⟩:=hf it (by simp);refine wpAny_pyNext_tuple_item st (show s.heap.IsTuple a its.toArray from p) (x:=u) (by simpa using hu) fun h' st' sb=>?_;have I1:Inv X pins σ H { s with heap:=h' }:=I.turned (t':=s.toks) (fun b o hb e=>(sb.2 b hb).trans e) f0 f1 f3 f4 f5;obtain⟨o,e,c,d⟩:=id st';exact⟨u,rfl,DU (s:={ s with heap:=h' }) e c d (by decide) ⟨x,H,I1,ru,⟨rfl,fun ys hy=>by rw[I.tuple_inj hy hq];exact hx⟩,st',fun b hb=>(hf b hb).1⟩⟩
 done:=by
  intro X hP hw hK hc i pins s σ H E I hf st hg;subst hP hw hK;obtain⟨xs,hq,hx⟩:=hg;obtain⟨its,rv,p,hz⟩:=I.tuple hq;obtain⟨f0,f1,f2,f3,f4,f5⟩:=hf it (by simp);have hl:=rv.length;exact wpAny_pyNext_tuple_end (I.ok.hd hc) st (show s.heap.IsTuple a its.toArray from p) (by simp;omega) fun h' eb=>⟨rfl,I.turned (t':=s.toks) (fun b o hb e=>eb b o hb e) f0 f1 f3 f4 f5⟩
 self:=fun _ _ _ _ _ st h=>wpAny_pyIter_tupleiter st h
theorem xV{P:Program}{w:World}{tg:Expr}(it:Addr)(lo:Int)(n:Nat):Turn P w K tg (Itr lo n) [it] it (fun i h=>IsRangeIter h it (lo+(i:Nat)*1) ((n:Int)-(i:Nat)) 1) where
 mem:=by simp
 obj:=fun i h st b hb=>by
  have e:b=it:=by simpa using hb
  subst e
  exact⟨_,st,fun v z=>by
   have z':Data.fields _=Data.cell v:=z;cases z'⟩
 keep:=fun i h h' st k=>k it (by simp) _ st
 item:=by
  intro X hP hw hK hc i pins s σ H E I hf st hg;subst hP hw hK;obtain⟨f0,f1,f2,f3,f4,f5⟩:=hf it (by simp);have W:=Walks.range (prog:=X.prog) (w:=X.w) (I.ok.hd hc) it lo 1 n;refine W.item i s _ _ hg st fun v h' tk hv st' kk=>?_;obtain⟨t,rfl⟩:=hv;have I1:Inv X pins σ H { s with heap:=h',toks:=tk }:=I.turned (fun b o hb e=>kk b o (by simpa using hb) e) f0 f1 f3 f4 f5;refine⟨_,rfl,DU (s:={ s with heap:=h',toks:=tk }) (n:="range_iterator") st' rfl rfl (by decide) ⟨.int (lo+i),H,I1,⟨t,?_⟩,⟨rfl,rfl⟩,st',fun b hb=>(hf b hb).1⟩⟩;rw[Int.mul_one]
 done:=by
  intro X hP hw hK hc i pins s σ H E I hf st hg;subst hP hw hK;obtain⟨f0,f1,f2,f3,f4,f5⟩:=hf it (by simp);exact wpAny_pyNext_range_end (I.ok.hd hc) st (by have:n<=i:=hg;omega) fun h' eb=>⟨rfl,I.turned (t':=s.toks) (fun b o hb e=>eb b o hb e) f0 f1 f3 f4 f5⟩
 self:=fun _ _ _ _ _ st h=>wpAny_pyIter_rangeiter st h
section
variable{X:Cx}{tg:Expr}
theorem FV{pins:List (Addr×Obj)}{R:It->Hp->Prop}{E:Value->Shared->Prop}{lo hi:Int}{t u v:Tok}{tk:Nat}(I:Inv X pins σ H s)(h1:-(2 ^ 62)<=lo)(h2:lo<2 ^ 62)(h3:-(2 ^ 62)<=hi)(h4:hi<2 ^ 62)
 (q:R (Itr lo (hi-lo).toNat) H):wpAny (model X.prog X.w) X.A (pyIter (.ref s.heap.objs.size)) (PIE X pins σ tg R) E { s with heap:=s.heap.push { cls:=.type "range",data:=.fields #[.int lo t,.int hi u,.int 1 v] },toks:=tk }:=by
 refine wpAny_pyIter_range (IsRange.new ..) (small_one h1 h2 h3 h4) ?_;have I1:Inv X pins σ H { s with heap:=s.heap.push { cls:=.type "range",data:=.fields #[.int lo t,.int hi u,.int 1 v] },toks:=tk }:=I.kept fun b o e=>B2 _ e
 refine⟨(s.heap.push { cls:=.type "range",data:=.fields #[.int lo t,.int hi u,.int 1 v] }).objs.size,[(s.heap.push { cls:=.type "range",data:=.fields #[.int lo t,.int hi u,.int 1 v] }).objs.size],_,_,H,rfl,
  I1.kept (t':=tk) fun b o e=>B2 _ e,xV _ lo (hi-lo).toNat,?_,fun b hb=>?_,q⟩
 .have e1:lo+((0:Nat):Int)*1=lo:=by simp
  have e2:(((hi-lo).toNat:Nat):Int)-((0:Nat):Int)=Builtin.Range.rangeSize lo hi 1:=by rw[rangeSize_one];split<;>omega
  show IsRangeIter _ _ (lo+((0:Nat):Int)*1) ((((hi-lo).toNat:Nat):Int)-((0:Nat):Int)) 1;rw[e1,e2];exact D1 _ rfl
 .have e:b=(s.heap.push { cls:=.type "range",data:=.fields #[.int lo t,.int hi u,.int 1 v] }).objs.size:=by simpa using hb
  subst e;exact I1.fpOk (A4 _) (I1.hok.fresh (A4 _))
noncomputable def MU(ta:TA):TI:=fun σ H R=>ta σ H fun vs H1=>∃j:Int,vs=[.int j]/\-(2 ^ 62)<=j/\j<2 ^ 62/\R (Itr 0 j.toNat) H1
theorem BJ{a:Expr}{ta:TA}{p:Pos}(hg:Gl X "range")(hm:X.mg "range"=none)(ha:PA X [a] ta)(hs:starEach [a] X.env=[(false,eval a X.env)]:=by rfl):PI X tg (.Call (.Name "range" p) [a] [] pos) (MU ta):=by
 intro pins s σ H R I h;refine Call_ (tY I hg hm boot_range (PyProof.Rows.callWith_type1 (thn (ha pos pins s σ H _ I h) fun us s1 ⟨vs,H1,I1,r1,q1⟩=>?_) hs rfl));obtain⟨j,e,q1,q2,q⟩:=q1;subst e;cases r1 with
 |cons r rr=>
  cases rr;obtain⟨t,rfl⟩:=r;exact call_range_1 (FV I1 (by omega) (by omega) q1 q2 (by simpa using q))
noncomputable def VE(wi:TI)(g:TG)(tb:TS):TS:=fun D σ H=>wi σ H fun J H1=>∃W:Nat->Nat->St->Hp->Prop,(∃m,W 0 m σ H1)/\∀i m σ H,W i m σ H->
 (J.stop i H/\D.nx σ H)\/(J.go i H/\∃N:St->Hp->Prop,(∀σ' H',N σ' H'->∃m',m'<m/\W (i+1) m' σ' H')/\∀x H',J.yld i H x H'->g x σ H' fun σ2 H2=>tb { D with nx:=N,ct:=N,bk:=D.nx } σ2 H2)
noncomputable def oO(fp:List Addr)(h:Heap):List (Addr×Obj):=fp.filterMap fun b=>(h.get? b).map fun o=>(b,o)
theorem fN{fp:List Addr}{h:Heap}{b:Addr}{o:Obj}(hb:b∈fp)(e:h.get? b=some o):(b,o)∈oO fp h:=List.mem_filterMap.mpr ⟨b,hb,by rw[e];rfl⟩
theorem BG{fp:List Addr}{h:Heap}{p:Addr×Obj}(hp:p∈oO fp h):p.1∈fp/\h.get? p.1=some p.2:=by
 obtain⟨b,hb,e⟩:=List.mem_filterMap.mp hp;cases q:h.get? b with
 |none=>rw[q]at e;cases e
 |some o=>
  rw[q]at e;have e':(b,o)=p:=C5 e;subst e';exact⟨hb,q⟩
theorem Inv.pinned{pins:List (Addr×Obj)}{fp:List Addr}(I:Inv X pins σ H s)(hf:∀b∈fp,pK X pins H b)(ho:∀b∈fp,∃o,s.heap.get? b=some o/\∀v,o.data≠.cell v):Inv X (pins++oO fp s.heap) σ H s:=
 I.pins_of fun p hp=>(List.mem_append.mp hp).elim (fun z=>I.pin p (B4 _ z)) fun z=>by
  obtain⟨hb,e⟩:=BG z;obtain⟨f0,f1,f2,_⟩:=hf p.1 hb;obtain⟨o,e',d⟩:=ho p.1 hb;rw[e]at e';cases e';exact⟨e,f0,f1,f2,d⟩
theorem Inv.unpinned{pins pl:List (Addr×Obj)}(I:Inv X (pins++pl) σ H s):Inv X pins σ H s:=I.pins_of fun p hp=>I.pin p (B4 _ (C9 _ hp))
theorem RW{iter:Expr}{body:List Stmt}{wi:TI}{g:TG}{tb:TS}{pos:Pos}(hp:PassesOwn (model X.prog X.w) X.A X.env X.xe)(hc:X.calm=true)(hi:PI X tg iter wi)(hg:PG X tg g)(hb:PSs X body tb)
 (hs:∀x,foldedSetIterable iter X.env x=pure x:=by intro _;rfl):PS X (.For tg iter body [] pos) (VE wi g tb):=by
 intro pins s σ H D I h;refine wpAny_For (thn (hi pins s σ H _ I h) fun v s1 h1=>thn h1 fun itv s2 h2=>?_) hs;obtain⟨it,fp,tn,J,H2,e,I2,T,st2,f2,W,⟨m0,w0⟩,turn⟩:=h2;subst e;have stat:∀{H':Hp},(∀b∈fp,H' b=none)->∀b∈fp,pK X pins H' b:=fun hn b hb=>⟨hn b hb,(f2 b hb).2⟩;refine codeAny_forLoop_any (fun n s'=>∃i σ' H',Inv X pins σ' H' s'/\tn i s'.heap/\(∀b∈fp,H' b=none)/\W i n σ' H') ?_ m0 ⟨0,σ,H2,I2,st2,fun b hb=>(f2 b hb).1,w0⟩;rintro n s3 ⟨i,σ3,H3,I3,st3,fr3,w3⟩;rcases turn i n σ3 H3 w3 with⟨stop,qn⟩|⟨go,N,hN,step⟩
 .refine J2 hp (thn (T.done X rfl rfl rfl hc i pins s3 σ3 H3 X.xe I3 (stat fr3) st3 stop) fun r s4 ⟨hr,I4⟩=>?_);subst hr;exact wpAny_execs_nil ⟨σ3,H3,I4,qn⟩
 .refine J2 hp (thn (T.item X rfl rfl rfl hc i pins s3 σ3 H3 X.xe I3 (stat fr3) st3 go) fun r s4 ⟨u,hr,h4⟩=>?_);subst hr;refine J2 hp (thn h4 fun _ s5 ⟨x,H5,I5,r5,y5,st5,fr5⟩=>?_);have I5':=I5.pinned (stat fr5) (T.obj _ _ st5);refine J2 hp (thn (hg _ s5 σ3 H5 x u _ I5' r5 (step x H5 y5)) fun _ s6 ⟨σ6,H6,I6,q6⟩=>?_);refine J2 hp (thn (hb _ s6 σ6 H6 _ I6 q6) fun f s7 q7=>?_)
  have again:∀{σ7:St}{H7:Hp},Inv X (pins++oO fp s5.heap) σ7 H7 s7->N σ7 H7->∃m,m<n/\∃i σ' H',Inv X pins σ' H' s7/\tn i s7.heap/\(∀b∈fp,H' b=none)/\W i m σ' H':=fun{σ7 H7} I7 n7=>by
   obtain⟨m',hm,w7⟩:=hN σ7 H7 n7;refine⟨m',hm,i+1,σ7,H7,I7.unpinned,T.keep _ _ _ st5 fun b hb o e=>(I7.pin (b,o) (B4 _ (B4 _ (fN hb e)))).1,fun b hb=>?_,w7⟩;obtain⟨o,e,d⟩:=T.obj _ _ st5 b hb;exact(I7.pin (b,o) (B4 _ (B4 _ (fN hb e)))).2.1
  cases f with
  |next=>obtain⟨σ7,H7,I7,n7⟩:=q7;exact again I7 n7
  |cont=>obtain⟨σ7,H7,I7,n7⟩:=q7;exact again I7 n7
  |brk=>obtain⟨σ7,H7,I7,q7⟩:=q7;exact⟨σ7,H7,I7.unpinned,q7⟩
  |ret v=>obtain⟨x7,σ7,H7,I7,r7,q7⟩:=q7;exact⟨x7,σ7,H7,I7.unpinned,r7,q7⟩
end
noncomputable abbrev R2:=V->V->Hp->VK->Prop
noncomputable def OpR(X:Cx)(f:Value->Value->Sem Value)(r:R2):Prop:=
 ∀(pins:List (Addr×Obj))(s:Shared)(σ:St)(H:Hp)(x y:V)(v u:Value)(Q:VK),Inv X pins σ H s->RelV x v->RelV y u->r x y H Q->
  wpAny (model X.prog X.w) X.A (f v u) (EP X pins σ Q) X.xe s
noncomputable def UnR(X:Cx)(f:Value->Sem Value)(r:V->Hp->VK->Prop):Prop:=
 ∀(pins:List (Addr×Obj))(s:Shared)(σ:St)(H:Hp)(x:V)(v:Value)(Q:VK),Inv X pins σ H s->RelV x v->r x H Q->
  wpAny (model X.prog X.w) X.A (f v) (EP X pins σ Q) X.xe s
noncomputable def gC(X:Cx)(f:Value)(r:List V->Hp->VK->Prop):Prop:=
 ∀(pins:List (Addr×Obj))(s:Shared)(σ:St)(H:Hp)(xs:List V)(us:List Value)(Q:VK),Inv X pins σ H s->bH xs us->r xs H Q->
  wpAny (model X.prog X.w) X.A (call f us) (EP X pins σ Q) X.xe s
noncomputable def XE(X:Cx)(r:V->Hp->(Bool->Hp->Prop)->Prop):Prop:=
 ∀(pins:List (Addr×Obj))(s:Shared)(σ:St)(H:Hp)(x:V)(v:Value)(Q:Bool->Hp->Prop),Inv X pins σ H s->RelV x v->r x H Q->
  wpAny (model X.prog X.w) X.A (truthy v) (TP X pins σ Q) X.xe s
noncomputable def tOp(r:R2)(ta tb:TE):TE:=fun σ H Q=>ta σ H fun x H1=>tb σ H1 fun y H2=>r x y H2 Q
noncomputable def tUn(r:V->Hp->VK->Prop)(ta:TE):TE:=fun σ H Q=>ta σ H fun x H1=>r x H1 Q
noncomputable def rI(C:Int->Int->Prop)(g:Int->Int->V):R2:=fun x y H Q=>∃i j,x=.int i/\y=.int j/\C i j/\Q (g i j) H
noncomputable def rI0(g:Int->Int->V):R2:=fun x y H Q=>∃i j,x=.int i/\y=.int j/\Q (g i j) H
noncomputable def rU(g:Int->V):V->Hp->VK->Prop:=fun x H Q=>∃i,x=.int i/\Q (g i) H
section
variable{X:Cx}{a b c:Expr}{ta tb tc:TE}{pos:Pos}
theorem QL(ha:PE X a ta)(hb:PE X b tb){pins:List (Addr×Obj)}{R:V->V->Hp->Prop}(I:Inv X pins σ H s)
 (h:ta σ H fun x H1=>tb σ H1 fun y H2=>R x y H2) {Q:Value->Shared->Prop} {f:Value->Value->Sem Value}
 (hf:∀v u s2 x y H2,Inv X pins σ H2 s2->RelV x v->RelV y u->R x y H2->wpAny (model X.prog X.w) X.A (f v u) Q X.xe s2):
 wpAny (model X.prog X.w) X.A (eval a X.env) (fun v s₁=>wpAny (model X.prog X.w) X.A (eval b X.env) (fun u s₂=>wpAny (model X.prog X.w) X.A (f v u) Q X.xe s₂) X.xe s₁) X.xe s:=by
 refine thn (ha pins s σ H _ I h) fun v s1 ⟨x,H1,I1,r1,q1⟩=>?_;refine thn (hb pins s1 σ H1 _ I1 q1) fun u s2 ⟨y,H2,I2,r2,q2⟩=>?_;exact hf v u s2 x y H2 I2 r1 r2 q2
theorem VF{op:Operator}{r:R2}(ho:OpR X (binaryOp op) r)(ha:PE X a ta)(hb:PE X b tb):PE X (.BinOp a op b pos) (tOp r ta tb):=by
 intro pins s σ H Q I h;exact wpAny_BinOp (QL ha hb I h fun v u s2 x y H2 I2 rx ry q=>ho pins s2 σ H2 x y v u Q I2 rx ry q)
theorem UV{op:UnaryOp}{r:V->Hp->VK->Prop}(ho:UnR X (unaryOp op) r)(ha:PE X a ta):PE X (.UnaryOp op a pos) (tUn r ta):=by
 intro pins s σ H Q I h;exact UnaryOp_ (thn (ha pins s σ H _ I h) fun v s1 ⟨x,H1,I1,r1,q1⟩=>ho pins s1 σ H1 x v Q I1 r1 q1)
theorem opI{f:Value->Value->Sem Value}{C:Int->Int->Prop}{g:Int->Int->Int}
 (rule:∀(i j:Int)(t u:Tok)(s:Shared)(Q:Value->Shared->Prop)(E:Value->Shared->Prop),C i j->Q (.int (g i j) s.toks) { s with toks:=s.toks+1 }->wpAny (model X.prog X.w) X.A (f (.int i t) (.int j u)) Q E s):
 OpR X f (rI C fun i j=>.int (g i j)):=by
 intro pins s σ H x y v u Q I rx ry h;obtain⟨i,j,rfl,rfl,hc,q⟩:=h;obtain⟨t,rfl⟩:=rx;obtain⟨t',rfl⟩:=ry;exact rule i j t t' s _ _ hc ⟨.int (g i j),H,I.tok _,⟨_,rfl⟩,q⟩
theorem WB{f:Value->Value->Sem Value}{g:Int->Int->Int}
 (rule:∀(i j:Int)(t u:Tok)(s:Shared)(Q:Value->Shared->Prop)(E:Value->Shared->Prop),Q (.int (g i j) s.toks) { s with toks:=s.toks+1 }->wpAny (model X.prog X.w) X.A (f (.int i t) (.int j u)) Q E s):
 OpR X f (rI0 fun i j=>.int (g i j)):=by
 intro pins s σ H x y v u Q I rx ry h;obtain⟨i,j,rfl,rfl,q⟩:=h;obtain⟨t,rfl⟩:=rx;obtain⟨t',rfl⟩:=ry;exact rule i j t t' s _ _ ⟨.int (g i j),H,I.tok _,⟨_,rfl⟩,q⟩
theorem JF{f:Value->Value->Sem Value}{g:Int->Int->Bool}
 (rule:∀(i j:Int)(t u:Tok)(s:Shared)(Q:Value->Shared->Prop)(E:Value->Shared->Prop),Q (.bool (g i j)) s->wpAny (model X.prog X.w) X.A (f (.int i t) (.int j u)) Q E s):
 OpR X f (rI0 fun i j=>.bl (g i j)):=by
 intro pins s σ H x y v u Q I rx ry h;obtain⟨i,j,rfl,rfl,q⟩:=h;obtain⟨t,rfl⟩:=rx;obtain⟨t',rfl⟩:=ry;exact rule i j t t' s _ _ ⟨.bl (g i j),H,I,rfl,q⟩
noncomputable def TZ(i j:Int):Prop:=0<=j/\j<=1000000/\i.natAbs<2 ^ 64
noncomputable def NY(i j:Int):Prop:=(-(2 ^ 64)<i/\i<2 ^ 64)\/(-(2 ^ 64)<j/\j<2 ^ 64)
theorem NY.ok{i j:Int}(h:NY i j):IntMulOk i j:=by
 rcases h with⟨h1,h2⟩|⟨h1,h2⟩
 .exact .of_left (intBits_le_64 h1 h2)
 .exact .of_right (intBits_le_64 h1 h2)
theorem op_add:OpR X (binaryOp .Add) (rI0 fun i j=>.int (i+j)):=WB fun _ _ _ _ _ _ _ q=>add_int q
theorem RI:OpR X (binaryOp .Sub) (rI0 fun i j=>.int (i-j)):=WB fun _ _ _ _ _ _ _ q=>sub_int q
theorem SB:OpR X (binaryOp .Mod) (rI (fun _ j=>0<j) fun i j=>.int (i % j)):=opI fun i j _ _ _ _ _ hc q=>by
 have h1:(0:Int)<j:=hc;exact mod_int' (by omega) (by rw[Int.fmod_eq_emod_of_nonneg i (by omega)];exact q)
theorem ND:OpR X (binaryOp .Pow) (rI TZ fun i j=>.int (i ^ j.toNat)):=opI fun _ _ _ _ _ _ _ hc q=>pow_int_small hc.1 hc.2.1 hc.2.2 q
theorem unI{f:Value->Sem Value}{g:Int->Int}
 (rule:∀(i:Int)(t:Tok)(s:Shared)(Q:Value->Shared->Prop)(E:Value->Shared->Prop),Q (.int (g i) s.toks) { s with toks:=s.toks+1 }->wpAny (model X.prog X.w) X.A (f (.int i t)) Q E s):
 UnR X f (rU fun i=>.int (g i)):=by
 intro pins s σ H x v Q I rx h;obtain⟨i,rfl,q⟩:=h;obtain⟨t,rfl⟩:=rx;exact rule i t s _ _ ⟨.int (g i),H,I.tok _,⟨_,rfl⟩,q⟩
theorem QH:UnR X (unaryOp .USub) (rU fun i=>.int (-i)):=unI fun _ _ _ _ _ q=>neg_int q
end
noncomputable def TY:V->V->Bool
 |.non,.non=>true|.non,.int _=>true|.int _,.non=>true|.non,.bl _=>true|.bl _,.non=>true|.non,.str _=>true|.str _,.non=>true
 |.int _,.int _=>true|.bl _,.bl _=>true|.str _,.str _=>true|.byt _,.byt _=>true
 |.int _,.str _=>true|.str _,.int _=>true|.bl _,.str _=>true|.str _,.bl _=>true
 |_,_=>false
noncomputable def rEq:R2:=fun x y H Q=>TY x y=true/\Q (.bl (decide (x=y))) H
noncomputable def rNe:R2:=fun x y H Q=>TY x y=true/\Q (.bl (!decide (x=y))) H
theorem zY{i j:Int}:decide (V.int i=V.int j)=(i==j):=by
 rw[E5];simp
theorem HB{i j:Bool}:decide (V.bl i=V.bl j)=(i==j):=by
 rw[E5];simp
theorem zC{i j:Str}:decide (V.str i=V.str j)=(i==j):=by
 rw[E5];simp
theorem AG{i j:Array UInt8}:decide (V.byt i=V.byt j)=(i.toList==j.toList):=by
 rw[E5];cases i;cases j;simp
section
variable{X:Cx}{a b c:Expr}{ta tb tc:TE}{pos:Pos}
theorem bN{pins:List (Addr×Obj)}{Q:VK}{k k':Bool}(I:Inv X pins σ H s)(q:Q (.bl k) H)(e:k=k'):EP X pins σ Q (.bool k') s:=by
 subst e;exact⟨.bl k,H,I,rfl,q⟩
theorem op_eq:OpR X (compareOp .Eq) rEq:=by
 intro pins s σ H x y v u Q I rx ry h;obtain⟨hs,q⟩:=h;cases x with
 |non=>
  cases rx;cases y with
  |non=>cases ry;exact PySem.EqNone.eq_none_none (bN I q (by simp))
  |bl j=>cases ry;exact PySem.EqNone.eq_none_bool (bN I q (by simp))
  |int j=>obtain⟨t',rfl⟩:=ry;exact PySem.EqNone.eq_none_int (bN I q (by simp))
  |str j=>obtain⟨t',rfl⟩:=ry;exact PySem.EqNone.eq_none_str (bN I q (by simp))
  |_=>exact absurd (show false=true from hs) A1
 |bl i=>
  cases rx;cases y with
  |non=>cases ry;exact PySem.EqNone.eq_bool_none (bN I q (by simp))
  |bl j=>cases ry;exact eq_bool (bN I q HB)
  |str j=>obtain⟨t',rfl⟩:=ry;exact PySem.EqMixed.eq_bool_str (bN I q (by simp))
  |_=>exact absurd (show false=true from hs) A1
 |int i=>
  obtain⟨t,rfl⟩:=rx;cases y with
  |non=>cases ry;exact PySem.EqNone.eq_int_none (bN I q (by simp))
  |int j=>obtain⟨t',rfl⟩:=ry;exact eq_int (bN I q zY)
  |str j=>obtain⟨t',rfl⟩:=ry;exact PySem.EqMixed.eq_int_str (bN I q (by simp))
  |_=>exact absurd (show false=true from hs) A1
 |str i=>
  obtain⟨t,rfl⟩:=rx;cases y with
  |non=>cases ry;exact PySem.EqNone.eq_str_none (bN I q (by simp))
  |bl j=>cases ry;exact PySem.EqMixed.eq_str_bool (bN I q (by simp))
  |int j=>obtain⟨t',rfl⟩:=ry;exact PySem.EqMixed.eq_str_int (bN I q (by simp))
  |str j=>obtain⟨t',rfl⟩:=ry;exact eq_str (bN I q zC)
  |_=>exact absurd (show false=true from hs) A1
 |byt i=>
  obtain⟨t,rfl⟩:=rx;cases y with
  |byt j=>obtain⟨t',rfl⟩:=ry;exact PySem.W.eq_bytes (bN I q AG)
  |_=>exact absurd (show false=true from hs) A1
 |_=>cases y<;>exact absurd (show false=true from hs) A1
theorem op_ne:OpR X (compareOp .NotEq) rNe:=by
 intro pins s σ H x y v u Q I rx ry h;obtain⟨hs,q⟩:=h;cases x with
 |non=>
  cases rx;cases y with
  |non=>cases ry;exact PySem.EqNone.ne_none_none (bN I q (by simp))
  |bl j=>cases ry;exact PySem.EqNone.ne_none_bool (bN I q (by simp))
  |int j=>obtain⟨t',rfl⟩:=ry;exact PySem.EqNone.ne_none_int (bN I q (by simp))
  |str j=>obtain⟨t',rfl⟩:=ry;exact PySem.EqNone.ne_none_str (bN I q (by simp))
  |_=>exact absurd (show false=true from hs) A1
 |bl i=>
  cases rx;cases y with
  |non=>cases ry;exact PySem.EqNone.ne_bool_none (bN I q (by simp))
  |bl j=>cases ry;exact ne_bool (bN I q (J6 not HB))
  |str j=>obtain⟨t',rfl⟩:=ry;exact PySem.EqMixed.ne_bool_str (bN I q (by simp))
  |_=>exact absurd (show false=true from hs) A1
 |int i=>
  obtain⟨t,rfl⟩:=rx;cases y with
  |non=>cases ry;exact PySem.EqNone.ne_int_none (bN I q (by simp))
  |int j=>obtain⟨t',rfl⟩:=ry;exact ne_int (bN I q (J6 not zY))
  |str j=>obtain⟨t',rfl⟩:=ry;exact PySem.EqMixed.ne_int_str (bN I q (by simp))
  |_=>exact absurd (show false=true from hs) A1
 |str i=>
  obtain⟨t,rfl⟩:=rx;cases y with
  |non=>cases ry;exact PySem.EqNone.ne_str_none (bN I q (by simp))
  |bl j=>cases ry;exact PySem.EqMixed.ne_str_bool (bN I q (by simp))
  |int j=>obtain⟨t',rfl⟩:=ry;exact PySem.EqMixed.ne_str_int (bN I q (by simp))
  |str j=>obtain⟨t',rfl⟩:=ry;exact ne_str (bN I q (J6 not zC))
  |_=>exact absurd (show false=true from hs) A1
 |byt i=>
  obtain⟨t,rfl⟩:=rx;cases y with
  |byt j=>obtain⟨t',rfl⟩:=ry;exact PySem.W.ne_bytes (bN I q (J6 not AG))
  |_=>exact absurd (show false=true from hs) A1
 |_=>cases y<;>exact absurd (show false=true from hs) A1
theorem UP:OpR X (compareOp .Lt) (rI0 fun i j=>.bl (decide (i<j))):=JF fun _ _ _ _ _ _ _ q=>lt_int q
theorem UB:OpR X (compareOp .LtE) (rI0 fun i j=>.bl (decide (i<=j))):=JF fun _ _ _ _ _ _ _ q=>le_int q
theorem UO:OpR X (compareOp .Gt) (rI0 fun i j=>.bl (decide (j<i))):=JF fun _ _ _ _ _ _ _ q=>gt_int q
theorem UG:OpR X (compareOp .GtE) (rI0 fun i j=>.bl (decide (j<=i))):=JF fun _ _ _ _ _ _ _ q=>ge_int q
theorem OpR.or{f:Value->Value->Sem Value}{r r':R2}(h:OpR X f r)(h':OpR X f r'):OpR X f (fun x y H Q=>r x y H Q\/r' x y H Q):=by
 intro pins s σ H x y v u Q I rx ry q;rcases q with q|q
 .exact h pins s σ H x y v u Q I rx ry q
 .exact h' pins s σ H x y v u Q I rx ry q
theorem KO{op:CmpOp}{r:R2}(ho:OpR X (compareOp op) r)(ha:PE X a ta)(hb:PE X b tb)(hm:behindInMarks op b=false):PE X (.Compare a [op] [b] pos) (tOp r ta tb):=by
 intro pins s σ H Q I h;exact wpAny_Compare1 (QL ha hb I h fun v u s2 x y H2 I2 rx ry q=>ho pins s2 σ H2 x y v u Q I2 rx ry q) hm
noncomputable def MP(t:TE):TT:=fun σ H Q=>t σ H fun x H'=>∃k,x=.bl k/\Q k H'
theorem HS{op:CmpOp}{r:R2}(ho:OpR X (compareOp op) r)(ha:PE X a ta)(hb:PE X b tb)(hm:behindInMarks op b=false):PT X (.Compare a [op] [b] pos) (MP (tOp r ta tb)):=by
 intro pins s σ H Q I h
 refine wpAny_isTrue_Compare1 (thn (ha pins s σ H _ I h) fun v s1 ⟨x,H1,I1,r1,q1⟩=>thn (hb pins s1 σ H1 _ I1 q1) fun u s2 ⟨y,H2,I2,r2,q2⟩=>
  thn (ho pins s2 σ H2 x y v u _ I2 r1 r2 q2) fun c s3 ⟨z,H3,I3,r3,k,e,q3⟩=>?_) hm
 subst e;cases r3;exact D9 ⟨H3,I3,q3⟩
noncomputable def GZ(r r':R2)(ta tb tc:TE):TE:=fun σ H Q=>ta σ H fun x H1=>tb σ H1 fun y H2=>r x y H2 fun z H3=>∃k,z=.bl k /\
 (if k=true then tc σ H3 fun w' H4=>r' y w' H4 Q else Q (.bl false) H3)
theorem DF{op op':CmpOp}{r r':R2}(ho:OpR X (compareOp op) r)(ho':OpR X (compareOp op') r')(ha:PE X a ta)(hb:PE X b tb)(hc:PE X c tc)
 (hm:lastMarks [op,op'] [b,c]=false:=by with_unfolding_all rfl):PE X (.Compare a [op,op'] [b,c] pos) (GZ r r' ta tb tc):=by
 intro pins s σ H Q I h
 refine Compare_chain (thn (ha pins s σ H _ I h) fun v s1 ⟨x,H1,I1,r1,q1⟩=>chain_link (thn (hb pins s1 σ H1 _ I1 q1) fun u s2 ⟨y,H2,I2,r2,q2⟩=>
  thn (ho pins s2 σ H2 x y v u _ I2 r1 r2 q2) fun d s3 ⟨z,H3,I3,r3,k,e,q3⟩=>?_)) hm
 subst e;cases r3;refine D9 ?_;cases k with
 |false=>exact ite_ff ⟨.bl false,H3,I3,rfl,q3⟩
 |true=>exact ite_tt (chain_last (thn (hc pins s3 σ H3 _ I3 q3) fun w' s4 ⟨z',H4,I4,r4,q4⟩=>ho' pins s4 σ H4 y z' u w' Q I4 r2 r4 q4))
noncomputable def KS(K:Fg)(x:V)(H:Hp)(k:Bool):Prop:=
 match x with
 |.non=>k=false
 |.bl b=>k=b
 |.int i=>k=(i != 0)
 |.str y=>y.length<=sizeLine/\k=((y.length:Int) != 0)
 |.byt y=>y.size<=sizeLine/\k=((y.size:Int) != 0)
 |.ref p=>(∃xs,SqL K H p xs/\k=!xs.isEmpty)\/(∃xs,SqT K H p xs/\k=!xs.isEmpty)\/∃kvs,H p=some (.dK kvs)/\k=!kvs.isEmpty
 |_=>False
theorem yK{κ:Type}{kvs:List (κ×V)}{vs:List (κ×Value)}(r:KV kvs vs):(!vs.isEmpty)=!kvs.isEmpty:=by
 cases r<;>rfl
theorem qO{xs:List V}{its:List Value}(r:bH xs its):(!its.toArray.isEmpty)=!xs.isEmpty:=by
 cases r<;>simp
theorem oP:(sizeLine:Nat)<2 ^ 63:=by rw[I0];decide
theorem NW:XE X (fun x H Q=>∃k,KS X.K x H k/\Q k H):=by
 intro pins s σ H x v Q I rx h;obtain⟨k,e,q⟩:=h;have hl:=oP;have hs:sizeLine=16777216:=I0;cases x with
 |non=>
  cases rx;have e':k=false:=e;subst e';exact truthy_none ⟨H,I,q⟩
 |bl b=>
  cases rx;have e':k=b:=e;subst e';exact D9 ⟨H,I,q⟩
 |int i=>
  obtain⟨t,rfl⟩:=rx;have e':k=(i != 0):=e;subst e';exact PySem.P.truthy_int ⟨H,I,q⟩
 |str y=>
  obtain⟨t,rfl⟩:=rx;obtain⟨hy,e'⟩:y.length<=sizeLine/\k=((y.length:Int) != 0):=e;subst e';exact PySem.P.truthy_str (by omega) ⟨H,I.tok _,q⟩
 |byt y=>
  obtain⟨t,rfl⟩:=rx;obtain⟨hy,e'⟩:y.size<=sizeLine/\k=((y.size:Int) != 0):=e;subst e';exact PySem.W.truthy_bytes (by omega) ⟨H,I.tok _,q⟩
 |ref p=>
  cases rx;have e':(∃xs,SqL X.K H p xs/\k=!xs.isEmpty)\/(∃xs,SqT X.K H p xs/\k=!xs.isEmpty)\/∃kvs,H p=some (.dK kvs)/\k=!kvs.isEmpty:=e;rcases e' with⟨xs,hx,e'⟩|⟨xs,hx,e'⟩|⟨kvs,hx,e'⟩
  .subst e';obtain⟨its,r,pl,hz⟩:=I.list hx;have hlen:=r.length;exact wpAny_truthy_list pl.isList (by simp only[List.size_toArray];omega) ⟨H,I.tok _,by rw[qO r];exact q⟩
  .subst e';obtain⟨its,r,pl,hz⟩:=I.tuple hx;have hlen:=r.length;exact truthy_tuple pl (by simp only[List.size_toArray];omega) ⟨H,I.tok _,by rw[qO r];exact q⟩
  .subst e';obtain⟨hz,hS,vs,r,m⟩:kvs.length<=sizeLine/\(p==sysModules)=false/\∃vs,KV kvs vs/\s.heap.DictOf (cM X.prog X.w) p vs:=I.hok p _ hx;have hlen:kvs.length=vs.length:=Paired.length r;exact wpAny_truthy_dict hS m (by omega) ⟨H,I.tok _,by rw[yK r];exact q⟩
 |_=>exact(show False from e).elim
theorem GN(ha:PE X a ta)(he:∀whole,isTrue a X.env whole=(do let v <- whole;standAt a.pos;holding [v] (truthy v))):
 PT X a (fun σ H Q=>ta σ H fun x H'=>∃k,KS X.K x H' k/\Q k H'):=by
 intro pins s σ H Q I h;exact isTrue_plain (thn (ha pins s σ H _ I h) fun v s1 ⟨x,H1,I1,r1,q1⟩=>NW pins s1 σ H1 x v Q I1 r1 q1) (he _)
theorem vals1{x:V}{us:List Value}(r:bH [x] us):∃u,us=[u]/\RelV x u:=by
 cases r with
 |cons r1 r2=>cases r2;exact⟨_,rfl,r1⟩
theorem vals2{x y:V}{us:List Value}(r:bH [x,y] us):∃u w',us=[u,w']/\RelV x u/\RelV y w':=by
 cases r with
 |cons r1 r2=>
  cases r2 with
  |cons r3 r4=>cases r4;exact⟨_,_,rfl,r1,r3⟩
theorem CA(hc:X.calm=true):gC X (.builtin "min") (fun xs H Q=>∃i j,xs=[.int i,.int j]/\Q (.int (if j<i then j else i)) H):=by
 intro pins s σ H xs us Q I r h;obtain⟨i,j,rfl,q⟩:=h;obtain⟨u,w',rfl,⟨t,rfl⟩,⟨t',rfl⟩⟩:=vals2 r;refine min_two_ints (I.ok.hd hc) fun h' tk k=>⟨_,H,I.kept k,?_,q⟩;by_cases hj:j<i
 .rw[A6 hj,A6 hj];exact⟨_,rfl⟩
 .rw[B0 hj,B0 hj];exact⟨_,rfl⟩
theorem BP:gC X (.type "int") (fun xs H Q=>(∃i,xs=[.int i]/\Q (.int i) H)\/∃k,xs=[.bl k]/\Q (.int (if k then 1 else 0)) H):=by
 intro pins s σ H xs us Q I r h;rcases h with⟨i,rfl,q⟩|⟨k,rfl,q⟩
 .obtain⟨u,rfl,t,rfl⟩:=vals1 r;exact call_int_int ⟨.int i,H,I,⟨_,rfl⟩,q⟩
 .obtain⟨u,rfl,r1⟩:=vals1 r;cases r1;exact call_int_bool ⟨.int (if k then 1 else 0),H,I.tok _,⟨_,rfl⟩,q⟩
end
structure dU(k:Nat)(A:Around)(q:Bool:=true):Prop where
 hd:q=true->A.handled=none
 dp:A.depth+3*k+5<recursionLimit
 un:A.units+16*k+200<cLine
 gd:A.guards=some []
theorem dU.mono{j k:Nat}{q:Bool}(r:dU k A q)(h:j<=k):dU j A q:=⟨r.hd,by have:=r.dp;omega,by have:=r.un;omega,r.gd⟩
theorem dU.deeper{k:Nat}{q:Bool}(r:dU (k+1) A q)(env:Env):dU k (A.deeper env) q:=
 ⟨r.hd,by have:=r.dp;show A.depth+1+3*k+5<_;omega,by have:=r.un;show A.units+3+16*k+200<_;omega,r.gd⟩
theorem dU.depth{k:Nat}{q:Bool}(r:dU k A q):A.depth<recursionLimit:=by have:=r.dp;omega
theorem dU.units{k:Nat}{q:Bool}(r:dU k A q):A.units+64<cLine:=by have:=r.un;omega
noncomputable def BZ:TA:=fun _ H Q=>Q [] H
noncomputable def nJ(ta:TE)(tr:TA):TA:=fun σ H Q=>ta σ H fun x H1=>tr σ H1 fun xs H2=>Q (x::xs) H2
section
variable{X:Cx}{e:Expr}{es:List Expr}{te:TE}{t:TA}{pos:Pos}
theorem rM:PA X [] BZ:=fun _ _ _ _ H Q I h=>Calls.spliced_nil ⟨[],H,I,.nil,h⟩
theorem iK(ha:PE X e te)(hr:PA X es t)(hs:starEach (e::es) X.env=(false,eval e X.env)::starEach es X.env:=by rfl):PA X (e::es) (nJ te t):=by
 intro pos pins s σ H Q I h;rw[hs];show wpAny _ _ (spliced ((false,eval e X.env)::backTo pos (starEach es X.env))) _ _ s;refine Calls.spliced_cons (thn (ha pins s σ H _ I h) fun u s1 ⟨x,H1,I1,r1,q1⟩=>?_);exact thn (hr pos pins s1 σ H1 _ I1 q1) fun us s2 ⟨xs,H2,I2,r2,q2⟩=>⟨x::xs,H2,I2,.cons r1 r2,q2⟩
noncomputable def JW(t:TA):TE:=fun σ H Q=>t σ H fun xs H1=>xs.length<=sizeLine/\∀p,H1 p=none->Q (.ref p) (upd H1 p (.tup xs))
noncomputable def OJ(t:TA):TE:=fun σ H Q=>t σ H fun xs H1=>xs.length<=sizeLine/\∀p,H1 p=none->Q (.ref p) (upd H1 p (.lst xs))
theorem yO{x1}(h:PA X es t):PE X (.Tuple es x1 pos) (JW t):=by
 intro pins s σ H Q I hq;refine wpAny_Tuple_spliced (thn (h pos pins s σ H _ I hq) fun us s1 ⟨xs,H1,I1,r,z,q⟩=>⟨by rw[<- r.length];exact z,?_⟩);have hf:H1 s1.heap.objs.size=none:=I1.hok.fresh (A4 _);refine⟨.ref s1.heap.objs.size,upd H1 s1.heap.objs.size (.tup xs),I1.laid (t':=s1.toks) (fun b u e=>B2 _ e) (A4 _) ?_,rfl,q _ hf⟩;exact⟨z,us,r,⟨_,D1 _ rfl,rfl,_,rfl⟩⟩
theorem CO(h:PA X es t):PE X (.List es pos) (OJ t):=by
 intro pins s σ H Q I hq;refine wpAny_List_spliced (thn (h pos pins s σ H _ I hq) fun us s1 ⟨xs,H1,I1,r,z,q⟩=>⟨by rw[<- r.length];exact z,?_⟩);have hf:H1 s1.heap.objs.size=none:=I1.hok.fresh (A4 _);refine⟨.ref s1.heap.objs.size,upd H1 s1.heap.objs.size (.lst xs),I1.laid (t':=s1.toks) (fun b u e=>B2 _ e) (A4 _) ?_,rfl,q _ hf⟩;exact⟨z,us,0,r,D1 _ rfl⟩
end
noncomputable abbrev Sp:=List V->Hp->VK->XK->Prop
noncomputable abbrev CXT:=List Env->Hp->Shared->XK->Value->Shared->Prop
structure IC(P:Program)(w:World)(K:Fg)(mg:Str->Option Value)(base:Heap)(A:Around)(outer:List Env)(s:Shared)(H:Hp):Prop where
 frames:A.frames=some outer
 mod:Mod K mg base
 bs:∀b o,base.get? b=some o->s.heap.get? b=some o/\H b=none
 bsz:base.objs.size<=s.heap.objs.size
 funs:s.heap.FunFrames base outer
 frf:∀b∈frs outer,H b=none
 hok:HOk P w H s.heap
 bare:AllBare s.gens
noncomputable def CE(outer:List Env)(P:Program)(w:World)(H:Hp)(s:Shared)(Q:VK)(u:Value)(s':Shared):Prop:=
 ∃v H',s'.os=s.os/\AllBare s'.gens/\Un (frs outer) [] H H' s.heap s'.heap/\HOk P w H' s'.heap/\RelV v u/\Q v H'
noncomputable def CR(CX:CXT)(outer:List Env)(P:Program)(w:World)(H:Hp)(s:Shared)(Q:VK)(E:XK)(r:Result)(s':Shared):Prop:=
 match r with
 |.ok (.ret u)=>CE outer P w H s Q u s'
 |.ok _=>False
 |.error e=>CX outer H s E e s'
structure mS(P:Program)(w:World)(K:Fg)(mg:Str->Option Value)(base:Heap)(CX:CXT)(k:Nat)(f:Addr)(fd:FuncData)(ps:List Str)(sp:Sp)(q:Bool:=true):Prop where
 len:∀vs H Q E,sp vs H Q E->vs.length=ps.length
 run:∀(A:Around)(outer:List Env)(s:Shared)(H:Hp)(args:Args)(us:List Value)(vs:List V)(Q:VK)(E:XK),dU k A q->IC P w K mg base A outer s H->BindsTo s fd args (ps.zip us)->bH vs us->sp vs H Q E->
  codeAny (model P w) A (.call (.ref f) args) (CR CX outer P w H s Q E) s
theorem mS.mono{P:Program}{w:World}{mg:Str->Option Value}{base:Heap}{CX:CXT}{j k:Nat}{f:Addr}{fd:FuncData}{ps:List Str}{sp:Sp}{q:Bool}(F:mS P w K mg base CX j f fd ps sp q)(h:j<=k):
 mS P w K mg base CX k f fd ps sp q:=⟨F.len,fun A outer s H args us vs Q E hr=>F.run A outer s H args us vs Q E (hr.mono h)⟩
section
variable{X:Cx}{pins:List (Addr×Obj)}{σ:St}{H:Hp}{s s':Shared}
theorem Inv.env0(I:Inv X pins σ H s):IC X.prog X.w X.K X.mg X.base X.A X.stack s H:=
 ⟨I.ok.frames,I.ok.mod,I.bs,C7 I.ok.bsz I.sz,I.stack,I.stkFree,I.hok,I.bare⟩
theorem Inv.after{Q:VK}{u:Value}(I:Inv X pins σ H s)(h:CE X.stack X.prog X.w H s Q u s'):EP X pins σ Q u s':=by
 obtain⟨v,H',os,bare,un,hok,r,q⟩:=h;obtain⟨hh,g,d,t,os'⟩:=s';obtain rfl:os'=s.os:=os;exact⟨v,H',I.call (h':=hh) (g':=g) (d':=d) (t':=t) (ch:=[]) un hok bare (fun b z=>absurd z (by simp)),r,q⟩
end
noncomputable def DN(sp:Sp)(dvs:List V)(E:XK)(t:TA):TE:=fun σ H Q=>t σ H fun vs H1=>sp (vs++dvs) H1 Q E
noncomputable def Binds(K:Fg)(fd:FuncData)(ps:List Str)(ds:List Value):Prop:=
 ∀(s:Shared)(us:List Value),K.In s.heap->(us++ds).length=ps.length->BindsTo s fd ⟨us,[]⟩ (ps.zip (us++ds))
theorem Binds.all{fd:FuncData}{ps:List Str}(h:∀us:List Value,us.length=ps.length->bindArgs fd ⟨us,[]⟩=pure (ps.zip us)):Binds K fd ps []:=fun s us _ hl=>by
 rw[F9]at hl ⊢;exact .of_eq (h us hl)
noncomputable def yR(CX:CXT)(X:Cx)(E:XK):Prop:=∀(pins:List (Addr×Obj))(σ:St)(H:Hp)(s:Shared)(e:Value)(s':Shared),Inv X pins σ H s->CX X.stack H s E e s'->X.xe e s'
section
variable{X:Cx}{CX:CXT}{k:Nat}{f C:Addr}{fd:FuncData}{ps:List Str}{sp:Sp}{dvs:List V}{ds:List Value}{E:XK}{x m:Str}{p pos apos:Pos}{e o:Expr}{es:List Expr}{ta:TE}{t:TA}
theorem RA{pins:List (Addr×Obj)}{σ:St}{H:Hp}{s:Shared}{Q:VK}{us:List Value}{vs:List V}{q:Bool}(F:mS X.prog X.w X.K X.mg X.base CX k f fd ps sp q)(hr:dU k X.A q)(hb:Binds X.K fd ps ds)(hd:bH dvs ds)(hx:yR CX X E)
 (I:Inv X pins σ H s) (r:bH vs us) (h:sp (vs++dvs) H Q E):wpAny (model X.prog X.w) X.A (call (.ref f) us) (EP X pins σ Q) X.xe s:=by
 have r2:bH (vs++dvs) (us++ds):=r.append hd;have hl:(us++ds).length=ps.length:=by rw[<- r2.length];exact F.len _ _ _ _ h
 refine wpAny_call (codeAny_mono (F.run X.A X.stack s H ⟨us,[]⟩ (us++ds) (vs++dvs) Q E hr I.env0 (hb s us I.kIn hl) r2 h) fun r s' hq=>?_);cases r with
 |error e=>exact hx pins σ H s e s' I hq
 |ok fl=>
  cases fl with
  |ret u=>exact I.after hq
  |next=>exact False.elim hq
  |brk=>exact False.elim hq
  |cont=>exact False.elim hq
theorem JI{q:Bool}(F:mS X.prog X.w X.K X.mg X.base CX k f fd ps sp q)(hr:dU k X.A q)(hg:Gl X x)(hm:X.mg x=some (.ref f))(hk:PySem.W.keepIn X.K (.ref f)=true)(hb:Binds X.K fd ps ds)(hd:bH dvs ds)(hx:yR CX X E)
 (ha:PA X (e::es) t) (hdb:(x==("__debug__":Str))=false:=by decide) (he:starEach (e::es) X.env=(false,eval e X.env)::starEach es X.env:=by rfl) (hpl:(backTo pos (starEach es X.env)).any (·.1)=false:=by rfl):
 PE X (.Call (.Name x p) (e::es) [] pos) (DN sp dvs E t):=by
 intro pins s σ H Q I h;refine wpAny_Call_Name_kw (zU I hg hm ?_ hdb);refine PySem.W.callWith_K (h₀:=X.base) I.ok.mod.kin hk (thn (ha pos pins s σ H _ I h) fun us s1 ⟨vs,H1,I1,r,q⟩=>⟨I1.kIn,?_⟩) he hpl;exact RA F hr hb hd hx I1 r q
end
structure aT(N P:List Str)(sc:Scope):Prop where
 kind:sc.kind=.function
 co:sc.isCoroutine=false
 gen:sc.isGenerator=false
 nd:N.Nodup
 pre:N.take P.length=P
 par:∀x∈P,sc.names.lookup x=some .local\/sc.names.lookup x=some .cell
 nofree:∀y∈sc.names,y.2≠.free
theorem sW{kindOf:Str->Option NameKind}{x:Str}:∀{binds:List (Str×Value)}{m:Str->Option Value},(∀v,(x,v)∉binds)->bindL kindOf binds m x=m x
 |[],_=>fun _=>rfl
 |(n,v)::r,m=>fun h=>by
  unfold bindL;rw[sW fun w hw=>h w (B7 _ hw)];split
  .have:x≠n:=by rintro rfl;exact h v C2
   simp[this]
  .rfl
theorem sM{kindOf:Str->Option NameKind}{x:Str}:∀{binds:List (Str×Value)}{m:Str->Option Value},(∀v,(x,v)∉binds)->bindC kindOf binds m x=m x
 |[],_=>fun _=>rfl
 |(n,v)::r,m=>fun h=>by
  unfold bindC;rw[sM fun w hw=>h w (B7 _ hw)];split
  .rfl
  .have:x≠n:=by rintro rfl;exact h v C2
   simp[this]
theorem tK{kindOf:Str->Option NameKind}{x:Str}{v:Value}:∀{P:List Str}{vs:List Value}{i:Nat}{m:Str->Option Value},P.Nodup->P[i]?=some x->vs[i]?=some v->kindOf x=some .local->
 bindL kindOf (P.zip vs) m x=some v
 |[],_,_,_=>fun _ h _ _=>by simp at h
 |_::_,[],_,_=>fun _ _ h _=>by simp at h
 |p::P,w::vs,0,m=>fun nd h1 h2 hk=>by
  simp at h1 h2;subst h1;subst h2;show bindL kindOf ((p,w)::P.zip vs) m p=_;unfold bindL;rw[sW fun v hv=>(List.nodup_cons.mp nd).1 (List.of_mem_zip hv).1,A6 hk];simp
 |p::P,w::vs,i+1,m=>fun nd h1 h2 hk=>by
  show bindL kindOf ((p,w)::P.zip vs) m x=_;unfold bindL;exact tK (i:=i) (List.nodup_cons.mp nd).2 (by simpa using h1) (by simpa using h2) hk
theorem tM{kindOf:Str->Option NameKind}{x:Str}{v:Value}:∀{P:List Str}{vs:List Value}{i:Nat}{m:Str->Option Value},P.Nodup->P[i]?=some x->vs[i]?=some v->kindOf x≠some .local->
 bindC kindOf (P.zip vs) m x=some v
 |[],_,_,_=>fun _ h _ _=>by simp at h
 |_::_,[],_,_=>fun _ _ h _=>by simp at h
 |p::P,w::vs,0,m=>fun nd h1 h2 hk=>by
  simp at h1 h2;subst h1;subst h2;show bindC kindOf ((p,w)::P.zip vs) m p=_;unfold bindC;rw[sM fun v hv=>(List.nodup_cons.mp nd).1 (List.of_mem_zip hv).1,B0 hk];simp
 |p::P,w::vs,i+1,m=>fun nd h1 h2 hk=>by
  show bindC kindOf ((p,w)::P.zip vs) m x=_;unfold bindC;exact tM (i:=i) (List.nodup_cons.mp nd).2 (by simpa using h1) (by simpa using h2) hk
noncomputable def start(N:List Str)(vs:List V):St:=vs.map some++List.replicate (N.length-vs.length) none
noncomputable def pN(CX:CXT)(P:Program)(w:World)(K:Fg)(mg:Str->Option Value)(base:Heap)(N:List Str)(qual:Str)(scope:Scope)(f:Addr)(cd:Value)(A:Around)(outer:List Env)(s:Shared)(H:Hp)(E:XK)(q:Bool:=true):Cx where
 prog:=P
 w:=w
 K:=K
 mg:=mg
 base:=base
 A:=A.deeper (envOfC qual scope s.heap.objs.size f cd)
 N:=N
 s₀:=s
 H₀:=H
 env:=envOfC qual scope s.heap.objs.size f cd
 outer:=outer
 stack:=envOfC qual scope s.heap.objs.size f cd::outer
 ex:=[]
 calm:=q
 fn:=fun _=>true
 pn:=[]
 xe:=fun e s'=>wpAny (model P w) (A.deeper (envOfC qual scope s.heap.objs.size f cd)) (leaving (envOfC qual scope s.heap.objs.size f cd) e) (fun _ s''=>CX outer H s E e s'') (fun e' s''=>CX outer H s E e' s'') s'
theorem wN{sc:Scope}{n:Nat}{x:Str}(h:sc.names.lookup x=some .cell):∃c,(cellsFrom n sc.names []).lookup x=some c:=by
 have q:=PySem.W.cellsFrom_some sc.names n [] (.inl h);exact Option.isSome_iff_exists.mp q
theorem AS{CX:CXT}{P:Program}{w:World}{K:Fg}{mg:Str->Option Value}{base:Heap}{N ps:List Str}{qual:Str}{scope:Scope}{f:Addr}{cd:Value}{A:Around}{outer:List Env}{s s1:Shared}{H:Hp}{E:XK}{us:List Value}{vs:List V}{q:Bool}
 (S:aT N ps scope) (hd:q=true->A.handled=none) (e0:IC P w K mg base A outer s H) (hl:vs.length=ps.length) (r:bH vs us)
 (x:InCallC s s.heap.objs.size (bindL (envOfC qual scope s.heap.objs.size f cd).kindOf (ps.zip us) fun _=>none) (cellsFrom (s.heap.objs.size+1) scope.names []) (bindC (envOfC qual scope s.heap.objs.size f cd).kindOf (ps.zip us) fun _=>none) s1):
 Inv (pN CX P w K mg base N qual scope f cd A outer s H E q) [] (start N vs) H s1:=by
 have hpl:ps.length<=N.length:=by have:=J6 List.length S.pre;rw[D3]at this;omega
 obtain⟨h1,tk,rfl,hk⟩:=x.done;have noA:∀b:Addr,b∉(pN CX P w K mg base N qual scope f cd A outer s H E q).ex:=fun b z=>absurd (show b∈([]:List Addr)from z) (by simp)
 refine⟨⟨e0.mod,S.kind,rfl,rfl,A4 _,fun y z c h1 h2=>?_,fun y hy=>?_,fun y c _ h=>?_,hd,Around.frames_deeper e0.frames,.inr ⟨rfl,rfl⟩,fun b z=>absurd z (noA b),e0.bs,e0.bsz,fun b _ _=>noA b,fun b z=>absurd z (noA b),e0.funs,e0.frf⟩,
  rfl,e0.bare,Un.kept hk,⟨_,x.toInCall.ns,fun i y v h1 h2 h3=>?_⟩,fun y c h=>⟨_,x.cell y c h⟩,e0.hok.fresh (A4 _),fun y c h=>?_,fun p hp=>absurd (show p∈([]:List (Addr×Obj))from hp) (by simp),e0.hok.kept hk,?_⟩
 .exact name_of_addr x.apart (D4 h1) (D4 h2)
 .have hy:scope.names.lookup y=some .cell\/scope.names.lookup y=some .free:=hy;rcases hy with hy|hy
  .exact wN hy
  .exact absurd rfl (S.nofree _ (D4 hy))
 .exact Nat.le_of_lt (x.above y c (D4 h))
 .have hi:i<vs.length:=by
   unfold start at h2;by_cases hi:i<vs.length
   .exact hi
   .rw[L8 (by simpa using hi)]at h2;rw[List.getElem?_replicate]at h2;split at h2<;>cases h2
  have ha:vs[i]?=some v:=by
   unfold start at h2;rw[List.getElem?_append_left (by simpa using hi),D6]at h2;cases e:vs[i]? with
   |none=>rw[e]at h2;cases h2
   |some a=>rw[e]at h2;cases h2;rfl
  obtain⟨u,hu,rv⟩:=r.get ha
  have hp:ps[i]?=some y:=by
   rw[<- S.pre,List.getElem?_take_of_lt (by omega)];exact h1
  have ndP:ps.Nodup:=by rw[<- S.pre];exact S.nd.sublist (List.take_sublist _ _)
  refine⟨u,rv,?_⟩;rcases S.par y (E4 hp)with k|k
  .exact .inl ⟨k,tK ndP hp hu k⟩
  .obtain⟨c,e⟩:=wN (n:=s.heap.objs.size+1) k;refine .inr ⟨.inl k,c,e,?_⟩;have q:=x.cell y c e;rw[tM ndP hp hu (by show scope.names.lookup y≠_;rw[k];decide)]at q;exact q
 .exact e0.hok.fresh (Nat.le_of_lt (x.above y c (D4 h)))
 .unfold start;show _=N.length;rw[A9,A3,List.length_replicate];omega
theorem VA{CX:CXT}{P:Program}{w:World}{K:Fg}{mg:Str->Option Value}{base:Heap}{k:Nat}{f:Addr}{name qual:Str}{params:Arguments}{body:List Stmt}{scope:Scope}{dV kV doc pm cdv ct oc:Value}{an od:Option Addr}
 {osl:Array (Option Value)} {N ps:List Str} {sp:Sp} {q:Bool} (lk:K.lookup f=some ⟨oc,od,.func (PySem.W.fnOf name qual params body scope dV kV doc pm an cdv ct),osl⟩) (hcd:PySem.W.codeIn K cdv qual=true) (S:aT N ps scope)
 (len:∀vs H Q E,sp vs H Q E->vs.length=ps.length)
 (hbody:∀(A:Around)(outer:List Env)(s:Shared)(H:Hp)(vs:List V)(Q:VK)(E:XK),dU k (A.deeper (envOfC qual scope s.heap.objs.size f cdv)) q->sp vs H Q E->
  ∃t,PSs (pN CX P w K mg base N qual scope f cdv A outer s H E q) body t/\t { nx:=fun _ H'=>Q .non H',rt:=Q } (start N vs) H):
 mS P w K mg base CX (k+1) f (PySem.W.fnOf name qual params body scope dV kV doc pm an cdv ct) ps sp q:=by
 refine⟨len,fun A outer s H args us vs Q E hr e0 hb r hsp=>?_⟩;have hl:=len _ _ _ _ hsp;have KX:K.In s.heap:=e0.mod.kin.keeps fun b o e=>(e0.bs b o e).1;have lim:s.heap.NoLimit:=e0.mod.nolimit.keeps fun b o e=>(e0.bs b o e).1
 have hkind:∀y∈ps.zip us,scope.names.lookup y.1=some .local\/(scope.names.lookup y.1=some .cell/\((cellsFrom (s.heap.objs.size+1) scope.names []).lookup y.1).isSome=true):=fun⟨n,v⟩ hy=>by
  rcases S.par n (List.of_mem_zip hy).1 with q|q
  .exact .inl q
  .exact .inr ⟨q,PySem.W.cellsFrom_some _ _ _ (.inl q)⟩
 refine codeAny_call_function hr.depth (KX _ _ lk) rfl S.co S.gen rfl (PySem.W.codeRec_of KX hcd) (hb _ _ _ _ ?_);refine wpAny_newFunctionEnv_cells S.kind hkind fun env he s1 x=>?_;subst he;refine⟨lim.keeps x.toInCall.keep,codeAny_func ?_⟩;obtain⟨t,ht,hq⟩:=hbody A outer s H vs Q E (hr.deeper _) hsp;have I:Inv (pN CX P w K mg base N qual scope f cdv A outer s H E q) [] (start N vs) H s1:=AS S hr.hd e0 hl r x;refine D8 (ht [] s1 (start N vs) H _ I hq) (fun fl s' hs=>?_) fun e s' hs=>hs
 have fin:∀{σ':St}{H':Hp}{v:V}{u:Value},Inv (pN CX P w K mg base N qual scope f cdv A outer s H E q) [] σ' H' s'->RelV v u->Q v H'->CE outer P w H s Q u s':=
  fun{σ' H' v u} J rv q=>⟨v,H',J.os,J.bare,J.base,J.hok,rv,q⟩
 cases fl with
 |ret u=>
  obtain⟨v,σ',H',J,rv,q⟩:=hs;exact fin J rv q
 |next=>
  obtain⟨σ',H',J,q⟩:=hs;exact fin (v:=V.non) (u:=Value.none) J rfl q
 |brk=>
  obtain⟨_,_,_,q⟩:=hs;exact False.elim q
 |cont=>
  obtain⟨_,_,_,q⟩:=hs;exact False.elim q
section
variable{X:Cx}{x:Str}{p pos:Pos}{e:Expr}{es:List Expr}{t:TA}{id T:String}{r:List V->Hp->VK->Prop}
noncomputable def tCB(r:List V->Hp->VK->Prop)(t:TA):TE:=fun σ H Q=>t σ H fun vs H1=>r vs H1 Q
theorem nX(hc:gC X (.builtin id) r)(hg:Gl X x)(hm:X.mg x=none)(hv:bootBuiltins x=some (.builtin id))(ha:PA X (e::es) t)(hn:x≠"__name__":=by decide)(hdb:(x==("__debug__":Str))=false:=by decide)
 (he:starEach (e::es) X.env=(false,eval e X.env)::starEach es X.env:=by rfl) (hpl:(backTo pos (starEach es X.env)).any (·.1)=false:=by rfl):PE X (.Call (.Name x p) (e::es) [] pos) (tCB r t):=by
 intro pins s σ H Q I h;refine wpAny_Call_Name_kw (tY I hg hm hv ?_ hn hdb);exact PyProof.Rows.callWith_builtin1 (thn (ha pos pins s σ H _ I h) fun us s1 ⟨vs,H1,I1,r1,q1⟩=>hc pins s1 σ H1 vs us Q I1 r1 q1) he hpl
theorem BD(hc:gC X (.type T) r)(hg:Gl X x)(hm:X.mg x=none)(hv:bootBuiltins x=some (.type T))(ha:PA X (e::es) t)(hn:x≠"__name__":=by decide)(hdb:(x==("__debug__":Str))=false:=by decide)
 (he:starEach (e::es) X.env=(false,eval e X.env)::starEach es X.env:=by rfl) (hpl:(backTo pos (starEach es X.env)).any (·.1)=false:=by rfl):PE X (.Call (.Name x p) (e::es) [] pos) (tCB r t):=by
 intro pins s σ H Q I h;refine wpAny_Call_Name_kw (tY I hg hm hv ?_ hn hdb);exact PyProof.Rows.callWith_type1 (thn (ha pos pins s σ H _ I h) fun us s1 ⟨vs,H1,I1,r1,q1⟩=>hc pins s1 σ H1 vs us Q I1 r1 q1) he hpl
end
end L2
namespace HT
open PySem PyProof.Rows
section
variable{prog:Program}{w:World}{A:Around}{E:Value->Shared->Prop}{s:Shared}
theorem cat_tup{t b:Addr}{vs ws:List Value}{Q:Value->Shared->Prop}(ht:IsTup s.heap t vs.toArray)(hb:IsTup s.heap b ws.toArray)(hv:vs≠[])
 (h1:ws=[]->Q (.ref t) s) (h2:ws≠[]->Q (.ref s.heap.objs.size) { s with heap:=s.heap.push { cls:=.type "tuple",data:=.seq (vs++ws).toArray } })
 (hsz:vs.length+ws.length<=sizeLine):wpAny (model prog w) A (binaryOp .Add (.ref t) (.ref b)) Q E s:=by
 obtain⟨⟨cls,dd,data,sl⟩,ho,hc,n,hd⟩:=id ht;obtain⟨⟨cls2,dd2,data2,sl2⟩,ho2,hc2,n2,hd2⟩:=id hb;simp only at hc hd hc2 hd2;subst hc hd hc2 hd2;have e:vs.toArray++ws.toArray=(vs++ws).toArray:=by simp
 by_cases hw:ws=[]
 .exact concat_meets ⟨_,ho,rfl⟩ ⟨_,ho2,rfl⟩ noFill_tuple_add seq_tuple_add PySem.F.slot_tuple_add PySem.F.entry_tuple_add (PySem.F.args_tuple_add_2 _ _)
   (tuple_addW1 t b vs.toArray ws.toArray n n2 dd dd2 sl sl2 (by simpa using hv) (by simp[hw])) ⟨ho,ho2,h1 hw⟩
 .refine concat_meets ⟨_,ho,rfl⟩ ⟨_,ho2,rfl⟩ noFill_tuple_add seq_tuple_add PySem.F.slot_tuple_add PySem.F.entry_tuple_add (PySem.F.args_tuple_add_2 _ _)
   (tuple_addW2 t b vs.toArray ws.toArray n n2 dd dd2 sl sl2 (by simpa using hv) (by simpa using hw) (by rw[B9,B9];exact hsz)) ⟨ho,ho2,?_⟩
  rw[e];exact h2 hw
noncomputable def sIx(n d:Nat):Option Int->Nat
 |none=>d
 |some v=>if v<0 then(v+(n:Int)).toNat else min v.toNat n
theorem sIx_none(n d:Nat):sIx n d none=d:=rfl
theorem sIx_nat(n d k:Nat):sIx n d (some (k:Int))=min k n:=by
 show(if (k:Int)<0 then((k:Int)+(n:Int)).toNat else min (k:Int).toNat n)=min k n;rw[B0 (by omega),Int.toNat_natCast]
theorem ON(n d:Nat)(hd:d<=n)(o:Option Int):sIx n d o<=n:=by
 cases o with
 |none=>exact hd
 |some v=>
  show(if v<0 then(v+(n:Int)).toNat else min v.toNat n)<=n;by_cases hv:v<0
  .rw[A6 hv];omega
  .rw[B0 hv];exact Nat.min_le_right _ _
theorem zD(v:Int)(n d:Nat):(if v<0 then max (v+(n:Int)) 0 else min v (n:Int))=((sIx n d (some v):Nat):Int):=by
 show(if v<0 then max (v+(n:Int)) 0 else min v (n:Int))=(((if v<0 then(v+(n:Int)).toNat else min v.toNat n):Nat):Int);by_cases hv:v<0
 .simp only[if_pos hv];omega
 .simp only[if_neg hv];omega
theorem yH(lo hi:Option Int)(n:Nat):Builtin.Slice.sliceAdjust lo hi 1 (n:Int)=(((sIx n 0 lo:Nat):Int),((sIx n n hi:Nat):Int)):=by
 have h1:¬((1:Int)<0):=by omega
 unfold Builtin.Slice.sliceAdjust;simp only[h1,if_false];refine Prod.ext ?_ ?_
 .cases lo with
  |none=>rfl
  |some v=>exact zD v n 0
 .cases hi with
  |none=>rfl
  |some v=>exact zD v n n
theorem yF(i j:Nat):Builtin.Slice.slicePlaces (i:Int) (j:Int) 1=j-i:=by
 unfold Builtin.Slice.slicePlaces;have h1:(1:Int) > 0:=by omega
 simp only[h1,if_true,Int.ediv_one];split<;>omega
theorem qP{v:Value}{o:Option Int}{Q:Option Int->Shared->Prop}(p:IsPart v o)(h:Q o s):wpAny (model prog w) A (Builtin.Slice.slicePartIndex v) Q E s:=by
 cases p with
 |none=>exact slicePart_none h
 |int i t=>exact slicePart_int h
theorem jI{sl:Addr}{vl vu:Value}{lo hi:Option Int}{n:Nat}{Q:Int×Int×Nat->Shared->Prop}(hs:s.heap.IsSliceOf sl vl vu .none)(pl:IsPart vl lo)(pu:IsPart vu hi)
 (h:Q (((sIx n 0 lo:Nat):Int),1,sIx n n hi-sIx n 0 lo) s):wpAny (model prog w) A (Builtin.Slice.sliceApplied (.ref sl) (pure (n:Int))) Q E s:=by
 obtain⟨os,hos,hcs,hds⟩:=id hs;unfold Builtin.Slice.sliceApplied Builtin.Slice.sliceFields;refine A0 (A0 (wpAny_field hos hds (x:=vl) rfl (A0 (wpAny_field hos hds (x:=vu) rfl (A0 (wpAny_field hos hds (x:=.none) rfl (A7 ?_)))))));refine A0 (slicePart_none ?_);show wpAny _ _ (if ((1:Int)==0)=true then _ else _) _ _ s;rw[B0 (by decide)];refine A0 (qP pl (A0 (qP pu (A0 (A7 ?_)))));show wpAny _ _ (match Builtin.Slice.sliceAdjust lo hi 1 (n:Int)with|(lo,hi)=>pure (lo,(1:Int),Builtin.Slice.slicePlaces lo hi 1)) _ _ s;rw[yH lo hi n];show wpAny _ _ (pure (((sIx n 0 lo:Nat):Int),(1:Int),Builtin.Slice.slicePlaces ((sIx n 0 lo:Nat):Int) ((sIx n n hi:Nat):Int) 1)) _ _ s;rw[yF];exact A7 h
theorem ET(xs:Array Value)(i k:Nat):((List.range k).filterMap fun(m:Nat)=>xs[((i:Int)+(m:Int)*1).toNat]?).toArray=((xs.toList.drop i).take k).toArray:=by
 have e:(fun(m:Nat)=>xs[((i:Int)+(m:Int)*1).toNat]?)=fun m=>xs[i+m]?:=by
  funext m;have:((i:Int)+(m:Int)*1).toNat=i+m:=by omega
  rw[this]
 rw[e];have:=pick_run xs i k;rw[List.filterMap_map]at this;have e2:((fun x=>xs[x]?) ∘ fun x=>i+x)=fun m=>xs[i+m]?:=rfl;rw[e2]at this;rw[this]
theorem getItem_tuple_cut{t sl:Addr}{items:Array Value}{vl vu:Value}{lo hi:Option Int}{Q:Value->Shared->Prop}(ht:IsTup s.heap t items)(hs:s.heap.IsSliceOf sl vl vu .none)(pl:IsPart vl lo)(pu:IsPart vu hi)
 (hw:¬(sIx items.size 0 lo=0/\sIx items.size items.size hi=items.size))
 (h:Q (.ref s.heap.objs.size) { s with heap:=s.heap.push { cls:=.type "tuple",data:=.seq ((items.toList.drop (sIx items.size 0 lo)).take (sIx items.size items.size hi-sIx items.size 0 lo)).toArray } })
 (hsz:items.size<=sizeLine):wpAny (model prog w) A (getItem (.ref t) (.ref sl)) Q E s:=by
 have htake:sizeOk (.seq ((items.toList.drop (sIx items.size 0 lo)).take (sIx items.size items.size hi-sIx items.size 0 lo)).toArray):=by
  show((items.toList.drop (sIx items.size 0 lo)).take (sIx items.size items.size hi-sIx items.size 0 lo)).toArray.size<=sizeLine;rw[B9,D3,E2,D5];omega
 have hj:sIx items.size items.size hi<=items.size:=ON _ _ (A4 _) hi;obtain⟨os,hos,hcs,hds⟩:=id hs;have hTs:s.TypeIs (.ref sl) "slice":=⟨os,hos,hcs⟩;unfold getItem
 try with_reducible refine J4 ?_
 first|refine A0 (A7 ?_)|skip
 refine A0 (wpAny_sequenceKey ht.typeIs (by decide) ?_)
 refine A0 (wpAny_callSpecial?_slot (name:=Str.ofString "__getitem__") ht.typeIs F5
  (wpAny_call_entry F5 ht.typeIs entry_tuple_getitem ?_ (args_tuple_getitem _ _)))
 show wpAny _ _ (Builtin.Tuple.tupleItemsOf (.ref t) >>= _) _ _ s;refine A0 (tupleItemsOf_ ht ?_);refine A0 (wpAny_typeOf hTs ?_);rw[A6 (by decide)];refine A0 (jI hs pl pu ?_)
 have hno:¬((((sIx items.size 0 lo:Nat):Int)==0&&(1:Int)==1&&(sIx items.size items.size hi-sIx items.size 0 lo)==items.size)=true):=by
  intro q;rw[B1,B1]at q;have q1:((sIx items.size 0 lo:Nat):Int)=0:=eq_of_beq q.1.1;have q2:sIx items.size items.size hi-sIx items.size 0 lo=items.size:=eq_of_beq q.2;exact hw ⟨by omega,by omega⟩
 show wpAny _ _ (if (((sIx items.size 0 lo:Nat):Int)==0&&(1:Int)==1&&(sIx items.size items.size hi-sIx items.size 0 lo)==items.size)=true then _ else _) _ _ s;rw[B0 hno,ET]
 first
  |exact A0 (m:=Builtin.Tuple.tupleExact _) (F7 (A7 ⟨_,rfl,A7 h⟩) htake)
  |exact A0 (m:=Builtin.Tuple.tupleExact _) (F7 (A0 (A7 (A7 ⟨_,rfl,A7 h⟩))) htake)
  |exact A0 (A0 (m:=Builtin.Tuple.tupleExact _) (F7 (A7 (A7 ⟨_,rfl,A7 h⟩)) htake))
  |exact A0 (A0 (m:=Builtin.Tuple.tupleExact _) (F7 (A7 ⟨_,rfl,A7 h⟩) htake))
end
end HT
namespace L2
variable{H:Hp}{σ:St}{s:Shared}{pos:Pos}
open PySem PySem.Spec PyProof.Rows
noncomputable abbrev TO:=St->Hp->(Option Int->Hp->Prop)->Prop
noncomputable def PO(X:Cx)(e:Option Expr)(t:TO):Prop:=
 ∀(pins:List (Addr×Obj))(s:Shared)(σ:St)(H:Hp)(Q:Option Int->Hp->Prop),Inv X pins σ H s->t σ H Q->
  wpAny (model X.prog X.w) X.A (evalPart e X.env) (fun u s'=>∃o H',Inv X pins σ H' s'/\IsPart u o/\Q o H') X.xe s
noncomputable def yZ:TO:=fun _ H Q=>Q none H
noncomputable def LQ(t:TE):TO:=fun σ H Q=>t σ H fun x H1=>∃i,x=.int i/\Q (some i) H1
section
variable{X:Cx}{e:Expr}{te:TE}{lo hi:Option Expr}{tl th:TO}{pos p2:Pos}
theorem HG:PO X none yZ:=by
 intro pins s σ H Q I h;rw[evalPart_none];exact A7 ⟨none,H,I,.none,h⟩
theorem IM(h:PE X e te):PO X (some e) (LQ te):=by
 intro pins s σ H Q I hw;rw[evalPart_some];refine thn (h pins s σ H _ I hw) fun u s1 ⟨x,H1,I1,r1,q1⟩=>?_;obtain⟨i,rfl,q⟩:=q1;obtain⟨t,rfl⟩:=r1;exact⟨some i,H1,I1,.int i t,q⟩
noncomputable def SlR(X:Cx)(r:V->Option Int->Option Int->Hp->VK->Prop):Prop:=
 ∀(pins:List (Addr×Obj))(s:Shared)(σ:St)(H:Hp)(x:V)(v vl vu:Value)(lo hi:Option Int)(sl:Addr)(Q:VK),Inv X pins σ H s->RelV x v->s.heap.IsSliceOf sl vl vu .none->IsPart vl lo->IsPart vu hi->r x lo hi H Q->
  ∃T id,typeLookup (.type T) "__getitem__"=pure (some (.builtin id))/\s.TypeIs v T/\wpAny (model X.prog X.w) X.A (getItem v (.ref sl)) (EP X pins σ Q) X.xe s
theorem SlR.or{r r':V->Option Int->Option Int->Hp->VK->Prop}(h:SlR X r)(h':SlR X r'):SlR X (fun x lo hi H Q=>r x lo hi H Q\/r' x lo hi H Q):=by
 intro pins s σ H x v vl vu lo hi sl Q I rx hs pl pu q;rcases q with q|q
 .exact h pins s σ H x v vl vu lo hi sl Q I rx hs pl pu q
 .exact h' pins s σ H x v vl vu lo hi sl Q I rx hs pl pu q
noncomputable def tSl(r:V->Option Int->Option Int->Hp->VK->Prop)(te:TE)(tl th:TO):TE:=fun σ H Q=>te σ H fun x H1=>tl σ H1 fun l H2=>th σ H2 fun u H3=>r x l u H3 Q
theorem GH{r:V->Option Int->Option Int->Hp->VK->Prop}(hr:SlR X r)(he:PE X e te)(hl:PO X lo tl)(hu:PO X hi th):PE X (.Subscript e (.Slice lo hi none p2) pos) (tSl r te tl th):=by
 intro pins s σ H Q I h;refine Subscript_ (thn (he pins s σ H _ I h) fun v s1 ⟨x,H1,I1,r1,q1⟩=>?_);refine wpAny_Slice (thn (hl pins s1 σ H1 _ I1 q1) fun vl s2 ⟨l,H2,I2,pl,q2⟩=>thn (hu pins s2 σ H2 _ I2 q2) fun vu s3 ⟨u,H3,I3,pu,q3⟩=>?_);rw[evalPart_none];refine A7 ?_;have I4:Inv X pins σ H3 { s3 with heap:=s3.heap.push { cls:=.type "slice",data:=.fields #[vl,vu,.none] } }:=I3.kept (t':=s3.toks) fun b ob q=>B2 _ q;obtain⟨T,id,hT,ht,hg⟩:=hr pins { s3 with heap:=s3.heap.push { cls:=.type "slice",data:=.fields #[vl,vu,.none] } } σ H3 x v vl vu l u s3.heap.objs.size Q I4 r1 (Heap.IsSliceOf.new ..) pl pu q3;show wpAny (model X.prog X.w) X.A (subscriptTail e (.Slice lo hi none p2) v (.ref s3.heap.objs.size)) (EP X pins σ Q) X.xe { s3 with heap:=s3.heap.push { cls:=.type "slice",data:=.fields #[vl,vu,.none] } };exact tail_any (ops:=[.ref s3.heap.objs.size,v]) ht hT hg (by with_unfolding_all rfl)
noncomputable def oK(xs:List V)(lo hi:Option Int):List V:=(xs.drop (HT.sIx xs.length 0 lo)).take (HT.sIx xs.length xs.length hi-HT.sIx xs.length 0 lo)
theorem oZ(xs:List V)(lo hi:Option Int):(oK xs lo hi).length<=xs.length:=by
 unfold oK;rw[D3,E2];omega
noncomputable def TJ(K:Fg):V->Option Int->Option Int->Hp->VK->Prop:=fun x lo hi H Q=>∃a xs,x=.ref a/\SqT K H a xs /\
 ¬(HT.sIx xs.length 0 lo=0/\HT.sIx xs.length xs.length hi=xs.length)/\∀p,H p=none->Q (.ref p) (upd H p (.tup (oK xs lo hi)))
theorem sl_tup:SlR X (TJ X.K):=by
 intro pins s σ H x v vl vu lo hi sl Q I rx hs pl pu h;obtain⟨a,xs,rfl,hx,hw,q⟩:=h;cases rx;obtain⟨its,r,ht,hz⟩:=I.tuple hx;have hlen:its.toArray.size=xs.length:=by rw[B9];exact r.length.symm
 refine⟨"tuple",_,PyProof.Rows.slot_tuple_getitem.lookup,ht.typeIs,?_⟩;refine HT.getItem_tuple_cut ht hs pl pu (by rw[hlen];exact hw) ?_ (by rw[hlen];exact hz);rw[hlen];refine⟨.ref s.heap.objs.size,_,I.laid (t':=s.toks) (o:=.tup (oK xs lo hi)) (fun b ob q=>B2 _ q) (A4 _) ?_,rfl,q _ (I.hok.fresh (A4 _))⟩;exact⟨C7 (oZ xs lo hi) hz,_,(r.drop (HT.sIx xs.length 0 lo)).take (HT.sIx xs.length xs.length hi-HT.sIx xs.length 0 lo),IsTup.new _ _⟩
noncomputable def CI(K:Fg):R2:=fun x y H Q=>∃a b xs ys,x=.ref a/\y=.ref b/\SqT K H a xs/\SqT K H b ys/\xs≠[]/\xs.length+ys.length<=sizeLine /\
 (ys=[]->Q (.ref a) H)/\(ys≠[]->∀p,H p=none->Q (.ref p) (upd H p (.tup (xs++ys))))
theorem bH.nil_iff{xs:List V}{us:List Value}(r:bH xs us):us=[]↔xs=[]:=by
 cases r with
 |nil=>simp
 |cons _ _=>simp
theorem HQ:OpR X (binaryOp .Add) (CI X.K):=by
 intro pins s σ H x y v u Q I rx ry h;obtain⟨a,b,xs,ys,rfl,rfl,ha,hb,hx,hz,q1,q2⟩:=h;cases rx;cases ry;obtain⟨its,r1,p1,_⟩:=I.tuple ha;obtain⟨its2,r2,p2,_⟩:=I.tuple hb;refine HT.cat_tup p1 p2 (fun z=>hx (r1.nil_iff.mp z)) (fun z=>⟨.ref a,H,I,rfl,q1 (r2.nil_iff.mp z)⟩) (fun z=>?_) (by rw[<- r1.length,<- r2.length];exact hz);refine⟨.ref s.heap.objs.size,_,I.laid (t':=s.toks) (o:=.tup (xs++ys)) (fun b ob q=>B2 _ q) (A4 _) ?_,rfl,q2 (fun w=>z (r2.nil_iff.mpr w)) _ (I.hok.fresh (A4 _))⟩;exact⟨by rw[A9];exact hz,_,r1.append r2,IsTup.new _ _⟩
end
noncomputable def ixN(n:Nat)(i:Int):Option Nat:=if 0<=i then(if i<n then some i.toNat else none)else if -(n:Int)<=i then some (i+n).toNat else none
noncomputable def atI{α:Type}(xs:List α)(i:Int):Option α:=(ixN xs.length i).bind fun j=>xs[j]?
theorem zE{n:Nat}{i:Int}{j:Nat}(h:ixN n i=some j):seqIndex? i n=some j/\j<n/\-(n:Int)<=i/\i<n:=by
 unfold ixN at h;by_cases h0:0<=i
 .rw[A6 h0]at h;by_cases h1:i<n
  .rw[A6 h1]at h;have e:i.toNat=j:=C5 h;exact⟨by rw[seqIndex_of h0 h1,e],by omega,by omega,h1⟩
  .rw[B0 h1]at h;cases h
 .rw[B0 h0]at h;by_cases h1:-(n:Int)<=i
  .rw[A6 h1]at h;have e:(i+n).toNat=j:=C5 h;exact⟨by rw[seqIndex_neg (by omega) h1,e],by omega,h1,by omega⟩
  .rw[B0 h1]at h;cases h
theorem vC{α:Type}{xs:List α}{i:Int}{v:α}(h:atI xs i=some v):∃j,seqIndex? i xs.length=some j/\xs[j]?=some v/\j<xs.length/\-(xs.length:Int)<=i/\i<xs.length:=by
 unfold atI at h;cases e:ixN xs.length i with
 |none=>rw[e]at h;cases h
 |some j=>
  rw[e]at h;obtain⟨h1,h2,h3,h4⟩:=zE e;exact⟨j,h1,h,h2,h3,h4⟩
theorem zF{α:Type}{xs:List α}{j:Nat}{v:α}(h:xs[j]?=some v):atI xs (j:Int)=some v:=by
 have hj:j<xs.length:=(List.getElem?_eq_some_iff.mp h).1
 have e:ixN xs.length (j:Int)=some j:=by
  unfold ixN;rw[A6 (by omega),A6 (by omega)];simp
 unfold atI;rw[e];exact h
noncomputable def zP(b:Expr):Prop:=∀o i,subscripted b false o i=operate [o,i] (getItem o i)
noncomputable def IxR(X:Cx)(r:R2):Prop:=
 ∀(value slice:Expr)(pins:List (Addr×Obj))(s:Shared)(σ:St)(H:Hp)(x y:V)(v u:Value)(Q:VK),Inv X pins σ H s->RelV x v->RelV y u->r x y H Q->
  subscripted slice false v u=operate [v,u] (getItem v u)->wpAny (model X.prog X.w) X.A (subscriptTail value slice v u) (EP X pins σ Q) X.xe s
noncomputable def MtR(X:Cx)(id:String)(r:V->List V->Hp->VK->Prop):Prop:=
 ∀(pins:List (Addr×Obj))(s:Shared)(σ:St)(H:Hp)(x:V)(xs:List V)(v:Value)(us:List Value)(Q:VK),Inv X pins σ H s->RelV x v->bH xs us->r x xs H Q->
  wpAny (model X.prog X.w) X.A (call (.builtin id) (v::us)) (EP X pins σ Q) X.xe s
section
variable{X:Cx}{a b:Expr}{ta tb:TE}{pos:Pos}
theorem IxR.or{r r':R2}(h:IxR X r)(h':IxR X r'):IxR X (fun x y H Q=>r x y H Q\/r' x y H Q):=by
 intro value slice pins s σ H x y v u Q I rx ry q hs;rcases q with q|q
 .exact h value slice pins s σ H x y v u Q I rx ry q hs
 .exact h' value slice pins s σ H x y v u Q I rx ry q hs
theorem SY{r:R2}(hr:IxR X r)(ha:PE X a ta)(hb:PE X b tb)(hs:zP b):PE X (.Subscript a b pos) (tOp r ta tb):=by
 intro pins s σ H Q I h;exact Subscript_ (QL ha hb I h fun v u s2 x y H2 I2 rx ry q=>hr a b pins s2 σ H2 x y v u Q I2 rx ry q (hs _ _))
noncomputable def VY(K:Fg):R2:=fun x y H Q=>∃p xs i v,x=.ref p/\y=.int i/\SqL K H p xs/\atI xs i=some v/\Q v H
noncomputable def VR(K:Fg):R2:=fun x y H Q=>∃p xs i v,x=.ref p/\y=.int i/\SqT K H p xs/\atI xs i=some v/\Q v H
noncomputable def WJ:R2:=fun x y H Q=>∃z i c,x=.str z/\y=.int i/\z.length<=sizeLine/\atI z.cps.toList i=some c/\Q (.str ⟨#[c]⟩) H
theorem ix_list:IxR X (VY X.K):=by
 intro value slice pins s σ H x y v u Q I rx ry h hs;obtain⟨p,xs,i,z,rfl,rfl,hq,he,q⟩:=h;cases rx;obtain⟨t,rfl⟩:=ry;obtain⟨its,r,pl,hz⟩:=I.list hq;obtain⟨j,h1,h2,h3,h4,h5⟩:=vC he;obtain⟨w,ew,rw'⟩:=r.get h2;have hl:=r.length;have hn:=oP;have fin:EP X pins σ Q w s:=⟨z,H,I,rw',q⟩;by_cases h0:0<=i
 .have hj:i.toNat=j:=by
   rw[seqIndex_of h0 h5]at h1;exact C5 h1
  exact item_listR pl.isList h0 (by omega) (by rw[hj];simpa using ew) fin hs
 .have hj:(i+(its.toArray.size:Int)).toNat=j:=by
   rw[seqIndex_neg (by omega) h4]at h1;rw[B9,<- hl];exact C5 h1
  exact subscriptTail_builtinR (x:=w) pl.isList.typeIs slot_list_getitem.lookup
   (wpAny_getItem_list_neg (Q:=fun r s'=>r=w/\EP X pins σ Q r s') pl.isList (by omega) (by rw[B9]<;>omega) (by omega) (by rw[hj];simpa using ew) ⟨rfl,fin⟩) hs
theorem ix_tup:IxR X (VR X.K):=by
 intro value slice pins s σ H x y v u Q I rx ry h hs;obtain⟨p,xs,i,z,rfl,rfl,hq,he,q⟩:=h;cases rx;obtain⟨t,rfl⟩:=ry;obtain⟨its,r,pl,hz⟩:=I.tuple hq;obtain⟨j,h1,h2,h3,h4,h5⟩:=vC he;obtain⟨w,ew,rw'⟩:=r.get h2;have hl:=r.length;have hn:=oP;have fin:EP X pins σ Q w s:=⟨z,H,I,rw',q⟩
 exact subscriptTail_builtinR (x:=w) pl.typeIs slot_tuple_getitem.lookup
  (getItem_tuple (j:=j) (Q:=fun r s'=>r=w/\EP X pins σ Q r s') pl (by omega) (by omega) (by rw[B9,<- hl];exact h1) (by simpa using ew) ⟨rfl,fin⟩) hs
theorem QV:IxR X WJ:=by
 intro value slice pins s σ H x y v u Q I rx ry h hs;obtain⟨z,i,c,rfl,rfl,hz,he,q⟩:=h;obtain⟨t,rfl⟩:=rx;obtain⟨t',rfl⟩:=ry;obtain⟨j,h1,h2,h3,h4,h5⟩:=vC he;have hl:z.cps.toList.length=z.length:=by simp[Str.length]
 rw[hl]at h1 h4 h5;have hn:=oP
 exact tail_any (typeIs_str s z t) slot_str_getitem.lookup (getItem_str (c:=c) (by
  have e1:decide (i < -(2 ^ 63:Int))=false:=C8 (by omega);have e2:decide (i>=2 ^ 63)=false:=C8 (by omega);rw[e1,e2,Bool.or_false]) (by rw[h1];simpa using h2) ⟨.str ⟨#[c]⟩,H,I.tok _,⟨_,rfl⟩,q⟩) hs
noncomputable def rIx(K:Fg):R2:=fun x y H Q=>VY K x y H Q\/VR K x y H Q\/WJ x y H Q
theorem OT:IxR X (rIx X.K):=ix_list.or (ix_tup.or QV)
theorem yU(its:List Value)(n j:Nat)(u:Value):Obj.mapSeq (·.setIfInBounds j u) { cls:=.type "list",data:=.seq its.toArray n }={ cls:=.type "list",data:=.seq (its.set j u).toArray n }:=by
 simp[Obj.mapSeq]
theorem Inv.lst{pins:List (Addr×Obj)}{p:Addr}{xs:List V}(I:Inv X pins σ H s)(h:H p=some (.lst xs)):
 ∃(its:List Value)(n:Nat),bH xs its/\s.heap.get? p=some { cls:=.type "list",data:=.seq its.toArray n }/\xs.length<=sizeLine:=by
 obtain⟨z,its,n,r,e⟩:=I.hok p _ h;exact⟨its,n,r,e,z⟩
theorem Inv.lstUpd{pins:List (Addr×Obj)}{p:Addr}{xs ys:List V}{its its':List Value}{n n':Nat}{f:Obj->Obj}(I:Inv X pins σ H s)(h:H p=some (.lst xs))
 (ho:s.heap.get? p=some { cls:=.type "list",data:=.seq its.toArray n }) (hf:f { cls:=.type "list",data:=.seq its.toArray n }={ cls:=.type "list",data:=.seq its'.toArray n' }) (r:bH ys its') (hz:ys.length<=sizeLine) (t:Nat):
 Inv X pins σ (upd H p (.lst ys)) { s with heap:=s.heap.update p f,toks:=t }:=by
 have e:(s.heap.update p f).get? p=some { cls:=.type "list",data:=.seq its'.toArray n' }:=by
  rw[Heap.get?_update_self f ho (by rw[hf]<;>rfl),hf]
 refine I.write (x:=p) (e:=p) (by rw[h];trivial) (.inl rfl) (fun b u hb q=>(Heap.get?_update_other _ _ (Ne.symm hb)).trans q) ⟨_,e⟩ ?_;exact⟨hz,its',n',r,e⟩
noncomputable def MN:V->V->V->Hp->(Hp->Prop)->Prop:=fun o i v H Q=>∃p xs k j,o=.ref p/\i=.int k/\H p=some (.lst xs)/\ixN xs.length k=some j/\Q (upd H p (.lst (xs.set j v)))
theorem set_list:OM X MN:=by
 intro pins s σ H o i v ov iv u Q I ro ri rv h;obtain⟨p,xs,k,j,rfl,rfl,hp,hj,q⟩:=h;cases ro;obtain⟨t,rfl⟩:=ri;obtain⟨its,n,r,ho,hz⟩:=I.lst hp;obtain⟨h1,h2,h3,h4⟩:=zE hj;have hl:=r.length;have hn:=oP
 have I':Inv X pins σ (upd H p (.lst (xs.set j v))) { s with heap:=s.heap.update p (Obj.mapSeq (·.setIfInBounds j u)) }:=
  I.lstUpd hp ho (yU its n j u) (r.set rv j) (by rw[List.length_set];exact hz) s.toks
 by_cases h0:0<=k
 .have hk:k.toNat=j:=by
   rw[seqIndex_of h0 h4]at h1;exact C5 h1
  exact PySem.W.ki_setAt ho h0 (by omega) (by rw[B9,<- hl];exact h4) (by rw[hk];exact⟨_,I',q⟩)
 .have hk:(k+(its.toArray.size:Int)).toNat=j:=by
   rw[seqIndex_neg (by omega) h3]at h1;rw[B9,<- hl];exact C5 h1
  exact PySem.W.ki_setBack ho (by omega) (by rw[B9,<- hl];exact h3) (by omega) (by rw[hk];exact⟨_,I',q⟩)
theorem uB(lo hi:Option Int)(n:Nat):(sliceBounds lo hi none n).1=((HT.sIx n 0 lo:Nat):Int)/\(sliceBounds lo hi none n).2.1=((HT.sIx n n hi:Nat):Int)/\(sliceBounds lo hi none n).2.2=1:=by
 refine⟨?_,?_,rfl⟩
 .cases lo with
  |none=>simp[sliceBounds,HT.sIx]
  |some i=>
   simp only[sliceBounds,HT.sIx,Option.getD_none,show(1:Int) > 0 by decide,if_true];by_cases h:i<0
   .simp only[h,if_true]<;>omega
   .simp only[h,if_false]<;>omega
 .cases hi with
  |none=>simp[sliceBounds,HT.sIx]
  |some i=>
   simp only[sliceBounds,HT.sIx,Option.getD_none,show(1:Int) > 0 by decide,if_true];by_cases h:i<0
   .simp only[h,if_true]<;>omega
   .simp only[h,if_false]<;>omega
theorem sG(its:List Value)(lo hi:Option Int):slicePick its.toArray lo hi none=((its.drop (HT.sIx its.length 0 lo)).take (HT.sIx its.length its.length hi-HT.sIx its.length 0 lo)).toArray:=by
 obtain⟨h1,h2,h3⟩:=uB lo hi its.toArray.size;unfold slicePick;rw[h1,h2,h3];simp only[sliceRange_one,pick_run,List.size_toArray]<;>rfl
noncomputable def TB(K:Fg):V->Option Int->Option Int->Hp->VK->Prop:=fun x lo hi H Q=>∃a xs,x=.ref a/\SqL K H a xs/\∀p,H p=none->Q (.ref p) (upd H p (.lst (oK xs lo hi)))
theorem sl_list:SlR X (TB X.K):=by
 intro pins s σ H x v vl vu lo hi sl Q I rx hs pl pu h;obtain⟨a,xs,rfl,hx,q⟩:=h;cases rx;obtain⟨its,r,ht,hz⟩:=I.list hx;have hlen:=r.length;refine⟨"list",_,slot_list_getitem.lookup,ht.isList.typeIs,?_⟩;refine wpAny_getItem_list_slice ht.isList hs pl pu .none (by simp) ?_ (by rw[B9]<;>omega);rw[sG,<- hlen];refine⟨.ref s.heap.objs.size,_,I.laid (t':=s.toks) (o:=.lst (oK xs lo hi)) (fun b ob q=>B2 _ q) (A4 _) ?_,rfl,q _ (I.hok.fresh (A4 _))⟩;exact⟨C7 (oZ xs lo hi) hz,_,0,(r.drop (HT.sIx xs.length 0 lo)).take (HT.sIx xs.length xs.length hi-HT.sIx xs.length 0 lo),D1 _ rfl⟩
theorem uO:gC X (.builtin "len") (fun xs H Q=>∃p ys,xs=[.ref p]/\(SqL X.K H p ys\/SqT X.K H p ys)/\Q (.int ys.length) H):=by
 intro pins s σ H xs us Q I r h;obtain⟨p,ys,rfl,hq,q⟩:=h;obtain⟨u,rfl,rx⟩:=vals1 r;cases rx;have hn:=oP;rcases hq with hq|hq
 .obtain⟨its,r',pl,hz⟩:=I.list hq;have hlen:=r'.length;exact Calls.call_len_list pl.isList (by simp only[List.size_toArray]<;>omega) ⟨.int ys.length,H,I.tok _,⟨s.toks+1,by rw[B9,hlen]⟩,q⟩
 .obtain⟨its,r',pl,hz⟩:=I.tuple hq;have hlen:=r'.length;exact len_tuple pl (by simp only[List.size_toArray]<;>omega) ⟨.int ys.length,H,I.tok _,⟨s.toks+1,by rw[B9,hlen]⟩,q⟩
theorem sE:gC X (.type "tuple") (fun xs H Q=>∃p ys,xs=[.ref p]/\((SqL X.K H p ys/\∀l,H l=none->Q (.ref l) (upd H l (.tup ys)))\/(SqT X.K H p ys/\Q (.ref p) H))):=by
 intro pins s σ H xs us Q I r h;obtain⟨p,ys,rfl,h⟩:=h;obtain⟨u,rfl,rx⟩:=vals1 r;cases rx;rcases h with⟨hq,q⟩|⟨hq,q⟩
 .obtain⟨its,r',pl,hz⟩:=I.list hq;have hlen:=r'.length;refine call_tuple_list pl.isList (fun h' kp=>?_) (by simp only[List.size_toArray]<;>omega);have I1:Inv X pins σ H { s with heap:=h' }:=I.kept (t':=s.toks) kp
  have I2:Inv X pins σ (upd H h'.objs.size (.tup ys)) { s with heap:=h'.push { cls:=.type "tuple",data:=.seq its.toArray } }:=
   I1.laid (t':=s.toks) (fun b o e=>B2 _ e) (A4 _) (show dS X.prog X.w _ _ _ (.tup ys)from⟨hz,its,r',IsTup.new _ _⟩)
  exact⟨.ref h'.objs.size,_,I2,rfl,q _ (I1.hok.fresh (A4 _))⟩
 .obtain⟨its,r',pl,hz⟩:=I.tuple hq;exact call_tuple_same pl ⟨.ref p,H,I,rfl,q⟩
noncomputable def tyV(K:Fg)(T:String)(x:V)(H:Hp):Prop:=match x with
 |.str _=>T="str"
 |.int _=>T="int"
 |.ref p=>(T="list"/\∃xs,SqL K H p xs)\/(T="tuple"/\∃o,K.lookup p=some o/\o.cls=.type "tuple"/\o.dict=none) \/
  (T="dict"/\((∃kvs,H p=some (.dK kvs))\/∃kvs,H p=some (.dT kvs)))\/(T="set"/\∃S n,H p=some (.set S n))
 |_=>False
theorem MZ{pins:List (Addr×Obj)}{T:String}{x:V}{v:Value}(I:Inv X pins σ H s)(r:RelV x v)(ty:tyV X.K T x H):
 s.TypeIs v T/\∀a,v=.ref a->∃ob,s.heap.get? a=some ob/\ob.dict=none:=by
 cases x with
 |str z=>
  obtain⟨t,rfl⟩:=r;cases (show T="str" from ty);exact⟨typeIs_str s z t,fun _ e=>nomatch e⟩
 |int i=>
  obtain⟨t,rfl⟩:=r;cases (show T="int" from ty);exact⟨typeIs_int s i t,fun _ e=>nomatch e⟩
 |ref p=>
  cases r;rcases ty with⟨rfl,xs,hq⟩|⟨rfl,o,hk,hc,hd⟩|⟨rfl,hk⟩|⟨rfl,S,n,hk⟩
  .obtain⟨its,_,pl,_⟩:=I.list hq;refine⟨pl.isList.typeIs,fun a e=>?_⟩;cases e;obtain⟨o,n,e,c,hd,_⟩:=pl;exact⟨o,e,hd⟩
  .refine⟨⟨o,I.kIn p o hk,hc⟩,fun a e=>?_⟩;cases e;exact⟨o,I.kIn _ o hk,hd⟩
  .have z:∃o,s.heap.get? p=some o/\o.ExactDict:=by
    rcases hk with⟨kvs,hk⟩|⟨kvs,hk⟩
    .obtain⟨_,_,_,_,o,_,_,e,ex,_⟩:=I.hok p _ hk;exact⟨o,e,ex⟩
    .obtain⟨_,_,_,_,o,_,_,e,ex,_⟩:=I.hok p _ hk;exact⟨o,e,ex⟩
   obtain⟨o,e,ex⟩:=z;refine⟨⟨o,e,ex.1⟩,fun a e2=>?_⟩;cases e2;exact⟨o,e,ex.2.1⟩
  .obtain⟨o,_,_,_,e,ex,_⟩:=I.hok p _ hk;refine⟨⟨o,e,ex.1⟩,fun a e2=>?_⟩;cases e2;exact⟨o,e,ex.2.1⟩
 |_=>exact False.elim ty
noncomputable def tBM(K:Fg)(T:String)(r:V->List V->Hp->VK->Prop)(to:TE)(t:TA):TE:=fun σ H Q=>to σ H fun x H1=>tyV K T x H1/\t σ H1 fun xs H2=>r x xs H2 Q
variable{o e:Expr}{es:List Expr}{to:TE}{t:TA}{name:Str}{apos cpos:Pos}{T id:String}{r:V->List V->Hp->VK->Prop}
theorem WL(pa:PlainAttrs T)(slot:Slot T name id)(hty:typeOf (.builtin id)=pure (.type "method_descriptor"))(hm:MtR X id r)(ho:PE X o to)(ha:PA X (e::es) t)
 (hbase:attributeBase o name X.env (eval o X.env)=eval o X.env:=by rfl)
 (hfew:((backTo cpos (starEach (e::es) X.env)).all (fun x=>!x.1)&&(backToKw cpos (keywordEach [] X.env)).all (fun x=>x.1.isSome)
  && decide ((e::es).length+([]:List Keyword).length+(if ([]:List Keyword).isEmpty then 0 else 1)<30))=true:=by rfl)
 (hline:(apos.endLine==cpos.line)=true:=by rfl) (hs:starEach (e::es) X.env=(false,eval e X.env)::starEach es X.env:=by rfl) (hplain:(backTo cpos (starEach es X.env)).any (·.1)=false:=by rfl):
 PE X (.Call (.Attribute o name apos) (e::es) [] cpos) (tBM X.K T r to t):=by
 intro pins s σ H Q I h;refine wpAny_Call_method_late hbase hfew hline rfl (thn (ho pins s σ H _ I h) fun v s1 ⟨x,H1,I1,r1,ty,q1⟩=>?_);obtain⟨h1,h2⟩:=MZ I1 r1 ty;refine⟨T,id,pa,slot,hty,h1,h2,?_⟩;have hA:=ha cpos pins s1 σ H1 _ I1 q1;rw[hs]at hA ⊢;refine Calls.callWith_builtin (by show(false || (backTo cpos (starEach es X.env)).any (·.1))=false;rw[hplain]<;>rfl) (Calls.evalArgs_plain ?_);exact thn hA fun us s2 ⟨vs,H2,I2,r2,q2⟩=>hm pins s2 σ H2 x vs v us Q I2 r1 r2 q2
end
noncomputable def MtM(X:Cx)(id:String)(r:V->List V->Hp->VK->Prop):Prop:=
 ∀(pins:List (Addr×Obj))(s:Shared)(σ:St)(H:Hp)(x:V)(xs:List V)(v:Value)(us:List Value)(Q:VK),Inv X pins σ H s->RelV x v->bH xs us->r x xs H Q->
  wpAny (model X.prog X.w) X.A (call (.builtin id) (v::us)) (EP X pins σ Q) X.xe s
theorem bH.one:∀{x:V}{us:List Value},bH [x] us->∃u,us=[u]/\RelV x u
 |_,_,.cons r .nil=>⟨_,rfl,r⟩
section
variable{X:Cx}{pins:List (Addr×Obj)}{σ:St}{H:Hp}{s:Shared}{l b:Addr}{xs ys zs:List V}
theorem Inv.lset{its its':List Value}{n:Nat}{f:Array Value->Array Value}{t':Nat}(I:Inv X pins σ H s)(hH:H l=some (.lst xs))
 (e:s.heap.get? l=some { cls:=.type "list",data:=.seq its.toArray n }) (hf:f its.toArray=its'.toArray) (hv:bH ys its') (hz:ys.length<=sizeLine):
 Inv X pins σ (upd H l (.lst ys)) { s with heap:=s.heap.update l (Obj.mapSeq f),toks:=t' }:=by
 have q:=PySem.IsL.update e f;rw[hf]at q;refine I.write (x:=l) (e:=l) (by rw[hH];exact trivial) (.inl rfl) (fun b' u hb hu=>(Heap.get?_update_other s.heap (Obj.mapSeq f) (Ne.symm hb)).trans hu) ⟨_,q⟩ ?_;exact⟨hz,its',_,hv,q⟩
theorem Inv.lnew{its:List Value}{t':Nat}(I:Inv X pins σ H s)(hv:bH ys its)(hz:ys.length<=sizeLine):
 Inv X pins σ (upd H s.heap.objs.size (.lst ys)) { s with heap:=s.heap.push { cls:=.type "list",data:=.seq its.toArray },toks:=t' }:=
 I.laid (fun _ _ q=>B2 _ q) (A4 _) ⟨hz,its,0,hv,D1 _ rfl⟩
theorem Inv.fresh(I:Inv X pins σ H s):H s.heap.objs.size=none:=I.hok.fresh (A4 _)
theorem Inv.lstM(I:Inv X pins σ H s)(hH:H l=some (.lst xs)):xs.length<=sizeLine/\∃(its:List Value)(n:Nat),bH xs its/\xs.length=its.length/\s.heap.get? l=some { cls:=.type "list",data:=.seq its.toArray n }:=by
 obtain⟨z,its,n,r,e⟩:=I.hok l _ hH;exact⟨z,its,n,r,r.length,e⟩
end
section
variable{X:Cx}
noncomputable def zW:V->List V->Hp->VK->Prop:=fun x vs H Q=>∃l xs y,x=.ref l/\vs=[y]/\H l=some (.lst xs)/\xs.length<sizeLine/\Q .non (upd H l (.lst (xs++[y])))
theorem CF:MtM X "list.append" zW:=by
 intro pins s σ H x vs v us Q I rx rv h;obtain⟨l,xs,y,rfl,rfl,hH,hz,q⟩:=h;cases rx;obtain⟨u,rfl,ru⟩:=rv.one;obtain⟨z,its,n,r,hl,e⟩:=I.lstM hH;refine call_meets F.slot_list_append ⟨_,e,rfl⟩ F.entry_list_append (F.args_list_append_2 _ _) (PySem.list_append l its.toArray n u (by rw[B9];omega)) ⟨e,?_⟩;refine⟨.non,_,I.lset (its':=its++[u]) hH e (by simp) (r.append (.cons ru .nil)) ?_,rfl,q⟩;rw[A9,E1];omega
end
section
variable{κ:Type}[DecidableEq κ]
noncomputable def uZ(kvs:List (κ×V))(k:κ):Option V:=(kvs.find? fun kv=>decide (kv.1=k)).map (·.2)
noncomputable def putK(kvs:List (κ×V))(k:κ)(v:V):List (κ×V):=
 if (kvs.any fun kv=>decide (kv.1=k))=true then kvs.map (fun kv=>if kv.1=k then(kv.1,v)else kv)else kvs++[(k,v)]
theorem HA{p:κ×V}{r:List (κ×V)}{k:κ}(e:p.1=k):uZ (p::r) k=some p.2:=by simp[uZ,List.find?_cons,e]
theorem DC{p:κ×V}{r:List (κ×V)}{k:κ}(e:¬p.1=k):uZ (p::r) k=uZ r k:=by simp[uZ,List.find?_cons,e]
theorem vL(k:κ):∀kvs:List (κ×V),(kvs.any fun kv=>decide (kv.1=k))=(uZ kvs k).isSome
 |[]=>rfl
 |p::r=>by
  rw[J5];by_cases e:p.1=k
  .simp only[HA e,decide_eq_true e,Bool.true_or,Option.isSome_some]
  .rw[DC e,C8 e,Bool.false_or];exact vL k r
theorem vH(kvs:List (κ×V))(k:κ)(v:V):(putK kvs k v).length<=kvs.length+1:=by
 unfold putK;split
 .rw[A3];omega
 .rw[A9,C1,List.length_nil];omega
theorem EI{kvs:List (κ×V)}{k:κ}(v:V)(h:uZ kvs k=none):putK kvs k v=kvs++[(k,v)]:=by
 unfold putK;rw[vL,h];exact B0 (by decide)
theorem KV.any{kvs:List (κ×V)}{vs:List (κ×Value)}(r:KV kvs vs)(k:κ):(kvs.any fun kv=>decide (kv.1=k))=vs.any fun kv=>decide (kv.1=k):=by
 unfold KV at r
 induction r with
 |nil=>rfl
 |cons h t ih=>rw[J5,J5,ih,h.1]
theorem KV.repl{kvs:List (κ×V)}{vs:List (κ×Value)}(r:KV kvs vs)(k:κ){y:V}{u:Value}(ry:RelV y u):
 KV (kvs.map fun kv=>if kv.1=k then(kv.1,y)else kv) (vs.map fun kv=>if kv.1=k then(kv.1,u)else kv):=by
 unfold KV at r ⊢
 induction r with
 |nil=>exact .nil
 |@cons p q ps qs h t ih=>
  rw[B6,B6];refine .cons ?_ ih;obtain⟨h1,h2⟩:=h;by_cases e:p.1=k
  .rw[A6 e,A6 (h1.symm.trans e)];exact⟨h1,ry⟩
  .rw[B0 e,B0 (fun z=>e (h1.trans z))];exact⟨h1,h2⟩
theorem KV.put{kvs:List (κ×V)}{vs:List (κ×Value)}(r:KV kvs vs)(k:κ){y:V}{u:Value}(ry:RelV y u):KV (putK kvs k y) (stored vs k u):=by
 unfold putK stored;rw[r.any k];by_cases e:(vs.any fun kv=>decide (kv.1=k))=true
 .rw[A6 e,A6 e];exact r.repl k ry
 .rw[B0 e,B0 e];exact Paired.snoc r ⟨rfl,ry⟩
end
theorem LI{P:Program}{w:World}{k:Key}{u:Value}(r:RelV (kV k) u):(cM P w).is k u=true:=by
 cases k with
 |inl i=>obtain⟨t,e⟩:=(show ∃t,u=Value.int i t from r);subst e;exact xF P w i t
 |inr x=>obtain⟨t,e⟩:=(show ∃t,u=Value.str x t from r);subst e;exact xA P w x t
theorem sT{P:Program}{w:World}:∀{ks:List Key}{us:List Value},bH (ks.map kV) us->ItemsAre (cM P w) ks us
 |[],_=>fun r=>by rw[List.map_nil]at r;cases r;exact .nil
 |k::ks,_=>fun r=>by
  rw[B6]at r;cases r with
  |cons h t=>exact .cons (LI h) (sT t)
section
variable{P:Program}{w:World}{H:Hp}{h:Heap}{a:Addr}
theorem SX{u:HO}(ok:HOk P w H h)(e:Rd H a u):dS P w H h a u:=e.ok ok
theorem UK{kvs:List (Key×V)}(ok:HOk P w H h)(e:Rd H a (.dK kvs)):kvs.length<=sizeLine/\(a==sysModules)=false/\∃vs,KV kvs vs/\h.DictOf (cM P w) a vs:=
 show dS P w H h a (.dK kvs)from SX ok e
theorem UD{kvs:List (Key×V)}(ok:HOk P w H h)(e:H a=some (.dK kvs)):kvs.length<=sizeLine/\(a==sysModules)=false/\∃vs,KV kvs vs/\h.DictOf (cM P w) a vs:=UK ok (.inl e)
theorem EN{ks:List Key}(ok:HOk P w H h)(e:H a=some (.tup (ks.map kV))):(tupleKind (cM P w)).is h ks a:=by
 obtain⟨_,its,r,o,h1,h2,n,h3⟩:=(show dS P w H h a (.tup (ks.map kV))from ok a _ e);exact⟨o,its.toArray,n,h1,h2,h3,by simpa using sT r⟩
end
section
variable{X:Cx}{pins:List (Addr×Obj)}{σ:St}{H:Hp}{s:Shared}{a:Addr}{y v:V}{u r:Value}{o:Option V}{A:Around}{E:Value->Shared->Prop}
theorem Inv.big(I:Inv X pins σ H s):sysModules<s.heap.objs.size:=by
 have h:mainGlobals<s.heap.objs.size:=(I.mod.glob.keeps I.bk).lt;exact Nat.lt_trans (by decide) h
theorem IP{h':Heap}{t':Nat}{ob:HO}(I:Inv X pins σ H s)(mu:Mut (H a))(hs:Heap.SameBut a s.heap h')(he:∃q,h'.get? a=some q)(new:dS X.prog X.w (upd H a ob) h' a ob):
 Inv X pins σ (upd H a ob) { s with heap:=h',toks:=t' }:=
 I.write (x:=a) (e:=a) mu (.inl rfl) (fun b q hb z=>(hs.2 b hb).trans z) he new
theorem QR{P:Program}{w:World}{H':Hp}{h':Heap}{kvs:List (Key×V)}{vs:List (Key×Value)}(z:kvs.length<=sizeLine)(hd:(a==sysModules)=false)(rel:KV kvs vs)(dd:h'.DictOf (cM P w) a vs):
 dS P w H' h' a (.dK kvs):=⟨z,hd,vs,rel,dd⟩
end
theorem xE{P:Program}{w:World}(h:Heap)(hb:sysModules<h.objs.size):dS P w H (h.push { cls:=.type "dict",data:=.dict #[] }) h.objs.size (.dK []):=
 ⟨C6 _,beq_eq_false_iff_ne.mpr (Ne.symm (C0 hb)),[],.nil,Heap.DictOf.new h⟩
noncomputable def EL:TE:=fun _ H Q=>∀p,H p=none->Q (.ref p) (upd H p (.dK []))
section
variable{X:Cx}{pos:Pos}
theorem CP:PE X (.Dict [] [] pos) EL:=fun pins s σ H Q I h=>
 wpAny_Dict_empty ⟨.ref s.heap.objs.size,_,I.laid (a:=s.heap.objs.size) (o:=.dK []) (t':=s.toks) (fun _ _ q=>B2 _ q) (A4 _) (xE s.heap I.big),rfl,h _ (I.hok.fresh (A4 _))⟩
end
noncomputable def uI:List (TE×TE)->St->Hp->(List (V×V)->Hp->Prop)->Prop
 |[],_,H,Q=>Q [] H
 |(tk,tv)::r,σ,H,Q=>tk σ H fun x H1=>tv σ H1 fun y H2=>uI r σ H2 fun ps H3=>Q ((x,y)::ps) H3
noncomputable abbrev VV:List (V×V)->List (Value×Value)->Prop:=Paired fun p q=>RelV p.1 q.1/\RelV p.2 q.2
noncomputable def PPs(X:Cx)(pos:Pos)(keys:List (Option Expr))(values:List Expr)(trs:List (TE×TE)):Prop:=
 ∀(pins:List (Addr×Obj))(s:Shared)(σ:St)(H:Hp)(Q:List (V×V)->Hp->Prop),Inv X pins σ H s->uI trs σ H Q->
  wpAny (model X.prog X.w) X.A (evalPairs (pairTrees keys values X.env pos)) (fun vs s'=>∃ps H',Inv X pins σ H' s'/\VV ps vs/\Q ps H') X.xe s
theorem HF{X:Cx}:PPs X pos [] [] []:=fun pins s σ H Q I h=>pairTrees_nil_walk ⟨[],H,I,.nil,h⟩
theorem CV{X:Cx}{k v:Expr}{ks:List (Option Expr)}{vs:List Expr}{tk tv:TE}{trs:List (TE×TE)}(hk:PE X k tk)(hv:PE X v tv)(hr:PPs X pos ks vs trs):
 PPs X pos (some k::ks) (v::vs) ((tk,tv)::trs):=fun pins s σ H Q I h=>
 pairTrees_cons_walk (thn (hk pins s σ H _ I h) fun u s1 ⟨x,H1,I1,rx,q1⟩=>thn (hv pins s1 σ H1 _ I1 q1) fun w2 s2 ⟨y,H2,I2,ry,q2⟩=>
  thn (hr pins s2 σ H2 _ I2 q2) fun ws s3 ⟨ps,H3,I3,rel,q3⟩=>⟨(x,y)::ps,H3,I3,.cons ⟨rx,ry⟩ rel,q3⟩)
noncomputable def kZ(kvs more:List (Key×V)):List (Key×V):=more.foldl (fun acc kv=>putK acc kv.1 kv.2) kvs
theorem KV.merge:∀{more:List (Key×V)}{rs:List (Key×Value)}{kvs:List (Key×V)}{vs:List (Key×Value)},KV more rs->KV kvs vs->KV (kZ kvs more) (merged vs rs):=by
 intro more rs kvs vs r;unfold KV at r
 induction r generalizing kvs vs with
 |nil=>intro q;exact q
 |@cons p q ps qs h t ih=>
  intro r0
  have e:KV (putK kvs p.1 p.2) (stored vs q.1 q.2):=by
   have:=r0.put p.1 h.2;rw[<- h.1];exact this
  exact ih e
theorem mH:∀(more kvs:List (Key×V)),(kZ kvs more).length<=kvs.length+more.length
 |[]=>fun kvs=>by show kvs.length<=kvs.length+0;omega
 |p::r=>fun kvs=>by
  have h1:=mH r (putK kvs p.1 p.2);have h2:=vH kvs p.1 p.2;show(kZ (putK kvs p.1 p.2) r).length<=_;rw[C1];omega
theorem qY{P:Program}{w:World}:∀{kvs:List (Key×V)}{ws:List (Value×Value)},VV (kvs.map fun kv=>(kV kv.1,kv.2)) ws->∃rs,Carries (cM P w) ws rs/\KV kvs rs
 |[],_=>fun r=>by rw[List.map_nil]at r;cases r;exact⟨[],True.intro,.nil⟩
 |p::kvs,_=>fun r=>by
  rw[B6]at r;cases r with
  |@cons a b as bs h t=>
   obtain⟨rs,c,q⟩:=qY (P:=P) (w:=w) t;obtain⟨b1,b2⟩:=b;exact⟨(p.1,b2)::rs,⟨LI h.1,rfl,c⟩,.cons ⟨rfl,h.2⟩ q⟩
noncomputable def LN(trs:List (TE×TE)):TE:=fun σ H Q=>∀p,H p=none->uI trs σ (upd H p (.dK [])) fun ps H2=>H2 p=some (.dK [])/\∃kvs:List (Key×V),ps=kvs.map (fun kv=>(kV kv.1,kv.2))/\kvs.length<=15/\Q (.ref p) (upd H2 p (.dK (kZ [] kvs)))
theorem HV{X:Cx}{keys:List (Option Expr)}{values:List Expr}{trs:List (TE×TE)}(h:PPs X pos keys values trs)(hall:keys.all (·.isSome)=true)(hl:keys.length=values.length)(h0:keys≠[])
 (h15:keys.length<=15):PE X (.Dict keys values pos) (LN trs):=by
 intro pins s σ H Q I q;have hn:=I.hok.fresh (A4 s.heap.objs.size);have I1:=I.laid (a:=s.heap.objs.size) (o:=.dK []) (h':=s.heap.push { cls:=.type "dict",data:=.dict #[] }) (t':=s.toks) (fun _ _ q=>B2 _ q) (A4 _) (xE s.heap I.big);refine wpAny_Dict_walk (knd:=cM X.prog X.w) hall hl h0 h15 (thn (h pins _ σ _ _ I1 (q _ hn)) fun ws s2 ⟨ps,H2,I2,rel,e,kvs,ep,lk,q2⟩=>?_);subst ep;obtain⟨rs,c,rk⟩:=qY (P:=X.prog) (w:=X.w) rel;obtain⟨z,hd,vs0,r0,dd⟩:=UD I2.hok e;cases r0;refine⟨rs,c,dd,fun h' dd' hs=>⟨.ref s.heap.objs.size,_,?_,rfl,q2⟩⟩
 have hz:(kZ [] kvs).length<=sizeLine:=by
  have h1:=mH kvs [];rw[List.length_nil]at h1;rw[I0];omega
 have he:∃q,h'.get? s.heap.objs.size=some q:=let⟨q,_,_,hq,_⟩:=dd';⟨q,hq⟩;exact IP I2 (by rw[e];exact True.intro) hs he (QR hz hd (rk.merge .nil) dd')
structure M1(X:Cx)(o:Expr)(m:Str)(apos:Pos)(e:Expr)(cpos:Pos):Prop where
 base:attributeBase o m X.env (eval o X.env)=eval o X.env
 few:((backTo cpos (starEach [e] X.env)).all (fun x=>!x.1)&&(backToKw cpos (keywordEach [] X.env)).all (fun x=>x.1.isSome)
  && decide (([e]:List Expr).length+([]:List Keyword).length+(if ([]:List Keyword).isEmpty then 0 else 1)<30))=true
 line:(apos.endLine==cpos.line)=true
 trees:backTo cpos (starEach [e] X.env)=[(false,eval e X.env)]
structure M2(X:Cx)(o:Expr)(m:Str)(apos:Pos)(e f:Expr)(cpos:Pos):Prop where
 base:attributeBase o m X.env (eval o X.env)=eval o X.env
 few:((backTo cpos (starEach [e,f] X.env)).all (fun x=>!x.1)&&(backToKw cpos (keywordEach [] X.env)).all (fun x=>x.1.isSome)
  && decide (([e,f]:List Expr).length+([]:List Keyword).length+(if ([]:List Keyword).isEmpty then 0 else 1)<30))=true
 line:(apos.endLine==cpos.line)=true
 trees:backTo cpos (starEach [e,f] X.env)=[(false,eval e X.env),(false,eval f X.env)]
end L2
namespace Att
open PySem PySem.W PySem.Calls PyProof.Rows
theorem pL{P:Params}{h:Heap}:∀(ns:List Int)(vs:List Value),WellAll P h vs (ns.map WData.int)->IntsAre vs ns:=by
 intro ns
 induction ns with
 |nil=>
  intro vs w;rw[List.map_nil]at w;cases w;exact .nil
 |cons n ns ih=>
  intro vs w;rw[B6]at w;cases w with
  |cons a b=>
   cases a;exact .cons _ _ (ih _ b)
theorem BS{l:OpenLaw}{n:Nat}(hn:l.most=some n){P:Params}{h:Heap}{args:List WData}{vals:List Value}
 (hpre:l.row.toRowW.claim.pre args=true) (hwl:WellAll P h vals args):
 ∃a vs ns,vals=[Value.ref a]/\args=[WData.list (ns.map WData.int)]/\h.get? a=some { cls:=.type "list",data:=.seq vs.toArray }/\IntsAre vs ns/\ns.length<=n:=by
 have hsh:WShape.hasAll [] args [.list .int]=true:=(pre_splitW hpre).1;have hc:l.pre.holds [] { args:=args }=true:=(pre_splitW hpre).2;obtain⟨d,r,rfl,h1,h2⟩:=hasAllW_cons hsh;obtain rfl:=hasAllW_nil h2;obtain⟨xs,rfl,h3⟩:=hasW_list h1;obtain⟨ns,rfl⟩:=items_int h3
 have hlen:ns.length<=n:=by
  unfold OpenLaw.pre at hc
  have h4:(WTm.not (.lt (.lit (.int (n:Int))) (.len (.arg 0)))).holds [] { args:=[.list (ns.map .int)] }=true:=by
   have h4:=(holds_andW hc).1;rw[hn]at h4;exact h4
  have h5:=condW_of h4 (w_not (w_lt w_lit (w_len_list (w_arg rfl))));rw[A3]at h5;refine Nat.le_of_not_lt fun q=>?_;have q':(n:Int)<((ns.length:Nat):Int):=by omega
  first
   |(rw[C3 q']at h5;exact absurd h5 (by decide))
   |(simp at h5;omega)
 cases hwl with
 |cons w1 w2=>
  cases w2;cases w1 with
  |list ho hall=>exact⟨_,_,ns,rfl,rfl,ho,pL ns _ hall,hlen⟩
theorem BU(l:OpenLaw)(args:List WData):l.row.toRowW.claim.post args (.bool true) args=true:=
 postW_of (r:=l.row.toRowW) (X:=(true==true))
  (show WShape.has [] (.bool true) .bool=true by first|rfl|decide|simp[WShape.has,WShape.arms,WShape.armsAll])
  (show(WTm.eq .res (.lit (.bool true))).value [] { args:=args,res:=some (.bool true),after:=args }=some (.bool (true==true))from w_eq_bool (w_res rfl) w_lit) rfl
theorem attach_call{l:OpenLaw}{n:Nat}{q:Program}{loose:List Str}{XP:(Str->Option Value)->Heap->Prop}{YP:World->Heap->Prop}{d:DefRec}
 (hn:l.most=some n) (hdf:d.params.defaults=[])
 (call:∀(w:World)(s₀ s₁:Shared)(mg mb:Str->Option Value)(fa:Addr)(o:Obj)(pm cd doc:Value)(a:Addr)(vs:List Value)(ns:List Int),
  Ground q loose [] XP w s₀ mg mb s₁.heap->YP w s₁.heap->
  s₁.heap.get? fa=some o->o.data=.func (docDef d.name d.params d.body d.scope pm cd doc)->s₁.heap.CodeRec cd d.name->mg d.name=some (.ref fa)->
  s₁.heap.get? a=some { cls:=.type "list",data:=.seq vs.toArray }->IntsAre vs ns->ns.length<=n->s₁.gens=#[]->
  codeAny (model l.prog w) callerA (.call (.ref fa) ⟨[.ref a],[]⟩) (fun r s'=>r=.ok (.ret (.bool true))/\OldK s₁.heap s'.heap/\s'.os=s₁.os/\AllBare s'.gens) s₁):
 WalkO q loose XP YP l.row.toRowW d [] (fun f vs=>PySem.call f vs):=by
 intro w s₀ s₁ mg mb G Y fa o pm cd doc dV kV ho hd hcd hD hmg hg args vals as hpre hlay hrd hwl hlo;obtain rfl:dV=.none:=Dflts.none hD hdf;obtain rfl:kV=.none:=Dflts.noKw hD;obtain⟨a,vs,ns,rfl,rfl,hobj,hints,hlen⟩:=BS hn hpre hwl;refine enter_call (codeAny_mono (call w s₀ s₁ mg mb fa o pm cd doc a vs ns G Y ho (fd_plain hd) hcd hmg hobj hints hlen hg) fun r s' hq=>?_);obtain⟨rfl,h2,h3,h4⟩:=hq;exact⟨.inl ⟨.bool true,.bool true,[],rfl,fun _=>rfl,.bool true,BU l _,fun _=>⟨List.Pairwise.nil,fun _ hm=>(nomatch hm)⟩⟩,h2,h3,h4⟩
section
variable{prog:Program}{w:World}{A:Around}{E:Value->Shared->Prop}{s:Shared}{K:Frag}
end
end Att
namespace L2
open PySem PySem.Spec PyProof.Rows
theorem sZ:∀{vs:List Value}{ns:List Int},IntsAre vs ns->bH (ns.map V.int) vs
 |_,_,.nil=>.nil
 |_,_,.cons n t h=>.cons ⟨t,rfl⟩ (sZ h)
noncomputable def OQ(H:Hp):Prop:=∀b,H b=none\/∃o xs,H b=some (.frz o (.lst xs))
theorem GV{P:Program}{w:World}{K:Fg}{mg mb:Str->Option Value}{CX:CXT}{k:Nat}{fa a:Addr}{fd:FuncData}{x:Str}{sp:Sp}{s₁:Shared}{vs:List Value}{ns:List Int}
 (KX:K.In s₁.heap) (hns:s₁.heap.Ns mainGlobals mg) (hb:s₁.heap.Ns builtinsNs mb) (hbb:∀x:Str,x≠"__name__"->mb x=bootBuiltins x) (hlim:s₁.heap.NoLimit) (hsm:∃mm,s₁.heap.Ns sysModules mm) (hg:s₁.gens=#[])
 (ha:s₁.heap.get? a=some { cls:=.type "list",data:=.seq vs.toArray }) (hi:IntsAre vs ns) (hl:ns.length<=sizeLine) (hr:dU k callerA)
 (F:∀base:Heap,K.In base->base.Ns mainGlobals mg->mS P w K mg base CX k fa fd [x] sp) (hbind:∀(s:Shared)(u:Value),BindsTo s fd ⟨[u],[]⟩ [(x,u)])
 (hsp:∀H:Hp,OQ H->SqL K H a (ns.map V.int)->sp [.ref a] H (fun v _=>v=.bl true) fun _ _ _=>False)
 (hCX:∀H e s',CX [] H s₁ (fun _ _ _=>False) e s'->False):
 codeAny (model P w) callerA (.call (.ref fa) ⟨[.ref a],[]⟩) (fun r s'=>r=.ok (.ret (.bool true))/\OldK s₁.heap s'.heap/\s'.os=s₁.os/\AllBare s'.gens) s₁:=by
 have rv:=sZ hi;have lenV:=hi.length
 have core:∀H:Hp,OQ H->SqL K H a (ns.map V.int)->HOk P w H s₁.heap->(∀b,H b≠none->b=a)->(H a≠none->K.lookup a=none)->
  codeAny (model P w) callerA (.call (.ref fa) ⟨[.ref a],[]⟩) (fun r s'=>r=.ok (.ret (.bool true))/\OldK s₁.heap s'.heap/\s'.os=s₁.os/\AllBare s'.gens) s₁:=by
  intro H hO hS hok hA hK;have base_of:∀{b:Addr}{o:Obj},s₁.heap.get? b=some o->H b=none->(tS s₁.heap H).get? b=some o:=fun e n=>GM e n
  have noA:∀{b:Addr}{o:Obj}{es:Array DictEntry}{ep:Nat},s₁.heap.get? b=some o->o.data=.dict es ep->H b=none:=fun{b o es ep} e d=>by
   cases q:H b with
   |none=>rfl
   |some u=>
    have e':b=a:=hA b (by rw[q];simp);subst e';rw[ha]at e;cases e;have d':Data.seq vs.toArray _=Data.dict es ep:=d;cases d'
  have nsK:∀{b:Addr}{m:Str->Option Value},s₁.heap.Ns b m->(tS s₁.heap H).Ns b m:=fun{b m} ⟨o,es,ep,e,d,r⟩=>⟨o,es,ep,base_of e (noA e d),d,r⟩
  have hKb:K.In (tS s₁.heap H):=fun b o e=>base_of (KX b o e) (by
   cases q:H b with
   |none=>rfl
   |some u=>
    have e':b=a:=hA b (by rw[q];simp);subst e';rw[hK (by rw[q];simp)]at e;cases e)
  have hM:Mod K mg (tS s₁.heap H):=⟨hKb,nsK hns,⟨mb,nsK hb,hbb⟩,(let⟨mc,h1,h2⟩:=hlim;⟨mc,nsK h1,h2⟩),(let⟨mm,hmm⟩:=hsm;let⟨o,es,ep,h1,h2,_⟩:=nsK hmm;⟨o,es,ep,h1,h2⟩)⟩;have e0:IC P w K mg (tS s₁.heap H) callerA [] s₁ H:=⟨rfl,hM,fun b o e=>JQ e,Nat.le_of_eq (BB _ _),trivial,fun b hb=>absurd (show b∈([]:List Addr)from hb) (by simp),hok,.of_eq hg⟩;refine codeAny_mono ((F _ hKb (nsK hns)).run callerA [] s₁ H ⟨[.ref a],[]⟩ [.ref a] [.ref a] _ _ hr e0 (hbind s₁ (.ref a)) (.cons rfl .nil) (hsp H hO hS)) fun r s' h=>?_;cases r with
  |error e=>exact(hCX H e s' h).elim
  |ok fl=>
   cases fl with
   |next=>exact False.elim h
   |brk=>exact False.elim h
   |cont=>exact False.elim h
   |ret u=>
    obtain⟨v,H',os,bare,un,hok',r',q⟩:=h;have q':v=.bl true:=q;subst q';obtain rfl:u=Value.bool true:=r';refine⟨rfl,OldK.of_keep fun b o e=>?_,os,bare⟩;cases q:H b with
    |none=>exact un.keep b o e q (by intro z;exact absurd (show b∈([]:List Addr)from z) (by simp)) (by simp)
    |some u=>
     rcases hO b with z|⟨ob,xs,z⟩
     .rw[q]at z;cases z
     .have z2:=un.frzs b ob _ z;obtain⟨e1,_⟩:=hok b _ z;obtain⟨e2,_⟩:=hok' b _ z2;rw[e]at e1;cases e1;exact e2
 cases hk:K.lookup a with
 |some o=>
  have e:=KX a o hk;rw[ha]at e;cases e;refine core (fun _=>none) (fun _=>.inl rfl) (.inr ⟨_,vs.toArray,_,hk,rfl,rfl,rfl,by rw[B9,lenV];exact hl,by simpa using rv⟩) (fun b u z=>by have z':(none:Option HO)=some u:=z;cases z') (fun b z=>absurd rfl z) fun z=>absurd rfl z
 |none=>
  refine core (fun b=>if b=a then some (.frz { cls:=.type "list",data:=.seq vs.toArray } (.lst (ns.map V.int)))else none) (fun b=>?_) (.inl (.inr ⟨{ cls:=.type "list",data:=.seq vs.toArray },A6 rfl⟩)) (fun b u z=>?_) (fun b z=>?_) fun _=>hk
  .by_cases hb:b=a
   .exact .inr ⟨_,_,A6 hb⟩
   .exact .inl (B0 hb)
  .by_cases hb:b=a
   .have z':=(A6 hb).symm.trans z;cases z';subst hb;exact⟨ha,by rw[A3];exact hl,vs,_,rv,ha⟩
   .have z':=(B0 hb).symm.trans z;cases z'
  .by_cases hb:b=a
   .exact hb
   .exact absurd (B0 hb) z
noncomputable abbrev KOf{K:Fg}{h:Heap}(_:K.In h):Fg:=K
theorem walk_of{l:PySem.W.OpenLaw}{n k:Nat}{q:Program}(hq:PyProof.Rows.importsNone q=true){loose:List Str}{XP:(Str->Option Value)->Heap->Prop}{YP:World->Heap->Prop}{d:DefRec}{K:Params->Fg}{CX:World->CXT}{sp:World->Sp}{x:Str}
 (hn:l.most=some n) (hn2:n<=sizeLine) (hdf:d.params.defaults=[]) (hr:dU k callerA)
 (hY:∀(w:World)(h:Heap),YP w h->(K w.params).In h)
 (F:∀(w:World)(mg:Str->Option Value)(fa:Addr)(h:Heap),(K w.params).In h->h.Ns mainGlobals mg->mg d.name=some (.ref fa)->
  ∃fd:FuncData,(∀(s:Shared)(u:Value),BindsTo s fd ⟨[u],[]⟩ [(x,u)]) /\
   ∀base:Heap,(K w.params).In base->base.Ns mainGlobals mg->mS l.prog w (K w.params) mg base (CX w) k fa fd [x] (sp w))
 (hsp:∀(w:World)(H:Hp)(a:Addr)(ns:List Int),ns.length<=n->OQ H->SqL (K w.params) H a (ns.map V.int)->sp w [.ref a] H (fun v _=>v=.bl true) fun _ _ _=>False)
 (hCX:∀(w:World)(H:Hp)(s:Shared)(e:Value)(s':Shared),CX w [] H s (fun _ _ _=>False) e s'->False):
 PySem.W.WalkO q loose XP YP l.row.toRowW d [] (fun f vs=>PySem.call f vs):=by
 refine Att.attach_call hn hdf fun w s₀ s₁ mg mb fa o pm cd doc a vs ns G Y ho hd hcd hmg hobj hints hlen hg=>?_;have KX:=hY w _ Y;obtain⟨fd,hb,hF⟩:=F w mg fa _ KX G.T.g hmg;exact GV KX G.T.g G.T.b G.T.builtins G.T.nolimit (let⟨mm,hmm,_⟩:=(G.T.seer hq).mods;⟨mm,hmm⟩) hg hobj hints (C7 hlen hn2) hr hF hb (fun H hO hS=>hsp w H a ns hlen hO hS) fun H e s'=>hCX w H s₁ e s'
end L2
namespace L2
variable{H H':Hp}{W:Wd}{M:Sto}{K:Fg}{γ:Ga}
open PySem PySem.Spec PyProof.Rows
noncomputable def fI(s:Stmt):Arguments:=match s with
 |.FunctionDef _ a _ _ _ _ _ _ _ _=>a
 |_=>{ posonlyargs:=[],args:=[],vararg:=none,kwonlyargs:=[],kw_defaults:=[],kwarg:=none,defaults:=[] }
noncomputable def cK(s:Stmt):List Stmt:=match s with
 |.FunctionDef _ _ b _ _ _ _ _ _ _=>b
 |_=>[]
noncomputable def aG(s:Stmt):Scope:=match s with
 |.FunctionDef _ _ _ _ _ _ sc _ _ _=>sc
 |_=>{ kind:=.function,names:=[],isGenerator:=false,isCoroutine:=false }
noncomputable abbrev CX0:CXT:=fun _ _ _ _ _ _=>False
noncomputable abbrev E0:XK:=fun _ _ _=>False
theorem UH{X:Cx}:yR CX0 X E0:=fun _ _ _ _ _ _ _ h=>h.elim
structure Fun(K:Fg)(x qual:Str)(st:Stmt)(f:Addr)(fd:FuncData):Prop where
 ex:∃(oc:Value)(od:Option Addr)(kV doc pm:Value)(an:Option Addr)(cdv ct:Value)(osl:Array (Option Value)),
  fd=PySem.W.fnOf x qual (fI st) (cK st) (aG st) .none kV doc pm an cdv ct/\K.lookup f=some ⟨oc,od,.func fd,osl⟩/\PySem.W.codeIn K cdv qual=true
 kp:PySem.W.keepIn K (.ref f)=true
section
variable{P:Program}{w:World}{K:Fg}{mg:Str->Option Value}{base:Heap}
theorem Fun.ok{x qual:Str}{st:Stmt}{f:Addr}{fd:FuncData}{N ps:List Str}{k:Nat}{sp:Sp}{q:Bool}(F:Fun K x qual st f fd)(S:aT N ps (aG st))(len:∀vs H Q E,sp vs H Q E->vs.length=ps.length)
 (hbody:∀(cdv:Value)(A:Around)(outer:List Env)(s:Shared)(H:Hp)(vs:List V)(Q:VK)(E:XK),dU k (A.deeper (envOfC qual (aG st) s.heap.objs.size f cdv)) q->sp vs H Q E->
  ∃t,PSs (pN CX0 P w K mg base N qual (aG st) f cdv A outer s H E q).nox (cK st) t/\t { nx:=fun _ H'=>Q .non H',rt:=Q } (start N vs) H):mS P w K mg base CX0 (k+1) f fd ps sp q:=by
 obtain⟨oc,od,kV,doc,pm,an,cdv,ct,osl,rfl,lk,hcd⟩:=F.ex;refine VA lk hcd S len fun A outer s H vs Q E hr hsp=>?_;obtain⟨t,h,z⟩:=hbody cdv A outer s H vs Q E hr hsp;exact⟨t,h.nox,z⟩
theorem Fun.binds{x qual:Str}{st:Stmt}{f:Addr}{fd:FuncData}{ps:List Str}(F:Fun K x qual st f fd)
 (h:∀(kV doc pm:Value)(an:Option Addr)(cdv ct:Value)(us:List Value),us.length=ps.length->bindArgs (PySem.W.fnOf x qual (fI st) (cK st) (aG st) .none kV doc pm an cdv ct) ⟨us,[]⟩=pure (ps.zip us)):Binds K fd ps []:=by
 obtain⟨oc,od,kV,doc,pm,an,cdv,ct,osl,rfl,lk,hcd⟩:=F.ex;exact .all (h kV doc pm an cdv ct)
theorem RM{x qual:Str}{st:Stmt}{f:Addr}{oc:Value}{od an:Option Addr}{osl:Array (Option Value)}{kV doc pm cdv ct:Value}(l:K.lookup f=some ⟨oc,od,.func (PySem.W.fnOf x qual (fI st) (cK st) (aG st) .none kV doc pm an cdv ct),osl⟩)
 (c:PySem.W.codeIn K cdv qual=true) (k:PySem.W.keepIn K (.ref f)=true):Fun K x qual st f (PySem.W.fnOf x qual (fI st) (cK st) (aG st) .none kV doc pm an cdv ct):=⟨⟨oc,od,kV,doc,pm,an,cdv,ct,osl,rfl,l,c⟩,k⟩
end
noncomputable def gV(H H':Hp):Prop:=∀b o,H b=some o->H' b=some o
theorem gV.refl(H:Hp):gV H H:=fun _ _ h=>h
theorem gV.trans{H1 H2:Hp}(a:gV H H1)(b:gV H1 H2):gV H H2:=fun c o h=>b c o (a c o h)
theorem gV.free(e:gV H H'){l:Addr}(h:H' l=Option.none):H l=Option.none:=by
 cases q:H l with
 |none=>rfl
 |some o=>
  rw[e l o q]at h;cases h
theorem gV.seq{a:Addr}{xs:List V}(e:gV H H')(h:SqL K H a xs):SqL K H' a xs:=by
 rcases h with(h|⟨o,h⟩)|h
 .exact .inl (.inl (e _ _ h))
 .exact .inl (.inr ⟨o,e _ _ h⟩)
 .exact .inr h
noncomputable def dB(env:Env):List (Str×NameKind)->List (Str×Addr)->List (Str×Addr)
 |[],cs=>cs
 |y::r,cs=>dB env r (if (y.2==NameKind.free)=true then(y.1,(env.cells.lookup y.1).getD 0)::cs else cs)
theorem mX{env:Env}:∀(l:List (Str×NameKind))(cs:List (Str×Addr)),(∀y∈l,y.2=.free->∃c,env.cells.lookup y.1=some c)->
 (forIn l cs fun(x:Str×NameKind)(r:List (Str×Addr))=>if (x.2==NameKind.free)=true then(do
  let a <- cellOf env x.1
  pure (ForInStep.yield ((x.1,a)::r)))else pure (ForInStep.yield r))=(pure (dB env l cs):Sem (List (Str×Addr)))
 |[]=>fun cs _=>rfl
 |y::l=>fun cs h=>by
  rw[List.forIn_cons];by_cases hk:(y.2==NameKind.free)=true
  .obtain⟨c,hc⟩:=h y C2 (by simpa using hk);have e1:cellOf env y.1=pure c:=by unfold cellOf;rw[hc]
   rw[A6 hk,e1];show(forIn l ((y.1,c)::cs) _:Sem _)=_;rw[mX l _ fun z hz=>h z (B7 _ hz)]
   conv=>rhs;unfold dB
   rw[A6 hk,hc];rfl
  .rw[B0 hk];show(forIn l cs _:Sem _)=_;rw[mX l _ fun z hz=>h z (B7 _ hz)]
   conv=>rhs;unfold dB
   rw[B0 hk]
theorem qL{scope:Scope}{env:Env}(h:∀y∈scope.names,y.2=.free->∃c,env.cells.lookup y.1=some c):closureFor scope env=pure (dB env scope.names []):=by
 have e:=mX (env:=env) scope.names [] h;unfold closureFor
 show((forIn scope.names ([]:List (Str×Addr)) fun(x:Str×NameKind)(r:List (Str×Addr))=>if (x.2==NameKind.free)=true then(do
  let a <- cellOf env x.1
  pure (ForInStep.yield ((x.1,a)::r)))else pure (ForInStep.yield r)) >>= fun z=>pure z:Sem (List (Str×Addr)))=_
 rw[e];rfl
theorem tG{env:Env}:∀(l:List (Str×NameKind))(cs:List (Str×Addr)),(∀y∈l,y.2=.free->∃c,env.cells.lookup y.1=some c)->(∀x c,cs.lookup x=some c->env.cells.lookup x=some c)->
 ∀x c,(dB env l cs).lookup x=some c->env.cells.lookup x=some c
 |[]=>fun cs _ h x c e=>h x c e
 |y::l=>fun cs hf h x c e=>by
  unfold dB at e;refine tG l _ (fun z hz=>hf z (B7 _ hz)) ?_ x c e;intro z d ez;by_cases hk:(y.2==NameKind.free)=true
  .rw[A6 hk]at ez;obtain⟨c',hc'⟩:=hf y C2 (by simpa using hk);rw[hc']at ez;rw[C4]at ez;by_cases hz:(z==y.1)=true
   .rw[hz]at ez;have hz':z=y.1:=by simpa using hz
    rw[hz',hc'];exact ez
   .have hz':(z==y.1)=false:=by simpa using hz
    rw[hz']at ez;exact h z d ez
  .rw[B0 hk]at ez;exact h z d ez
theorem oG{env:Env}:∀(l:List (Str×NameKind))(cs:List (Str×Addr))(x:Str),((x,NameKind.free)∈l\/∃c,cs.lookup x=some c)->∃c,(dB env l cs).lookup x=some c
 |[]=>fun cs x h=>by
  rcases h with h|h
  .exact absurd h (by simp)
  .exact h
 |y::l=>fun cs x h=>by
  unfold dB;refine oG l _ x ?_;rcases h with h|⟨c,hc⟩
  .rcases List.mem_cons.mp h with e|e
   .subst e;refine .inr ?_;rw[A6 (by rfl)];exact⟨(env.cells.lookup x).getD 0,by rw[C4];simp⟩
   .exact .inl e
  .refine .inr ?_;by_cases hk:(y.2==NameKind.free)=true
   .rw[A6 hk,C4];by_cases hz:(x==y.1)=true
    .rw[hz];exact⟨_,rfl⟩
    .have hz':(x==y.1)=false:=by simpa using hz
     rw[hz'];exact⟨c,hc⟩
   .rw[B0 hk];exact⟨c,hc⟩
theorem nB{env:Env}:∀{names:List (Str×NameKind)}{x:Str}{k:NameKind},
 (names.map fun(y:Str×NameKind)=>if (y.2==NameKind.free&&env.scope.kind==.function&&env.kindOf y.1==some .cell)=true then(y.1,NameKind.cell)else(y.1,y.2)).lookup x=some k->
 (names.lookup x=some k)\/(names.lookup x=some .free/\k=.cell)
 |[],x,k=>fun h=>by simp at h
 |y::r,x,k=>fun h=>by
  rw[B6]at h;by_cases hx:(x==y.1)=true
  .by_cases hc:(y.2==NameKind.free&&env.scope.kind==.function&&env.kindOf y.1==some .cell)=true
   .rw[A6 hc,C4,hx]at h;rw[C4,hx];have:y.2=.free:=by simp at hc;exact hc.1.1
    refine .inr ⟨by rw[this],?_⟩;cases h;rfl
   .rw[B0 hc,C4,hx]at h;rw[C4,hx];exact .inl h
  .have hx':(x==y.1)=false:=by simpa using hx
   have h':(r.map fun(y:Str×NameKind)=>if (y.2==NameKind.free&&env.scope.kind==.function&&env.kindOf y.1==some .cell)=true then(y.1,NameKind.cell)else(y.1,y.2)).lookup x=some k:=by
    by_cases hc:(y.2==NameKind.free&&env.scope.kind==.function&&env.kindOf y.1==some .cell)=true
    .rw[A6 hc,C4,hx']at h;exact h
    .rw[B0 hc,C4,hx']at h;exact h
   rw[C4,hx'];exact nB h'
theorem qV{env:Env}:∀{names:List (Str×NameKind)}{x:Str},names.lookup x=some .free->
 (names.map fun(y:Str×NameKind)=>if (y.2==NameKind.free&&env.scope.kind==.function&&env.kindOf y.1==some .cell)=true then(y.1,NameKind.cell)else(y.1,y.2)).lookup x=some .cell \/
 (names.map fun(y:Str×NameKind)=>if (y.2==NameKind.free&&env.scope.kind==.function&&env.kindOf y.1==some .cell)=true then(y.1,NameKind.cell)else(y.1,y.2)).lookup x=some .free
 |[],x=>fun h=>by simp at h
 |y::r,x=>fun h=>by
  rw[B6];by_cases hx:(x==y.1)=true
  .rw[C4,hx]at h;have hy:y.2=.free:=C5 h;by_cases hc:(y.2==NameKind.free&&env.scope.kind==.function&&env.kindOf y.1==some .cell)=true
   .rw[A6 hc,C4,hx];exact .inl rfl
   .rw[B0 hc,C4,hx];exact .inr (by rw[hy])
  .have hx':(x==y.1)=false:=by simpa using hx
   rw[C4,hx']at h;have ih:=qV (env:=env) h;by_cases hc:(y.2==NameKind.free&&env.scope.kind==.function&&env.kindOf y.1==some .cell)=true
   .rw[A6 hc,C4,hx'];exact ih
   .rw[B0 hc,C4,hx'];exact ih
noncomputable def yQ(X:Cx)(ifs:List Expr)(t:TT):Prop:=
 ∀(pins:List (Addr×Obj))(s:Shared)(σ:St)(H:Hp)(Q:Bool->Hp->Prop),Inv X pins σ H s->t σ H Q->
  wpAny (model X.prog X.w) X.A (forIn ifs true fun c r=>if r=true then(do
   let ok <- isTrue c X.env (eval c X.env)
   pure (ForInStep.yield ok))else pure (ForInStep.yield r)) (TP X pins σ Q) X.xe s
noncomputable def UN:TT:=fun _ H Q=>Q true H
theorem ES{X:Cx}:yQ X [] UN:=fun _ _ _ H _ I h=>wpAny_tests_nil ⟨H,I,h⟩
section
variable{prog:Program}{w:World}{A:Around}{R:Result->Shared->Prop}{s:Shared}
theorem JM{elt target iter:Expr}{ifs:List Expr}{scope:Scope}{pos:Pos}{it acc:Value}{env:Env}(I:Nat->Shared->Prop)
 (turn:∀n s,I n s->wpAny (model prog w) A (pyNext it) (fun r s1=>(r=none/\R (.ok .next) s1)\/∃v,r=some v /\
  wpAny (model prog w) A (letOwnedTupleGo target it v) (fun _ s2=>wpAny (model prog w) A (assign target env v) (fun _ s3=>
   wpAny (model prog w) A (forIn ifs true fun c r=>if r=true then(do
    let ok <- isTrue c env (eval c env)
    pure (ForInStep.yield ok))else pure (ForInStep.yield r)) (fun ok s4=>
     (ok=true/\wpAny (model prog w) A (eval elt env) (fun x s5=>wpAny (model prog w) A (call (.builtin "list.append") [acc,x]) (fun _ s6=>∃m,m<n/\I m s6) (fun _ _=>False) s5) (fun _ _=>False) s4) \/
     (ok=false/\∃m,m<n/\I m s4)) (fun _ _=>False) s3) (fun _ _=>False) s2) (fun _ _=>False) s1) (fun _ _=>False) s)
 (n:Nat) (h:I n s):codeAny (model prog w) A (.compLoop (.ListComp elt [⟨target,iter,ifs,0⟩] scope pos) 0 it acc env) R s:=by
 refine codeAny_loop rfl I (fun n s hI=>?_) n h
 show wpAny _ A ((compTurn (.ListComp elt [⟨target,iter,ifs,0⟩] scope pos) 0 it acc env).onRaise fun x=>do
  noteFrame x env
  theTreesLotGoes x) _ _ s
 refine wpAny_noted ?_;rw[compTurn_list];refine A0 (J7 (A0 (D8 (turn n s hI) (fun r s1 h1=>?_) fun _ _ f=>f.elim)));rcases h1 with⟨rfl,h1⟩|⟨v,rfl,h1⟩
 .exact A7 h1
 .refine A0 (D8 h1 (fun _ s2 h2=>?_) fun _ _ f=>f.elim);refine A0 (D8 h2 (fun _ s3 h3=>?_) fun _ _ f=>f.elim);refine A0 (D8 h3 (fun ok s4 h4=>?_) fun _ _ f=>f.elim);rcases h4 with⟨rfl,h4⟩|⟨rfl,h4⟩
  .refine A0 (A0 (D8 h4 (fun x s5 h5=>?_) fun _ _ f=>f.elim));exact A0 (D8 h5 (fun _ s6 h6=>A7 (A7 ⟨rfl,h6⟩)) fun _ _ f=>f.elim)
  .exact A7 ⟨rfl,h4⟩
end
noncomputable def eA(X:Cx)(N':List Str)(scope:Scope)(C:Addr)(s2:Shared)(H2:Hp)(fp:List Addr)(pn:List (Addr×Obj)):Cx:=
 { X with N:=N',s₀:=s2,H₀:=H2,env:=compEnvC scope (dB X.env scope.names []) C X.env,outer:=X.stack,stack:=X.stack,ex:=fp,fn:=fun _=>false,pn:=X.pn++pn,xe:=fun _ _=>False }
noncomputable def pR(cap:List (Option Nat))(σ:St):St:=cap.map fun o=>o.bind fun j=>(σ[j]?).join
structure lX(X:Cx)(N':List Str)(cap:List (Option Nat))(scope:Scope):Prop where
 nocell:∀y∈scope.names,y.2≠.cell
 kind:scope.kind=.function
 names:∀y∈scope.names,y.2=.local->scope.names.lookup y.1=some .local
 frees:∀y∈scope.names,y.2=.free->X.env.kindOf y.1=some .cell\/X.env.kindOf y.1=some .free
 len:cap.length=N'.length
 cap:∀(i j:Nat),cap[i]?=some (some j)->∃x,N'[i]?=some x/\X.N[j]?=some x/\scope.names.lookup x=some .free
section
variable{X:Cx}{N':List Str}{cap:List (Option Nat)}{scope:Scope}{pins:List (Addr×Obj)}{σ:St}{H:Hp}{s:Shared}
theorem lX.cells(S:lX X N' cap scope)(ok:X.Ok):∀y∈scope.names,y.2=.free->∃c,X.env.cells.lookup y.1=some c:=fun y hy hk=>ok.has y.1 (S.frees y hy hk)
theorem lX.sub(S:lX X N' cap scope)(ok:X.Ok):∀x c,(dB X.env scope.names []).lookup x=some c->X.env.cells.lookup x=some c:=
 tG scope.names [] (S.cells ok) fun x c e=>by simp at e
theorem lX.kinds(S:lX X N' cap scope){C:Addr}{cl:List (Str×Addr)}{x:Str}(h:(compEnvC scope cl C X.env).kindOf x=some .cell\/(compEnvC scope cl C X.env).kindOf x=some .free):scope.names.lookup x=some .free:=by
 rcases h with h|h
 .rcases nB (names:=scope.names) h with q|⟨q,_⟩
  .exact absurd rfl (S.nocell _ (D4 q))
  .exact q
 .rcases nB (names:=scope.names) h with q|⟨q,_⟩
  .exact q
  .exact q
theorem Inv.stkAll(I:Inv X pins σ H s){b:Addr}(h1:b≠X.env.locals)(h2:b∉X.fs):b∉frs X.stack:=fun hb=>(List.mem_cons.mp (I.stkSub b hb)).elim h1 h2
theorem wI(S:lX X N' cap scope)(I:Inv X pins σ H s){fp:List Addr}{h4:Heap}{C:Addr}{tk:Nat}(hf:∀b∈fp,pK X pins H b)(hlt:∀b∈fp,b<s.heap.objs.size)
 (hC:s.heap.objs.size<=C) (hn:h4.Ns C fun _=>none) (hk:∀b o,s.heap.get? b=some o->h4.get? b=some o):
 Inv (eA X N' scope C s H fp pins) [] (pR cap σ) H { s with heap:=h4,toks:=tk }:=by
 have cellLt:∀x c,X.env.cells.lookup x=some c->c<s.heap.objs.size:=fun x c e=>by
  obtain⟨v,q⟩:=I.cell x c e;exact q.lt
 have fresh:H C=none:=I.hok.fresh hC
 have ok:(eA X N' scope C s H fp pins).Ok:=by
  refine⟨I.ok.mod,S.kind,I.ok.glob,I.ok.blt,hC,fun x y c h1 h2=>?_,fun x hx=>?_,fun x c hx _=>?_,I.ok.hd,I.ok.frames,.inl rfl,fun b hb=>⟨?_,fun x c e=>?_⟩,I.bs,C7 I.ok.bsz I.sz,fun b o e hb=>?_,fun b hb=>?_,I.stack,I.stkFree⟩
  .exact I.ok.inj x y c (S.sub I.ok x c h1) (S.sub I.ok y c h2)
  .exact oG scope.names [] x (.inl (D4 (S.kinds hx)))
  .exact absurd hx (by show ¬(false=true);decide)
  .exact C0 (A8 (hlt b hb) hC)
  .exact(hf b hb).2.2.2.2.1 x c (S.sub I.ok x c e)
  .rcases (hf b hb).2.2.2.1 with z|z
   .exact I.ok.noex b o e z
   .exact absurd (A8 (B3 (I.ok.bs b o e).1) z) (F4 _)
  .exact I.stkAll (hf b hb).2.1 (hf b hb).2.2.1
 refine⟨ok,rfl,I.bare,Un.kept hk,⟨_,hn,fun i x v h1 h2 h3=>?_⟩,fun x c e=>?_,fresh,fun x c e=>I.freeC x c (S.sub I.ok x c e),fun p hp=>?_,I.hok.kept hk,?_⟩
 .-- a name that is caught
  have h2':(cap[i]?).map (fun o=>o.bind fun j=>(σ[j]?).join)=some (some v):=by
   have:(pR cap σ)[i]?=some (some v):=h2;unfold pR at this;rw[D6]at this;exact this
  cases e:cap[i]? with
  |none=>rw[e]at h2';simp at h2'
  |some o=>
   cases o with
   |none=>rw[e]at h2';simp at h2'
   |some j=>
    rw[e]at h2';obtain⟨x',a1,a2,a3⟩:=S.cap i j e
    have ex:x'=x:=by
     have:N'[i]?=some x:=h1;rw[a1]at this;exact C5 this
    subst ex
    have sv:σ[j]?=some (some v):=by
     have q:(σ[j]?).join=some v:=C5 h2';cases f:σ[j]? with
     |none=>rw[f]at q;simp at q
     |some o=>rw[f]at q;cases o with
      |none=>simp at q
      |some v'=>simp at q;rw[q]
    have hv:X.env.kindOf x'=some .cell\/X.env.kindOf x'=some .free:=S.frees _ (D4 a3) rfl;obtain⟨m,hm,hl⟩:=I.loc;obtain⟨u,r,l⟩:=hl j x' v a2 sv (hv.elim (fun z=>.inr (.inl z)) fun z=>.inr (.inr z));refine⟨u,r,.inr ⟨?_,?_⟩⟩
    .exact qV (env:=X.env) (names:=scope.names) a3
    .rcases l with⟨hk',_⟩|⟨_,c,hc,o,ho,hd⟩
     .rcases hv with z|z<;>rw[z]at hk'<;>cases hk'
     .obtain⟨c',hc'⟩:=oG (env:=X.env) scope.names [] x' (.inl (D4 a3));have:=S.sub I.ok x' c' hc';rw[hc]at this;cases this;exact⟨c,hc',o,hk c o ho,hd⟩
 .obtain⟨v,o,ho,hd⟩:=I.cell x c (S.sub I.ok x c e);exact⟨v,o,hk c o ho,hd⟩
 .have hp':p∈X.pn++pins:=by
   rcases List.mem_append.mp hp with z|z
   .exact z
   .exact absurd z (by simp)
  obtain⟨e,n,ne,nf,d⟩:=I.pin p hp';exact⟨hk _ _ e,n,C0 (A8 (B3 e) hC),I.stkAll ne nf,d⟩
 .show(pR cap σ).length=N'.length;unfold pR;rw[A3];exact S.len
end
noncomputable def tLc(cap:List (Option Nat))(wi:TI)(g:TG)(tc:TT)(te:TE):TE:=fun σ H Q=>wi σ H fun J H1=>∃W:Nat->Nat->List V->St->Hp->Prop,(∃m,W 0 m [] (pR cap σ) H1)/\∀i m acc σ' H',W i m acc σ' H'->
 (J.stop i H'/\∀p,H' p=none->Q (.ref p) (upd H' p (.lst acc))) \/
 (J.go i H'/\acc.length<sizeLine/\∃N:List V->St->Hp->Prop,(∀acc' σ2 H2,N acc' σ2 H2->∃m',m'<m/\W (i+1) m' acc' σ2 H2)/\∀x H2,J.yld i H' x H2->g x σ' H2 fun σ2 H3=>tc σ2 H3 fun b H4=>(b=true/\te σ2 H4 fun v H5=>N (acc++[v]) σ2 H5)\/(b=false/\N acc σ2 H4))
section
variable{X:Cx}{N':List Str}{cap:List (Option Nat)}{scope:Scope}
theorem EO{elt tg iter:Expr}{ifs:List Expr}{pos:Pos}{wi:TI}{g:TG}{tc:TT}{te:TE}(hc:X.calm=true)(S:lX X N' cap scope)(hi:PI X tg iter wi)
 (hg:∀C s H fp pn,PG (eA X N' scope C s H fp pn) tg g) (hif:∀C s H fp pn,yQ (eA X N' scope C s H fp pn) ifs tc) (he:∀C s H fp pn,PE (eA X N' scope C s H fp pn) elt te)
 (hs:∀x,foldedSetIterable iter X.env x=pure x) {pins:List (Addr×Obj)} {s:Shared} {σ:St} {H:Hp} {Q:VK} (I:Inv X pins σ H s) (h:tLc cap wi g tc te σ H Q)
 {use:Option (Value->Sem Unit)} {QQ:Value->Shared->Prop}
 (post:∀(D C:Addr)(H':Hp)(acc:List V)(s':Shared),D≠C->(∃m,s'.heap.Ns C m)->(∀h',Heap.SameBut C s'.heap h'->Inv X pins σ (upd H' D (.lst acc)) { s' with heap:=h' })->pK X pins (upd H' D (.lst acc)) C->Q (.ref D) (upd H' D (.lst acc))->compPost (model X.prog X.w) X.A X.xe use QQ (.ref D) C (.ok .next) s'):
 wpAny (model X.prog X.w) X.A (comprehension (.ListComp elt [⟨tg,iter,ifs,0⟩] scope pos) scope X.env (firstIterPos [⟨tg,iter,ifs,0⟩] pos) (newList []) false (firstIter [⟨tg,iter,ifs,0⟩] X.env) use) QQ X.xe s:=by
 refine wpAny_comprehension_free (e:=.ListComp elt [⟨tg,iter,ifs,0⟩] scope pos) (g:=⟨tg,iter,ifs,0⟩) (gs:=[]) rfl hs (qL (S.cells I.ok)) S.kind S.names ?_;refine thn (hi pins s σ H _ I h) fun v s1 h1=>thn h1 fun itv s2 h2=>?_;obtain⟨it,fp,tn,J,H2,e,I2,T,st2,f2,W,⟨m0,w0⟩,turn⟩:=h2;subst e
 have fplt:∀b∈fp,b<s2.heap.objs.size:=fun b hb=>by
  obtain⟨o,e,_⟩:=T.obj _ _ st2 b hb;exact B3 e
 refine F7 (wpAny_newFunctionEnv S.nocell (fun y hy=>by simp at hy) (fun h1' hns hsb=>?_) S.kind);dsimp only at hns hsb ⊢;generalize hP:s2.heap.push { cls:=.type "list",dict:=none,data:=.seq ([]:List Value).toArray }=P2 at hns hsb ⊢;have hsz:P2.objs.size=s2.heap.objs.size+1:=by rw[<- hP,Heap.size_push]
 have hDC:s2.heap.objs.size≠P2.objs.size:=by rw[hsz];exact C0 (F8 _)
 have hC:s2.heap.objs.size<=P2.objs.size:=by rw[hsz];exact Nat.le_succ _
 have keepP:∀b o,P2.get? b=some o->b≠P2.objs.size->h1'.get? b=some o:=fun b o e hb=>hsb.extBut b o hb (B2 _ e);have old:∀b o,s2.heap.get? b=some o->h1'.get? b=some o:=fun b o e=>keepP b o (by rw[<- hP];exact B2 _ e) (C0 (A8 (B3 e) hC));have hD0:h1'.get? s2.heap.objs.size=some { cls:=.type "list",data:=.seq #[] 0 }:=keepP _ _ (by rw[<- hP];exact D1 _ rfl) hDC
 have I4:Inv (eA X N' scope P2.objs.size s2 H2 fp pins) [] (pR cap σ) H2 { s2 with heap:=h1',toks:=s2.toks+([]:List (Str×Value)).length }:=
  wI S I2 f2 fplt hC (by simpa using hns) old
 have loop:∀s4:Shared,s4={ s2 with heap:=h1',toks:=s2.toks+([]:List (Str×Value)).length }->
  codeAny (model X.prog X.w) X.A (.compLoop (.ListComp elt [⟨tg,iter,ifs,0⟩] scope pos) 0 (.ref it) (.ref s2.heap.objs.size) (compEnvC scope (dB X.env scope.names []) P2.objs.size X.env)) (compPost (model X.prog X.w) X.A X.xe use QQ (.ref s2.heap.objs.size) P2.objs.size) s4:=by
  rintro s4 rfl
  have hfrD:s2.heap.objs.size∉frs X.stack:=fun hb=>by
   obtain⟨_,o,ho,_⟩:=I2.stack.mem hb;exact absurd (B3 ho) (F4 _)
  have cne:∀x c,(dB X.env scope.names []).lookup x=some c->c<s2.heap.objs.size:=fun x c e=>by
   obtain⟨v,q⟩:=I2.cell x c (S.sub I2.ok x c e);exact q.lt
  have stat:∀{Hx:Hp}{ob:Obj},(∀b∈fp,Hx b=none)->∀b∈fp,pK (eA X N' scope P2.objs.size s2 H2 fp pins) [(s2.heap.objs.size,ob)] Hx b:=fun{Hx ob} hn b hb=>by
   refine⟨hn b hb,C0 (A8 (fplt b hb) hC),I2.stkAll (f2 b hb).2.1 (f2 b hb).2.2.1,.inl hb,fun x c e=>(f2 b hb).2.2.2.2.1 x c (S.sub I2.ok x c e),fun p hp=>?_⟩;rcases List.mem_append.mp hp with z|z
   .exact(f2 b hb).2.2.2.2.2 p z
   .rw[List.mem_singleton.mp z];exact Nat.ne_of_gt (fplt b hb)
  refine JM (fun n s'=>∃(i:Nat)(σ':St)(H':Hp)(acc:List V)(its:List Value)(nn:Nat),Inv (eA X N' scope P2.objs.size s2 H2 fp pins) [] σ' H' s'/\tn i s'.heap/\(∀b∈fp,H' b=none)/\H' s2.heap.objs.size=none /\
   s'.heap.get? s2.heap.objs.size=some { cls:=.type "list",data:=.seq its.toArray nn }/\bH acc its/\acc.length<=sizeLine/\W i n acc σ' H') ?_ m0
   ⟨0,pR cap σ,H2,[],[],0,I4,T.keep _ _ _ st2 fun b _ o e=>old b o e,fun b hb=>(f2 b hb).1,I2.hok.fresh (A4 _),hD0,.nil,C6 _,w0⟩
  rintro n s5 ⟨i,σ',H',acc,its,nn,I5,t5,fr5,d5,g5,va,la,w5⟩
  have I5p:Inv (eA X N' scope P2.objs.size s2 H2 fp pins) [(s2.heap.objs.size,{ cls:=.type "list",data:=.seq its.toArray nn })] σ' H' s5:=I5.pins_of fun p hp=>by
   rw[List.mem_singleton.mp hp];exact⟨g5,d5,hDC,hfrD,fun v z=>by cases z⟩
  rcases turn i n acc σ' H' w5 with⟨stop,q⟩|⟨go,lt,N,hN,step⟩
  .refine thn (T.done (eA X N' scope P2.objs.size s2 H2 fp pins) rfl rfl rfl hc i _ s5 σ' H' _ I5p (stat fr5) t5 stop) fun r s6 ⟨hr,I6⟩=>.inl ⟨hr,?_⟩;have d6:=(I6.pin (s2.heap.objs.size,{ cls:=.type "list",data:=.seq its.toArray nn }) (by simp)).1;have nC:H' P2.objs.size=none:=I6.free;refine post _ _ H' acc s6 hDC (let⟨m,hn,_⟩:=I6.loc;⟨m,hn⟩) (fun h' hs'=>?_) (I2.fpOk hC (by rw[aV hDC.symm];exact nC)) (q _ d5);have up:∀b o,b≠P2.objs.size->s6.heap.get? b=some o->h'.get? b=some o:=fun b o hb e=>hs'.extBut b o hb e;have ltC:∀b o,s2.heap.get? b=some o->b≠P2.objs.size/\b≠s2.heap.objs.size:=fun b o e=>⟨C0 (A8 (B3 e) hC),C0 (B3 e)⟩;have u6:Un (frs X.stack) fp H2 H' s2.heap s6.heap:=I6.base
   have u7:Un (frs X.stack) fp H2 (upd H' s2.heap.objs.size (.lst acc)) s2.heap h':=by
    refine⟨fun b o e n hb hx=>up b o (ltC b o e).1 (u6.keep b o e n hb hx),fun b o e n hb hx=>?_,fun b o e n hx=>?_,fun b o e hx=>?_,fun b xs e=>?_,fun b o u e=>?_,fun b ps e=>?_⟩
    .obtain⟨sl,q⟩:=u6.slot b o e n hb hx;exact⟨sl,up b _ (ltC b o e).1 q⟩
    .rw[aV (ltC b o e).2];exact u6.free b o e n hx
    .obtain⟨o',q⟩:=u6.there b o e hx;exact⟨o',up b o' (ltC b o e).1 q⟩
    .have z:=u6.tups b xs e;rw[aV (aS z d5)];exact z
    .have z:=u6.frzs b o u e;rw[aV (aS z d5)];exact z
    .obtain⟨more,z⟩:=u6.tbls b ps e;exact⟨more,by rw[aV (aS z d5)];exact z⟩
   have ok7:HOk X.prog X.w (upd H' s2.heap.objs.size (.lst acc)) h':=fun b u e=>by
    by_cases hb:b=s2.heap.objs.size
    .subst hb;rw[bB]at e;cases e;exact⟨la,its,nn,va,up _ _ hDC d6⟩
    .rw[aV hb]at e;refine(I6.hok b u e).stay (fun c v hc' z=>up c v ?_ z) (fun c z=>by rw[aV (aS z d5)];exact z) fun c xs z=>by rw[aV (aS z d5)];exact z
     rcases hc' with rfl|z
     .exact aS e nC
     .exact aS z nC
   have os6:s6.os=s2.os:=I6.os;have ba6:=I6.bare;obtain⟨hh,gg,dd,tt,oo⟩:=s6;subst os6;have z7:=I2.call (s:=s2) (h':=h') (g':=gg) (d':=dd) (t':=tt) (ch:=fp) u7 ok7 ba6 fun b hb=>⟨(f2 b hb).2.2.2.1,(f2 b hb).2.1,(f2 b hb).2.2.2.2.1,(f2 b hb).2.2.2.2.2⟩;exact z7
  .refine thn (T.item (eA X N' scope P2.objs.size s2 H2 fp pins) rfl rfl rfl hc i _ s5 σ' H' _ I5p (stat fr5) t5 go) fun r s6 ⟨u,hr,h6⟩=>.inr ⟨u,hr,?_⟩;refine thn h6 fun _ s7 ⟨x,H7,I7,r7,y7,t7,fr7⟩=>?_;have I7':=I7.pinned (stat fr7) (T.obj _ _ t7)
   have back:∀{σx:St}{Hx:Hp}{sx:Shared},Inv (eA X N' scope P2.objs.size s2 H2 fp pins) ([(s2.heap.objs.size,{ cls:=.type "list",data:=.seq its.toArray nn })]++oO fp s7.heap) σx Hx sx->
    (∀b∈fp,∀o,s7.heap.get? b=some o->sx.heap.get? b=some o)/\(∀b∈fp,Hx b=none)/\sx.heap.get? s2.heap.objs.size=some { cls:=.type "list",data:=.seq its.toArray nn }/\Hx s2.heap.objs.size=none:=fun{σx Hx sx} Ix=>by
    refine⟨fun b hb o e=>(Ix.pin (b,o) (B4 _ (B4 _ (fN hb e)))).1,fun b hb=>?_,?_,?_⟩
    .obtain⟨o,e,_⟩:=T.obj _ _ t7 b hb;exact(Ix.pin (b,o) (B4 _ (B4 _ (fN hb e)))).2.1
    .exact(Ix.pin (s2.heap.objs.size,_) (B4 _ (C9 _ (List.mem_singleton.mpr rfl)))).1
    .exact(Ix.pin (s2.heap.objs.size,{ cls:=.type "list",data:=.seq its.toArray nn }) (B4 _ (C9 _ (List.mem_singleton.mpr rfl)))).2.1
   refine thn (hg _ _ _ _ _ _ s7 σ' H7 x u _ I7' r7 (step x H7 y7)) fun _ s8 ⟨σ8,H8,I8,q8⟩=>?_;refine thn (hif _ _ _ _ _ _ s8 σ8 H8 _ I8 q8) fun b s9 ⟨H9,I9,q9⟩=>?_;rcases q9 with⟨rfl,q9⟩|⟨rfl,n9⟩
   .refine .inl ⟨rfl,thn (he _ _ _ _ _ _ s9 σ8 H9 _ I9 q9) fun uv s10 ⟨v,H10,I10,rv,n10⟩=>?_⟩;obtain⟨m',hm,w10⟩:=hN _ _ _ n10;obtain⟨b1,b2,b3,b4⟩:=back I10;refine wpAny_list_append_plain ⟨nn,b3⟩ (fun h' hp hs'=>?_) (by rw[B9,<- va.length];exact la);obtain⟨n2,e2⟩:=hp;have up:∀b o,b≠s2.heap.objs.size->s10.heap.get? b=some o->h'.get? b=some o:=fun b o hb e=>hs'.extBut b o hb e;have I10':Inv (eA X N' scope P2.objs.size s2 H2 fp pins) [] σ8 H10 s10:=I10.pins_of fun p hp=>absurd hp (by simp);refine⟨m',hm,i+1,σ8,H10,acc++[v],its++[uv],n2,I10'.turned (t':=s10.toks) up b4 hDC (.inr (A4 _)) (fun x c e=>C0 (cne x c e)) (fun p hp=>?_),T.keep _ _ _ t7 fun b hb o e=>up b o (C0 (fplt b hb)) (b1 b hb o e),b2,b4,?_,va.append (.cons rv .nil),?_,w10⟩
    .have hp':p∈X.pn++pins:=by
      rcases List.mem_append.mp hp with z|z
      .exact z
      .exact absurd z (by simp)
     exact C0 (B3 (I2.pin p hp').1)
    .rw[e2];simp
    .rw[A9,E1];exact lt
   .obtain⟨m',hm,w9⟩:=hN _ _ _ n9;obtain⟨b1,b2,b3,b4⟩:=back I9;exact .inr ⟨rfl,m',hm,i+1,σ8,H9,acc,its,nn,I9.pins_of fun p hp=>absurd hp (by simp),T.keep _ _ _ t7 b1,b2,b4,b3,va,la,w9⟩
 exact codeAny_compStart_list (loop _ rfl) (T.self _ 0 _ _ _ (T.keep _ _ _ st2 fun b _ o e=>old b o e) (loop _ rfl))
theorem TL{elt tg iter:Expr}{ifs:List Expr}{pos:Pos}{wi:TI}{g:TG}{tc:TT}{te:TE}(hc:X.calm=true)(S:lX X N' cap scope)(hi:PI X tg iter wi)
 (hg:∀C s H fp pn,PG (eA X N' scope C s H fp pn) tg g) (hif:∀C s H fp pn,yQ (eA X N' scope C s H fp pn) ifs tc) (he:∀C s H fp pn,PE (eA X N' scope C s H fp pn) elt te)
 (hs:∀x,foldedSetIterable iter X.env x=pure x:=by intro _;rfl):PE X (.ListComp elt [⟨tg,iter,ifs,0⟩] scope pos) (tLc cap wi g tc te):=by
 intro pins s σ H Q I h;rw[eval_ListComp];refine EO (use:=none) (Q:=Q) hc S hi hg hif he hs I h fun D C H' acc s' hDC ⟨m,hn⟩ hI _ hq=>⟨m,hn,fun h' hs'=>?_⟩;exact⟨.ref D,_,hI h' hs',rfl,hq⟩
theorem DG{i:Nat}{x:Str}{elt tg iter:Expr}{ifs:List Expr}{pos pos' pos'':Pos}{wi:TI}{g:TG}{tc:TT}{te:TE}(hN:X.N.Nodup)(hix:X.N[i]?=some x)(hc:X.calm=true)(S:lX X N' cap scope)(hi:PI X tg iter wi)
 (hg:∀C s H fp pn,PG (eA X N' scope C s H fp pn) tg g) (hif:∀C s H fp pn,yQ (eA X N' scope C s H fp pn) ifs tc) (he:∀C s H fp pn,PE (eA X N' scope C s H fp pn) elt te)
 (hsw:swapsWith (.ListComp elt [⟨tg,iter,ifs,0⟩] scope pos) (some (.Name x pos')) pos''.line X.env=pure true:=by rfl) (hx:X.env.scope.names.lookup x=some .local:=by rfl)
 (hs:∀x,foldedSetIterable iter X.env x=pure x:=by intro _;rfl):PS X (.Assign [.Name x pos'] (.ListComp elt [⟨tg,iter,ifs,0⟩] scope pos) pos'') (JN (tLc cap wi g tc te) (xH i)):=by
 intro pins s σ H D I h;rw[exec_Assign_Name_used _ _ _ _ hsw];refine A0 (J7 (A0 ?_));show wpAny _ _ (comprehension (.ListComp elt [⟨tg,iter,ifs,0⟩] scope pos) scope X.env _ (newList []) false (firstIter [⟨tg,iter,ifs,0⟩] X.env) (some (assign (.Name x pos') X.env)) >>= fun _=>pure ()) _ _ s;refine A0 (thn (EO (use:=some (assign (.Name x pos') X.env)) (QQ:=fun _ s'=>∃σ' H',Inv X pins σ' H' s'/\D.nx σ' H') (Q:=fun v H1=>xH i v σ H1 D.nx) hc S hi hg hif he hs I h fun E C H' acc s' hDC ⟨m,hn⟩ hI fC hq=>?_) fun _ s' hz=>A7 (A7 hz));have I1:Inv X pins σ (upd H' E (.lst acc)) s':=hI s'.heap (Heap.SameBut.refl ..);have I1:Inv X pins σ (upd H' E (.lst acc)) s':=I1;refine wpAny_assign_Name (sY (M:=model X.prog X.w) (A:=X.A) (E:=X.xe) I1 hN hix (.inl hx) (v:=.ref E) (u:=.ref E) rfl (fun s2 I2 hsb=>?_) (.inr hx));obtain⟨a,hs2,ha⟩:=hsb
 have hne:C≠a:=by
  rcases ha with z|z
  .rw[z];exact fC.2.1
  .exact fun w=>fC.2.2.2.2.1 x a z w.symm
 refine⟨m,hn.extBut hs2.extBut hne,fun h' hs'=>?_⟩;exact⟨_,_,I2.turned (t':=s2.toks) (fun b o hb e=>hs'.extBut b o hb e) fC.1 fC.2.1 fC.2.2.2.1 fC.2.2.2.2.1 fC.2.2.2.2.2,hq⟩
end
noncomputable def NX:Key->PyData
 |.inl i=>.int i
 |.inr x=>.str x
mutual
noncomputable def Rep(K:Fg)(H:Hp):PyData->V->Prop
 |.none,v=>v=.non
 |.bool b,v=>v=.bl b
 |.int i,v=>v=.int i
 |.str x,v=>v=.str x
 |.list xs,v=>∃a vs,v=.ref a/\SqL K H a vs/\aM K H xs vs
 |.tuple xs,v=>∃a vs,v=.ref a/\SqT K H a vs/\aM K H xs vs
 |.dict kvs,v=>∃a ks,v=.ref a/\H a=some (.dK ks)/\jF K H kvs ks
noncomputable def aM(K:Fg)(H:Hp):List PyData->List V->Prop
 |[],vs=>vs=[]
 |d::ds,vs=>∃v r,vs=v::r/\Rep K H d v/\aM K H ds r
noncomputable def jF(K:Fg)(H:Hp):List (PyData×PyData)->List (Key×V)->Prop
 |[],ks=>ks=[]
 |(k,d)::kvs,ks=>∃k' v r,ks=(k',v)::r/\k=NX k'/\Rep K H d v/\jF K H kvs r
end
theorem gV.seqT{a:Addr}{xs:List V}(e:gV H H')(h:SqT K H a xs):SqT K H' a xs:=by
 rcases h with h|h
 .refine .inl ?_;rcases h with h|⟨o,h⟩
  .exact .inl (e _ _ h)
  .exact .inr ⟨o,e _ _ h⟩
 .exact .inr h
mutual
theorem Rep.same{K:Fg}{H H':Hp}(e:gV H H'):∀(d:PyData)(v:V),Rep K H d v->Rep K H' d v
 |.none=>fun v h=>h
 |.bool b=>fun v h=>h
 |.int i=>fun v h=>h
 |.str x=>fun v h=>h
 |.list xs=>fun v h=>by
  obtain⟨a,vs,h1,h2,h3⟩:=h;exact⟨a,vs,h1,e.seq h2,aM.same e xs vs h3⟩
 |.tuple xs=>fun v h=>by
  obtain⟨a,vs,h1,h2,h3⟩:=h;exact⟨a,vs,h1,e.seqT h2,aM.same e xs vs h3⟩
 |.dict kvs=>fun v h=>by
  obtain⟨a,ks,h1,h2,h3⟩:=h;exact⟨a,ks,h1,e _ _ h2,jF.same e kvs ks h3⟩
theorem aM.same{K:Fg}{H H':Hp}(e:gV H H'):∀(ds:List PyData)(vs:List V),aM K H ds vs->aM K H' ds vs
 |[]=>fun vs h=>h
 |d::ds=>fun vs h=>by
  obtain⟨v,r,h1,h2,h3⟩:=h;exact⟨v,r,h1,Rep.same e d v h2,aM.same e ds r h3⟩
theorem jF.same{K:Fg}{H H':Hp}(e:gV H H'):∀(kvs:List (PyData×PyData))(ks:List (Key×V)),jF K H kvs ks->jF K H' kvs ks
 |[]=>fun ks h=>h
 |(k,d)::kvs=>fun ks h=>by
  obtain⟨k',v,r,h1,h2,h3,h4⟩:=h;exact⟨k',v,r,h1,h2,Rep.same e d v h3,jF.same e kvs r h4⟩
end
theorem aM.length{K:Fg}{H:Hp}:∀{ds:List PyData}{vs:List V},aM K H ds vs->ds.length=vs.length
 |[],vs=>fun h=>by rw[show vs=[]from h];rfl
 |d::ds,vs=>fun h=>by
  obtain⟨v,r,h1,_,h3⟩:=h;rw[h1,C1,C1,aM.length h3]
theorem aM.get{K:Fg}{H:Hp}:∀{ds:List PyData}{vs:List V}{i:Nat}{v:V},aM K H ds vs->vs[i]?=some v->∃d,ds[i]?=some d/\Rep K H d v
 |[],vs,i,v=>fun h e=>by rw[show vs=[]from h]at e;simp at e
 |d::ds,vs,0,v=>fun h e=>by
  obtain⟨w,r,h1,h2,h3⟩:=h;rw[h1]at e;simp at e;subst e;exact⟨d,rfl,h2⟩
 |d::ds,vs,i+1,v=>fun h e=>by
  obtain⟨w,r,h1,h2,h3⟩:=h;rw[h1]at e;exact aM.get (i:=i) h3 (by simpa using e)
theorem aM.app{K:Fg}{H:Hp}:∀{ds es:List PyData}{vs ws:List V},aM K H ds vs->aM K H es ws->aM K H (ds++es) (vs++ws)
 |[],es,vs,ws=>fun h k=>by rw[show vs=[]from h];exact k
 |d::ds,es,vs,ws=>fun h k=>by
  obtain⟨v,r,h1,h2,h3⟩:=h;exact⟨v,r++ws,by rw[h1];rfl,h2,aM.app h3 k⟩
section
variable{X:Cx}{pins:List (Addr×Obj)}{σ:St}{H:Hp}{s:Shared}
theorem Inv.sysN(I:Inv X pins σ H s):H sysModules=none:=by
 obtain⟨o,es,ep,h,_⟩:=I.mod.sysm;exact(I.bs _ _ h).2
theorem Inv.sysL(I:Inv X pins σ H s){a:Addr}{xs:List V}(h:SqL X.K H a xs):sysModules≠a:=by
 intro e;subst e;have hn:=I.sysN;rcases h with(h|⟨o,h⟩)|⟨o,its,n,hk,_,_,hd,_⟩
 .rw[hn]at h;cases h
 .rw[hn]at h;cases h
 .obtain⟨o',es,ep,h',hd'⟩:=I.mod.sysm;have:=I.mod.kin _ _ hk;rw[h']at this;cases this;rw[hd]at hd';cases hd'
mutual
theorem Rep.reads'(I:Inv X pins σ H s):∀(d:PyData)(v:V)(u:Value),Rep X.K H d v->RelV v u->∃as,Reads s.heap u d as/\sysModules∉as
 |.none=>fun v u r q=>by
  rw[show v=.non from r]at q;rw[show u=Value.none from q];exact⟨_,.none,by simp⟩
 |.bool b=>fun v u r q=>by
  rw[show v=.bl b from r]at q;rw[show u=Value.bool b from q];exact⟨_,.bool b,by simp⟩
 |.int i=>fun v u r q=>by
  rw[show v=.int i from r]at q;obtain⟨t,rfl⟩:=(show ∃t,u=Value.int i t from q);exact⟨_,.int i t,by simp⟩
 |.str x=>fun v u r q=>by
  rw[show v=.str x from r]at q;obtain⟨t,rfl⟩:=(show ∃t,u=Value.str x t from q);exact⟨_,.str x t,by simp⟩
 |.list xs=>fun v u r q=>by
  obtain⟨a,vs,rfl,h2,h3⟩:=r;rw[show u=Value.ref a from q];obtain⟨its,hv,⟨o,n,hg,hc,_,hd⟩,_⟩:=I.list h2;obtain⟨as,ha,hs⟩:=aM.reads' I xs vs its h3 hv;exact⟨_,.list hg hc hd (by simpa using ha),fun z=>(List.mem_cons.mp z).elim (I.sysL h2) hs⟩
 |.tuple xs=>fun v u r q=>by
  obtain⟨a,vs,rfl,h2,h3⟩:=r;rw[show u=Value.ref a from q];obtain⟨its,hv,⟨o,hg,hc,n,hd⟩,_⟩:=I.tuple h2;obtain⟨as,ha,hs⟩:=aM.reads' I xs vs its h3 hv;exact⟨_,.tuple hg hc hd (by simpa using ha),hs⟩
 |.dict kvs=>fun v u r q=>by
  obtain⟨a,ks,rfl,h2,h3⟩:=r;rw[show u=Value.ref a from q];obtain⟨_,hS,vs,hkv,o,es,ep,hg,hex,hd,_,hp,_⟩:=(show dS X.prog X.w H s.heap a (.dK ks)from I.hok a _ h2);obtain⟨as,bs,h4,h5,n1,n2⟩:=jF.reads' I kvs ks vs es.toList h3 hkv hp;refine⟨_,.dict hg hex.1 hd h4 h5,fun z=>?_⟩;rcases List.mem_append.mp z with z|z
  .rcases List.mem_cons.mp z with z|z
   .rw[z]at hS;simp at hS
   .exact n1 z
  .exact n2 z
theorem aM.reads'(I:Inv X pins σ H s):∀(ds:List PyData)(vs:List V)(us:List Value),aM X.K H ds vs->bH vs us->∃as,ReadsAll s.heap us ds as/\sysModules∉as
 |[]=>fun vs us r q=>by
  rw[show vs=[]from r]at q;cases q;exact⟨_,.nil,by simp⟩
 |d::ds=>fun vs us r q=>by
  obtain⟨v,t,rfl,h2,h3⟩:=r;cases q with
  |cons q1 q2=>
   obtain⟨as,ha,n1⟩:=Rep.reads' I d v _ h2 q1;obtain⟨bs,hb,n2⟩:=aM.reads' I ds t _ h3 q2;exact⟨_,.cons ha hb,fun z=>(List.mem_append.mp z).elim n1 n2⟩
theorem jF.reads'(I:Inv X pins σ H s):∀(kvs:List (PyData×PyData))(ks:List (Key×V))(vs:List (Key×Value))(es:List DictEntry),jF X.K H kvs ks->KV ks vs->Pairs (cM X.prog X.w) es vs->
 ∃as bs,ReadsAll s.heap (es.map (·.key)) (kvs.map (·.1)) as/\ReadsAll s.heap (es.map (·.val)) (kvs.map (·.2)) bs/\sysModules∉as/\sysModules∉bs
 |[]=>fun ks vs es r q p=>by
  rw[show ks=[]from r]at q;cases q;cases p;exact⟨_,_,.nil,.nil,by simp,by simp⟩
 |(k,d)::kvs=>fun ks vs es r q p=>by
  obtain⟨k',v,t,rfl,h1,h2,h3⟩:=r;cases q with
  |@cons _ kv _ vs' q1 q2=>
   cases p with
   |@cons e _ es' _ p1 p2 p3=>
    obtain⟨as,bs,ha,hb,n1,n2⟩:=jF.reads' I kvs t _ _ h3 q2 p3;obtain⟨cs,hc,n3⟩:=Rep.reads' I d v _ h2 q1.2
    have hkey:Reads s.heap e.key k []:=by
     rw[h1];have p1':pC kv.1 e.key=true:=p1;rw[<- show k'=kv.1 from q1.1]at p1';rcases cC p1' with⟨i,t',rfl,he⟩|⟨x,t',rfl,he⟩
     .rw[he];exact .int i t'
     .rw[he];exact .str x t'
    refine⟨_,_,.cons hkey ha,.cons (show Reads s.heap e.val d cs by rw[p2];exact hc) hb,by simpa using n1,fun z=>(List.mem_append.mp z).elim n3 n2⟩
end
theorem Rep.reads(I:Inv X pins σ H s)(d:PyData)(v:V)(u:Value)(r:Rep X.K H d v)(q:RelV v u):∃as,Reads s.heap u d as:=let⟨as,h,_⟩:=Rep.reads' I d v u r q;⟨as,h⟩
theorem aM.reads(I:Inv X pins σ H s)(ds:List PyData)(vs:List V)(us:List Value)(r:aM X.K H ds vs)(q:bH vs us):∃as,ReadsAll s.heap us ds as:=let⟨as,h,_⟩:=aM.reads' I ds vs us r q;⟨as,h⟩
end
section
variable{X:Cx}
noncomputable def CW(K:Fg)(neg:Bool):R2:=fun x y H Q=>∃dx dy,Rep K H dx x/\Rep K H dy y/\SeqAt.shaped dx=true/\SeqAt.shaped dy=true/\Q (.bl (if neg then !PyData.eqv dx dy else PyData.eqv dx dy)) H
theorem QT(hu:X.A.units+64<cLine):OpR X (compareOp .Eq) (CW X.K false):=by
 intro pins s σ H x y v u Q I rx ry h;obtain⟨dx,dy,hx,hy,sx,sy,q⟩:=h;obtain⟨as,ha⟩:=Rep.reads I dx x v hx rx;obtain⟨bs,hb⟩:=Rep.reads I dy y u hy ry;exact eq_dataH ha hb sx sy hu ⟨.bl _,H,I,rfl,q⟩
theorem SD(hu:X.A.units+64<cLine):OpR X (compareOp .NotEq) (CW X.K true):=by
 intro pins s σ H x y v u Q I rx ry h;obtain⟨dx,dy,hx,hy,sx,sy,q⟩:=h;obtain⟨as,ha⟩:=Rep.reads I dx x v hx rx;obtain⟨bs,hb⟩:=Rep.reads I dy y u hy ry;exact ne_dataH ha hb sx sy hu ⟨.bl _,H,I,rfl,q⟩
open Classical in
noncomputable def rZ(h:Heap)(dv:PyData)(u:Value):Bool:=if ∃d as,Reads h u d as/\PyData.eqv d dv=true then true else false
theorem IA{h:Heap}{dv d:PyData}{u:Value}{as:List Addr}(r:Reads h u d as)(hc:d.canLay0=true):rZ h dv u=PyData.eqv d dv:=by
 unfold rZ;by_cases e:PyData.eqv d dv=true
 .rw[A6 ⟨d,as,r,e⟩,e]
 .rw[B0,Bool.eq_false_iff.mpr e];rintro⟨d',as',r',e'⟩;have:=SeqAt.Reads.unique d d' u as as' hc r r';subst this;exact e e'
theorem rF{A:Around}{s:Shared}{v:Value}{dv:PyData}{av:List Addr}(hv:Reads s.heap v dv av)(sv:SeqAt.shaped dv=true)(hu:A.units+64<cLine):
 ∀(us:List Value)(ds:List PyData)(as:List Addr),ReadsAll s.heap us ds as->ds.all SeqAt.shaped=true->(∀y∈us,SeqAt.EqAt A s y v (rZ s.heap dv y))/\us.any (rZ s.heap dv)=ds.any fun d=>PyData.eqv d dv
 |[]=>fun ds as r _=>by
  cases r;exact⟨fun y hy=>absurd hy (by simp),rfl⟩
 |y::us=>fun ds as r hs=>by
  cases r with
  |@cons _ _ d ds' as1 bs1 r1 r2=>
   rw[List.all_cons,B1]at hs;obtain⟨h1,h2⟩:=rF hv sv hu us _ _ r2 hs.2;have e:=IA (dv:=dv) r1 (SeqAt.canLay_of_shaped hs.1);have hy:SeqAt.EqAt A s y v (PyData.eqv d dv):=SeqAt.eqAt_reads d dv A s y v _ _ r1 hv (SeqAt.canLay_of_shaped hs.1) (SeqAt.canLay_of_shaped sv) (SeqAt.room_of_shaped hs.1 hu);refine⟨fun z hz=>?_,by rw[J5,J5,e,h2]⟩;rcases List.mem_cons.mp hz with q|q
   .rw[q,e];exact hy
   .exact h1 z q
noncomputable def SQ(K:Fg)(neg:Bool):R2:=fun x y H Q=>∃dx ds p vs,Rep K H dx x/\y=.ref p/\(SqL K H p vs\/SqT K H p vs)/\aM K H ds vs/\SeqAt.shaped dx=true/\ds.all SeqAt.shaped=true /\
 Q (.bl (if neg then !ds.any fun d=>PyData.eqv d dx else ds.any fun d=>PyData.eqv d dx)) H
theorem RQ(hu:X.A.in1.units+64<cLine):OpR X (compareOp .In) (SQ X.K false):=by
 intro pins s σ H x y v u Q I rx ry h;obtain⟨dx,ds,p,vs,hx,rfl,hp,hds,sx,sds,q⟩:=h;cases ry;obtain⟨as,ha⟩:=Rep.reads I dx x v hx rx;rcases hp with hp|hp
 .obtain⟨its,r,pl,hz⟩:=I.list hp;obtain⟨bs,hb⟩:=aM.reads I ds vs its hds r;obtain⟨h1,h2⟩:=rF (A:=X.A.in1) ha sx hu its ds bs hb sds;refine SeqAt.in_listAt (rZ s.heap dx) pl.isList (fun w hw=>h1 w (by simpa using hw)) ⟨.bl _,H,I,rfl,?_⟩;rw[show its.toArray.any (rZ s.heap dx)=its.any (rZ s.heap dx)by simp,h2];exact q
 .obtain⟨its,r,pl,hz⟩:=I.tuple hp;obtain⟨bs,hb⟩:=aM.reads I ds vs its hds r;obtain⟨h1,h2⟩:=rF (A:=X.A.in1) ha sx hu its ds bs hb sds;refine SeqAt.in_tupleAt (rZ s.heap dx) pl (fun w hw=>h1 w (by simpa using hw)) ⟨.bl _,H,I,rfl,?_⟩;rw[show its.toArray.any (rZ s.heap dx)=its.any (rZ s.heap dx)by simp,h2];exact q
theorem bH.types:∀{Ts:List String}{its:List Value},bH (Ts.map V.ty) its->its=Ts.map Value.type
 |[],_=>fun h=>by cases h;rfl
 |t::Ts,its=>fun h=>by
  cases h with
  |cons r1 r2=>rw[show _=Value.type t from r1,bH.types r2];rfl
theorem bH.bools:∀{bs:List Bool}{its:List Value},bH (bs.map V.bl) its->its=bs.map Value.bool
 |[],_=>fun h=>by cases h;rfl
 |b::bs,its=>fun h=>by
  cases h with
  |cons r1 r2=>rw[show _=Value.bool b from r1,bH.bools r2];rfl
theorem all_range(bs:List Bool):(List.range bs.length).all (fun i=>bs.getD i false)=bs.all id:=by
 rw[E5];simp only[List.all_eq_true,List.mem_range,id];constructor
 .intro h b hb;obtain⟨i,hi,rfl⟩:=List.mem_iff_getElem.mp hb;have:=h i hi;rw[E8,B5 hi]at this;exact this
 .intro h i hi;rw[E8,B5 hi];exact h _ (List.getElem_mem hi)
theorem vQ{prog:Program}{w:World}{A:Around}{bs:List Bool}:TruthOf prog w A (fun i v=>(bs.map Value.bool).toArray[i]?=some v) (fun i=>bs.getD i false):=by
 intro i v s Q E hP hQ;rw[List.getElem?_toArray,D6]at hP;cases e:bs[i]? with
 |none=>rw[e]at hP;cases hP
 |some b=>
  rw[e]at hP;cases hP;have hb:bs.getD i false=b:=by rw[E8,e];rfl
  have hQ':Q (bs.getD i false) s:=hQ;rw[hb]at hQ';exact D9 hQ'
noncomputable def pH:Nat:=2 ^ 8000
noncomputable def CL(i:Int):Prop:=i.natAbs<pH
theorem vS{j:Int}(h:CL j):j.natAbs.log2<9000:=by
 by_cases h0:j.natAbs=0
 .rw[h0];decide +kernel
 .exact Nat.lt_trans ((Nat.log2_lt h0).mpr h) (by decide)
noncomputable def VO(i j:Int):Prop:=CL i/\CL j
theorem sV{j:Int}(h:CL j):Builtin.Int.intBits j<=2 ^ 20:=by
 unfold Builtin.Int.intBits;by_cases h0:(j==0)=true
 .rw[A6 h0];exact C6 _
 .rw[B0 h0];have:=vS h;omega
end
structure Callee(P:Program)(w:World)(K:Fg)(mg:Str->Option Value)(base:Heap)(k:Nat)(x:Str)(ps:List Str)(sp:Sp)(q:Bool:=true):Prop where
 ex:∃f fd,mS P w K mg base CX0 k f fd ps sp q/\mg x=some (.ref f)/\PySem.W.keepIn K (.ref f)=true/\Binds K fd ps []
structure Def(K:Fg)(mg:Str->Option Value)(x:Str)(st:Stmt):Prop where
 ex:∃f fd,Fun K x x st f fd/\mg x=some (.ref f)
section
variable{P:Program}{w:World}{K:Fg}{mg:Str->Option Value}{base:Heap}{X:Cx}
theorem Def.ok{x:Str}{st:Stmt}{N ps:List Str}{k:Nat}{sp:Sp}{q:Bool}(D:Def K mg x st)(S:aT N ps (aG st))
 (hb:∀(kV doc pm:Value)(an:Option Addr)(cdv ct:Value)(us:List Value),us.length=ps.length->bindArgs (PySem.W.fnOf x x (fI st) (cK st) (aG st) .none kV doc pm an cdv ct) ⟨us,[]⟩=pure (ps.zip us))
 (len:∀vs H Q E,sp vs H Q E->vs.length=ps.length)
 (hbody:∀(f:Addr)(cdv:Value)(A:Around)(outer:List Env)(s:Shared)(H:Hp)(vs:List V)(Q:VK)(E:XK),dU k (A.deeper (envOfC x (aG st) s.heap.objs.size f cdv)) q->sp vs H Q E->
  ∃t,PSs (pN CX0 P w K mg base N x (aG st) f cdv A outer s H E q).nox (cK st) t/\t { nx:=fun _ H'=>Q .non H',rt:=Q } (start N vs) H):Callee P w K mg base (k+1) x ps sp q:=by
 obtain⟨f,fd,F,m⟩:=D.ex;exact⟨f,fd,F.ok S len fun cdv A outer s H vs Q E hr h=>hbody f cdv A outer s H vs Q E hr h,m,F.kp,F.binds hb⟩
theorem Callee.mono{j k:Nat}{x:Str}{ps:List Str}{sp:Sp}(C:Callee P w K mg base j x ps sp)(h:j<=k):Callee P w K mg base k x ps sp:=by
 obtain⟨f,fd,F,r⟩:=C.ex;exact⟨f,fd,F.mono h,r⟩
theorem def_mk{x:Str}{st:Stmt}{h:Heap}{f:Addr}{oc:Value}{od an:Option Addr}{osl:Array (Option Value)}{kV doc pm cdv ct:Value}(X:K.In h)(G:h.Ns mainGlobals mg)(a:PySem.W.nsIn K mainGlobals x=some (some (.ref f)))
 (l:K.lookup f=some ⟨oc,od,.func (PySem.W.fnOf x x (fI st) (cK st) (aG st) .none kV doc pm an cdv ct),osl⟩) (c:PySem.W.codeIn K cdv x=true) (k:PySem.W.keepIn K (.ref f)=true):Def K mg x st:=
 ⟨f,_,RM l c k,PySem.W.mg_of X G a⟩
theorem SC{k:Nat}{x:Str}{ps:List Str}{sp:Sp}{p pos:Pos}{e:Expr}{es:List Expr}{t:TA}{q:Bool}(C:Callee X.prog X.w X.K X.mg X.base k x ps sp q)(hr:dU k X.A q)(ha:PA X (e::es) t)(hg:Gl X x:=by rfl)
 (hdb:(x==("__debug__":Str))=false:=by decide) (he:starEach (e::es) X.env=(false,eval e X.env)::starEach es X.env:=by rfl) (hpl:(backTo pos (starEach es X.env)).any (·.1)=false:=by rfl):
 PE X (.Call (.Name x p) (e::es) [] pos) (DN sp [] E0 t):=by
 obtain⟨f,fd,F,m,kp,b⟩:=C.ex;exact JI F hr hg m kp b .nil UH ha hdb he hpl
theorem dU.units1{k:Nat}{A:Around}(r:dU k A):A.in1.units+64<cLine:=by have:=r.un;show A.units+1+64<_;omega
noncomputable def AQ(mg:Str->Option Value)(xs:List Str):Prop:=∀x∈xs,mg x=none
theorem AQ.of{xs:List Str}(h:AQ mg xs)(x:Str)(hx:x∈xs:=by decide +kernel):mg x=none:=h x hx
theorem FO:AQ mg []:=fun _ h=>absurd h (by simp)
theorem dH{x:Str}{xs:List Str}(h:mg x=none)(hr:AQ mg xs):AQ mg (x::xs):=fun y hy=>(List.mem_cons.mp hy).elim (fun e=>e▸h) (hr y)
noncomputable def vJ(i j:Int):Prop:=NY i j\/VO i j
theorem vJ.ok{i j:Int}(h:vJ i j):IntMulOk i j:=by
 rcases h with h|h
 .exact h.ok
 .exact IntMulOk.of_bits (sV h.1) (sV h.2)
theorem HY:OpR X (binaryOp .Mult) (rI vJ fun i j=>.int (i*j)):=opI fun _ _ _ _ _ _ _ hc q=>mul_int q hc.ok
noncomputable def LL(_ j:Int):Prop:=0<j/\CL j
theorem CM:OpR X (binaryOp .FloorDiv) (rI LL fun i j=>.int (i / j)):=opI fun i j _ _ _ _ _ hc q=>by
 refine floordiv_int (Int.ne_of_gt hc.1) ?_ (.inl (PyProof.noPylong_of_log2 (vS hc.2)));rw[Int.fdiv_eq_ediv_of_nonneg _ (Int.le_of_lt hc.1)];exact q
end
noncomputable def MC(sc0:Scope)(N N':List Str)(cap:List (Option Nat))(scope:Scope):Bool:=
 scope.names.all (fun y=>y.2 != .cell)&&(scope.kind==.function)&&scope.names.all (fun y=>y.2 != .local || scope.names.lookup y.1==some .local) &&
 scope.names.all (fun y=>y.2 != .free || (sc0.names.lookup y.1==some .cell || sc0.names.lookup y.1==some .free))&&(cap.length==N'.length) &&
 (List.range cap.length).all fun i=>match cap[i]? with
  |some (some j)=>(match N'[i]?,N[j]? with
   |some x,some y=>x==y&&scope.names.lookup x==some .free
   |_,_=>false)
  |_=>true
theorem pX{X:Cx}{sc0 scope:Scope}{N N':List Str}{cap:List (Option Nat)}(h1:X.env.scope=sc0)(h2:X.N=N)(h:MC sc0 N N' cap scope=true):lX X N' cap scope:=by
 unfold MC at h;simp only[Bool.and_eq_true,List.all_eq_true,beq_iff_eq,bne_iff_ne,ne_eq,Bool.or_eq_true,List.mem_range]at h;obtain⟨⟨⟨⟨⟨a,b⟩,c⟩,d⟩,e⟩,f⟩:=h;refine⟨a,b,fun y hy hk=>?_,fun y hy hk=>?_,e,fun i j hij=>?_⟩
 .rcases c y hy with z|z
  .exact absurd hk z
  .exact z
 .show X.env.scope.names.lookup y.1=_\/X.env.scope.names.lookup y.1=_;rw[h1];rcases d y hy with z|z
  .exact absurd hk z
  .exact z
 .have hi:i<cap.length:=(List.getElem?_eq_some_iff.mp hij).1;have g:=f i hi;rw[hij]at g;dsimp only at g;rw[h2];split at g
  .rename_i x y ex ey;rw[B1,beq_iff_eq,beq_iff_eq]at g;exact⟨x,ex,by rw[ey,g.1],g.2⟩
  .cases g
noncomputable def tyName:PyData->String
 |.none=>"NoneType"
 |.bool _=>"bool"
 |.int _=>"int"
 |.str _=>"str"
 |.list _=>"list"
 |.tuple _=>"tuple"
 |.dict _=>"dict"
noncomputable def asked:List String:=["int","bool","str","list","tuple","dict"]
noncomputable def isT(T S:String):Bool:=T==S || (T=="int"&&S=="bool")
noncomputable def nU(T:String)(d:PyData):Bool:=isT T (tyName d)
noncomputable def WT(S T:String):Option Bool:=if (Value.type S==Value.type T)=true then some true else if PySem.W.kitMeta T=true then(PySem.fastBuiltinMro S).map (·.contains (Value.type T))else none
theorem HC:(["NoneType","bool","int","str","list","tuple","dict"].all fun S=>asked.all fun T=>WT S T==some (isT T S))=true:=by decide +kernel
theorem ER{T:String}{d:PyData}(h:T∈asked):PySem.W.kitOne K (.type (tyName d)) (.type T)=some (nU T d):=by
 have e:PySem.W.kitOne K (.type (tyName d)) (.type T)=WT (tyName d) T:=rfl;rw[e];have hk:=HC;rw[List.all_eq_true]at hk;have h1:=hk (tyName d) (by cases d<;>simp[tyName]);rw[List.all_eq_true]at h1;exact eq_of_beq (h1 T h)
theorem zL{K:Fg}{d:PyData}:∀{Ts:List String},(∀T∈Ts,T∈asked)->PySem.W.kitAny K (.type (tyName d)) (Ts.map Value.type)=some (Ts.any fun T=>nU T d)
 |[]=>fun _=>rfl
 |T::Ts=>fun h=>by
  rw[B6];unfold PySem.W.kitAny;rw[ER (h T C2),J5];cases nU T d with
  |true=>rfl
  |false=>rw[Bool.false_or];exact zL fun U hU=>h U (B7 _ hU)
section
variable{X:Cx}
theorem zT{pins:List (Addr×Obj)}{σ:St}{H:Hp}{s:Shared}(I:Inv X pins σ H s):∀{d:PyData}{v:V}{u:Value},Rep X.K H d v->RelV v u->∃Hc:Heap->Prop,PySem.W.KitX X.K u (.type (tyName d)) Hc/\Hc s.heap/\u≠.builtin "__main__.__loader__#opaque"
 |.none,v,u=>fun h r=>by
  rw[show v=.non from h]at r;cases (show u=Value.none from r);exact⟨_,PySem.W.kitx_none,True.intro,fun z=>nomatch z⟩
 |.bool b,v,u=>fun h r=>by
  rw[show v=.bl b from h]at r;cases (show u=Value.bool b from r);exact⟨_,PySem.W.kitx_bool,True.intro,fun z=>nomatch z⟩
 |.int i,v,u=>fun h r=>by
  rw[show v=.int i from h]at r;obtain⟨t,q⟩:=(show ∃t,u=Value.int i t from r);cases q;exact⟨_,PySem.W.kitx_int,True.intro,fun z=>nomatch z⟩
 |.str x,v,u=>fun h r=>by
  rw[show v=.str x from h]at r;obtain⟨t,q⟩:=(show ∃t,u=Value.str x t from r);cases q;exact⟨_,PySem.W.kitx_str,True.intro,fun z=>nomatch z⟩
 |.list xs,v,u=>fun h r=>by
  obtain⟨a,vs,rfl,h2,_⟩:=h;cases (show u=Value.ref a from r);obtain⟨its,hv,⟨o,n,hg,hc,_,hd⟩,_⟩:=I.list h2;exact⟨_,PySem.W.kitx_list,⟨o,hg,hc⟩,fun z=>nomatch z⟩
 |.tuple xs,v,u=>fun h r=>by
  obtain⟨a,vs,rfl,h2,_⟩:=h;cases (show u=Value.ref a from r);obtain⟨its,hv,⟨o,hg,hc,n,hd⟩,_⟩:=I.tuple h2;exact⟨_,PySem.W.kitx_tuple,⟨o,hg,hc⟩,fun z=>nomatch z⟩
 |.dict kvs,v,u=>fun h r=>by
  obtain⟨a,ks,rfl,h2,_⟩:=h;cases (show u=Value.ref a from r);obtain⟨_,_,vs,_,o,es,ep,h1,hx,_⟩:=(show dS X.prog X.w H s.heap a (.dK ks)from I.hok a _ h2);exact⟨_,PySem.W.kitx_dict,⟨o,h1,hx.1⟩,fun z=>nomatch z⟩
noncomputable def PV(K:Fg):List V->Hp->VK->Prop:=fun xs H Q=>∃x T d,xs=[x,.ty T]/\T∈asked/\Rep K H d x/\Q (.bl (nU T d)) H
theorem BE:gC X (.builtin "isinstance") (PV X.K):=by
 intro pins s σ H xs us Q I r h;obtain⟨x,T,d,rfl,hT,hd,q⟩:=h;obtain⟨u,u',rfl,ru,ru'⟩:=vals2 r;cases (show u'=Value.type T from ru');obtain⟨Hc,Z,hh,hne⟩:=zT I hd ru;exact PySem.W.kia_one Z I.kIn hh (ER hT) hne fun tk=>⟨.bl _,H,I.tok tk,rfl,q⟩
noncomputable def EA(K:Fg):List V->Hp->VK->Prop:=fun xs H Q=>∃(x:V)(p:Addr)(Ts:List String)(d:PyData),xs=[x,.ref p]/\H p=some (.tup (Ts.map V.ty))/\(∀T∈Ts,T∈asked)/\Rep K H d x/\Q (.bl (Ts.any fun T=>nU T d)) H
theorem yS:gC X (.builtin "isinstance") (EA X.K):=by
 intro pins s σ H xs us Q I r h;obtain⟨x,p,Ts,d,rfl,hp,hT,hd,q⟩:=h;obtain⟨u,u',rfl,ru,ru'⟩:=vals2 r;cases (show u'=Value.ref p from ru');obtain⟨_,its,rv,o,hg,hcl,n,hd'⟩:=(show dS X.prog X.w H s.heap p (.tup (Ts.map V.ty))from I.hok p _ hp);have hits:its=Ts.map Value.type:=bH.types rv;subst hits;obtain⟨oc,od,odt,osl⟩:=o;dsimp only at hcl hd';subst hcl hd';obtain⟨Hc,Z,hh,hne⟩:=zT I hd ru;exact PySem.W.kia_tup Z I.kIn hh hg (zL hT) hne fun tk=>⟨.bl _,H,I.tok tk,rfl,q⟩
end
theorem gV.upd{p:Addr}{o:HO}(h:H p=none):gV H (upd H p o):=fun b u e=>by rw[aV (aS e h)];exact e
noncomputable def aZ:PyData->Option (List PyData)
 |.list xs=>some xs
 |.tuple xs=>some xs
 |_=>none
theorem oA{K:Fg}{H:Hp}:∀{d:PyData}{v:V}{ds:List PyData},Rep K H d v->aZ d=some ds->∃a vs,v=.ref a/\(SqL K H a vs\/SqT K H a vs)/\aM K H ds vs
 |.list xs,v,ds=>fun h e=>by
  obtain⟨a,vs,h1,h2,h3⟩:=h;cases e;exact⟨a,vs,h1,.inl h2,h3⟩
 |.tuple xs,v,ds=>fun h e=>by
  obtain⟨a,vs,h1,h2,h3⟩:=h;cases e;exact⟨a,vs,h1,.inr h2,h3⟩
 |.none,_,_=>fun _ e=>by cases e
 |.bool _,_,_=>fun _ e=>by cases e
 |.int _,_,_=>fun _ e=>by cases e
 |.str _,_,_=>fun _ e=>by cases e
 |.dict _,_,_=>fun _ e=>by cases e
section
variable{X:Cx}{tg:Expr}
noncomputable def RN(K:Fg)(tl:TE):TI:=fun σ H R=>tl σ H fun x H1=>∃a,x=.ref a/\((∃xs,SqL K H1 a xs/\R (Itl K a) H1)\/(∃xs,SqT K H1 a xs/\R (Itt K a) H1))
theorem PK{l:Expr}{tl:TE}(hl:PE X l tl):PI X tg l (RN X.K tl):=by
 intro pins s σ H R I h;refine thn (hl pins s σ H _ I h) fun v s1 hz=>?_;obtain⟨x,H1,I1,r1,a,e,q1⟩:=hz;subst e;cases r1
 have fp:∀b∈[s1.heap.objs.size],pK X pins H1 b:=fun b hb=>by
  have e:b=s1.heap.objs.size:=List.mem_singleton.mp hb;subst e;exact I1.fpOk (A4 _) (I1.hok.fresh (A4 _))
 rcases q1 with⟨xs,hq,q⟩|⟨xs,hq,q⟩
 .obtain⟨its,rv,p,hz⟩:=I1.list hq;refine wpAny_pyIter_list p.isList ?_;exact⟨s1.heap.objs.size,[s1.heap.objs.size],_,_,H1,rfl,I1.kept (t':=s1.toks) fun b o e=>B2 _ e,BL a _,⟨_,D1 _ rfl,rfl,rfl⟩,fp,q⟩
 .obtain⟨its,rv,p,hz⟩:=I1.tuple hq;refine wpAny_pyIter_tuple (show s1.heap.IsTuple a its.toArray from p) ?_;exact⟨s1.heap.objs.size,[s1.heap.objs.size],_,_,H1,rfl,I1.kept (t':=s1.toks) fun b o e=>B2 _ e,xT a _,⟨_,D1 _ rfl,rfl,rfl⟩,fp,q⟩
end
inductive CD where
 |d (x:PyData)
 |c (n:Nat)
 |t (xs:List (PyData ⊕ Nat))
 |f (kvs:List (List Key×PyData))
 |g (nm:Str)
inductive Cell where
 |lst (xs:List CD)
 |dk (kvs:List (Key×CD))
 |dt (kvs:List (List Key×CD))
 |obj (nm:Str) (fs:List (Str×CD))
 |exc (fr:Bool) (nm:Str) (fs:List (Str×CD))
 |dead
structure Wd where
 F:Hp
 α:Nat->Addr
 n:Nat
structure Wd.Ext(W W':Wd):Prop where
 ff:gV W.F W'.F
 ln:W.n<=W'.n
 al:∀i,i<W.n->W'.α i=W.α i
theorem Wd.Ext.refl(W:Wd):W.Ext W:=⟨gV.refl _,A4 _,fun _ _=>rfl⟩
theorem Wd.Ext.trans{W1 W2:Wd}(a:W.Ext W1)(b:W1.Ext W2):W.Ext W2:=⟨a.ff.trans b.ff,C7 a.ln b.ln,fun i h=>(b.al i (A8 h a.ln)).trans (a.al i h)⟩
noncomputable def BC(K:Fg)(W:Wd):PyData ⊕ Nat->V->Prop
 |.inl x,v=>Rep K W.F x v
 |.inr i,v=>i<W.n/\v=.ref (W.α i)
noncomputable def cdA:PyData ⊕ Nat->CD
 |.inl x=>.d x
 |.inr i=>.c i
noncomputable def KW(K:Fg)(nm:Str):Addr:=match PySem.W.nsIn K mainGlobals nm with
 |some (some (.ref C))=>C
 |_=>0
noncomputable def cR(K:Fg)(W:Wd):CD->V->Prop
 |.d x,v=>Rep K W.F x v
 |.c i,v=>i<W.n/\v=.ref (W.α i)
 |.t xs,v=>∃a vs,v=.ref a/\W.F a=some (.tup vs)/\Paired (BC K W) xs vs
 |.f kvs,v=>∃a o us,v=.ref a/\W.F a=some (.frz o (.dT us))/\Paired (fun p q=>p.1=q.1/\Rep K W.F p.2 q.2) kvs us
 |.g nm,v=>v=.ref (KW K nm)
noncomputable abbrev cJ(K:Fg)(W:Wd):List CD->List V->Prop:=Paired (cR K W)
noncomputable def IU(K:Fg)(W:Wd):Option CD->Option V->Prop
 |none,none=>True
 |some x,some v=>cR K W x v
 |_,_=>False
noncomputable abbrev dE(K:Fg)(W:Wd):List (Option CD)->St->Prop:=Paired (IU K W)
noncomputable def WW(a:Addr)(c:Value)(dx:Option Addr)(fr:Bool)(h:Heap):Prop:=∃o vs,h.get? a=some o/\o.cls=c/\o.dict=dx/\o.data=.fields vs/\(fr=true->1<vs.size/\vs[1]?=some .none)
noncomputable def EH(K:Fg)(W:Wd)(dx:Option Addr)(fs:List (Str×CD)):Prop:=match dx with
 |none=>fs=[]
 |some d=>fs≠[]/\∃us,W.F d=some (.xd us)/\Paired (fun p q=>p.1=q.1/\cR K W p.2 q.2) fs us
noncomputable def BO(K:Fg)(W:Wd)(a:Addr):Cell->HO->Prop
 |.lst xs,.lst vs=>cJ K W xs vs
 |.dk kvs,.dK us=>Paired (fun p q=>p.1=q.1/\cR K W p.2 q.2) kvs us
 |.dt kvs,.dT us=>Paired (fun p q=>p.1=q.1/\cR K W p.2 q.2) kvs us
 |.obj nm fs,.ins C _ us=>C=KW K nm/\Paired (fun p q=>p.1=q.1/\cR K W p.2 q.2) fs us
 |.exc fr nm fs,.ext φ=>∃dx,φ=WW a (.ref (KW K nm)) dx fr/\EH K W dx fs
 |_,_=>False
structure Good(K:Fg)(W:Wd)(M:List Cell)(H:Hp):Prop where
 fh:gV W.F H
 n:W.n=M.length
 cs:∀i c,M[i]?=some c->c≠.dead->W.F (W.α i)=none/\∃o,H (W.α i)=some o/\BO K W (W.α i) c o
 inj:∀i j c c',M[i]?=some c->M[j]?=some c'->c≠.dead->c'≠.dead->W.α i=W.α j->i=j
section
variable{K:Fg}{W W':Wd}{M M':List Cell}{H H':Hp}
theorem BC.up{x:PyData ⊕ Nat}{v:V}(h:BC K W x v)(e:W.Ext W'):BC K W' x v:=by
 cases x with
 |inl x=>exact Rep.same e.ff _ _ h
 |inr i=>exact⟨A8 h.1 e.ln,by rw[e.al i h.1];exact h.2⟩
theorem cR.up{x:CD}{v:V}(h:cR K W x v)(e:W.Ext W'):cR K W' x v:=by
 cases x with
 |d x=>exact Rep.same e.ff _ _ h
 |c i=>exact⟨A8 h.1 e.ln,by rw[e.al i h.1];exact h.2⟩
 |t xs=>
  obtain⟨a,vs,h1,h2,h3⟩:=h;exact⟨a,vs,h1,e.ff _ _ h2,Paired.mapP h3 fun _ _ r=>BC.up r e⟩
 |f kvs=>
  obtain⟨a,o,us,h1,h2,h3⟩:=h;exact⟨a,o,us,h1,e.ff _ _ h2,Paired.mapP h3 fun _ _ r=>⟨r.1,Rep.same e.ff _ _ r.2⟩⟩
 |g nm=>exact h
theorem cJ.up{xs:List CD}{vs:List V}(h:cJ K W xs vs)(e:W.Ext W'):cJ K W' xs vs:=Paired.mapP h fun _ _ r=>cR.up r e
theorem dE.up{γ:List (Option CD)}{σ:St}(h:dE K W γ σ)(e:W.Ext W'):dE K W' γ σ:=Paired.mapP h fun a b r=>by
 cases a<;>cases b
 .exact True.intro
 .exact False.elim r
 .exact False.elim r
 .exact cR.up r e
theorem EH.up{dx:Option Addr}{fs:List (Str×CD)}(h:EH K W dx fs)(e:W.Ext W'):EH K W' dx fs:=by
 cases dx with
 |none=>exact h
 |some d=>
  obtain⟨h0,us,h1,h2⟩:=h;exact⟨h0,us,e.ff _ _ h1,Paired.mapP h2 fun _ _ r=>⟨r.1,cR.up r.2 e⟩⟩
theorem BO.up{a:Addr}{c:Cell}{o:HO}(h:BO K W a c o)(e:W.Ext W'):BO K W' a c o:=by
 cases c<;>cases o<;>first|exact(let⟨dx,h1,h2⟩:=h;⟨dx,h1,h2.up e⟩)|exact False.elim h|exact cJ.up h e|exact Paired.mapP h fun _ _ r=>⟨r.1,cR.up r.2 e⟩|exact⟨h.1,Paired.mapP h.2 fun _ _ r=>⟨r.1,cR.up r.2 e⟩⟩
theorem Good.lay(g:Good K W M H){p:Addr}{o:HO}(hp:H p=none):W.Ext { W with F:=upd W.F p o }/\Good K { W with F:=upd W.F p o } M (upd H p o):=by
 have fp:W.F p=none:=g.fh.free hp;have e:W.Ext { W with F:=upd W.F p o }:=⟨gV.upd fp,A4 _,fun _ _=>rfl⟩;refine⟨e,?_,g.n,fun i c hi hc=>?_,g.inj⟩
 .intro b u hb;have hb:upd W.F p o b=some u:=hb;by_cases q:b=p
  .subst q;rw[bB]at hb;rw[bB];exact hb
  .rw[aV q]at hb;rw[aV q];exact g.fh b u hb
 .obtain⟨h1,o',h2,h3⟩:=g.cs i c hi hc;have ne:W.α i≠p:=aS h2 hp;exact⟨by show upd W.F p o (W.α i)=none;rw[aV ne];exact h1,o',by rw[aV ne];exact h2,h3.up e⟩
noncomputable def Wd.more(W:Wd)(p:Addr):Wd:={ W with α:=fun i=>if i=W.n then p else W.α i,n:=W.n+1 }
theorem Wd.ext_more(W:Wd)(p:Addr):W.Ext (W.more p):=⟨gV.refl _,Nat.le_succ _,fun i h=>B0 (C0 h)⟩
theorem Good.new(g:Good K W M H){p:Addr}{c:Cell}{o:HO}(hp:H p=none)(r:BO K W p c o):Good K (W.more p) (M++[c]) (upd H p o):=by
 have e:=W.ext_more p
 have at_:∀i c',(M++[c])[i]?=some c'->(i<M.length/\M[i]?=some c')\/(i=M.length/\c'=c):=fun i c' h=>by
  by_cases q:i<M.length
  .rw[List.getElem?_append_left q]at h;exact .inl ⟨q,h⟩
  .rw[L8 (Nat.le_of_not_lt q)]at h
   have h':i-M.length=0:=by
    cases k:i-M.length with
    |zero=>rfl
    |succ m=>rw[k]at h;simp at h
   rw[h']at h;refine .inr ⟨by omega,?_⟩;simpa using h.symm
 have al:∀i,i<M.length->(W.more p).α i=W.α i:=fun i h=>e.al i (by rw[g.n];exact h);have an:(W.more p).α M.length=p:=by show(if M.length=W.n then p else _)=p;rw[A6 g.n.symm]
 have nep:∀i c',M[i]?=some c'->c'≠.dead->W.α i≠p:=fun i c' h hc=>by
  obtain⟨_,o',h2,_⟩:=g.cs i c' h hc;exact aS h2 hp
 refine⟨?_,?_,fun i c' hi hc=>?_,fun i j c1 c2 hi hj d1 d2 he=>?_⟩
 .intro b u hb;have:=g.fh b u hb;rw[aV (aS this hp)];exact this
 .show W.n+1=_;rw[g.n,A9];rfl
 .rcases at_ i c' hi with⟨q,h⟩|⟨rfl,rfl⟩
  .obtain⟨h1,o',h2,h3⟩:=g.cs i c' h hc;rw[al i q];exact⟨h1,o',by rw[aV (nep i c' h hc)];exact h2,h3.up e⟩
  .rw[an];exact⟨g.fh.free hp,o,bB,r.up e⟩
 .rcases at_ i c1 hi with⟨q,h⟩|⟨rfl,rfl⟩
  .rcases at_ j c2 hj with⟨q',h'⟩|⟨rfl,rfl⟩
   .rw[al i q,al j q']at he;exact g.inj i j c1 c2 h h' d1 d2 he
   .rw[al i q,an]at he;exact absurd he (nep i c1 h d1)
  .rcases at_ j c2 hj with⟨q',h'⟩|⟨rfl,rfl⟩
   .rw[an,al j q']at he;exact absurd he.symm (nep j c2 h' d2)
   .rfl
theorem Good.set(g:Good K W M H){i:Nat}{c c':Cell}{o':HO}(hi:M[i]?=some c)(hc:c≠.dead)(r:BO K W (W.α i) c' o'):Good K W (M.set i c') (upd H (W.α i) o'):=by
 obtain⟨h1,o,h2,h3⟩:=g.cs i c hi hc;have lt:i<M.length:=(List.getElem?_eq_some_iff.mp hi).1
 have at_:∀j d,(M.set i c')[j]?=some d->(j=i/\d=c')\/(j≠i/\M[j]?=some d):=fun j d h=>by
  by_cases q:i=j
  .subst q;rw[E6 lt]at h;exact .inl ⟨rfl,(C5 h).symm⟩
  .rw[J1 q]at h;exact .inr ⟨fun z=>q z.symm,h⟩
 refine⟨?_,by rw[g.n,List.length_set],fun j d hj hd=>?_,fun j k d1 d2 hj hk e1 e2 he=>?_⟩
 .intro b u hb;rw[aV (aS hb h1)];exact g.fh b u hb
 .rcases at_ j d hj with⟨rfl,rfl⟩|⟨q,h⟩
  .exact⟨h1,o',bB,r⟩
  .obtain⟨k1,u,k2,k3⟩:=g.cs j d h hd;have ne:W.α j≠W.α i:=fun z=>q (g.inj j i d c h hi hd hc z);exact⟨k1,u,by rw[aV ne];exact k2,k3⟩
 .rcases at_ j d1 hj with⟨rfl,rfl⟩|⟨q,h⟩<;>rcases at_ k d2 hk with⟨rfl,rfl⟩|⟨q',h'⟩
  .rfl
  .exact g.inj _ k c d2 hi h' hc e2 he
  .exact g.inj j _ d1 c h hi e1 hc he
  .exact g.inj j k d1 d2 h h' e1 e2 he
end
noncomputable abbrev Ga:=List (Option CD)
noncomputable abbrev Sto:=List Cell
noncomputable abbrev EF:=Ga->Sto->Option (CD×Sto)
noncomputable abbrev TF:=Ga->Sto->Option (Bool×Sto)
noncomputable abbrev AF:=Ga->Sto->Option (List CD×Sto)
inductive Out where
 |nx (γ:Ga)|bk (γ:Ga)|ct (γ:Ga)|rt (x:CD)
noncomputable abbrev SF:=Ga->Sto->Option (Out×Sto)
noncomputable abbrev GF:=CD->Ga->Sto->Option (Ga×Sto)
noncomputable abbrev GsF:=List CD->Ga->Sto->Option (Ga×Sto)
noncomputable abbrev F1:=CD->Sto->Option (CD×Sto)
noncomputable abbrev F2:=CD->CD->Sto->Option (CD×Sto)
noncomputable abbrev FN:=List CD->Sto->Option (CD×Sto)
section
variable(K:Fg)
noncomputable def SE(t:TE)(f:EF):Prop:=∀γ M x M',f γ M=some (x,M')->∀(W:Wd)(H:Hp)(σ:St)(Q:VK),Good K W M H->dE K W γ σ->(∀v W' H',W.Ext W'->Good K W' M' H'->cR K W' x v->Q v H')->t σ H Q
noncomputable def STt(t:TT)(f:TF):Prop:=∀γ M b M',f γ M=some (b,M')->∀(W:Wd)(H:Hp)(σ:St)(Q:Bool->Hp->Prop),Good K W M H->dE K W γ σ->(∀W' H',W.Ext W'->Good K W' M' H'->Q b H')->t σ H Q
noncomputable def SA(t:TA)(f:AF):Prop:=∀γ M xs M',f γ M=some (xs,M')->∀(W:Wd)(H:Hp)(σ:St)(Q:List V->Hp->Prop),Good K W M H->dE K W γ σ->(∀vs W' H',W.Ext W'->Good K W' M' H'->cJ K W' xs vs->Q vs H')->t σ H Q
noncomputable def MH(D:Ends)(W:Wd)(H:Hp):Out->Prop
 |.nx γ=>∀σ,dE K W γ σ->D.nx σ H
 |.bk γ=>∀σ,dE K W γ σ->D.bk σ H
 |.ct γ=>∀σ,dE K W γ σ->D.ct σ H
 |.rt x=>∀v,cR K W x v->D.rt v H
noncomputable def SS(t:TS)(f:SF):Prop:=∀γ M o M',f γ M=some (o,M')->∀(W:Wd)(H:Hp)(σ:St)(D:Ends),Good K W M H->dE K W γ σ->(∀W' H',W.Ext W'->Good K W' M' H'->MH K D W' H' o)->t D σ H
noncomputable def SG(t:TG)(f:GF):Prop:=∀x γ M γ' M',f x γ M=some (γ',M')->∀(W:Wd)(H:Hp)(σ:St)(v:V)(Q:St->Hp->Prop),Good K W M H->dE K W γ σ->cR K W x v->(∀σ' W' H',W.Ext W'->Good K W' M' H'->dE K W' γ' σ'->Q σ' H')->t v σ H Q
noncomputable def P2(r:R2)(f:F2):Prop:=∀x y M z M',f x y M=some (z,M')->∀(W:Wd)(H:Hp)(v u:V)(Q:VK),Good K W M H->cR K W x v->cR K W y u->(∀w W' H',W.Ext W'->Good K W' M' H'->cR K W' z w->Q w H')->r v u H Q
noncomputable def P1(r:V->Hp->VK->Prop)(f:F1):Prop:=∀x M z M',f x M=some (z,M')->∀(W:Wd)(H:Hp)(v:V)(Q:VK),Good K W M H->cR K W x v->(∀w W' H',W.Ext W'->Good K W' M' H'->cR K W' z w->Q w H')->r v H Q
noncomputable def PN(r:List V->Hp->VK->Prop)(f:FN):Prop:=∀xs M z M',f xs M=some (z,M')->∀(W:Wd)(H:Hp)(vs:List V)(Q:VK),Good K W M H->cJ K W xs vs->(∀w W' H',W.Ext W'->Good K W' M' H'->cR K W' z w->Q w H')->r vs H Q
noncomputable def spM(f:FN):Sp:=fun vs H Q _=>∃xs M W y M',Good K W M H/\cJ K W xs vs/\f xs M=some (y,M')/\∀v W' H',W.Ext W'->Good K W' M' H'->cR K W' y v->Q v H'
end
noncomputable def aE(i:Nat):EF:=fun γ M=>match γ[i]? with
 |some (some x)=>some (x,M)
 |_=>none
noncomputable def fC(x:PyData):EF:=fun _ M=>some (.d x,M)
noncomputable def fOp(h:F2)(f g:EF):EF:=fun γ M=>(f γ M).bind fun r=>(g γ r.2).bind fun q=>h r.1 q.1 q.2
noncomputable def fUn(h:F1)(f:EF):EF:=fun γ M=>(f γ M).bind fun r=>h r.1 r.2
noncomputable def asB:CD->Option Bool
 |.d (.bool b)=>some b
 |_=>none
noncomputable def iG(f g:EF):EF:=fun γ M=>(f γ M).bind fun r=>(asB r.1).bind fun b=>if b=true then g γ r.2 else some (.d (.bool false),r.2)
noncomputable def fOr(f g:EF):EF:=fun γ M=>(f γ M).bind fun r=>(asB r.1).bind fun b=>if b=true then some (.d (.bool true),r.2)else g γ r.2
noncomputable def FJ(f:EF):EF:=fun γ M=>(f γ M).bind fun r=>(asB r.1).bind fun b=>some (.d (.bool (!b)),r.2)
noncomputable def fIf(t:TF)(f g:EF):EF:=fun γ M=>(t γ M).bind fun r=>if r.1=true then f γ r.2 else g γ r.2
noncomputable def XU(f g:TF):TF:=fun γ M=>(f γ M).bind fun r=>if r.1=true then g γ r.2 else some (false,r.2)
noncomputable def gOr(f g:TF):TF:=fun γ M=>(f γ M).bind fun r=>if r.1=true then some (true,r.2)else g γ r.2
noncomputable def iH(f:TF):TF:=fun γ M=>(f γ M).bind fun r=>some (!r.1,r.2)
noncomputable def gB(f:EF):TF:=fun γ M=>(f γ M).bind fun r=>(asB r.1).bind fun b=>some (b,r.2)
noncomputable def rS(h h':F2)(f g e:EF):EF:=fun γ M=>(f γ M).bind fun r=>(g γ r.2).bind fun q=>(h r.1 q.1 q.2).bind fun z=>(asB z.1).bind fun b=>if b=true then(e γ z.2).bind fun w=>h' q.1 w.1 w.2 else some (.d (.bool false),z.2)
noncomputable def aH:AF:=fun _ M=>some ([],M)
noncomputable def aB(f:EF)(g:AF):AF:=fun γ M=>(f γ M).bind fun r=>(g γ r.2).bind fun q=>some (r.1::q.1,q.2)
noncomputable def lZ:List CD->Option (List PyData)
 |[]=>some []
 |.d x::r=>(lZ r).map (x::·)
 |.c _::_=>none
 |.t _::_=>none
 |.f _::_=>none
 |.g _::_=>none
noncomputable def cX(f:AF):EF:=fun γ M=>(f γ M).bind fun r=>(lZ r.1).bind fun ds=>if ds.length<=sizeLine then some (.d (.tuple ds),r.2)else none
noncomputable def gJ(f:AF):EF:=fun γ M=>(f γ M).bind fun r=>(lZ r.1).bind fun ds=>if ds.length<=sizeLine then some (.d (.list ds),r.2)else none
noncomputable def yL(f:AF):EF:=fun γ M=>(f γ M).bind fun r=>if r.1.length<=sizeLine then some (.c r.2.length,r.2++[.lst r.1])else none
noncomputable def aI(h:FN)(f:AF):EF:=fun γ M=>(f γ M).bind fun r=>h r.1 r.2
noncomputable def bO:SF:=fun γ M=>some (.nx γ,M)
noncomputable def aY(f g:SF):SF:=fun γ M=>(f γ M).bind fun r=>match r.1 with
 |.nx γ'=>g γ' r.2
 |o=>some (o,r.2)
noncomputable def AJ(f:EF):SF:=fun γ M=>(f γ M).bind fun r=>some (.nx γ,r.2)
noncomputable def bG(f:EF):SF:=fun γ M=>(f γ M).bind fun r=>some (.rt r.1,r.2)
noncomputable def VN:SF:=fun _ M=>some (.rt (.d .none),M)
noncomputable def sIf(c:TF)(f g:SF):SF:=fun γ M=>(c γ M).bind fun r=>if r.1=true then f γ r.2 else g γ r.2
noncomputable def bW(f:EF)(g:GF):SF:=fun γ M=>(f γ M).bind fun r=>(g r.1 γ r.2).bind fun q=>some (.nx q.1,q.2)
noncomputable def hName(i:Nat):GF:=fun x γ M=>some (γ.set i (some x),M)
noncomputable def XM:GsF:=fun xs γ M=>match xs with
 |[]=>some (γ,M)
 |_=>none
noncomputable def TQ(f:GF)(g:GsF):GsF:=fun xs γ M=>match xs with
 |x::r=>(f x γ M).bind fun q=>g r q.1 q.2
 |[]=>none
noncomputable def WZ(n:Nat)(g:GsF):GF:=fun x γ M=>match x with
 |.d (.tuple ds)=>if ds.length=n then g (ds.map .d) γ M else none
 |.t xs=>if xs.length=n then g (xs.map cdA) γ M else none
 |_=>none
noncomputable abbrev F3:=CD->CD->CD->Sto->Option Sto
noncomputable def hSub(fo fi:EF)(s:F3):GF:=fun x γ M=>(fo γ M).bind fun r=>(fi γ r.2).bind fun q=>(s r.1 q.1 x q.2).bind fun M'=>some (γ,M')
noncomputable def wV(i j:Nat)(f:AF):SF:=fun γ M=>(f γ M).bind fun r=>match r.1 with
 |[x,y]=>some (.nx ((γ.set i (some x)).set j (some y)),r.2)
 |_=>none
noncomputable def iF(g:GF)(b:SF):List CD->Ga->Sto->Option (Out×Sto)
 |[],γ,M=>some (.nx γ,M)
 |x::xs,γ,M=>(g x γ M).bind fun r=>(b r.1 r.2).bind fun q=>match q.1 with
  |.nx γ'=>iF g b xs γ' q.2
  |.ct γ'=>iF g b xs γ' q.2
  |.bk γ'=>some (.nx γ',q.2)
  |.rt x=>some (.rt x,q.2)
noncomputable def rV(f:AF)(g:GF)(b:SF):SF:=fun γ M=>(f γ M).bind fun r=>iF g b r.1 γ r.2
noncomputable def eJ(c:TF)(b:SF):Nat->Ga->Sto->Option (Out×Sto)
 |0,_,_=>none
 |n+1,γ,M=>(c γ M).bind fun r=>if r.1=true then(b γ r.2).bind fun q=>match q.1 with
  |.nx γ'=>eJ c b n γ' q.2
  |.ct γ'=>eJ c b n γ' q.2
  |.bk γ'=>some (.nx γ',q.2)
  |.rt x=>some (.rt x,q.2)else some (.nx γ,r.2)
open Classical in
noncomputable def nA(c:TF)(b:SF):SF:=fun γ M=>if h:∃n,(eJ c b n γ M).isSome=true then eJ c b h.choose γ M else none
noncomputable def lcF(g:GF)(c:TF)(e:EF):List CD->Ga->Sto->Option (List CD×Sto)
 |[],γ,M=>some ([],M)
 |x::xs,γ,M=>(g x γ M).bind fun a=>(c a.1 a.2).bind fun b=>if b.1=true then(e a.1 b.2).bind fun r=>(lcF g c e xs a.1 r.2).bind fun q=>some (r.1::q.1,q.2)else lcF g c e xs a.1 b.2
noncomputable def sF(cap:List (Option Nat))(γ:Ga):Ga:=cap.map fun o=>o.bind fun j=>(γ[j]?).join
noncomputable def kA:TF:=fun _ M=>some (true,M)
noncomputable def mI(cap:List (Option Nat))(f:AF)(g:GF)(c:TF)(e:EF):AF:=fun γ M=>(f γ M).bind fun r=>if r.1.length<=sizeLine then lcF g c e r.1 (sF cap γ) r.2 else none
noncomputable def fLc(cap:List (Option Nat))(f:AF)(g:GF)(c:TF)(e:EF):EF:=gJ (mI cap f g c e)
noncomputable def fnF(ps N:Nat)(b:SF):FN:=fun xs M=>if xs.length=ps then(b (xs.map some++List.replicate (N-xs.length) none) M).bind fun r=>match r.1 with
 |.rt x=>some (x,r.2)
 |.nx _=>some (.d .none,r.2)
 |_=>none else none
theorem aK{α β:Type}{o:Option α}{k:α->Option β}{r:β}(h:o.bind k=some r):∃a,o=some a/\k a=some r:=by
 cases o with
 |none=>cases h
 |some a=>exact⟨a,rfl,h⟩
theorem Paired.get{α β:Type}{R:α->β->Prop}:∀{xs:List α}{ys:List β}{i:Nat}{x:α},Paired R xs ys->xs[i]?=some x->∃y,ys[i]?=some y/\R x y
 |_,_,_,_,.nil=>fun e=>by simp at e
 |_,_,0,_,.cons r _=>fun e=>by simp at e;subst e;exact⟨_,rfl,r⟩
 |_,_,i+1,x,.cons _ t=>fun e=>by
  obtain⟨u,h1,h2⟩:=Paired.get (i:=i) (x:=x) t (by simpa using e);exact⟨u,by simpa using h1,h2⟩
theorem Paired.set{α β:Type}{R:α->β->Prop}{x:α}{y:β}(r:R x y):∀{xs:List α}{ys:List β}(i:Nat),Paired R xs ys->Paired R (xs.set i x) (ys.set i y)
 |_,_,_,.nil=>.nil
 |_,_,0,.cons _ t=>.cons r t
 |_,_,i+1,.cons q t=>.cons q (Paired.set r i t)
theorem Paired.app{α β:Type}{R:α->β->Prop}:∀{xs xs':List α}{ys ys':List β},Paired R xs ys->Paired R xs' ys'->Paired R (xs++xs') (ys++ys')
 |_,_,_,_,.nil=>fun s=>s
 |_,_,_,_,.cons r t=>fun s=>.cons r (Paired.app t s)
theorem Paired.len{α β:Type}{R:α->β->Prop}{xs:List α}{ys:List β}(p:Paired R xs ys):xs.length=ys.length:=Paired.length p
section
variable{K:Fg}
theorem fO{W:Wd}:∀{xs:List CD}{ds:List PyData}{vs:List V},lZ xs=some ds->cJ K W xs vs->aM K W.F ds vs
 |[],ds,vs=>fun e h=>by
  cases e;cases h;rfl
 |.c _::_,ds,vs=>fun e h=>by cases e
 |.t _::_,ds,vs=>fun e h=>by cases e
 |.f _::_,ds,vs=>fun e h=>by cases e
 |.g _::_,ds,vs=>fun e h=>by cases e
 |.d x::r,ds,vs=>fun e h=>by
  cases h with
  |@cons _ v _ vs' h1 h2=>
   unfold lZ at e;cases q:lZ r with
   |none=>rw[q]at e;cases e
   |some es=>
    rw[q]at e;cases e;exact⟨v,vs',rfl,h1,fO q h2⟩
theorem IK{xs:List (PyData ⊕ Nat)}{vs:List V}(h:Paired (BC K W) xs vs):cJ K W (xs.map cdA) vs:=by
 induction h with
 |nil=>exact .nil
 |@cons x v _ _ r _ ih=>exact .cons (by cases x<;>exact r) ih
theorem qJ{W:Wd}:∀{ds:List PyData}{vs:List V},aM K W.F ds vs->cJ K W (ds.map .d) vs
 |[],vs=>fun h=>by rw[show vs=[]from h];exact .nil
 |d::ds,vs=>fun h=>by
  obtain⟨v,r,rfl,h1,h2⟩:=h;exact .cons h1 (qJ h2)
theorem vM:∀{xs:List CD}{ds:List PyData},lZ xs=some ds->ds.length=xs.length
 |[],ds=>fun e=>by cases e;rfl
 |.c _::_,ds=>fun e=>by cases e
 |.t _::_,ds=>fun e=>by cases e
 |.f _::_,ds=>fun e=>by cases e
 |.g _::_,ds=>fun e=>by cases e
 |.d x::r,ds=>fun e=>by
  unfold lZ at e;cases q:lZ r with
  |none=>rw[q]at e;cases e
  |some es=>
   rw[q]at e;cases e;rw[C1,C1,vM q]
theorem QK{i:Nat}:SE K (WA i) (aE i):=by
 intro γ M x M' h W H σ Q g r k;unfold aE at h;cases e:γ[i]? with
 |none=>rw[e]at h;cases h
 |some o=>
  cases o with
  |none=>rw[e]at h;cases h
  |some y=>
   rw[e]at h;cases h;obtain⟨v,hv,rv⟩:=Paired.get r e;cases v with
   |none=>exact False.elim rv
   |some v=>exact⟨v,hv,k v W H (.refl _) g rv⟩
theorem GU{i:Int}:SE K (tC (.int i)) (fC (.int i)):=by
 intro γ M x M' h W H σ Q g r k;cases h;exact k _ W H (.refl _) g rfl
theorem VS{b:Bool}:SE K (tC (.bl b)) (fC (.bool b)):=by
 intro γ M x M' h W H σ Q g r k;cases h;exact k _ W H (.refl _) g rfl
theorem RJ:SE K (tC .non) (fC .none):=by
 intro γ M x M' h W H σ Q g r k;cases h;exact k _ W H (.refl _) g rfl
theorem NO{x:Str}:SE K (tC (.str x)) (fC (.str x)):=by
 intro γ M x M' h W H σ Q g r k;cases h;exact k _ W H (.refl _) g rfl
variable{ta tb tc:TE}{f g e:EF}{tt uu:TT}{ft gt:TF}{tA:TA}{fa:AF}
theorem zV{r:R2}{h:F2}(p:P2 K r h)(a:SE K ta f)(b:SE K tb g):SE K (tOp r ta tb) (fOp h f g):=by
 intro γ M x M' hh W H σ Q G R k;obtain⟨⟨y,M1⟩,h1,hh⟩:=aK hh;obtain⟨⟨z,M2⟩,h2,hh⟩:=aK hh;refine a _ _ _ _ h1 W H σ _ G R fun v W1 H1 e1 G1 r1=>?_;refine b _ _ _ _ h2 W1 H1 σ _ G1 (R.up e1) fun u W2 H2 e2 G2 r2=>?_;exact p _ _ _ _ _ hh W2 H2 v u Q G2 (r1.up e2) r2 fun w W3 H3 e3 G3 r3=>k w W3 H3 ((e1.trans e2).trans e3) G3 r3
theorem UU{r:V->Hp->VK->Prop}{h:F1}(p:P1 K r h)(a:SE K ta f):SE K (tUn r ta) (fUn h f):=by
 intro γ M x M' hh W H σ Q G R k;obtain⟨⟨y,M1⟩,h1,hh⟩:=aK hh;refine a _ _ _ _ h1 W H σ _ G R fun v W1 H1 e1 G1 r1=>?_;exact p _ _ _ _ hh W1 H1 v Q G1 r1 fun w W3 H3 e3 G3 r3=>k w W3 H3 (e1.trans e3) G3 r3
theorem qE{x:CD}{b:Bool}(h:asB x=some b):x=.d (.bool b):=by
 cases x with
 |c n=>cases h
 |t n=>cases h
 |f n=>cases h
 |g _=>cases h
 |d x=>cases x<;>first|cases h;rfl|cases h
theorem OD(a:SE K ta f)(b:SE K tb g):SE K (MB ta tb) (iG f g):=by
 intro γ M x M' hh W H σ Q G R k;obtain⟨⟨y,M1⟩,h1,hh⟩:=aK hh;obtain⟨c,h2,hh⟩:=aK hh;refine a _ _ _ _ h1 W H σ _ G R fun v W1 H1 e1 G1 r1=>?_;have hy:y=_:=qE h2;subst hy;refine⟨c,r1,?_⟩;cases c with
 |true=>rw[A6 rfl];rw[A6 rfl]at hh;exact b _ _ _ _ hh W1 H1 σ Q G1 (R.up e1) fun w W3 H3 e3 G3 r3=>k w W3 H3 (e1.trans e3) G3 r3
 |false=>
  rw[B0 A1];rw[B0 A1]at hh;cases hh;exact k _ W1 H1 e1 G1 rfl
theorem VX(a:SE K ta f)(b:SE K tb g):SE K (WI ta tb) (fOr f g):=by
 intro γ M x M' hh W H σ Q G R k;obtain⟨⟨y,M1⟩,h1,hh⟩:=aK hh;obtain⟨c,h2,hh⟩:=aK hh;refine a _ _ _ _ h1 W H σ _ G R fun v W1 H1 e1 G1 r1=>?_;have hy:y=_:=qE h2;subst hy;refine⟨c,r1,?_⟩;cases c with
 |true=>
  rw[A6 rfl];rw[A6 rfl]at hh;cases hh;exact k _ W1 H1 e1 G1 rfl
 |false=>rw[B0 A1];rw[B0 A1]at hh;exact b _ _ _ _ hh W1 H1 σ Q G1 (R.up e1) fun w W3 H3 e3 G3 r3=>k w W3 H3 (e1.trans e3) G3 r3
theorem RD(a:SE K ta f):SE K (LH ta) (FJ f):=by
 intro γ M x M' hh W H σ Q G R k;obtain⟨⟨y,M1⟩,h1,hh⟩:=aK hh;obtain⟨c,h2,hh⟩:=aK hh;refine a _ _ _ _ h1 W H σ _ G R fun v W1 H1 e1 G1 r1=>?_;have hy:y=_:=qE h2;subst hy;cases hh;exact⟨c,r1,k _ W1 H1 e1 G1 rfl⟩
theorem WN(t:STt K tt ft)(a:SE K ta f)(b:SE K tb g):SE K (tIf tt ta tb) (fIf ft f g):=by
 intro γ M x M' hh W H σ Q G R k;obtain⟨⟨c,M1⟩,h1,hh⟩:=aK hh;refine t _ _ _ _ h1 W H σ _ G R fun W1 H1 e1 G1=>?_;cases c with
 |true=>rw[A6 rfl];rw[A6 rfl]at hh;exact a _ _ _ _ hh W1 H1 σ Q G1 (R.up e1) fun w W3 H3 e3 G3 r3=>k w W3 H3 (e1.trans e3) G3 r3
 |false=>rw[B0 A1];rw[B0 A1]at hh;exact b _ _ _ _ hh W1 H1 σ Q G1 (R.up e1) fun w W3 H3 e3 G3 r3=>k w W3 H3 (e1.trans e3) G3 r3
theorem EJ{r r':R2}{h h':F2}(p:P2 K r h)(p':P2 K r' h')(a:SE K ta f)(b:SE K tb g)(c:SE K tc e):SE K (GZ r r' ta tb tc) (rS h h' f g e):=by
 intro γ M x M' hh W H σ Q G R k;obtain⟨⟨y,M1⟩,h1,hh⟩:=aK hh;obtain⟨⟨z,M2⟩,h2,hh⟩:=aK hh;obtain⟨⟨w,M3⟩,h3,hh⟩:=aK hh;obtain⟨q,h4,hh⟩:=aK hh;refine a _ _ _ _ h1 W H σ _ G R fun v W1 H1 e1 G1 r1=>?_;refine b _ _ _ _ h2 W1 H1 σ _ G1 (R.up e1) fun u W2 H2 e2 G2 r2=>?_;refine p _ _ _ _ _ h3 W2 H2 v u _ G2 (r1.up e2) r2 fun t W3 H3 e3 G3 r3=>?_;have hy:w=_:=qE h4;subst hy;refine⟨q,r3,?_⟩;have e13:=(e1.trans e2).trans e3;cases q with
 |true=>
  rw[A6 rfl];rw[A6 rfl]at hh;obtain⟨⟨m,M4⟩,h5,hh⟩:=aK hh;refine c _ _ _ _ h5 W3 H3 σ _ G3 (R.up e13) fun o W4 H4 e4 G4 r4=>?_;exact p' _ _ _ _ _ hh W4 H4 u o Q G4 (r2.up (e3.trans e4)) r4 fun w W5 H5 e5 G5 r5=>k w W5 H5 ((e13.trans e4).trans e5) G5 r5
 |false=>
  rw[B0 A1];rw[B0 A1]at hh;cases hh;exact k _ W3 H3 e13 G3 rfl
theorem TV(a:STt K tt ft)(b:STt K uu gt):STt K (tOr tt uu) (gOr ft gt):=by
 intro γ M x M' hh W H σ Q G R k;obtain⟨⟨c,M1⟩,h1,hh⟩:=aK hh;refine a _ _ _ _ h1 W H σ _ G R fun W1 H1 e1 G1=>?_;cases c with
 |true=>rw[A6 rfl];rw[A6 rfl]at hh;cases hh;exact k W1 H1 e1 G1
 |false=>rw[B0 A1];rw[B0 A1]at hh;exact b _ _ _ _ hh W1 H1 σ Q G1 (R.up e1) fun W3 H3 e3 G3=>k W3 H3 (e1.trans e3) G3
theorem SV(a:STt K tt ft):STt K (VG tt) (iH ft):=by
 intro γ M x M' hh W H σ Q G R k;obtain⟨⟨c,M1⟩,h1,hh⟩:=aK hh;cases hh;exact a _ _ _ _ h1 W H σ _ G R fun W1 H1 e1 G1=>k W1 H1 e1 G1
theorem TU(a:SE K ta f):STt K (tB ta) (gB f):=by
 intro γ M x M' hh W H σ Q G R k;obtain⟨⟨y,M1⟩,h1,hh⟩:=aK hh;obtain⟨c,h2,hh⟩:=aK hh;refine a _ _ _ _ h1 W H σ _ G R fun v W1 H1 e1 G1 r1=>?_;have hy:y=_:=qE h2;subst hy;cases hh;exact⟨_,r1,k W1 H1 e1 G1⟩
theorem HI(a:SE K ta f):STt K (MP ta) (gB f):=TU a
theorem NG:SA K BZ aH:=by
 intro γ M x M' hh W H σ Q G R k;cases hh;exact k [] W H (.refl _) G .nil
theorem KA(a:SE K ta f)(b:SA K tA fa):SA K (nJ ta tA) (aB f fa):=by
 intro γ M x M' hh W H σ Q G R k;obtain⟨⟨y,M1⟩,h1,hh⟩:=aK hh;obtain⟨⟨ys,M2⟩,h2,hh⟩:=aK hh;cases hh;refine a _ _ _ _ h1 W H σ _ G R fun v W1 H1 e1 G1 r1=>?_;exact b _ _ _ _ h2 W1 H1 σ _ G1 (R.up e1) fun vs W2 H2 e2 G2 r2=>k _ W2 H2 (e1.trans e2) G2 (.cons (r1.up e2) r2)
theorem OE(b:SA K tA fa):SE K (JW tA) (cX fa):=by
 intro γ M x M' hh W H σ Q G R k;obtain⟨⟨ys,M1⟩,h1,hh⟩:=aK hh;obtain⟨ds,h2,hh⟩:=aK hh;by_cases hl:ds.length<=sizeLine
 .rw[A6 hl]at hh;cases hh;refine b _ _ _ _ h1 W H σ _ G R fun vs W1 H1 e1 G1 r1=>?_;have ra:=fO h2 r1;refine⟨by rw[<- ra.length];exact hl,fun p hp=>?_⟩;obtain⟨e2,G2⟩:=G1.lay (o:=.tup vs) hp;exact k _ _ _ (e1.trans e2) G2 ⟨p,vs,rfl,SqT.of bB,aM.same e2.ff _ _ ra⟩
 .rw[B0 hl]at hh;cases hh
theorem PQ(b:SA K tA fa):SE K (OJ tA) (gJ fa):=by
 intro γ M x M' hh W H σ Q G R k;obtain⟨⟨ys,M1⟩,h1,hh⟩:=aK hh;obtain⟨ds,h2,hh⟩:=aK hh;by_cases hl:ds.length<=sizeLine
 .rw[A6 hl]at hh;cases hh;refine b _ _ _ _ h1 W H σ _ G R fun vs W1 H1 e1 G1 r1=>?_;have ra:=fO h2 r1;refine⟨by rw[<- ra.length];exact hl,fun p hp=>?_⟩;obtain⟨e2,G2⟩:=G1.lay (o:=.lst vs) hp;exact k _ _ _ (e1.trans e2) G2 ⟨p,vs,rfl,SqL.of bB,aM.same e2.ff _ _ ra⟩
 .rw[B0 hl]at hh;cases hh
theorem Good.newV(g:Good K W M H){p:Addr}:cR K (W.more p) (.c M.length) (.ref p):=by
 refine⟨?_,?_⟩
 .show M.length<W.n+1;rw[g.n];exact F8 _
 .show V.ref p=.ref (if M.length=W.n then p else W.α M.length);rw[A6 g.n.symm]
theorem QM(b:SA K tA fa):SE K (OJ tA) (yL fa):=by
 intro γ M x M' hh W H σ Q G R k;obtain⟨⟨ys,M1⟩,h1,hh⟩:=aK hh;by_cases hl:ys.length<=sizeLine
 .have hh:(if ys.length<=sizeLine then some (CD.c M1.length,M1++[Cell.lst ys])else none)=some (x,M'):=hh;rw[A6 hl]at hh;cases hh;refine b _ _ _ _ h1 W H σ _ G R fun vs W1 H1 e1 G1 r1=>?_;refine⟨by rw[<- Paired.len r1];exact hl,fun p hp=>?_⟩;exact k _ _ _ (e1.trans (W1.ext_more p)) (G1.new hp (c:=.lst ys) (o:=.lst vs) r1) G1.newV
 .have hh:(if ys.length<=sizeLine then some (CD.c M1.length,M1++[Cell.lst ys])else none)=some (x,M'):=hh;rw[B0 hl]at hh;cases hh
theorem JR{h:FN}(b:SA K tA fa):SE K (DN (spM K h) [] E0 tA) (aI h fa):=by
 intro γ M x M' hh W H σ Q G R k;obtain⟨⟨ys,M1⟩,h1,hh⟩:=aK hh;refine b _ _ _ _ h1 W H σ _ G R fun vs W1 H1 e1 G1 r1=>?_;rw[F9];exact⟨ys,M1,W1,x,M',G1,r1,hh,fun v W2 H2 e2 G2 r2=>k v W2 H2 (e1.trans e2) G2 r2⟩
theorem LV{r:List V->Hp->VK->Prop}{h:FN}(p:PN K r h)(b:SA K tA fa):SE K (tCB r tA) (aI h fa):=by
 intro γ M x M' hh W H σ Q G R k;obtain⟨⟨ys,M1⟩,h1,hh⟩:=aK hh;refine b _ _ _ _ h1 W H σ _ G R fun vs W1 H1 e1 G1 r1=>?_;exact p _ _ _ _ hh W1 H1 vs Q G1 r1 fun v W2 H2 e2 G2 r2=>k v W2 H2 (e1.trans e2) G2 r2
end
section
variable{K:Fg}{ta tb tc:TE}{f g e:EF}{tt uu:TT}{ft gt:TF}{tA:TA}{fa:AF}{t u:TS}{p q:SF}{tg:TG}{hg:GF}{tgs:TGs}{hgs:GsF}
theorem KI:SS K MV bO:=by
 intro γ M o M' hh W H σ D G R k;cases hh;exact k W H (.refl _) G σ R
theorem QU(a:SS K t p)(b:SS K u q):SS K (UI t u) (aY p q):=by
 intro γ M o M' hh W H σ D G R k;obtain⟨⟨o1,M1⟩,h1,hh⟩:=aK hh;refine a _ _ _ _ h1 W H σ _ G R fun W1 H1 e1 G1=>?_;cases o1 with
 |nx γ1=>
  intro σ1 R1;exact b _ _ _ _ hh W1 H1 σ1 D G1 R1 fun W2 H2 e2 G2=>k W2 H2 (e1.trans e2) G2
 |bk γ1=>cases hh;exact k W1 H1 e1 G1
 |ct γ1=>cases hh;exact k W1 H1 e1 G1
 |rt x=>cases hh;exact k W1 H1 e1 G1
theorem IW(a:SE K ta f):SS K (LY ta) (AJ f):=by
 intro γ M o M' hh W H σ D G R k;obtain⟨⟨y,M1⟩,h1,hh⟩:=aK hh;cases hh;exact a _ _ _ _ h1 W H σ _ G R fun v W1 H1 e1 G1 r1=>k W1 H1 e1 G1 σ (R.up e1)
theorem NI(a:SE K ta f):SS K (VP ta) (bG f):=by
 intro γ M o M' hh W H σ D G R k;obtain⟨⟨y,M1⟩,h1,hh⟩:=aK hh;cases hh;exact a _ _ _ _ h1 W H σ _ G R fun v W1 H1 e1 G1 r1=>k W1 H1 e1 G1 v r1
theorem TH(c:STt K tt ft)(a:SS K t p)(b:SS K u q):SS K (SW tt t u) (sIf ft p q):=by
 intro γ M o M' hh W H σ D G R k;obtain⟨⟨c1,M1⟩,h1,hh⟩:=aK hh;refine c _ _ _ _ h1 W H σ _ G R fun W1 H1 e1 G1=>?_;cases c1 with
 |true=>rw[A6 rfl];rw[A6 rfl]at hh;exact a _ _ _ _ hh W1 H1 σ D G1 (R.up e1) fun W3 H3 e3 G3=>k W3 H3 (e1.trans e3) G3
 |false=>rw[B0 A1];rw[B0 A1]at hh;exact b _ _ _ _ hh W1 H1 σ D G1 (R.up e1) fun W3 H3 e3 G3=>k W3 H3 (e1.trans e3) G3
theorem xQ(a:SE K ta f)(b:SG K tg hg):SS K (JN ta tg) (bW f hg):=by
 intro γ M o M' hh W H σ D G R k;obtain⟨⟨y,M1⟩,h1,hh⟩:=aK hh;obtain⟨⟨γ1,M2⟩,h2,hh⟩:=aK hh;cases hh;refine a _ _ _ _ h1 W H σ _ G R fun v W1 H1 e1 G1 r1=>?_;exact b _ _ _ _ _ h2 W1 H1 σ v _ G1 (R.up e1) r1 fun σ' W2 H2 e2 G2 R2=>k W2 H2 (e1.trans e2) G2 σ' R2
theorem dE.set{σ:St}{x:CD}{v:V}(R:dE K W γ σ)(i:Nat)(r:cR K W x v):dE K W (γ.set i (some x)) (σ.set i (some v)):=Paired.set (R:=IU K W) (show IU K W (some x) (some v)from r) i R
theorem uD{i:Nat}:SG K (xH i) (hName i):=by
 intro x γ M γ' M' hh W H σ v Q G R r k;cases hh;exact k _ W H (.refl _) G (dE.set R i r)
noncomputable def P3(K:Fg)(r:V->V->V->Hp->(Hp->Prop)->Prop)(f:F3):Prop:=∀x y z M M',f x y z M=some M'->∀(W:Wd)(H:Hp)(v u w:V)(Q:Hp->Prop),Good K W M H->cR K W x v->cR K W y u->cR K W z w->(∀W' H',W.Ext W'->Good K W' M' H'->Q H')->r v u w H Q
theorem RV{r:IE}{s:F3}(p:P3 K r s)(a:SE K ta f)(b:SE K tb g):SG K (TR ta tb r) (hSub f g s):=by
 intro x γ M γ' M' hh W H σ v Q G R rv k;obtain⟨⟨o,M1⟩,h1,hh⟩:=aK hh;obtain⟨⟨i,M2⟩,h2,hh⟩:=aK hh;obtain⟨M3,h3,hh⟩:=aK hh;cases hh;refine a _ _ _ _ h1 W H σ _ G R fun v1 W1 H1 e1 G1 r1=>?_;refine b _ _ _ _ h2 W1 H1 σ _ G1 (R.up e1) fun v2 W2 H2 e2 G2 r2=>?_;exact p _ _ _ _ _ h3 W2 H2 v1 v2 v _ G2 (r1.up e2) r2 (rv.up (e1.trans e2)) fun W3 H3 e3 G3=>k σ W3 H3 ((e1.trans e2).trans e3) G3 (R.up ((e1.trans e2).trans e3))
theorem SJ{i j:Nat}(b:SA K tA fa):SS K (US i j tA) (wV i j fa):=by
 intro γ M o M' hh W H σ D G R k;obtain⟨⟨ys,M1⟩,h1,hh⟩:=aK hh;refine b _ _ _ _ h1 W H σ _ G R fun vs W1 H1 e1 G1 r1=>?_;rcases r1 with _|⟨a1,_|⟨a2,_|_⟩⟩
 .cases hh
 .cases hh
 .cases hh;exact⟨_,_,rfl,k W1 H1 e1 G1 _ (dE.set (dE.set (R.up e1) i a1) j a2)⟩
 .cases hh
noncomputable def EW(K:Fg)(J:It)(xs:List CD)(W:Wd):Prop:=∀W' M' H',W.Ext W'->Good K W' M' H'->
 (∀i x,xs[i]?=some x->J.go i H'/\∀y H'',J.yld i H' y H''->∃W'',W'.Ext W''/\Good K W'' M' H''/\cR K W'' x y)/\J.stop xs.length H'
noncomputable def SI(K:Fg)(wi:TI)(f:AF):Prop:=∀γ M xs M',f γ M=some (xs,M')->∀(W:Wd)(H:Hp)(σ:St)(R:It->Hp->Prop),Good K W M H->dE K W γ σ->(∀J W' H',W.Ext W'->Good K W' M' H'->EW K J xs W'->R J H')->wi σ H R
noncomputable def fJ(f:EF):AF:=fun γ M=>(f γ M).bind fun r=>match r.1 with
 |.d x=>(aZ x).bind fun ds=>some (ds.map .d,r.2)
 |_=>none
theorem PP(a:SE K ta f):SI K (RN K ta) (fJ f):=by
 intro γ M xs M' hh W H σ R G Rs k;obtain⟨⟨y,M1⟩,h1,hh⟩:=aK hh;cases y with
 |c _=>cases hh
 |t _=>cases hh
 |f _=>cases hh
 |g _=>cases hh
 |d y=>
  obtain⟨ds,h2,hh⟩:=aK (show(aZ y).bind _=_ from hh);cases hh;refine a _ _ _ _ h1 W H σ _ G Rs fun v W1 H1 e1 G1 r1=>?_;obtain⟨p,vs,rfl,hs,hr⟩:=oA (show Rep K W1.F y v from r1) h2;refine⟨p,rfl,?_⟩
  have item:∀(i:Nat)(x:CD)(W2:Wd),W1.Ext W2->(ds.map CD.d)[i]?=some x->∃u,vs[i]?=some u/\cR K W2 x u:=fun i x W2 e2 hx=>by
   obtain⟨u,hu,ru⟩:=Paired.get (qJ hr) hx;exact⟨u,hu,ru.up e2⟩
  have hlen:(ds.map CD.d).length=vs.length:=by rw[A3];exact hr.length
  rcases hs with hs|hs
  .refine .inl ⟨vs,G1.fh.seq hs,k _ W1 H1 e1 G1 fun W2 M2 H2 e2 G2=>?_⟩;have hs2:SqL K H2 p vs:=G2.fh.seq (e2.ff.seq hs);refine⟨fun i x hx=>?_,?_⟩
   .obtain⟨u,hu,ru⟩:=item i x W2 e2 hx;refine⟨⟨vs,u,hs2,hu⟩,fun y' H'' hy=>⟨W2,.refl _,by rw[hy.1];exact G2,?_⟩⟩;have:=hy.2 vs hs2;rw[hu]at this;cases this;exact ru
   .rw[hlen];exact⟨vs,hs2,A4 _⟩
  .refine .inr ⟨vs,G1.fh.seqT hs,k _ W1 H1 e1 G1 fun W2 M2 H2 e2 G2=>?_⟩;have hs2:SqT K H2 p vs:=G2.fh.seqT (e2.ff.seqT hs);refine⟨fun i x hx=>?_,?_⟩
   .obtain⟨u,hu,ru⟩:=item i x W2 e2 hx;refine⟨⟨vs,u,hs2,hu⟩,fun y' H'' hy=>⟨W2,.refl _,by rw[hy.1];exact G2,?_⟩⟩;have:=hy.2 vs hs2;rw[hu]at this;cases this;exact ru
   .rw[hlen];exact⟨vs,hs2,A4 _⟩
noncomputable def jC(lo:Int)(n:Nat):List CD:=(List.range n).map fun i=>.d (.int (lo+(i:Nat)))
theorem wU{lo:Int}{n i:Nat}{x:CD}(h:(jC lo n)[i]?=some x):i<n/\x=.d (.int (lo+i)):=by
 unfold jC at h;rw[D6]at h;by_cases hi:i<n
 .rw[List.getElem?_range hi]at h;exact⟨hi,(C5 h).symm⟩
 .rw[List.getElem?_eq_none_iff.mpr (by simpa using hi)]at h;cases h
noncomputable def fU(i:Int):Bool:=decide (-(2 ^ 62)<=i)&&decide (i<2 ^ 62)
noncomputable def kI(f:AF):AF:=fun γ M=>(f γ M).bind fun r=>match r.1 with
 |[.d (.int j)]=>if fU j=true then some (jC 0 j.toNat,r.2)else none
 |_=>none
theorem AO{lo:Int}{n:Nat}:EW K (Itr lo n) (jC lo n) W:=fun W' M' H' e G=>
 ⟨fun i x hx=>⟨(wU hx).1,fun y H'' hy=>⟨W',.refl _,by rw[hy.1];exact G,by rw[(wU hx).2];exact hy.2⟩⟩,by show n<=_;simp[jC]⟩
theorem qZ{i:Int}(h:fU i=true):-(2 ^ 62)<=i/\i<2 ^ 62:=by
 unfold fU at h;rw[B1]at h;exact⟨B8 h.1,B8 h.2⟩
theorem HL(b:SA K tA fa):SI K (MU tA) (kI fa):=by
 intro γ M xs M' hh W H σ R G Rs k;obtain⟨⟨ys,M1⟩,h1,hh⟩:=aK hh;refine b _ _ _ _ h1 W H σ _ G Rs fun vs W1 H1 e1 G1 r1=>?_;revert hh;dsimp only;split
 .rename_i j;intro hh;by_cases hs:fU j=true
  .rw[A6 hs]at hh;cases hh;cases r1 with
   |cons r r'=>
    cases r';exact⟨j,by rw[show _=V.int j from r],(qZ hs).1,(qZ hs).2,k _ W1 H1 e1 G1 AO⟩
  .rw[B0 hs]at hh;cases hh
 .intro hh;cases hh
theorem OS{wi:TI}(i:SI K wi fa)(a:SG K tg hg)(b:SS K t p):SS K (VE wi tg t) (rV fa hg p):=by
 intro γ M o M' hh W H σ D G R k;obtain⟨⟨xs,M1⟩,h1,hh⟩:=aK hh;have hh:iF hg p xs γ M1=some (o,M'):=hh;refine i _ _ _ _ h1 W H σ _ G R fun J W1 H1 e1 G1 gv=>?_;refine⟨fun j m σ' H'=>∃γ' M2 W2,j<=xs.length/\m=xs.length-j/\W1.Ext W2/\Good K W2 M2 H'/\dE K W2 γ' σ'/\iF hg p (xs.drop j) γ' M2=some (o,M'),⟨_,γ,M1,W1,C6 _,rfl,.refl _,G1,R.up e1,hh⟩,?_⟩;rintro j m σ' H' ⟨γ',M2,W2,hj,rfl,e2,G2,R2,h2⟩;obtain⟨gv1,gv2⟩:=gv W2 M2 H' e2 G2;by_cases hlt:j<xs.length
 .obtain⟨go,yl⟩:=gv1 j xs[j] (B5 hlt);rw[List.drop_eq_getElem_cons hlt]at h2;refine .inr ⟨go,fun σ3 H3=>∃γ3 M3 W3,W2.Ext W3/\Good K W3 M3 H3/\dE K W3 γ3 σ3/\iF hg p (xs.drop (j+1)) γ3 M3=some (o,M'),?_,fun y H3 hy=>?_⟩
  .rintro σ3 H3 ⟨γ3,M3,W3,e3,G3,R3,h3⟩;exact⟨_,by omega,γ3,M3,W3,hlt,rfl,e2.trans e3,G3,R3,h3⟩
  .obtain⟨W8,e8,G8,ry⟩:=yl y H3 hy;obtain⟨⟨γ4,M4⟩,h4,h2⟩:=aK (show(hg xs[j] γ' M2).bind _=_ from h2);obtain⟨⟨o5,M5⟩,h5,h2⟩:=aK h2;refine a _ _ _ _ _ h4 W8 _ σ' y _ G8 (R2.up e8) ry fun σ4 W4 H4 e4 G4 R4=>?_;refine b _ _ _ _ h5 W4 H4 σ4 _ G4 R4 fun W5 H5 e5 G5=>?_;have e25:=(e8.trans e4).trans e5;cases o5 with
   |nx γ5=>exact fun σ5 R5=>⟨γ5,M5,W5,e25,G5,R5,h2⟩
   |ct γ5=>exact fun σ5 R5=>⟨γ5,M5,W5,e25,G5,R5,h2⟩
   |bk γ5=>cases h2;exact k W5 H5 ((e1.trans e2).trans e25) G5
   |rt x=>cases h2;exact k W5 H5 ((e1.trans e2).trans e25) G5
 .have e:j=xs.length:=by omega
  subst e;rw[List.drop_length]at h2;cases h2;exact .inl ⟨gv2,k W2 H' (e1.trans e2) G2 σ' R2⟩
theorem GI(c:STt K tt ft)(b:SS K t p):SS K (DM tt t) (nA ft p):=by
 intro γ M o M' hh W H σ D G R k;unfold nA at hh;by_cases hex:∃n,(eJ ft p n γ M).isSome=true
 .rw[dif_pos hex]at hh;generalize hex.choose=n at hh;refine⟨fun m σ' H'=>∃γ' M2 W2,W.Ext W2/\Good K W2 M2 H'/\dE K W2 γ' σ'/\eJ ft p m γ' M2=some (o,M'),⟨n,γ,M,W,.refl _,G,R,hh⟩,?_⟩;rintro m σ' H' ⟨γ',M2,W2,e2,G2,R2,h2⟩;cases m with
  |zero=>cases h2
  |succ m=>
   obtain⟨⟨c3,M3⟩,h3,h2⟩:=aK (show(ft γ' M2).bind _=_ from h2);refine c _ _ _ _ h3 W2 H' σ' _ G2 R2 fun W3 H3 e3 G3=>?_;cases c3 with
   |true=>
    rw[A6 rfl];rw[A6 rfl]at h2;obtain⟨⟨o4,M4⟩,h4,h2⟩:=aK h2;refine⟨fun σ4 H4=>∃γ4 M4 W4,W2.Ext W4/\Good K W4 M4 H4/\dE K W4 γ4 σ4/\eJ ft p m γ4 M4=some (o,M'),?_,?_⟩
    .rintro σ4 H4 ⟨γ4,M4,W4,e4,G4,R4,h4⟩;exact⟨m,F8 _,γ4,M4,W4,e2.trans e4,G4,R4,h4⟩
    .refine b _ _ _ _ h4 W3 H3 σ' _ G3 (R2.up e3) fun W5 H5 e5 G5=>?_;have e25:=e3.trans e5;cases o4 with
     |nx γ5=>exact fun σ5 R5=>⟨γ5,M4,W5,e25,G5,R5,h2⟩
     |ct γ5=>exact fun σ5 R5=>⟨γ5,M4,W5,e25,G5,R5,h2⟩
     |bk γ5=>cases h2;exact k W5 H5 (e2.trans e25) G5
     |rt x=>cases h2;exact k W5 H5 (e2.trans e25) G5
   |false=>
    rw[B0 A1];rw[B0 A1]at h2;cases h2;exact k W3 H3 (e2.trans e3) G3 σ' (R2.up e3)
 .rw[dif_neg hex]at hh;cases hh
theorem iN{c:TF}{b:SF}:∀{n m:Nat}{γ:Ga}{M:Sto}{r:Out×Sto},eJ c b n γ M=some r->n<=m->eJ c b m γ M=some r
 |0,_,_,_,_=>fun h _=>by cases h
 |n+1,0,_,_,_=>fun _ h=>by omega
 |n+1,m+1,γ,M,r=>fun h hl=>by
  obtain⟨⟨b1,M1⟩,h1,h⟩:=aK (show(c γ M).bind _=_ from h);show(c γ M).bind _=_;rw[h1];show(if b1=true then _ else _)=_;cases b1 with
  |false=>exact h
  |true=>
   rw[A6 rfl];rw[A6 rfl]at h;obtain⟨⟨o,M2⟩,h2,h⟩:=aK h;rw[h2];cases o with
   |nx γ'=>exact iN (n:=n) (m:=m) h (by omega)
   |ct γ'=>exact iN (n:=n) (m:=m) h (by omega)
   |bk γ'=>exact h
   |rt x=>exact h
theorem xN{c:TF}{b:SF}{n:Nat}{r:Out×Sto}(h:eJ c b n γ M=some r):nA c b γ M=some r:=by
 unfold nA;have hex:∃n,(eJ c b n γ M).isSome=true:=⟨n,by rw[h];rfl⟩;rw[dif_pos hex];have hs:=hex.choose_spec;cases q:eJ c b hex.choose γ M with
 |none=>rw[q]at hs;cases hs
 |some r'=>
  rcases Nat.le_total n hex.choose with z|z
  .rw[iN h z]at q;exact q.symm▸rfl
  .rw[iN q z]at h;exact h
theorem uJ{W:Wd}{γ:Ga}{σ:St}(R:dE K W γ σ):∀cap:List (Option Nat),dE K W (sF cap γ) (pR cap σ)
 |[]=>.nil
 |none::r=>.cons True.intro (uJ R r)
 |some j::r=>by
  refine .cons ?_ (uJ R r);show IU K W ((γ[j]?).join) ((σ[j]?).join);cases e:γ[j]? with
  |none=>
   have:σ[j]?=none:=by
    have hl:=Paired.len R;exact List.getElem?_eq_none_iff.mpr (by have:=List.getElem?_eq_none_iff.mp e;omega)
   rw[this];exact True.intro
  |some x=>
   obtain⟨y,hy,r'⟩:=Paired.get R e;rw[hy];exact r'
theorem NH{wi:TI}{cap:List (Option Nat)}{te:TE}{fe:EF}(i:SI K wi fa)(a:SG K tg hg)(c:STt K tt ft)(b:SE K te fe){xs:List CD}{M':Sto}(hh:mI cap fa hg ft fe γ M=some (xs,M'))
 {W:Wd} {H:Hp} {σ:St} {Q:VK} (G:Good K W M H) (R:dE K W γ σ) (k:∀vs W' H',W.Ext W'->Good K W' M' H'->cJ K W' xs vs->∀p,H' p=none->Q (.ref p) (upd H' p (.lst vs))):tLc cap wi tg tt te σ H Q:=by
 obtain⟨⟨ys,M1⟩,h1,hh⟩:=aK hh;have hh:(if ys.length<=sizeLine then lcF hg ft fe ys (sF cap γ) M1 else none)=some (xs,M'):=hh;by_cases hl:ys.length<=sizeLine
 .rw[A6 hl]at hh;refine i _ _ _ _ h1 W H σ _ G R fun J W1 H1 e1 G1 gv=>?_
  refine⟨fun j m acc σ' H'=>∃γ' M2 W2 pre suf,j<=ys.length/\m=ys.length-j/\acc.length<=j/\W1.Ext W2/\Good K W2 M2 H'/\dE K W2 γ' σ'/\cJ K W2 pre acc/\pre++suf=xs/\lcF hg ft fe (ys.drop j) γ' M2=some (suf,M'),
   ⟨_,sF cap γ,M1,W1,[],xs,C6 _,rfl,C6 _,.refl _,G1,uJ (R.up e1) cap,.nil,rfl,hh⟩,?_⟩
  rintro j m acc σ' H' ⟨γ',M2,W2,pre,suf,hj,rfl,hacc,e2,G2,R2,rp,hx,h2⟩;obtain⟨gv1,gv2⟩:=gv W2 M2 H' e2 G2;by_cases hlt:j<ys.length
  .obtain⟨go,yl⟩:=gv1 j ys[j] (B5 hlt);rw[List.drop_eq_getElem_cons hlt]at h2;refine .inr ⟨go,by omega,fun acc3 σ3 H3=>∃γ3 M3 W3 pre3 suf3,acc3.length<=j+1/\W2.Ext W3/\Good K W3 M3 H3/\dE K W3 γ3 σ3/\cJ K W3 pre3 acc3/\pre3++suf3=xs/\lcF hg ft fe (ys.drop (j+1)) γ3 M3=some (suf3,M'),?_,fun y H3 hy=>?_⟩
   .rintro acc3 σ3 H3 ⟨γ3,M3,W3,pre3,suf3,hl3,e3,G3,R3,rp3,hx3,h3⟩;exact⟨_,by omega,γ3,M3,W3,pre3,suf3,hlt,rfl,hl3,e2.trans e3,G3,R3,rp3,hx3,h3⟩
   .obtain⟨W8,e8,G8,ry⟩:=yl y H3 hy;obtain⟨⟨γ4,M4⟩,h4,h2⟩:=aK (show(hg ys[j] γ' M2).bind _=_ from h2);obtain⟨⟨b5,M5⟩,h5,h2⟩:=aK h2;refine a _ _ _ _ _ h4 W8 _ σ' y _ G8 (R2.up e8) ry fun σ4 W4 H4 e4 G4 R4=>?_;refine c _ _ _ _ h5 W4 H4 σ4 _ G4 R4 fun W5 H5 e5 G5=>?_;have e25:=(e8.trans e4).trans e5;cases b5 with
    |true=>
     rw[A6 rfl]at h2;obtain⟨⟨z,M6⟩,h6,h2⟩:=aK h2;obtain⟨⟨zs,M7⟩,h7,h2⟩:=aK h2;cases h2;refine .inl ⟨rfl,b _ _ _ _ h6 W5 H5 σ4 _ G5 (R4.up e5) fun v W6 H6 e6 G6 r6=>?_⟩;refine⟨γ4,M6,W6,pre++[z],zs,by rw[A9];simp only[List.length_singleton];omega,e25.trans e6,G6,R4.up (e5.trans e6),Paired.app (cJ.up rp (e25.trans e6)) (.cons r6 .nil),by rw[<- hx,J0];rfl,h7⟩
    |false=>
     rw[B0 A1]at h2;exact .inr ⟨rfl,γ4,M5,W5,pre,suf,by omega,e25,G5,R4.up e5,cJ.up rp e25,hx,h2⟩
  .have e:j=ys.length:=by omega
   subst e;rw[List.drop_length]at h2;cases h2;rw[F9]at hx;subst hx;exact .inl ⟨gv2,k acc W2 H' (e1.trans e2) G2 rp⟩
 .rw[B0 hl]at hh;cases hh
theorem LK{wi:TI}{cap:List (Option Nat)}{te:TE}{fe:EF}(i:SI K wi fa)(a:SG K tg hg)(c:STt K tt ft)(b:SE K te fe):SE K (tLc cap wi tg tt te) (fLc cap fa hg ft fe):=by
 intro γ M x M' hh W H σ Q G R k;obtain⟨⟨ys,M1⟩,h1,hh⟩:=aK hh;obtain⟨ds,h2,hh⟩:=aK hh;by_cases hl:ds.length<=sizeLine
 .rw[A6 hl]at hh;cases hh;refine NH i a c b h1 G R fun vs W1 H1 e1 G1 r1 p hp=>?_;obtain⟨e2,G2⟩:=G1.lay (o:=.lst vs) hp;exact k _ _ _ (e1.trans e2) G2 ⟨p,vs,rfl,SqL.of bB,aM.same e2.ff _ _ (fO h2 r1)⟩
 .rw[B0 hl]at hh;cases hh
theorem QE:STt K UN kA:=by
 intro γ M x M' hh W H σ Q G R k;cases hh;exact k W H (.refl _) G
theorem cJ.some{W:Wd}:∀{xs:List CD}{vs:List V},cJ K W xs vs->dE K W (xs.map some) (vs.map some)
 |_,_,.nil=>.nil
 |_,_,.cons r t=>.cons r (cJ.some t)
theorem qQ{W:Wd}:∀n:Nat,dE K W (List.replicate n none) (List.replicate n none)
 |0=>.nil
 |n+1=>.cons True.intro (qQ n)
theorem Def.okM{P:Program}{w:World}{mg:Str->Option Value}{base:Heap}{x:Str}{st:Stmt}{N ps:List Str}{k:Nat}{b:SF}{q:Bool}(D:Def K mg x st)(S:aT N ps (aG st))
 (hb:∀(kV doc pm:Value)(an:Option Addr)(cdv ct:Value)(us:List Value),us.length=ps.length->bindArgs (PySem.W.fnOf x x (fI st) (cK st) (aG st) .none kV doc pm an cdv ct) ⟨us,[]⟩=pure (ps.zip us))
 (hbody:∀(f:Addr)(cdv:Value)(A:Around)(outer:List Env)(s:Shared)(H:Hp)(E:XK),dU k (A.deeper (envOfC x (aG st) s.heap.objs.size f cdv)) q->
  ∃t,PSs (pN CX0 P w K mg base N x (aG st) f cdv A outer s H E q).nox (cK st) t/\SS K t b):Callee P w K mg base (k+1) x ps (spM K (fnF ps.length N.length b)) q:=by
 have len:∀vs H Q E,spM K (fnF ps.length N.length b) vs H Q E->vs.length=ps.length:=fun vs H Q E h=>by
  obtain⟨xs,M,W,y,M',G,R,hf,_⟩:=h;by_cases hl:xs.length=ps.length
  .rw[<- Paired.len R];exact hl
  .unfold fnF at hf;rw[B0 hl]at hf;cases hf
 refine D.ok S hb len fun f cdv A outer s H vs Q E hr h=>?_;obtain⟨t,hP,hS⟩:=hbody f cdv A outer s H E hr;refine⟨t,hP,?_⟩;obtain⟨xs,M,W,y,M',G,R,hf,k⟩:=h;by_cases hl:xs.length=ps.length
 .unfold fnF at hf;rw[A6 hl]at hf;obtain⟨⟨o,M1⟩,h1,hf⟩:=aK hf
  have hR:dE K W (xs.map some++List.replicate (N.length-xs.length) none) (start N vs):=by
   unfold start;rw[<- Paired.len R];exact Paired.app (cJ.some R) (qQ _)
  refine hS _ _ _ _ h1 W H _ _ G hR fun W1 H1 e1 G1=>?_;cases o with
  |rt x=>cases hf;exact fun v r=>k v W1 H1 e1 G1 r
  |nx γ=>cases hf;exact fun σ r=>k .non W1 H1 e1 G1 rfl
  |bk γ=>cases hf
  |ct γ=>cases hf
 .unfold fnF at hf;rw[B0 hl]at hf;cases hf
end
noncomputable def yB(h h':F2):F2:=fun x y M=>match h x y M with
 |some r=>some r
 |none=>h' x y M
noncomputable def pI(g:Int->Int->Option PyData):F2:=fun x y M=>match x,y with
 |.d (.int i),.d (.int j)=>(g i j).bind fun z=>some (.d z,M)
 |_,_=>none
theorem CN{g:Int->Int->Option PyData}{x y:CD}{z:CD}{M':Sto}(h:pI g x y M=some (z,M')):∃i j w,x=.d (.int i)/\y=.d (.int j)/\g i j=some w/\z=.d w/\M'=M:=by
 unfold pI at h;split at h
 .rename_i i j;obtain⟨w,h1,h⟩:=aK h;cases h;exact⟨i,j,w,rfl,rfl,h1,rfl,rfl⟩
 .cases h
section
variable{X:Cx}{K:Fg}
theorem MJ{g:Int->Int->Int}:P2 K (rI0 fun i j=>.int (g i j)) (pI fun i j=>some (.int (g i j))):=by
 intro x y M z M' h W H v u Q G rx ry k;obtain⟨i,j,w,rfl,rfl,hw,rfl,rfl⟩:=CN h;cases hw;exact⟨i,j,rx,ry,k _ W H (.refl _) G rfl⟩
theorem zI{g:Int->Int->Bool}:P2 K (rI0 fun i j=>.bl (g i j)) (pI fun i j=>some (.bool (g i j))):=by
 intro x y M z M' h W H v u Q G rx ry k;obtain⟨i,j,w,rfl,rfl,hw,rfl,rfl⟩:=CN h;cases hw;exact⟨i,j,rx,ry,k _ W H (.refl _) G rfl⟩
noncomputable def ifS(c:Bool)(x:PyData):Option PyData:=if c=true then some x else none
theorem PF{c:Bool}{x y:PyData}(h:ifS c x=some y):c=true/\y=x:=by
 unfold ifS at h;cases c with
 |true=>rw[A6 rfl]at h;cases h;exact⟨rfl,rfl⟩
 |false=>rw[B0 A1]at h;cases h
theorem IL{C:Int->Int->Prop}{c:Int->Int->Bool}{g:Int->Int->Int}(hc:∀i j,c i j=true->C i j):P2 K (rI C fun i j=>.int (g i j)) (pI fun i j=>ifS (c i j) (.int (g i j))):=by
 intro x y M z M' h W H v u Q G rx ry k;obtain⟨i,j,w,rfl,rfl,hw,rfl,rfl⟩:=CN h;obtain⟨h1,rfl⟩:=PF hw;exact⟨i,j,rx,ry,hc i j h1,k _ W H (.refl _) G rfl⟩
noncomputable def NS:F2:=pI fun i j=>some (.int (i+j))
noncomputable def pP:F2:=pI fun i j=>some (.int (i-j))
noncomputable def kR(i j:Int):Bool:=decide (i.natAbs<2 ^ 64) || decide (j.natAbs<2 ^ 64) || (decide (i.natAbs<pH)&&decide (j.natAbs<pH))
noncomputable def wF:F2:=pI fun i j=>ifS (kR i j) (.int (i*j))
noncomputable def tJ(_ j:Int):Bool:=decide (0<j)&&decide (j.natAbs<pH)
noncomputable def tH:F2:=pI fun i j=>ifS (tJ i j) (.int (i / j))
noncomputable def lL(_ j:Int):Bool:=decide (0<j)
noncomputable def kN:F2:=pI fun i j=>ifS (lL i j) (.int (i % j))
noncomputable def rG(i j:Int):Bool:=decide (0<=j)&&decide (j<=1000000)&&decide (i.natAbs<2 ^ 64)
noncomputable def pM:F2:=pI fun i j=>ifS (rG i j) (.int (i ^ j.toNat))
theorem mulOk_of{i j:Int}(h:kR i j=true):vJ i j:=by
 unfold kR at h;simp only[Bool.or_eq_true,Bool.and_eq_true,decide_eq_true_eq]at h;rcases h with(h|h)|h
 .exact .inl (.inl ⟨by omega,by omega⟩)
 .exact .inl (.inr ⟨by omega,by omega⟩)
 .exact .inr h
noncomputable def ltI:F2:=pI fun i j=>some (.bool (decide (i<j)))
noncomputable def leI:F2:=pI fun i j=>some (.bool (decide (i<=j)))
noncomputable def gtI:F2:=pI fun i j=>some (.bool (decide (j<i)))
noncomputable def geI:F2:=pI fun i j=>some (.bool (decide (j<=i)))
noncomputable def eqD(neg:Bool):F2:=fun x y M=>match x,y with
 |.d a,.d b=>if (SeqAt.shaped a&&SeqAt.shaped b)=true then some (.d (.bool (if neg then !PyData.eqv a b else PyData.eqv a b)),M)else none
 |_,_=>none
theorem LO{neg:Bool}:P2 K (CW K neg) (eqD neg):=by
 intro x y M z M' h W H v u Q G rx ry k;unfold eqD at h;split at h
 .rename_i a b;by_cases hs:(SeqAt.shaped a&&SeqAt.shaped b)=true
  .rw[A6 hs]at h;cases h;rw[B1]at hs;exact⟨a,b,Rep.same G.fh _ _ rx,Rep.same G.fh _ _ ry,hs.1,hs.2,k _ W H (.refl _) G rfl⟩
  .rw[B0 hs]at h;cases h
 .cases h
theorem aM.nth{ds:List PyData}{vs:List V}{i:Nat}{d:PyData}(h:aM K H ds vs)(e:ds[i]?=some d):∃v,vs[i]?=some v/\Rep K H d v:=by
 have hlt:i<vs.length:=by rw[<- h.length];exact(List.getElem?_eq_some_iff.mp e).1
 have hv:vs[i]?=some vs[i]:=B5 hlt;obtain⟨d',hd',r⟩:=h.get hv;rw[e]at hd';cases hd';exact⟨_,hv,r⟩
theorem yM{α:Type}{xs:List α}{i:Int}{x:α}(h:atI xs i=some x):∃j,ixN xs.length i=some j/\xs[j]?=some x:=by
 unfold atI at h;exact aK h
theorem uM{α:Type}{xs:List α}{i:Int}{j:Nat}{x:α}(h:ixN xs.length i=some j)(e:xs[j]?=some x):atI xs i=some x:=by
 unfold atI;rw[h];exact e
noncomputable def ixF:F2:=fun x y M=>match x,y with
 |.d a,.d (.int n)=>(aZ a).bind fun ds=>(atI ds n).bind fun e=>some (.d e,M)
 |.c i,.d (.int n)=>match M[i]? with
  |some (.lst xs)=>(atI xs n).bind fun e=>some (e,M)
  |_=>none
 |.t xs,.d (.int n)=>(atI xs n).bind fun e=>some (cdA e,M)
 |_,_=>none
theorem Good.lstAt{i:Nat}{xs:List CD}(G:Good K W M H)(h:M[i]?=some (.lst xs)):∃vs,H (W.α i)=some (.lst vs)/\cJ K W xs vs:=by
 obtain⟨_,o,h2,h3⟩:=G.cs i _ h (by intro z;cases z);cases o with
 |lst vs=>exact⟨vs,h2,h3⟩
 |_=>exact False.elim h3
theorem UY:P2 K (rIx K) ixF:=by
 intro x y M z M' h W H v u Q G rx ry k;unfold ixF at h;split at h
 .rename_i a n;obtain⟨ds,h1,h⟩:=aK h;obtain⟨e,h2,h⟩:=aK h;cases h;obtain⟨p,vs,rfl,hq,hr⟩:=oA (Rep.same G.fh _ _ rx) h1;obtain⟨j,hj,he⟩:=yM h2;obtain⟨w,hw,rw'⟩:=hr.nth he;have hlen:=hr.length;have hat:atI vs n=some w:=uM (by rw[<- hlen];exact hj) hw;obtain⟨p',vs',e',hq',hr'⟩:=oA (show Rep K W.F a (.ref p)from rx) h1;cases e'
  have same:∀w',vs'[j]?=some w'->Rep K W.F e w':=fun w' hw'=>by
   obtain⟨w2,h3,h4⟩:=hr'.nth he;rw[hw']at h3;cases h3;exact h4
  obtain⟨w',hw',r'⟩:=hr'.nth he;have hat':atI vs' n=some w':=uM (by rw[<- hr'.length];exact hj) hw';rcases hq' with hq'|hq'
  .exact .inl ⟨p,vs',n,w',rfl,ry,G.fh.seq hq',hat',k _ W H (.refl _) G r'⟩
  .exact .inr (.inl ⟨p,vs',n,w',rfl,ry,G.fh.seqT hq',hat',k _ W H (.refl _) G r'⟩)
 .rename_i i n;split at h
  .rename_i xs hx;obtain⟨e,h2,h⟩:=aK h;cases h;obtain⟨vs,hv,hr⟩:=G.lstAt hx;obtain⟨j,hj,he⟩:=yM h2;obtain⟨w,hw,r'⟩:=Paired.get hr he;have hat:atI vs n=some w:=uM (by rw[<- Paired.len hr];exact hj) hw;rw[show v=.ref (W.α i)from rx.2];exact .inl ⟨_,vs,n,w,rfl,ry,SqL.of hv,hat,k _ W H (.refl _) G r'⟩
  .cases h
 .rename_i xs n;obtain⟨e,h2,h⟩:=aK h;cases h;obtain⟨a,vs,rfl,hv,hr⟩:=rx;obtain⟨j,hj,he⟩:=yM h2;obtain⟨w,hw,r'⟩:=Paired.get hr he;have hat:atI vs n=some w:=uM (by rw[<- Paired.len hr];exact hj) hw;exact .inr (.inl ⟨_,vs,n,w,rfl,ry,SqT.of (G.fh _ _ hv),hat,k _ W H (.refl _) G (by cases e<;>exact r')⟩)
 .cases h
noncomputable def gF:FN:=fun xs M=>match xs with
 |[.d a]=>(aZ a).bind fun ds=>some (.d (.int ds.length),M)
 |[.c i]=>match M[i]? with
  |some (.lst ys)=>some (.d (.int ys.length),M)
  |_=>none
 |[.t xs]=>some (.d (.int xs.length),M)
 |_=>none
theorem OR:PN K (fun xs H Q=>∃p ys,xs=[.ref p]/\(SqL K H p ys\/SqT K H p ys)/\Q (.int ys.length) H) gF:=by
 intro xs M z M' h W H vs Q G r k;unfold gF at h;split at h
 .rename_i a;obtain⟨ds,h1,h⟩:=aK h;cases h;rcases r with _|⟨r1,_|_⟩;obtain⟨p,us,rfl,hq,hr⟩:=oA (Rep.same G.fh _ _ r1) h1;refine⟨p,us,rfl,hq,?_⟩;rw[<- hr.length];exact k _ W H (.refl _) G rfl
 .rename_i i;split at h
  .rename_i ys hy;cases h;rcases r with _|⟨r1,_|_⟩;obtain⟨us,hv,hr⟩:=G.lstAt hy;rw[r1.2];refine⟨_,us,rfl,.inl (SqL.of hv),?_⟩;rw[<- Paired.len hr];exact k _ W H (.refl _) G rfl
  .cases h
 .rename_i xs;cases h;rcases r with _|⟨r1,_|_⟩;obtain⟨a,us,rfl,hv,hr⟩:=r1;refine⟨_,us,rfl,.inr (SqT.of (G.fh _ _ hv)),?_⟩;rw[<- Paired.len hr];exact k _ W H (.refl _) G rfl
 .cases h
noncomputable def listF:FN:=fun xs M=>match xs with
 |[.d a]=>(aZ a).bind fun ds=>some (.d (.list ds),M)
 |[.c i]=>match M[i]? with
  |some (.lst ys)=>(lZ ys).bind fun ds=>some (.d (.list ds),M)
  |_=>none
 |_=>none
noncomputable def eZ:FN:=fun xs M=>match xs with
 |[.d (.list ds)]=>some (.d (.tuple ds),M)
 |[.d (.tuple ds)]=>some (.d (.tuple ds),M)
 |[.c i]=>match M[i]? with
  |some (.lst ys)=>(lZ ys).bind fun ds=>some (.d (.tuple ds),M)
  |_=>none
 |_=>none
theorem DY:PN K (fun xs H Q=>∃p ys,xs=[.ref p]/\((SqL K H p ys/\∀l,H l=none->Q (.ref l) (upd H l (.tup ys)))\/(SqT K H p ys/\Q (.ref p) H))) eZ:=by
 intro xs M z M' h W H vs Q G r k;unfold eZ at h;split at h
 .rename_i ds;cases h;rcases r with _|⟨r1,_|_⟩;obtain⟨p,us,rfl,hq,hr⟩:=(show ∃a us,_=V.ref a/\SqL K W.F a us/\aM K W.F ds us from r1);refine⟨p,us,rfl,.inl ⟨G.fh.seq hq,fun l hl=>?_⟩⟩;obtain⟨e2,G2⟩:=G.lay (o:=.tup us) hl;exact k _ _ _ e2 G2 ⟨l,us,rfl,SqT.of bB,aM.same e2.ff _ _ hr⟩
 .rename_i ds;cases h;rcases r with _|⟨r1,_|_⟩;obtain⟨p,us,rfl,hq,hr⟩:=(show ∃a us,_=V.ref a/\SqT K W.F a us/\aM K W.F ds us from r1);exact⟨p,us,rfl,.inr ⟨G.fh.seqT hq,k _ W H (.refl _) G ⟨p,us,rfl,hq,hr⟩⟩⟩
 .rename_i i;split at h
  .rename_i ys hy;obtain⟨ds,h1,h⟩:=aK h;cases h;rcases r with _|⟨r1,_|_⟩;obtain⟨us,hv,hr⟩:=G.lstAt hy;rw[r1.2];refine⟨_,us,rfl,.inl ⟨SqL.of hv,fun l hl=>?_⟩⟩;obtain⟨e2,G2⟩:=G.lay (o:=.tup us) hl;exact k _ _ _ e2 G2 ⟨l,us,rfl,SqT.of bB,aM.same e2.ff _ _ (fO h1 hr)⟩
  .cases h
 .cases h
noncomputable def pQ(T:String)(f:EF):EF:=fun γ M=>(f γ M).bind fun r=>match r.1 with
 |.d a=>some (.d (.bool (nU T a)),r.2)
 |_=>none
theorem QC{T:String}{ta:TE}{f:EF}(hT:T∈asked)(a:SE K ta f):SE K (tCB (PV K) (nJ ta (nJ (tC (.ty T)) BZ))) (pQ T f):=by
 intro γ M x M' hh W H σ Q G R k;obtain⟨⟨y,M1⟩,h1,hh⟩:=aK hh;cases y with
 |c _=>cases hh
 |t _=>cases hh
 |f _=>cases hh
 |g _=>cases hh
 |d y=>
  cases hh;refine a _ _ _ _ h1 W H σ _ G R fun v W1 H1 e1 G1 r1=>?_;exact⟨v,T,y,rfl,hT,Rep.same G1.fh _ _ r1,k _ W1 H1 e1 G1 rfl⟩
noncomputable def zM(T U:String)(f:EF):EF:=fun γ M=>(f γ M).bind fun r=>match r.1 with
 |.d a=>some (.d (.bool (nU T a || nU U a)),r.2)
 |_=>none
theorem IX{T U:String}{ta:TE}{f:EF}(hT:T∈asked)(hU:U∈asked)(a:SE K ta f):SE K (tCB (EA K) (nJ ta (nJ (JW (nJ (tC (.ty T)) (nJ (tC (.ty U)) BZ))) BZ))) (zM T U f):=by
 intro γ M x M' hh W H σ Q G R k;obtain⟨⟨y,M1⟩,h1,hh⟩:=aK hh;cases y with
 |c _=>cases hh
 |t _=>cases hh
 |f _=>cases hh
 |g _=>cases hh
 |d y=>
  cases hh;refine a _ _ _ _ h1 W H σ _ G R fun v W1 H1 e1 G1 r1=>?_;refine⟨by show 2<=sizeLine;decide,fun p hp=>?_⟩;obtain⟨e2,G2⟩:=G1.lay (o:=.tup [.ty T,.ty U]) hp;refine⟨v,p,[T,U],y,rfl,bB,fun S hS=>?_,Rep.same (e2.ff.trans G2.fh) _ _ r1,?_⟩
  .rcases List.mem_cons.mp hS with rfl|hS
   .exact hT
   .rw[List.mem_singleton.mp hS];exact hU
  .have e:([T,U].any fun T=>nU T y)=(nU T y || nU U y):=by simp
   rw[e];exact k _ _ _ (e1.trans e2) G2 rfl
noncomputable def JL(M:Sto):CD->Option Bool
 |.d .none=>some false
 |.d (.bool b)=>some b
 |.d (.int i)=>some (i != 0)
 |.d (.list ds)=>some (!ds.isEmpty)
 |.d (.tuple ds)=>some (!ds.isEmpty)
 |.c i=>match M[i]? with
  |some (.lst xs)=>some (!xs.isEmpty)
  |some (.dk kvs)=>some (!kvs.isEmpty)
  |_=>none
 |_=>none
noncomputable def yE(f:EF):TF:=fun γ M=>(f γ M).bind fun r=>(JL r.2 r.1).bind fun b=>some (b,r.2)
theorem iJ{α β:Type}{xs:List α}{ys:List β}(h:xs.length=ys.length):xs.isEmpty=ys.isEmpty:=by
 cases xs<;>cases ys<;>simp at h ⊢
theorem SR{ta:TE}{f:EF}(a:SE K ta f):STt K (fun σ H Q=>ta σ H fun x H'=>∃k,KS K x H' k/\Q k H') (yE f):=by
 intro γ M b M' hh W H σ Q G R k;obtain⟨⟨y,M1⟩,h1,hh⟩:=aK hh;obtain⟨b1,h2,hh⟩:=aK hh;cases hh;refine a _ _ _ _ h1 W H σ _ G R fun v W1 H1 e1 G1 r1=>⟨_,?_,k W1 H1 e1 G1⟩;cases y with
 |d y=>
  cases y with
  |none=>cases h2;rw[show v=.non from r1];rfl
  |bool c=>cases h2;rw[show v=.bl _ from r1];rfl
  |int i=>cases h2;rw[show v=.int _ from r1];rfl
  |str x=>cases h2
  |list ds=>
   cases h2;obtain⟨p,us,rfl,hq,hr⟩:=(show ∃a us,_=V.ref a/\SqL K W1.F a us/\aM K W1.F ds us from r1);exact .inl ⟨us,G1.fh.seq hq,by rw[iJ hr.length]⟩
  |tuple ds=>
   cases h2;obtain⟨p,us,rfl,hq,hr⟩:=(show ∃a us,_=V.ref a/\SqT K W1.F a us/\aM K W1.F ds us from r1);exact .inr (.inl ⟨us,G1.fh.seqT hq,by rw[iJ hr.length]⟩)
  |dict kvs=>cases h2
 |t _=>cases h2
 |f _=>cases h2
 |g _=>cases h2
 |c i=>
  rw[r1.2];unfold JL at h2;dsimp only at h2;split at h2
  .rename_i xs hx;cases h2;obtain⟨us,hv,hr⟩:=G1.lstAt hx;exact .inl ⟨us,SqL.of hv,by rw[iJ (Paired.len hr)]⟩
  .rename_i kvs hx;cases h2;obtain⟨_,o,g2,g3⟩:=G1.cs i _ hx (by intro z;cases z);cases o with
   |dK us=>exact .inr (.inr ⟨us,g2,by rw[iJ (Paired.len g3)]⟩)
   |_=>exact False.elim g3
  .cases h2
noncomputable def boolsOf:List PyData->Option (List Bool)
 |[]=>some []
 |.bool b::r=>(boolsOf r).bind fun bs=>some (b::bs)
 |_::_=>none
noncomputable def sA:FN:=fun xs M=>match xs with
 |[.d (.list ds)]=>(boolsOf ds).bind fun bs=>some (.d (.bool (bs.all id)),M)
 |_=>none
theorem tE{H:Hp}:∀{ds:List PyData}{bs:List Bool}{vs:List V},boolsOf ds=some bs->aM K H ds vs->vs=bs.map V.bl
 |[],bs,vs=>fun e h=>by cases e;exact h
 |.bool b::r,bs,vs=>fun e h=>by
  obtain⟨cs,h1,e⟩:=aK (show(boolsOf r).bind _=_ from e);cases e;obtain⟨v,us,rfl,h2,h3⟩:=h;rw[show v=V.bl b from h2,tE h1 h3];rfl
 |.none::_,_,_=>fun e _=>by cases e
 |.int _::_,_,_=>fun e _=>by cases e
 |.str _::_,_,_=>fun e _=>by cases e
 |.list _::_,_,_=>fun e _=>by cases e
 |.tuple _::_,_,_=>fun e _=>by cases e
 |.dict _::_,_,_=>fun e _=>by cases e
theorem BI(hc:X.calm=true):gC X (.builtin "all") (fun xs H Q=>∃(p:Addr)(bs:List Bool),xs=[.ref p]/\SqL X.K H p (bs.map V.bl)/\Q (.bl (bs.all id)) H):=by
 intro pins s σ H xs us Q I r h;obtain⟨p,bs,rfl,hp,q⟩:=h;obtain⟨u,rfl,ru⟩:=vals1 r;cases (show u=Value.ref p from ru);obtain⟨its,rv,pl,hz⟩:=I.list hp;have hits:=bH.bools rv;subst hits;refine call_all_walk (wpAny_pyIter_list pl.isList ?_);have hlt:p<s.heap.objs.size:=pl.lt;refine⟨_,_,_,_,_,_,(fun i=>bs.getD i false),rfl,Walks.list (A:=X.A.in1) (I.ok.hd hc) s.heap.objs.size p (C0 hlt) (bs.map Value.bool).toArray,⟨⟨_,D1 _ rfl,rfl,rfl⟩,pl.isList.at fun o e=>B2 _ e⟩,vQ,fun h' tk hk=>?_⟩;have e1:((bs.map Value.bool).toArray).size=bs.length:=by simp
 rw[e1,all_range];refine⟨.bl _,H,I.kept (h':=h') (t':=tk) fun b o e=>?_,rfl,q⟩;exact hk b o (fun z=>by rw[List.mem_singleton]at z;exact absurd (B3 e) (by rw[z];exact F4 _)) (B2 _ e)
theorem NZ:PN K (fun xs H Q=>∃(p:Addr)(bs:List Bool),xs=[.ref p]/\SqL K H p (bs.map V.bl)/\Q (.bl (bs.all id)) H) sA:=by
 intro xs M z M' h W H vs Q G r k;unfold sA at h;split at h
 .rename_i ds;obtain⟨bs,h1,h⟩:=aK h;cases h;rcases r with _|⟨r1,_|_⟩;obtain⟨p,us,rfl,hq,hr⟩:=(show ∃a us,_=V.ref a/\SqL K W.F a us/\aM K W.F ds us from r1);have e:=tE h1 hr;subst e;exact⟨p,bs,rfl,G.fh.seq hq,k _ W H (.refl _) G rfl⟩
 .cases h
noncomputable def uN:F3:=fun x y z M=>match x,y with
 |.c i,.d (.int k)=>match M[i]? with
  |some (.lst xs)=>(ixN xs.length k).bind fun j=>some (M.set i (.lst (xs.set j z)))
  |_=>none
 |_,_=>none
theorem QF:P3 K MN uN:=by
 intro x y z M M' h W H v u w Q G rx ry rz k;unfold uN at h;split at h
 .rename_i i n;split at h
  .rename_i xs hx;obtain⟨j,h1,h⟩:=aK h;cases h;obtain⟨us,hv,hr⟩:=G.lstAt hx;refine⟨W.α i,us,n,j,rx.2,ry,hv,by rw[<- Paired.len hr];exact h1,?_⟩;exact k W _ (.refl _) (G.set hx (by intro q;cases q) (c':=.lst (xs.set j z)) (show cJ K W _ _ from Paired.set (R:=cR K W) rz j hr))
  .cases h
 .cases h
end
section
variable{X:Cx}{K:Fg}
noncomputable def FG(K:Fg):R2:=fun x y H Q=>∃l b xs zs,x=.ref l/\y=.ref b/\SqL K H l xs/\SqL K H b zs/\xs.length+zs.length<=sizeLine/\∀p,H p=none->Q (.ref p) (upd H p (.lst (xs++zs)))
theorem op_catS:OpR X (binaryOp .Add) (FG X.K):=by
 intro pins s σ H x y v u Q I rx ry h;obtain⟨l,b,xs,zs,rfl,rfl,hH,hB,hz,q⟩:=h;cases rx;cases ry;obtain⟨its,r,⟨⟨cls,dd,data,sl⟩,n,ho,hc,hdd,hd⟩,_⟩:=I.list hH;obtain⟨its2,r2,⟨⟨cls2,dd2,data2,sl2⟩,n2,ho2,hc2,hdd2,hd2⟩,_⟩:=I.list hB;simp only at hc hd hc2 hd2;subst hc hd hc2 hd2;have e1:=r.length;have e2:=r2.length;refine concat_meets ⟨_,ho,rfl⟩ ⟨_,ho2,rfl⟩ noFill_list_add seq_list_add PySem.F.slot_list_add PySem.F.entry_list_add (PySem.F.args_list_add_2 _ _) (list_addW l b its.toArray its2.toArray n n2 dd dd2 sl sl2 (by rw[B9,B9];omega)) ⟨ho,ho2,?_⟩;have ea:its.toArray++its2.toArray=(its++its2).toArray:=by simp
 rw[ea];exact⟨.ref _,_,I.lnew (t':=s.toks) (r.append r2) (by rw[A9];omega),rfl,q _ I.fresh⟩
noncomputable def wA(M:Sto):CD->Option (List CD)
 |.d (.list ds)=>some (ds.map .d)
 |.c i=>match M[i]? with
  |some (.lst xs)=>some xs
  |_=>none
 |_=>none
theorem sQ{x:CD}{xs:List CD}{v:V}(G:Good K W M H)(h:wA M x=some xs)(r:cR K W x v):∃p vs,v=.ref p/\SqL K H p vs/\cJ K W xs vs:=by
 unfold wA at h;split at h
 .rename_i ds;cases h;obtain⟨p,us,rfl,hq,hr⟩:=(show ∃a us,_=V.ref a/\SqL K W.F a us/\aM K W.F ds us from r);exact⟨p,us,rfl,G.fh.seq hq,qJ hr⟩
 .rename_i i;split at h
  .rename_i ys hy;cases h;obtain⟨us,hv,hr⟩:=G.lstAt hy;exact⟨_,us,r.2,SqL.of hv,hr⟩
  .cases h
 .cases h
noncomputable def KJ:F2:=fun x y M=>(wA M x).bind fun xs=>(wA M y).bind fun ys=>(lZ (xs++ys)).bind fun ds=>if ds.length<=sizeLine then some (.d (.list ds),M)else none
theorem KU:P2 K (FG K) KJ:=by
 intro x y M z M' h W H v u Q G rx ry k;obtain⟨xs,h1,h⟩:=aK h;obtain⟨ys,h2,h⟩:=aK h;obtain⟨ds,h3,h⟩:=aK h;by_cases hl:ds.length<=sizeLine
 .rw[A6 hl]at h;cases h;obtain⟨p,vs,rfl,hp,hr⟩:=sQ G h1 rx;obtain⟨q,us,rfl,hq,hs⟩:=sQ G h2 ry;have el:=vM h3;rw[A9]at el;refine⟨p,q,vs,us,rfl,rfl,hp,hq,by rw[<- Paired.len hr,<- Paired.len hs];omega,fun l hl=>?_⟩;obtain⟨e2,G2⟩:=G.lay (o:=.lst (vs++us)) hl;exact k _ _ _ e2 G2 ⟨l,_,rfl,SqL.of bB,aM.same e2.ff _ _ (fO h3 (Paired.app hr hs))⟩
 .rw[B0 hl]at h;cases h
noncomputable def SM:F2:=fun x y M=>match x,y with
 |.d (.tuple xs),.d (.tuple ys)=>if xs≠[]/\xs.length+ys.length<=sizeLine then some (.d (.tuple (xs++ys)),M)else none
 |_,_=>none
theorem aM.nil_iff{ds:List PyData}{vs:List V}(r:aM K H ds vs):vs=[]↔ds=[]:=by
 have:=r.length;constructor<;>intro h<;>subst h<;>simp at this
 .exact this
 .exact List.eq_nil_of_length_eq_zero this.symm
theorem KG:P2 K (CI K) SM:=by
 intro x y M z M' h W H v u Q G rx ry k;unfold SM at h;split at h
 .rename_i xs ys;by_cases hc:xs≠[]/\xs.length+ys.length<=sizeLine
  .rw[A6 hc]at h;cases h;obtain⟨p,vs,rfl,hp,hr⟩:=(show ∃a us,v=V.ref a/\SqT K W.F a us/\aM K W.F xs us from rx);obtain⟨q,us,rfl,hq,hs⟩:=(show ∃a us,u=V.ref a/\SqT K W.F a us/\aM K W.F ys us from ry);refine⟨p,q,vs,us,rfl,rfl,G.fh.seqT hp,G.fh.seqT hq,fun z=>hc.1 (hr.nil_iff.mp z),by rw[<- hr.length,<- hs.length];exact hc.2,fun z=>?_,fun z l hl=>?_⟩
   .have:ys=[]:=hs.nil_iff.mp z;subst this;rw[F9]at k;exact k _ W H (.refl _) G ⟨p,vs,rfl,hp,hr⟩
   .obtain⟨e2,G2⟩:=G.lay (o:=.tup (vs++us)) hl;exact k _ _ _ e2 G2 ⟨l,_,rfl,SqT.of bB,aM.same e2.ff _ _ (aM.app hr hs)⟩
  .rw[B0 hc]at h;cases h
 .cases h
theorem P2.or{r r':R2}{h h':F2}(a:P2 K r h)(b:P2 K r' h'):P2 K (fun x y H Q=>r x y H Q\/r' x y H Q) (yB h h'):=by
 intro x y M z M' hh W H v u Q G rv ru k;unfold yB at hh;cases e:h x y M with
 |some q=>
  rw[e]at hh;cases hh;exact .inl (a _ _ _ _ _ e W H v u Q G rv ru k)
 |none=>
  rw[e]at hh;exact .inr (b _ _ _ _ _ hh W H v u Q G rv ru k)
noncomputable def yJ(K:Fg):R2:=fun x y H Q=>∃a b ys,x=.ref a/\y=.ref b/\SqT K H a []/\SqT K H b ys/\Q (.ref b) H
theorem op_catT0:OpR X (binaryOp .Add) (yJ X.K):=by
 intro pins s σ H x y v u Q I rx ry h;obtain⟨a,b,ys,rfl,rfl,ha,hb,q⟩:=h;cases rx;cases ry;obtain⟨its,r1,⟨⟨cls,dd,data,sl⟩,ho,hc,n,hd⟩,_⟩:=I.tuple ha;obtain⟨its2,r2,⟨⟨cls2,dd2,data2,sl2⟩,ho2,hc2,n2,hd2⟩,_⟩:=I.tuple hb;simp only at hc hd hc2 hd2;subst hc hd hc2 hd2;cases r1;exact concat_meets ⟨_,ho,rfl⟩ ⟨_,ho2,rfl⟩ noFill_tuple_add seq_tuple_add PySem.F.slot_tuple_add PySem.F.entry_tuple_add (PySem.F.args_tuple_add_2 _ _) (tuple_addW0 a b #[] its2.toArray n n2 dd dd2 sl sl2 rfl) ⟨ho,ho2,⟨.ref b,H,I,rfl,q⟩⟩
noncomputable def FS:F2:=fun x y M=>match x,y with
 |.d (.tuple []),.d (.tuple ys)=>some (.d (.tuple ys),M)
 |_,_=>none
theorem EU:P2 K (yJ K) FS:=by
 intro x y M z M' h W H v u Q G rx ry k;unfold FS at h;split at h
 .rename_i ys;cases h;obtain⟨p,vs,rfl,hp,hr⟩:=(show ∃a us,v=V.ref a/\SqT K W.F a us/\aM K W.F [] us from rx);obtain⟨q,us,rfl,hq,hs⟩:=(show ∃a us,u=V.ref a/\SqT K W.F a us/\aM K W.F ys us from ry);rw[show vs=[]from hr]at hp;exact⟨p,q,us,rfl,rfl,G.fh.seqT hp,G.fh.seqT hq,k _ W H (.refl _) G ⟨q,us,rfl,hq,hs⟩⟩
 .cases h
noncomputable def dQ:F2:=yB NS (yB KJ (yB FS SM))
noncomputable def FI(K:Fg):R2:=fun x y H Q=>(rI0 fun i j=>.int (i+j)) x y H Q\/FG K x y H Q\/yJ K x y H Q\/CI K x y H Q
theorem IG:OpR X (binaryOp .Add) (FI X.K):=op_add.or (op_catS.or (op_catT0.or HQ))
theorem JU:P2 K (FI K) dQ:=P2.or MJ (P2.or KU (P2.or EU KG))
noncomputable def eqS(neg:Bool):F2:=fun x y M=>match x,y with
 |.d (.str a),.d (.str b)=>some (.d (.bool (if neg then !(a==b)else a==b)),M)
 |_,_=>none
noncomputable def eqX(neg:Bool):F2:=yB (eqS neg) (eqD neg)
noncomputable def QY(K:Fg):R2:=fun x y H Q=>rEq x y H Q\/CW K false x y H Q
noncomputable def RU(K:Fg):R2:=fun x y H Q=>rNe x y H Q\/CW K true x y H Q
theorem GB{a b:Str}:decide (V.str a=V.str b)=(a==b):=by
 by_cases e:a=b
 .subst e;simp
 .have h:¬V.str a=V.str b:=fun q=>e (V.str.inj q);rw[C8 h,beq_eq_false_iff_ne.mpr e]
theorem OO:P2 K rEq (eqS false):=by
 intro x y M z M' h W H v u Q G rx ry k;unfold eqS at h;split at h
 .rename_i a b;cases h;rw[show v=.str a from rx,show u=.str b from ry];refine⟨rfl,?_⟩;rw[GB];exact k _ W H (.refl _) G rfl
 .cases h
theorem RH:P2 K rNe (eqS true):=by
 intro x y M z M' h W H v u Q G rx ry k;unfold eqS at h;split at h
 .rename_i a b;cases h;rw[show v=.str a from rx,show u=.str b from ry];refine⟨rfl,?_⟩;rw[GB];exact k _ W H (.refl _) G rfl
 .cases h
theorem NJ:P2 K (QY K) (eqX false):=P2.or OO LO
theorem NN:P2 K (RU K) (eqX true):=P2.or RH LO
theorem QA(hu:X.A.units+64<cLine):OpR X (compareOp .Eq) (QY X.K):=op_eq.or (QT hu)
theorem RE(hu:X.A.units+64<cLine):OpR X (compareOp .NotEq) (RU X.K):=op_ne.or (SD hu)
theorem SN:P2 K (rI0 fun i j=>.int (i-j)) pP:=MJ
theorem RX:P2 K (rI vJ fun i j=>.int (i*j)) wF:=IL fun _ _ h=>mulOk_of h
theorem IQ:P2 K (rI LL fun i j=>.int (i / j)) tH:=IL fun i j h=>by
 unfold tJ at h;rw[B1]at h;exact⟨B8 h.1,B8 (p:=j.natAbs<pH) h.2⟩
theorem NB:P2 K (rI (fun _ j=>0<j) fun i j=>.int (i % j)) kN:=IL fun i j h=>B8 h
theorem MY:P2 K (rI TZ fun i j=>.int (i ^ j.toNat)) pM:=IL fun i j h=>by
 unfold rG at h;rw[B1,B1]at h;exact⟨B8 h.1.1,B8 h.1.2,B8 h.2⟩
theorem VU:P2 K (rI0 fun i j=>.bl (decide (i<j))) ltI:=zI
theorem UC:P2 K (rI0 fun i j=>.bl (decide (i<=j))) leI:=zI
theorem UQ:P2 K (rI0 fun i j=>.bl (decide (j<i))) gtI:=zI
theorem TM:P2 K (rI0 fun i j=>.bl (decide (j<=i))) geI:=zI
noncomputable def wB:F1:=fun x M=>match x with
 |.d (.int i)=>some (.d (.int (-i)),M)
 |_=>none
theorem QZ:P1 K (rU fun i=>.int (-i)) wB:=by
 intro x M z M' h W H v Q G r k;unfold wB at h;split at h
 .rename_i i;cases h;exact⟨i,r,k _ W H (.refl _) G rfl⟩
 .cases h
end
section
variable{X:Cx}{K:Fg}
theorem WV(h:X.K=K):gC X (.builtin "isinstance") (PV K):=by subst h;exact BE
theorem WS(h:X.K=K):gC X (.builtin "isinstance") (EA K):=by subst h;exact yS
noncomputable def WQ(K:Fg):R2:=rIx K
theorem kIx(h:X.K=K):IxR X (WQ K):=by subst h;exact OT
theorem NF:P2 K (WQ K) ixF:=UY
noncomputable def LJ(K:Fg):List V->Hp->VK->Prop:=fun xs H Q=>∃p ys,xs=[.ref p]/\(SqL K H p ys\/SqT K H p ys)/\Q (.int ys.length) H
theorem XS(h:X.K=K):gC X (.builtin "len") (LJ K):=by subst h;exact uO
theorem ID:PN K (LJ K) gF:=OR
noncomputable def yW(K:Fg):List V->Hp->VK->Prop:=fun xs H Q=>∃p ys,xs=[.ref p]/\((SqL K H p ys/\∀l,H l=none->Q (.ref l) (upd H l (.tup ys)))\/(SqT K H p ys/\Q (.ref p) H))
theorem RP(h:X.K=K):gC X (.type "tuple") (yW K):=by subst h;exact sE
theorem BN:PN K (yW K) eZ:=DY
noncomputable def LX(K:Fg):List V->Hp->VK->Prop:=fun xs H Q=>∃(p:Addr)(bs:List Bool),xs=[.ref p]/\SqL K H p (bs.map V.bl)/\Q (.bl (bs.all id)) H
theorem WY(h:X.K=K)(hc:X.calm=true):gC X (.builtin "all") (LX K):=by subst h;exact BI hc
theorem HZ:PN K (LX K) sA:=NZ
theorem kEq(h:X.K=K)(hu:X.A.units+64<cLine):OpR X (compareOp .Eq) (QY K):=by subst h;exact QA hu
theorem kNe(h:X.K=K)(hu:X.A.units+64<cLine):OpR X (compareOp .NotEq) (RU K):=by subst h;exact RE hu
theorem kIn(h:X.K=K)(hu:X.A.in1.units+64<cLine):OpR X (compareOp .In) (SQ K false):=by subst h;exact RQ hu
theorem XC(h:X.K=K):OpR X (binaryOp .Add) (FI K):=by subst h;exact IG
theorem KQ{tg l:Expr}{tl:TE}(h:X.K=K)(hl:PE X l tl):PI X tg l (RN K tl):=by subst h;exact PK hl
noncomputable def WO(K:Fg)(ta:TE):TT:=fun σ H Q=>ta σ H fun x H'=>∃k,KS K x H' k/\Q k H'
theorem IY{a:Expr}{ta:TE}(hK:X.K=K)(ha:PE X a ta)(he:∀whole,isTrue a X.env whole=(do let v <- whole;standAt a.pos;holding [v] (truthy v))):PT X a (WO K ta):=by subst hK;exact GN ha he
theorem IH{ta:TE}{f:EF}(a:SE K ta f):STt K (WO K ta) (yE f):=SR a
end
section
variable{es:List Expr}{env:Env}
theorem cG{a b}:starEach (.Name a b::es) env=(false,eval (.Name a b) env)::starEach es env:=rfl
theorem rD{a b c}:starEach (.Tuple a b c::es) env=(false,eval (.Tuple a b c) env)::starEach es env:=rfl
theorem sN{pos:Pos}:(backTo pos (starEach [] env)).any (·.1)=false:=rfl
theorem mU{pos:Pos}{e:Expr}(hs:starEach (e::es) env=(false,eval e env)::starEach es env)(h:(backTo pos (starEach es env)).any (·.1)=false):(backTo pos (starEach (e::es) env)).any (·.1)=false:=by
 rw[hs];have e1:backTo pos ((false,eval e env)::starEach es env)=(false,(do let v <- eval e env;standAt pos;pure v:Sem Value))::backTo pos (starEach es env)\/(backTo pos ((false,eval e env)::starEach es env)).any (·.1)=(backTo pos (starEach es env)).any (·.1):=.inr (by unfold backTo;simp);rcases e1 with q|q
 .rw[q,J5,h];rfl
 .rw[q];exact h
end
section
variable{P:Program}{w:World}{K:Fg}{mg:Str->Option Value}
theorem Fun.okM{base:Heap}{x:Str}{st:Stmt}{N ps:List Str}{k:Nat}{b:SF}{f:Addr}{fd:FuncData}(F:Fun K x x st f fd)(S:aT N ps (aG st))
 (hbody:∀(f:Addr)(cdv:Value)(A:Around)(outer:List Env)(s:Shared)(H:Hp)(E:XK),dU k (A.deeper (envOfC x (aG st) s.heap.objs.size f cdv))->
  ∃t,PSs (pN CX0 P w K mg base N x (aG st) f cdv A outer s H E).nox (cK st) t/\SS K t b):mS P w K mg base CX0 (k+1) f fd ps (spM K (fnF ps.length N.length b)):=by
 have len:∀vs H Q E,spM K (fnF ps.length N.length b) vs H Q E->vs.length=ps.length:=fun vs H Q E h=>by
  obtain⟨xs,M,W,y,M',G,R,hf,_⟩:=h;by_cases hl:xs.length=ps.length
  .rw[<- Paired.len R];exact hl
  .unfold fnF at hf;rw[B0 hl]at hf;cases hf
 refine F.ok S len fun cdv A outer s H vs Q E hr h=>?_;obtain⟨t,hP,hS⟩:=hbody f cdv A outer s H E hr;refine⟨t,hP,?_⟩;obtain⟨xs,M,W,y,M',G,R,hf,k⟩:=h;by_cases hl:xs.length=ps.length
 .unfold fnF at hf;rw[A6 hl]at hf;obtain⟨⟨o,M1⟩,h1,hf⟩:=aK hf
  have hR:dE K W (xs.map some++List.replicate (N.length-xs.length) none) (start N vs):=by
   unfold start;rw[<- Paired.len R];exact Paired.app (cJ.some R) (qQ _)
  refine hS _ _ _ _ h1 W H _ _ G hR fun W1 H1 e1 G1=>?_;cases o with
  |rt x=>cases hf;exact fun v r=>k v W1 H1 e1 G1 r
  |nx γ=>cases hf;exact fun σ r=>k .non W1 H1 e1 G1 rfl
  |bk γ=>cases hf
  |ct γ=>cases hf
 .unfold fnF at hf;rw[B0 hl]at hf;cases hf
theorem Def.okL{x p:Str}{st:Stmt}{N:List Str}{k:Nat}{b:SF}{F:FN}(D:Def K mg x st)(S:aT N [p] (aG st))(hF:F=fnF 1 N.length b)
 (hb:∀(kV doc pm:Value)(an:Option Addr)(cdv ct:Value)(us:List Value),us.length=[p].length->bindArgs (PySem.W.fnOf x x (fI st) (cK st) (aG st) .none kV doc pm an cdv ct) ⟨us,[]⟩=pure ([p].zip us))
 (hbody:∀(base:Heap)(f:Addr)(cdv:Value)(A:Around)(outer:List Env)(s:Shared)(H:Hp)(E:XK),dU k (A.deeper (envOfC x (aG st) s.heap.objs.size f cdv))->
  ∃t,PSs (pN CX0 P w K mg base N x (aG st) f cdv A outer s H E).nox (cK st) t/\SS K t b):
 ∃f fd,mg x=some (.ref f)/\(∀(s:Shared)(u:Value),BindsTo s fd ⟨[u],[]⟩ [(p,u)])/\∀base,mS P w K mg base CX0 (k+1) f fd [p] (spM K F):=by
 subst hF;obtain⟨f,fd,Fu,m⟩:=D.ex;refine⟨f,fd,m,fun s u=>?_,fun base=>Fu.okM S (hbody base)⟩;obtain⟨oc,od,kV,doc,pm,an,cdv,ct,osl,rfl,lk,hcd⟩:=Fu.ex;exact .of_eq (hb kV doc pm an cdv ct [u] rfl)
theorem xI{H:Hp}:∀ns:List Int,aM K H (ns.map .int) (ns.map V.int)
 |[]=>rfl
 |n::ns=>⟨.int n,ns.map V.int,rfl,rfl,xI ns⟩
theorem QW{F:FN}(hF:∀ns:List Int,ns.length<=63->∃M',F [.d (.list (ns.map .int))] []=some (.d (.bool true),M')){a:Addr}{ns:List Int}(hl:ns.length<=63)(hS:SqL K H a (ns.map V.int))(E:XK):
 spM K F [.ref a] H (fun v _=>v=.bl true) E:=by
 obtain⟨M',h⟩:=hF ns hl;refine⟨[.d (.list (ns.map .int))],[],⟨H,fun _=>0,0⟩,_,M',⟨gV.refl H,rfl,fun i c h=>by simp at h,fun i j c c' h=>by simp at h⟩,.cons (show ∃a' vs,V.ref a=.ref a'/\SqL K H a' vs/\aM K H (ns.map .int) vs from⟨a,ns.map V.int,rfl,hS,xI ns⟩) .nil,h,fun v W' H' _ _ r=>r⟩
theorem law_walk{l:PySem.W.OpenLaw}{q:Program}{loose:List Str}{XP:(Str->Option Value)->Heap->Prop}{YP:World->Heap->Prop}{d:DefRec}{K:Params->Fg}{F:FN}{k:Nat}{p:Str}(hq:PyProof.Rows.importsNone q=true)(hn:l.most=some 63)(hdf:d.params.defaults=[])(hr:dU k callerA)
 (hY:∀(w:World)(h:Heap),YP w h->(K w.params).In h)
 (hT:∀(w:World)(mg:Str->Option Value)(h:Heap),(K w.params).In h->h.Ns mainGlobals mg->∃f fd,mg d.name=some (.ref f)/\(∀(s:Shared)(u:Value),BindsTo s fd ⟨[u],[]⟩ [(p,u)])/\∀base,mS l.prog w (K w.params) mg base CX0 k f fd [p] (spM (K w.params) F))
 (hF:∀ns:List Int,ns.length<=63->∃M',F [.d (.list (ns.map .int))] []=some (.d (.bool true),M')):
 PySem.W.WalkO q loose XP YP l.row.toRowW d [] (fun f vs=>PySem.call f vs):=
 L2.walk_of hq (n:=63) (k:=k) (x:=p) (CX:=fun _=>CX0) (sp:=fun w=>spM (K w.params) F) hn (by decide) hdf hr hY
  (fun w mg fa h KX G hmg=>by
   obtain⟨f,fd,m,hb,hf⟩:=hT w mg h KX G;have e:(some (Value.ref f))=some (.ref fa):=m.symm.trans hmg;cases e;exact⟨fd,hb,fun base _ _=>hf base⟩)
  (fun w H a ns hl _ hS=>QW hF hl hS _) fun _ _ _ _ _ z=>z
end
noncomputable def KP(e:Expr)(es:List Expr):Prop:=∀env:Env,starEach (e::es) env=(false,eval e env)::starEach es env
noncomputable def AE:List Expr->Prop
 |[]=>True
 |e::es=>KP e es/\AE es
theorem AE.plain:∀{es:List Expr},AE es->∀(env:Env)(pos:Pos),(backTo pos (starEach es env)).any (·.1)=false
 |[]=>fun _ _ _=>rfl
 |_::_=>fun h env pos=>mU (h.1 env) (h.2.plain env pos)
section
variable{ι:Type}
structure ME(K:Fg)(X:ι->Cx)(e:Expr)(f:EF):Prop where
 ex:∃t,(∀i,PE (X i) e t)/\SE K t f
structure MT(K:Fg)(X:ι->Cx)(e:Expr)(f:TF):Prop where
 ex:∃t,(∀i,PT (X i) e t)/\STt K t f
structure MW(K:Fg)(X:ι->Cx)(e:Expr)(f:TF):Prop where
 ex:∃t,(∀i,PW (X i) e t)/\STt K t f
structure MA(K:Fg)(X:ι->Cx)(es:List Expr)(f:AF):Prop where
 ex:∃t,(∀i,PA (X i) es t)/\SA K t f
 st:AE es
structure MG(K:Fg)(X:ι->Cx)(e:Expr)(f:GF):Prop where
 ex:∃t,(∀i,PG (X i) e t)/\SG K t f
structure MI(K:Fg)(X:ι->Cx)(tg e:Expr)(f:AF):Prop where
 ex:∃t,(∀i,PI (X i) tg e t)/\SI K t f
structure MF(K:Fg)(X:ι->Cx)(es:List Expr)(f:TF):Prop where
 ex:∃t,(∀i,yQ (X i) es t)/\STt K t f
structure MS(K:Fg)(X:ι->Cx)(st:Stmt)(f:SF):Prop where
 ex:∃t,(∀i,PS (X i) st t)/\SS K t f
structure ML(K:Fg)(X:ι->Cx)(st:List Stmt)(f:SF):Prop where
 ex:∃t,(∀i,PSs (X i) st t)/\SS K t f
structure Q2(K:Fg)(X:ι->Cx)(o:Value->Value->Sem Value)(h:F2):Prop where
 ex:∃r,(∀i,OpR (X i) o r)/\P2 K r h
structure Q1(K:Fg)(X:ι->Cx)(o:Value->Sem Value)(h:F1):Prop where
 ex:∃r,(∀i,UnR (X i) o r)/\P1 K r h
structure QN(K:Fg)(X:ι->Cx)(f:Value)(h:FN):Prop where
 ex:∃r,(∀i,gC (X i) f r)/\PN K r h
structure QI(K:Fg)(X:ι->Cx)(h:F2):Prop where
 ex:∃r,(∀i,IxR (X i) r)/\P2 K r h
structure QS(K:Fg)(X:ι->Cx)(h:F3):Prop where
 ex:∃r,(∀i,OM (X i) r)/\P3 K r h
variable{K:Fg}{X:ι->Cx}{a b c e:Expr}{es:List Expr}{f g h:EF}{ft gt:TF}{fa:AF}{pos:Pos}
theorem aC(i:Nat){x:Str}(hN:∀j,(X j).N[i]?=some x:=by intro _;rfl)(hv:∀j,Vis (X j).env.scope x:=by intro _;first|exact Or.inl rfl|exact Or.inr (Or.inl rfl)|exact Or.inr (Or.inr rfl))(hd:(x==("__debug__":Str))=false:=by decide)(hcd:(x==("__classdict__":Str))=false:=by decide):
 ME K X (.Name x pos) (aE i):=⟨_,fun j=>OW (hN j) (hv j) hd hcd,QK⟩
theorem aD{i:Int}{j:Nat}:ME K X (.Constant (.int i) j pos) (fC (.int i)):=⟨_,fun _=>SL,GU⟩
theorem gL{i:Bool}{j:Nat}:ME K X (.Constant (.bool i) j pos) (fC (.bool i)):=⟨_,fun _=>WK,VS⟩
theorem uY{j:Nat}:ME K X (.Constant .none j pos) (fC .none):=⟨_,fun _=>RL,RJ⟩
theorem jZ{i:Str}{j:Nat}:ME K X (.Constant (.str i) j pos) (fC (.str i)):=⟨_,fun _=>NR,NO⟩
theorem nS{x:Str}{n:Int}(hm:∀i,∃t:Tok,(X i).mg x=some (.int n t))(hg:∀i,Gl (X i) x:=by intro _;rfl)(hd:(x==("__debug__":Str))=false:=by decide):ME K X (.Name x pos) (fC (.int n)):=
 ⟨_,fun i=>JX (v:=.int n) (hg i) (hm i).choose_spec ⟨_,rfl⟩ hd,GU⟩
theorem aX{op:Operator}{k:F2}(q:Q2 K X (binaryOp op) k)(x:ME K X a f)(y:ME K X b g):ME K X (.BinOp a op b pos) (fOp k f g):=by
 obtain⟨r,q1,q2⟩:=q.ex;obtain⟨t,x1,x2⟩:=x.ex;obtain⟨u,y1,y2⟩:=y.ex;exact⟨_,fun i=>VF (q1 i) (x1 i) (y1 i),zV q2 x2 y2⟩
theorem AA{op:UnaryOp}{k:F1}(q:Q1 K X (unaryOp op) k)(x:ME K X a f):ME K X (.UnaryOp op a pos) (fUn k f):=by
 obtain⟨r,q1,q2⟩:=q.ex;obtain⟨t,x1,x2⟩:=x.ex;exact⟨_,fun i=>UV (q1 i) (x1 i),UU q2 x2⟩
theorem dJ{rest:List Expr}(x:ME K X a f)(y:ME K X (.BoolOp .And (b::rest) pos) g):ME K X (.BoolOp .And (a::b::rest) pos) (iG f g):=by
 obtain⟨t,x1,x2⟩:=x.ex;obtain⟨u,y1,y2⟩:=y.ex;exact⟨_,fun i=>SU (x1 i) (y1 i),OD x2 y2⟩
theorem VM{rest:List Expr}(x:ME K X a f)(y:ME K X (.BoolOp .Or (b::rest) pos) g):ME K X (.BoolOp .Or (a::b::rest) pos) (fOr f g):=by
 obtain⟨t,x1,x2⟩:=x.ex;obtain⟨u,y1,y2⟩:=y.ex;exact⟨_,fun i=>VT (x1 i) (y1 i),VX x2 y2⟩
theorem fQ{op:BoolOp}(x:ME K X a f):ME K X (.BoolOp op [a] pos) f:=by
 obtain⟨t,x1,x2⟩:=x.ex;exact⟨_,fun i=>PU (x1 i),x2⟩
theorem FD(x:ME K X a f):ME K X (.UnaryOp .Not a pos) (FJ f):=by
 obtain⟨t,x1,x2⟩:=x.ex;exact⟨_,fun i=>QP (x1 i),RD x2⟩
theorem eS{op:CmpOp}{k:F2}(q:Q2 K X (compareOp op) k)(x:ME K X a f)(y:ME K X b g)(hm:behindInMarks op b=false:=by rfl):ME K X (.Compare a [op] [b] pos) (fOp k f g):=by
 obtain⟨r,q1,q2⟩:=q.ex;obtain⟨t,x1,x2⟩:=x.ex;obtain⟨u,y1,y2⟩:=y.ex;exact⟨_,fun i=>KO (q1 i) (x1 i) (y1 i) hm,zV q2 x2 y2⟩
theorem xG{op op':CmpOp}{k k':F2}(q:Q2 K X (compareOp op) k)(q':Q2 K X (compareOp op') k')(x:ME K X a f)(y:ME K X b g)(z:ME K X c h)(hm:lastMarks [op,op'] [b,c]=false:=by with_unfolding_all rfl):ME K X (.Compare a [op,op'] [b,c] pos) (rS k k' f g h):=by
 obtain⟨r,q1,q2⟩:=q.ex;obtain⟨r',q1',q2'⟩:=q'.ex;obtain⟨t,x1,x2⟩:=x.ex;obtain⟨u,y1,y2⟩:=y.ex;obtain⟨v,z1,z2⟩:=z.ex;exact⟨_,fun i=>DF (q1 i) (q1' i) (x1 i) (y1 i) (z1 i) hm,EJ q2 q2' x2 y2 z2⟩
theorem UX(x:MT K X c ft)(y:ME K X a f)(z:ME K X b g):ME K X (.IfExp c a b pos) (fIf ft f g):=by
 obtain⟨t,x1,x2⟩:=x.ex;obtain⟨u,y1,y2⟩:=y.ex;obtain⟨v,z1,z2⟩:=z.ex;exact⟨_,fun i=>CK (x1 i) (y1 i) (z1 i),WN x2 y2 z2⟩
theorem aF:MA K X [] aH:=⟨⟨_,fun _=>rM,NG⟩,trivial⟩
theorem aA(x:ME K X e f)(y:MA K X es fa)(hs:KP e es:=by intro _;rfl):MA K X (e::es) (aB f fa):=by
 obtain⟨t,x1,x2⟩:=x.ex;obtain⟨u,y1,y2⟩:=y.ex;exact⟨⟨_,fun i=>iK (x1 i) (y1 i) (hs _),KA x2 y2⟩,hs,y.st⟩
theorem bJ{k:Nat}(x:MA K X es fa):ME K X (.Tuple es k pos) (cX fa):=by
 obtain⟨t,x1,x2⟩:=x.ex;exact⟨_,fun i=>yO (x1 i),OE x2⟩
theorem dN(x:MA K X es fa):ME K X (.List es pos) (gJ fa):=by
 obtain⟨t,x1,x2⟩:=x.ex;exact⟨_,fun i=>CO (x1 i),PQ x2⟩
theorem yT(x:MA K X es fa):ME K X (.List es pos) (yL fa):=by
 obtain⟨t,x1,x2⟩:=x.ex;exact⟨_,fun i=>CO (x1 i),QM x2⟩
theorem aW{k:F2}(q:QI K X k)(x:ME K X a f)(y:ME K X b g)(hs:zP b:=by intro _ _;rfl):ME K X (.Subscript a b pos) (fOp k f g):=by
 obtain⟨r,q1,q2⟩:=q.ex;obtain⟨t,x1,x2⟩:=x.ex;obtain⟨u,y1,y2⟩:=y.ex;exact⟨_,fun i=>SY (q1 i) (x1 i) (y1 i) hs,zV q2 x2 y2⟩
theorem aJ{k:Nat}{x:Str}{ps:List Str}{F:FN}{p:Pos}{q:Bool}(C:∀i,Callee (X i).prog (X i).w (X i).K (X i).mg (X i).base k x ps (spM K F) q)(hr:∀i,dU k (X i).A q)(y:MA K X (e::es) fa)(hg:∀i,Gl (X i) x:=by intro _;rfl)(hd:(x==("__debug__":Str))=false:=by decide):
 ME K X (.Call (.Name x p) (e::es) [] pos) (aI F fa):=by
 obtain⟨u,y1,y2⟩:=y.ex;exact⟨_,fun i=>SC (C i) (hr i) (y1 i) (hg i) hd (y.st.1 _) (y.st.2.plain _ _),JR y2⟩
theorem cQ{x:Str}{id:String}{F:FN}{p:Pos}(q:QN K X (.builtin id) F)(hm:∀i,(X i).mg x=none)(hv:bootBuiltins x=some (.builtin id))(y:MA K X (e::es) fa)(hg:∀i,Gl (X i) x:=by intro _;rfl)(hn:x≠"__name__":=by decide)(hd:(x==("__debug__":Str))=false:=by decide):
 ME K X (.Call (.Name x p) (e::es) [] pos) (aI F fa):=by
 obtain⟨r,q1,q2⟩:=q.ex;obtain⟨u,y1,y2⟩:=y.ex;exact⟨_,fun i=>nX (q1 i) (hg i) (hm i) hv (y1 i) hn hd (y.st.1 _) (y.st.2.plain _ _),LV q2 y2⟩
theorem lD{x:Str}{id:String}{F:FN}{p:Pos}(q:QN K X (.type id) F)(hm:∀i,(X i).mg x=none)(hv:bootBuiltins x=some (.type id))(y:MA K X (e::es) fa)(hg:∀i,Gl (X i) x:=by intro _;rfl)(hn:x≠"__name__":=by decide)(hd:(x==("__debug__":Str))=false:=by decide):
 ME K X (.Call (.Name x p) (e::es) [] pos) (aI F fa):=by
 obtain⟨r,q1,q2⟩:=q.ex;obtain⟨u,y1,y2⟩:=y.ex;exact⟨_,fun i=>BD (q1 i) (hg i) (hm i) hv (y1 i) hn hd (y.st.1 _) (y.st.2.plain _ _),LV q2 y2⟩
theorem kW{T:String}{y:Str}{p p':Pos}(hK:∀i,(X i).K=K)(hT:T∈asked)(x:ME K X a f)(hs:KP a [.Name y p'])(hm:∀i,(X i).mg "isinstance"=none)(hmy:∀i,(X i).mg y=none)(hb:bootBuiltins y=some (.type T))(hg:∀i,Gl (X i) "isinstance":=by intro _;rfl)(hgy:∀i,Gl (X i) y:=by intro _;rfl)
 (hn:y≠"__name__":=by decide) (hd:(y==("__debug__":Str))=false:=by decide):ME K X (.Call (.Name "isinstance" p) [a,.Name y p'] [] pos) (pQ T f):=by
 obtain⟨t,x1,x2⟩:=x.ex;refine⟨_,fun i=>nX (WV (hK i)) (hg i) (hm i) boot_isinstance (iK (x1 i) (iK (vD (v:=.ty T) (hgy i) (hmy i) hb rfl hn hd) rM cG) (hs _)) (by decide) (by decide) (hs _) (mU cG sN),QC hT x2⟩
theorem JY{T U:String}{y z:Str}{p p' p'' p3:Pos}{k:Nat}(hK:∀i,(X i).K=K)(hT:T∈asked)(hU:U∈asked)(x:ME K X a f)(hs:KP a [.Tuple [.Name y p',.Name z p''] k p3])(hm:∀i,(X i).mg "isinstance"=none)(hmy:∀i,(X i).mg y=none)(hmz:∀i,(X i).mg z=none)
 (hb:bootBuiltins y=some (.type T)) (hbz:bootBuiltins z=some (.type U)) (hg:∀i,Gl (X i) "isinstance":=by intro _;rfl) (hgy:∀i,Gl (X i) y:=by intro _;rfl) (hgz:∀i,Gl (X i) z:=by intro _;rfl)
 (hn:y≠"__name__":=by decide) (hd:(y==("__debug__":Str))=false:=by decide) (hn':z≠"__name__":=by decide) (hd':(z==("__debug__":Str))=false:=by decide):ME K X (.Call (.Name "isinstance" p) [a,.Tuple [.Name y p',.Name z p''] k p3] [] pos) (zM T U f):=by
 obtain⟨t,x1,x2⟩:=x.ex;refine⟨_,fun i=>nX (WS (hK i)) (hg i) (hm i) boot_isinstance (iK (x1 i) (iK (yO (iK (vD (v:=.ty T) (hgy i) (hmy i) hb rfl hn hd) (iK (vD (v:=.ty U) (hgz i) (hmz i) hbz rfl hn' hd') rM cG) cG)) rM rD) (hs _)) (by decide) (by decide) (hs _) (mU rD sN),IX hT hU x2⟩
theorem fK(x:MT K X a ft):MT K X (.UnaryOp .Not a pos) (iH ft):=by
 obtain⟨t,x1,x2⟩:=x.ex;exact⟨_,fun i=>NU (x1 i),SV x2⟩
theorem nK{rest:List Expr}(x:MT K X a ft)(y:MW K X (.BoolOp .Or (b::rest) pos) gt):MW K X (.BoolOp .Or (a::b::rest) pos) (gOr ft gt):=by
 obtain⟨t,x1,x2⟩:=x.ex;obtain⟨u,y1,y2⟩:=y.ex;exact⟨_,fun i=>UE (x1 i) (y1 i),TV x2 y2⟩
theorem oF(x:MT K X a ft):MW K X (.BoolOp .Or [a] pos) ft:=by
 obtain⟨t,x1,x2⟩:=x.ex;exact⟨_,fun i=>SH (x1 i),x2⟩
theorem BH(x:MW K X a ft):MT K X a ft:=by
 obtain⟨t,x1,x2⟩:=x.ex;exact⟨_,fun i=>(x1 i).pt,x2⟩
theorem bU{op:CmpOp}{k:F2}(q:Q2 K X (compareOp op) k)(x:ME K X a f)(y:ME K X b g)(hm:behindInMarks op b=false:=by rfl):MT K X (.Compare a [op] [b] pos) (gB (fOp k f g)):=by
 obtain⟨r,q1,q2⟩:=q.ex;obtain⟨t,x1,x2⟩:=x.ex;obtain⟨u,y1,y2⟩:=y.ex;exact⟨_,fun i=>HS (q1 i) (x1 i) (y1 i) hm,HI (zV q2 x2 y2)⟩
theorem eT(x:ME K X a f)(he:∀(env:Env)(whole:Sem Value),isTrue a env whole=(do let v <- whole;standAt a.pos;holding [v] (truthy v)):=by intro _ _;rfl):MT K X a (gB f):=by
 obtain⟨t,x1,x2⟩:=x.ex;exact⟨_,fun i=>PR (x1 i) (he _),TU x2⟩
theorem NV(hK:∀i,(X i).K=K)(x:ME K X a f)(he:∀(env:Env)(whole:Sem Value),isTrue a env whole=(do let v <- whole;standAt a.pos;holding [v] (truthy v)):=by intro _ _;rfl):MT K X a (yE f):=by
 obtain⟨t,x1,x2⟩:=x.ex;exact⟨_,fun i=>IY (hK i) (x1 i) (he _),IH x2⟩
theorem pY{tg:Expr}{p:Pos}(hm:∀i,(X i).mg "range"=none)(x:MA K X [a] fa)(hg:∀i,Gl (X i) "range":=by intro _;rfl):MI K X tg (.Call (.Name "range" p) [a] [] pos) (kI fa):=by
 obtain⟨t,x1,x2⟩:=x.ex;exact⟨_,fun i=>BJ (hg i) (hm i) (x1 i) (x.st.1 _),HL x2⟩
theorem qK{tg:Expr}(hK:∀i,(X i).K=K)(x:ME K X a f):MI K X tg a (fJ f):=by
 obtain⟨t,x1,x2⟩:=x.ex;exact⟨_,fun i=>KQ (hK i) (x1 i),PP x2⟩
theorem gR(i:Nat){x:Str}(hN:∀j,(X j).N.Nodup)(hi:∀j,(X j).N[i]?=some x:=by intro _;rfl)(hx:∀j,Loc (X j).env.scope x:=by intro _;first|exact Or.inl rfl|exact Or.inr rfl)(hf:∀j,(X j).fn x=true\/(X j).env.scope.names.lookup x=some .local:=by intro _;first|exact .inl rfl|exact .inr rfl):
 MG K X (.Name x pos) (hName i):=⟨_,fun j=>LA (hN j) (hi j) (hx j) (hf j),uD⟩
theorem CQ{s:F3}(q:QS K X s)(x:ME K X a f)(y:ME K X b g) (hs:∀(env:Env)(v:Value),assign (.Subscript a b pos) env v=(do
 let ov <- holding [v] (eval a env);let iv <- holding [v,ov] (eval b env)
 standAt pos
 holding [v,ov,iv] (setItem ov iv v)
 release [v,ov,iv] []):=by intro _ _;rfl):MG K X (.Subscript a b pos) (hSub f g s):=by
 obtain⟨r,q1,q2⟩:=q.ex;obtain⟨t,x1,x2⟩:=x.ex;obtain⟨u,y1,y2⟩:=y.ex;exact⟨_,fun i=>QJ (x1 i) (y1 i) (q1 i) (hs _),RV q2 x2 y2⟩
theorem uW:MF K X [] kA:=⟨_,fun _=>ES,QE⟩
noncomputable abbrev LcI(ι:Type):Type:=ι×Addr×Shared×Hp×List Addr×List (Addr×Obj)
noncomputable def nM(X:ι->Cx)(N':List Str)(scope:Scope):LcI ι->Cx:=fun j=>eA (X j.1) N' scope j.2.1 j.2.2.1 j.2.2.2.1 j.2.2.2.2.1 j.2.2.2.2.2
variable{N':List Str}{cap:List (Option Nat)}{scope:Scope}{tg iter elt:Expr}{ifs:List Expr}{gf:GF}
theorem MQ(hc:∀i,(X i).calm=true)(S:∀i,lX (X i) N' cap scope)(x:MI K X tg iter fa)(y:MG K (nM X N' scope) tg gf)(z:MF K (nM X N' scope) ifs ft)(w:ME K (nM X N' scope) elt f)(hs:∀(env:Env)(x:Value),foldedSetIterable iter env x=pure x:=by intro _ _;rfl):
 ME K X (.ListComp elt [⟨tg,iter,ifs,0⟩] scope pos) (fLc cap fa gf ft f):=by
 obtain⟨t,x1,x2⟩:=x.ex;obtain⟨u,y1,y2⟩:=y.ex;obtain⟨v,z1,z2⟩:=z.ex;obtain⟨o,w1,w2⟩:=w.ex;exact⟨_,fun i=>TL (hc i) (S i) (x1 i) (fun C s H fp pn=>y1 (i,C,s,H,fp,pn)) (fun C s H fp pn=>z1 (i,C,s,H,fp,pn)) (fun C s H fp pn=>w1 (i,C,s,H,fp,pn)) (hs _),LK x2 y2 z2 w2⟩
theorem EV(i:Nat){x':Str}{pos' pos'':Pos}(hN:∀j,(X j).N.Nodup)(hc:∀i,(X i).calm=true)(S:∀i,lX (X i) N' cap scope)(x:MI K X tg iter fa)(y:MG K (nM X N' scope) tg gf)(z:MF K (nM X N' scope) ifs ft)(w:ME K (nM X N' scope) elt f)
 (hix:∀j,(X j).N[i]?=some x':=by intro _;rfl) (hsw:∀j,swapsWith (.ListComp elt [⟨tg,iter,ifs,0⟩] scope pos) (some (.Name x' pos')) pos''.line (X j).env=pure true:=by intro _;rfl) (hx:∀j,(X j).env.scope.names.lookup x'=some .local:=by intro _;rfl) (hs:∀(env:Env)(x:Value),foldedSetIterable iter env x=pure x:=by intro _ _;rfl):
 MS K X (.Assign [.Name x' pos'] (.ListComp elt [⟨tg,iter,ifs,0⟩] scope pos) pos'') (bW (fLc cap fa gf ft f) (hName i)):=by
 obtain⟨t,x1,x2⟩:=x.ex;obtain⟨u,y1,y2⟩:=y.ex;obtain⟨v,z1,z2⟩:=z.ex;obtain⟨o,w1,w2⟩:=w.ex;exact⟨_,fun j=>DG (hN j) (hix j) (hc j) (S j) (x1 j) (fun C s H fp pn=>y1 (j,C,s,H,fp,pn)) (fun C s H fp pn=>z1 (j,C,s,H,fp,pn)) (fun C s H fp pn=>w1 (j,C,s,H,fp,pn)) (hsw j) (hx j) (hs _),xQ (LK x2 y2 z2 w2) uD⟩
variable{st:Stmt}{sts:List Stmt}{sf sg:SF}
theorem bM:ML K X [] bO:=⟨_,fun _=>JC,KI⟩
theorem aP(x:MS K X st sf):ML K X [st] sf:=by
 obtain⟨t,x1,x2⟩:=x.ex;exact⟨_,fun i=>JP (x1 i),x2⟩
theorem aL(x:MS K X st sf)(y:ML K X sts sg):ML K X (st::sts) (aY sf sg):=by
 obtain⟨t,x1,x2⟩:=x.ex;obtain⟨u,y1,y2⟩:=y.ex;exact⟨_,fun i=>GD (x1 i) (y1 i),QU x2 y2⟩
theorem aR(x:ME K X e f):MS K X (.Return (some e) pos) (bG f):=by
 obtain⟨t,x1,x2⟩:=x.ex;exact⟨_,fun i=>QB (x1 i),NI x2⟩
theorem JE(x:ME K X e f)(hs:∀i,swapsWith e none pos.line (X i).env=pure false:=by intro _;rfl):MS K X (.Expr e pos) (AJ f):=by
 obtain⟨t,x1,x2⟩:=x.ex;exact⟨_,fun i=>KH (x1 i) (hs i),IW x2⟩
theorem cL{sts':List Stmt}(x:MT K X c ft)(y:ML K X sts sf)(z:ML K X sts' sg):MS K X (.If c sts sts' pos) (sIf ft sf sg):=by
 obtain⟨t,x1,x2⟩:=x.ex;obtain⟨u,y1,y2⟩:=y.ex;obtain⟨v,z1,z2⟩:=z.ex;exact⟨_,fun i=>VW (x1 i) (y1 i) (z1 i),TH x2 y2 z2⟩
theorem wC(hp:∀i,PassesOwn (model (X i).prog (X i).w) (X i).A (X i).env (X i).xe)(x:MT K X c ft)(y:ML K X sts sf):MS K X (.While c sts [] pos) (nA ft sf):=by
 obtain⟨t,x1,x2⟩:=x.ex;obtain⟨u,y1,y2⟩:=y.ex;exact⟨_,fun i=>EG (hp i) (x1 i) (y1 i),GI x2 y2⟩
theorem qC(hp:∀i,PassesOwn (model (X i).prog (X i).w) (X i).A (X i).env (X i).xe)(hc:∀i,(X i).calm=true)(x:MI K X tg iter fa)(y:MG K X tg gf)(z:ML K X sts sf)(hs:∀(env:Env)(x:Value),foldedSetIterable iter env x=pure x:=by intro _ _;rfl):MS K X (.For tg iter sts [] pos) (rV fa gf sf):=by
 obtain⟨t,x1,x2⟩:=x.ex;obtain⟨u,y1,y2⟩:=y.ex;obtain⟨v,z1,z2⟩:=z.ex;exact⟨_,fun i=>RW (hp i) (hc i) (x1 i) (y1 i) (z1 i) (hs _),OS x2 y2 z2⟩
theorem bI(i:Nat){x':Str}{pos':Pos}(hN:∀j,(X j).N.Nodup)(x:ME K X e f)(hi:∀j,(X j).N[i]?=some x':=by intro _;rfl)(hx:∀j,Loc (X j).env.scope x':=by intro _;first|exact Or.inl rfl|exact Or.inr rfl)(hs:∀j,swapsWith e (some (.Name x' pos')) pos.line (X j).env=pure false:=by intro _;rfl)
 (hf:∀j,(X j).fn x'=true\/(X j).env.scope.names.lookup x'=some .local:=by intro _;first|exact .inl rfl|exact .inr rfl):MS K X (.Assign [.Name x' pos'] e pos) (bW f (hName i)):=by
 obtain⟨t,x1,x2⟩:=x.ex;exact⟨_,fun j=>RS (hN j) (hi j) (hx j) (x1 j) (hs j) (hf j),xQ x2 uD⟩
theorem CY(i j:Nat){x' y':Str}{px py pt pt2:Pos}{kt k2:Nat}(hc:∀j,(X j).calm=true)(hN:∀j,(X j).N.Nodup)(x:MA K X [a,b] fa)(hij:i≠j:=by decide)(hi:∀k,(X k).N[i]?=some x':=by intro _;rfl)(hj:∀k,(X k).N[j]?=some y':=by intro _;rfl)(hx:∀k,(X k).env.scope.names.lookup x'=some .local:=by intro _;rfl)(hy:∀k,(X k).env.scope.names.lookup y'=some .local:=by intro _;rfl)
 (h1:∀k,swappedStores [.Tuple [.Name x' px,.Name y' py] kt pt] (.Tuple [a,b] k2 pt2) (X k).env=pure (some [x',y']):=by intro _;rfl) (h2:∀k,swapsWithSole [.Tuple [.Name x' px,.Name y' py] kt pt] (.Tuple [a,b] k2 pt2) pos.line (X k).env=pure false:=by intro _;rfl):
 MS K X (.Assign [.Tuple [.Name x' px,.Name y' py] kt pt] (.Tuple [a,b] k2 pt2) pos) (wV i j fa):=by
 obtain⟨t,x1,x2⟩:=x.ex;exact⟨_,fun k=>OY (hc k) (hN k) (hi k) (hj k) hij (hx k) (hy k) (x1 k) (h1 k) (h2 k),SJ x2⟩
theorem FP(x:ME K X e f)(y:MG K X tg gf)(h1:∀k,swapsWithSole [tg] e pos.line (X k).env=pure false:=by intro _;rfl)(h2:∀k,swappedStores [tg] e (X k).env=pure none:=by intro _;rfl)(h3:∀env:Env,(assignEach [tg] env).map (·.2)=[assign tg env]:=by intro _;rfl):MS K X (.Assign [tg] e pos) (bW f gf):=by
 obtain⟨t,x1,x2⟩:=x.ex;obtain⟨u,y1,y2⟩:=y.ex;exact⟨_,fun k=>NA (x1 k) (y1 k) (h1 k) (h2 k) (h3 _),xQ x2 y2⟩
theorem eD(hK:∀i,(X i).K=K:=by intro _;rfl):Q2 K X (binaryOp .Add) dQ:=⟨_,fun i=>XC (hK i),JU⟩
theorem tL:Q2 K X (binaryOp .Sub) pP:=⟨_,fun _=>RI,SN⟩
theorem xD:Q2 K X (binaryOp .Mult) wF:=⟨_,fun _=>HY,RX⟩
theorem xU:Q2 K X (binaryOp .FloorDiv) tH:=⟨_,fun _=>CM,IQ⟩
theorem lR:Q2 K X (binaryOp .Mod) kN:=⟨_,fun _=>SB,NB⟩
theorem oY:Q2 K X (binaryOp .Pow) pM:=⟨_,fun _=>ND,MY⟩
theorem zH:Q1 K X (unaryOp .USub) wB:=⟨_,fun _=>QH,QZ⟩
theorem xR:Q2 K X (compareOp .Lt) ltI:=⟨_,fun _=>UP,VU⟩
theorem DJ:Q2 K X (compareOp .LtE) leI:=⟨_,fun _=>UB,UC⟩
theorem XJ:Q2 K X (compareOp .Gt) gtI:=⟨_,fun _=>UO,UQ⟩
theorem VC:Q2 K X (compareOp .GtE) geI:=⟨_,fun _=>UG,TM⟩
theorem gX(hK:∀i,(X i).K=K)(hu:∀i,(X i).A.units+64<cLine):Q2 K X (compareOp .Eq) (eqX false):=⟨_,fun i=>kEq (hK i) (hu i),NJ⟩
theorem BF(hK:∀i,(X i).K=K)(hu:∀i,(X i).A.units+64<cLine):Q2 K X (compareOp .NotEq) (eqX true):=⟨_,fun i=>kNe (hK i) (hu i),NN⟩
theorem bP(hK:∀i,(X i).K=K:=by intro _;rfl):QI K X ixF:=⟨_,fun i=>kIx (hK i),NF⟩
theorem oD(hK:∀i,(X i).K=K:=by intro _;rfl):QN K X (.builtin "len") gF:=⟨_,fun i=>XS (hK i),ID⟩
theorem pU(hK:∀i,(X i).K=K):QN K X (.type "tuple") eZ:=⟨_,fun i=>RP (hK i),BN⟩
theorem VL(hK:∀i,(X i).K=K)(hc:∀i,(X i).calm=true):QN K X (.builtin "all") sA:=⟨_,fun i=>WY (hK i) (hc i),HZ⟩
theorem LM:QS K X uN:=⟨_,fun _=>set_list,QF⟩
end
section
variable{P:Program}{w:World}{K:Fg}{mg:Str->Option Value}
theorem Def.okG{base:Heap}{x:Str}{st:Stmt}{N ps:List Str}{k:Nat}{b:SF}{q:Bool}(D:Def K mg x st)(S:aT N ps (aG st))
 (hb:∀(kV doc pm:Value)(an:Option Addr)(cdv ct:Value)(us:List Value),us.length=ps.length->bindArgs (PySem.W.fnOf x x (fI st) (cK st) (aG st) .none kV doc pm an cdv ct) ⟨us,[]⟩=pure (ps.zip us))
 (hbody:∀(f:Addr)(cdv:Value)(A:Around)(outer:List Env)(s:Shared)(H:Hp)(E:XK),dU k (A.deeper (envOfC x (aG st) s.heap.objs.size f cdv)) q->
  ML K (fun _:Unit=>(pN CX0 P w K mg base N x (aG st) f cdv A outer s H E q).nox) (cK st) b):Callee P w K mg base (k+1) x ps (spM K (fnF ps.length N.length b)) q:=
 D.okM S hb fun f cdv A outer s H E hr=>by
  obtain⟨t,h1,h2⟩:=(hbody f cdv A outer s H E hr).ex;exact⟨t,h1 (),h2⟩
theorem Def.okLG{x p:Str}{st:Stmt}{N:List Str}{k:Nat}{b:SF}{F:FN}(D:Def K mg x st)(S:aT N [p] (aG st))(hF:F=fnF 1 N.length b)
 (hb:∀(kV doc pm:Value)(an:Option Addr)(cdv ct:Value)(us:List Value),us.length=[p].length->bindArgs (PySem.W.fnOf x x (fI st) (cK st) (aG st) .none kV doc pm an cdv ct) ⟨us,[]⟩=pure ([p].zip us))
 (hbody:∀(base:Heap)(f:Addr)(cdv:Value)(A:Around)(outer:List Env)(s:Shared)(H:Hp)(E:XK),dU k (A.deeper (envOfC x (aG st) s.heap.objs.size f cdv))->
  ML K (fun _:Unit=>(pN CX0 P w K mg base N x (aG st) f cdv A outer s H E).nox) (cK st) b):
 ∃f fd,mg x=some (.ref f)/\(∀(s:Shared)(u:Value),BindsTo s fd ⟨[u],[]⟩ [(p,u)])/\∀base,mS P w K mg base CX0 (k+1) f fd [p] (spM K F):=
 D.okL S hF hb fun base f cdv A outer s H E hr=>by
  obtain⟨t,h1,h2⟩:=(hbody base f cdv A outer s H E hr).ex;exact⟨t,h1 (),h2⟩
end
end L2
namespace HT
open PySem PyProof.Rows PySem.Spec
section
variable{prog:Program}{w:World}{A:Around}{E:Value->Shared->Prop}{s:Shared}
theorem getItem_tuple_whole{t sl:Addr}{items:Array Value}{vl vu:Value}{lo hi:Option Int}{Q:Value->Shared->Prop}(ht:IsTup s.heap t items)(hs:s.heap.IsSliceOf sl vl vu .none)(pl:IsPart vl lo)(pu:IsPart vu hi)
 (hw:sIx items.size 0 lo=0/\sIx items.size items.size hi=items.size) (h:Q (.ref t) s):wpAny (model prog w) A (getItem (.ref t) (.ref sl)) Q E s:=by
 obtain⟨os,hos,hcs,hds⟩:=id hs;have hTs:s.TypeIs (.ref sl) "slice":=⟨os,hos,hcs⟩;unfold getItem
 try with_reducible refine J4 ?_
 first|refine A0 (A7 ?_)|skip
 refine A0 (wpAny_sequenceKey ht.typeIs (by decide) ?_)
 refine A0 (wpAny_callSpecial?_slot (name:=Str.ofString "__getitem__") ht.typeIs F5
  (wpAny_call_entry F5 ht.typeIs entry_tuple_getitem ?_ (args_tuple_getitem _ _)))
 show wpAny _ _ (Builtin.Tuple.tupleItemsOf (.ref t) >>= _) _ _ s;refine A0 (tupleItemsOf_ ht ?_);refine A0 (wpAny_typeOf hTs ?_);rw[A6 (by decide)];refine A0 (jI hs pl pu ?_)
 have hyes:(((sIx items.size 0 lo:Nat):Int)==0&&(1:Int)==1&&(sIx items.size items.size hi-sIx items.size 0 lo)==items.size)=true:=by
  rw[hw.1,hw.2];simp
 show wpAny _ _ (if (((sIx items.size 0 lo:Nat):Int)==0&&(1:Int)==1&&(sIx items.size items.size hi-sIx items.size 0 lo)==items.size)=true then _ else _) _ _ s;rw[A6 hyes];refine A0 (m:=Builtin.Tuple.tupleIsExact (.ref t)) ?_;unfold Builtin.Tuple.tupleIsExact;refine A0 (wpAny_typeOf ht.typeIs (A7 ?_));rw[A6 (by decide)];exact A0 (wpAny_rule (A7 ⟨_,rfl,A7 h⟩))
end
end HT
namespace L2
variable{W:Wd}{K:Fg}{H:Hp}{M:Sto}{pos:Pos}
open PySem PySem.Spec PyProof.Rows
noncomputable def TN(K:Fg):V->Option Int->Option Int->Hp->VK->Prop:=fun x lo hi H Q=>∃a xs,x=.ref a/\SqT K H a xs/\(HT.sIx xs.length 0 lo=0/\HT.sIx xs.length xs.length hi=xs.length)/\Q (.ref a) H
theorem GO{X:Cx}:SlR X (TN X.K):=by
 intro pins s σ H x v vl vu lo hi sl Q I rx hs pl pu h;obtain⟨a,xs,rfl,hx,hw,q⟩:=h;cases rx;obtain⟨its,r,ht,hz⟩:=I.tuple hx;have hlen:its.toArray.size=xs.length:=by rw[B9];exact r.length.symm
 refine⟨"tuple",_,PyProof.Rows.slot_tuple_getitem.lookup,ht.typeIs,?_⟩;exact HT.getItem_tuple_whole ht hs pl pu (by rw[hlen];exact hw) ⟨.ref a,H,I,rfl,q⟩
noncomputable def eP{α:Type}(xs:List α)(lo hi:Option Int):List α:=(xs.drop (HT.sIx xs.length 0 lo)).take (HT.sIx xs.length xs.length hi-HT.sIx xs.length 0 lo)
noncomputable abbrev OF:=Ga->Sto->Option (Option Int×Sto)
noncomputable def cP:OF:=fun _ M=>some (none,M)
noncomputable def asI:CD->Option Int
 |.d (.int i)=>some i
 |_=>none
noncomputable def fZ(f:EF):OF:=fun γ M=>(f γ M).bind fun r=>(asI r.1).bind fun i=>some (some i,r.2)
noncomputable def slF(x:CD)(lo hi:Option Int)(M:Sto):Option (CD×Sto):=match x with
 |.d (.list ds)=>some (.d (.list (eP ds lo hi)),M)
 |.d (.tuple ds)=>some (.d (.tuple (eP ds lo hi)),M)
 |.c i=>match M[i]? with
  |some (.lst xs)=>(lZ (eP xs lo hi)).bind fun ds=>some (.d (.list ds),M)
  |_=>none
 |_=>none
noncomputable def fSl(f:EF)(l u:OF):EF:=fun γ M=>(f γ M).bind fun r=>(l γ r.2).bind fun p=>(u γ p.2).bind fun q=>slF r.1 p.1 q.1 q.2
noncomputable def OK(K:Fg):V->Option Int->Option Int->Hp->VK->Prop:=fun x lo hi H Q=>TB K x lo hi H Q\/TJ K x lo hi H Q\/TN K x lo hi H Q
theorem kSl{X:Cx}(h:X.K=K):SlR X (OK K):=by subst h;exact sl_list.or (sl_tup.or GO)
section
variable{K:Fg}
noncomputable def SO(K:Fg)(t:TO)(f:OF):Prop:=∀γ M b M',f γ M=some (b,M')->∀(W:Wd)(H:Hp)(σ:St)(Q:Option Int->Hp->Prop),Good K W M H->dE K W γ σ->(∀W' H',W.Ext W'->Good K W' M' H'->Q b H')->t σ H Q
theorem IS:SO K yZ cP:=by
 intro γ M x M' hh W H σ Q G R k;cases hh;exact k W H (.refl _) G
theorem QG{x:CD}{i:Int}(h:asI x=some i):x=.d (.int i):=by
 cases x with
 |c n=>cases h
 |t n=>cases h
 |f n=>cases h
 |g _=>cases h
 |d x=>cases x<;>first|cases h;rfl|cases h
theorem HK{ta:TE}{f:EF}(a:SE K ta f):SO K (LQ ta) (fZ f):=by
 intro γ M x M' hh W H σ Q G R k;obtain⟨⟨y,M1⟩,h1,hh⟩:=aK hh;obtain⟨i,h2,hh⟩:=aK hh;cases hh;refine a _ _ _ _ h1 W H σ _ G R fun v W1 H1 e1 G1 r1=>?_;have hy:y=_:=QG h2;subst hy;exact⟨i,r1,k W1 H1 e1 G1⟩
theorem aM.drop{H:Hp}:∀{ds:List PyData}{vs:List V}(n:Nat),aM K H ds vs->aM K H (ds.drop n) (vs.drop n)
 |_,_,0=>fun h=>h
 |[],vs,n+1=>fun h=>by rw[show vs=[]from h];rfl
 |d::ds,vs,n+1=>fun h=>by
  obtain⟨v,r,rfl,_,h3⟩:=h;exact aM.drop n h3
theorem aM.take{H:Hp}:∀{ds:List PyData}{vs:List V}(n:Nat),aM K H ds vs->aM K H (ds.take n) (vs.take n)
 |_,_,0=>fun h=>rfl
 |[],vs,n+1=>fun h=>by rw[show vs=[]from h];rfl
 |d::ds,vs,n+1=>fun h=>by
  obtain⟨v,r,rfl,h2,h3⟩:=h;exact⟨v,r.take n,rfl,h2,aM.take n h3⟩
theorem aM.cut{ds:List PyData}{vs:List V}(h:aM K H ds vs)(lo hi:Option Int):aM K H (eP ds lo hi) (oK vs lo hi):=by
 unfold eP oK;rw[h.length];exact(h.drop _).take _
theorem rT{α β:Type}{R:α->β->Prop}:∀{xs:List α}{ys:List β}(n:Nat),Paired R xs ys->Paired R (xs.drop n) (ys.drop n)
 |_,_,0,h=>h
 |_,_,_+1,.nil=>.nil
 |_,_,n+1,.cons _ t=>rT n t
theorem qR{α β:Type}{R:α->β->Prop}:∀{xs:List α}{ys:List β}(n:Nat),Paired R xs ys->Paired R (xs.take n) (ys.take n)
 |_,_,0,h=>.nil
 |_,_,_+1,.nil=>.nil
 |_,_,n+1,.cons r t=>.cons r (qR n t)
theorem BA{xs:List CD}{vs:List V}(h:cJ K W xs vs)(lo hi:Option Int):cJ K W (eP xs lo hi) (oK vs lo hi):=by
 unfold eP oK;rw[Paired.len h];exact qR _ (rT _ h)
theorem GP{x:CD}{lo hi:Option Int}{z:CD}{M':Sto}(h:slF x lo hi M=some (z,M')){v:V}{Q:VK}(G:Good K W M H)(rx:cR K W x v)(k:∀w W' H',W.Ext W'->Good K W' M' H'->cR K W' z w->Q w H'):OK K v lo hi H Q:=by
 unfold slF at h;split at h
 .rename_i ds;cases h;obtain⟨p,us,rfl,hq,hr⟩:=(show ∃a us,_=V.ref a/\SqL K W.F a us/\aM K W.F ds us from rx);refine .inl ⟨p,us,rfl,G.fh.seq hq,fun l hl=>?_⟩;obtain⟨e2,G2⟩:=G.lay (o:=.lst (oK us lo hi)) hl;exact k _ _ _ e2 G2 ⟨l,_,rfl,SqL.of bB,aM.same e2.ff _ _ (hr.cut lo hi)⟩
 .rename_i ds;cases h;obtain⟨p,us,rfl,hq,hr⟩:=(show ∃a us,_=V.ref a/\SqT K W.F a us/\aM K W.F ds us from rx);by_cases hw:HT.sIx us.length 0 lo=0/\HT.sIx us.length us.length hi=us.length
  .refine .inr (.inr ⟨p,us,rfl,G.fh.seqT hq,hw,?_⟩)
   have e:eP ds lo hi=ds:=by
    unfold eP;rw[hr.length,hw.1,hw.2,<- hr.length];simp
   rw[e]at k;exact k _ W H (.refl _) G ⟨p,us,rfl,hq,hr⟩
  .refine .inr (.inl ⟨p,us,rfl,G.fh.seqT hq,hw,fun l hl=>?_⟩);obtain⟨e2,G2⟩:=G.lay (o:=.tup (oK us lo hi)) hl;exact k _ _ _ e2 G2 ⟨l,_,rfl,SqT.of bB,aM.same e2.ff _ _ (hr.cut lo hi)⟩
 .rename_i i;split at h
  .rename_i xs hx;obtain⟨ds,h1,h⟩:=aK h;cases h;obtain⟨us,hv,hr⟩:=G.lstAt hx;rw[rx.2];refine .inl ⟨_,us,rfl,SqL.of hv,fun l hl=>?_⟩;obtain⟨e2,G2⟩:=G.lay (o:=.lst (oK us lo hi)) hl;exact k _ _ _ e2 G2 ⟨l,_,rfl,SqL.of bB,aM.same e2.ff _ _ (fO h1 (BA hr lo hi))⟩
  .cases h
 .cases h
theorem WG{ta:TE}{f:EF}{tl th:TO}{l u:OF}(a:SE K ta f)(b:SO K tl l)(c:SO K th u):SE K (tSl (OK K) ta tl th) (fSl f l u):=by
 intro γ M x M' hh W H σ Q G R k;obtain⟨⟨y,M1⟩,h1,hh⟩:=aK hh;obtain⟨⟨p,M2⟩,h2,hh⟩:=aK hh;obtain⟨⟨q,M3⟩,h3,hh⟩:=aK hh;refine a _ _ _ _ h1 W H σ _ G R fun v W1 H1 e1 G1 r1=>?_;refine b _ _ _ _ h2 W1 H1 σ _ G1 (R.up e1) fun W2 H2 e2 G2=>?_;refine c _ _ _ _ h3 W2 H2 σ _ G2 (R.up (e1.trans e2)) fun W3 H3 e3 G3=>?_;exact GP hh G3 (r1.up (e2.trans e3)) fun w W4 H4 e4 G4 r4=>k w W4 H4 (((e1.trans e2).trans e3).trans e4) G4 r4
noncomputable def FR:FN:=fun xs M=>match xs with
 |[.d (.int i)]=>some (.d (.int i),M)
 |[.d (.bool b)]=>some (.d (.int (if b then 1 else 0)),M)
 |_=>none
theorem NP:PN K (fun xs H Q=>(∃i,xs=[.int i]/\Q (.int i) H)\/∃k,xs=[.bl k]/\Q (.int (if k then 1 else 0)) H) FR:=by
 intro xs M z M' h W H vs Q G r k;unfold FR at h;split at h
 .rename_i i;cases h;rcases r with _|⟨r1,_|_⟩;exact .inl ⟨i,by rw[show _=V.int i from r1],k _ W H (.refl _) G rfl⟩
 .rename_i b;cases h;rcases r with _|⟨r1,_|_⟩;exact .inr ⟨b,by rw[show _=V.bl b from r1],k _ W H (.refl _) G rfl⟩
 .cases h
noncomputable def tyB(T:String)(M:Sto):CD->Bool
 |.d (.list _)=>T=="list"
 |.d (.str _)=>T=="str"
 |.c i=>match M[i]? with
  |some (.lst _)=>T=="list"
  |some (.dk _)=>T=="dict"
  |some (.dt _)=>T=="dict"
  |_=>false
 |_=>false
theorem NM{T:String}{x:CD}{v:V}(h:tyB T M x=true)(G:Good K W M H)(r:cR K W x v):tyV K T v H:=by
 unfold tyB at h;split at h
 .rename_i ds;obtain⟨p,us,rfl,hq,hr⟩:=(show ∃a us,_=V.ref a/\SqL K W.F a us/\aM K W.F ds us from r);exact .inl ⟨eq_of_beq h,us,G.fh.seq hq⟩
 .rename_i x;rw[show v=.str x from r];exact eq_of_beq h
 .rename_i i;rw[r.2];split at h
  .rename_i xs hx;obtain⟨us,hv,hr⟩:=G.lstAt hx;exact .inl ⟨eq_of_beq h,us,SqL.of hv⟩
  .rename_i kvs hx;obtain⟨_,o,g2,g3⟩:=G.cs i _ hx (by intro z;cases z);cases o with
   |dK us=>exact .inr (.inr (.inl ⟨eq_of_beq h,.inl ⟨us,g2⟩⟩))
   |_=>exact False.elim g3
  .rename_i kvs hx;obtain⟨_,o,g2,g3⟩:=G.cs i _ hx (by intro z;cases z);cases o with
   |dT us=>exact .inr (.inr (.inl ⟨eq_of_beq h,.inr ⟨us,g2⟩⟩))
   |_=>exact False.elim g3
  .cases h
 .cases h
noncomputable abbrev FM:=CD->List CD->Sto->Option (CD×Sto)
noncomputable def AC(T:String)(h:FM)(f:EF)(fa:AF):EF:=fun γ M=>(f γ M).bind fun r=>if tyB T r.2 r.1=true then(fa γ r.2).bind fun q=>h r.1 q.1 q.2 else none
noncomputable def PM(K:Fg)(r:V->List V->Hp->VK->Prop)(f:FM):Prop:=∀x xs M z M',f x xs M=some (z,M')->∀(W:Wd)(H:Hp)(v:V)(vs:List V)(Q:VK),Good K W M H->cR K W x v->cJ K W xs vs->(∀w W' H',W.Ext W'->Good K W' M' H'->cR K W' z w->Q w H')->r v vs H Q
theorem KZ{T:String}{r:V->List V->Hp->VK->Prop}{h:FM}{ta:TE}{f:EF}{tA:TA}{fa:AF}(p:PM K r h)(a:SE K ta f)(b:SA K tA fa):SE K (tBM K T r ta tA) (AC T h f fa):=by
 intro γ M x M' hh W H σ Q G R k;obtain⟨⟨y,M1⟩,h1,hh⟩:=aK hh;by_cases hT:tyB T M1 y=true
 .have hh:(if tyB T M1 y=true then(fa γ M1).bind fun q=>h y q.1 q.2 else none)=some (x,M'):=hh;rw[A6 hT]at hh;obtain⟨⟨ys,M2⟩,h2,hh⟩:=aK hh;refine a _ _ _ _ h1 W H σ _ G R fun v W1 H1 e1 G1 r1=>⟨NM hT G1 r1,?_⟩;refine b _ _ _ _ h2 W1 H1 σ _ G1 (R.up e1) fun vs W2 H2 e2 G2 r2=>?_;exact p _ _ _ _ _ hh W2 H2 v vs Q G2 (r1.up e2) r2 fun w W3 H3 e3 G3 r3=>k w W3 H3 ((e1.trans e2).trans e3) G3 r3
 .have hh:(if tyB T M1 y=true then(fa γ M1).bind fun q=>h y q.1 q.2 else none)=some (x,M'):=hh;rw[B0 hT]at hh;cases hh
noncomputable def lT:FM:=fun x ys M=>match x,ys with
 |.c i,[y]=>match M[i]? with
  |some (.lst xs)=>if xs.length<sizeLine then some (.d .none,M.set i (.lst (xs++[y])))else none
  |_=>none
 |_,_=>none
theorem BY:PM K zW lT:=by
 intro x ys M z M' h W H v vs Q G rx rs k;unfold lT at h;split at h
 .rename_i i y;split at h
  .rename_i xs hx;by_cases hl:xs.length<sizeLine
   .rw[A6 hl]at h;cases h;obtain⟨us,hv,hr⟩:=G.lstAt hx;rcases rs with _|⟨r1,_|_⟩;refine⟨W.α i,us,_,rx.2,rfl,hv,by rw[<- Paired.len hr];exact hl,?_⟩;exact k _ W _ (.refl _) (G.set hx (by intro q;cases q) (c':=.lst (xs++[y])) (show cJ K W _ _ from Paired.app hr (.cons r1 .nil))) rfl
   .rw[B0 hl]at h;cases h
  .cases h
 .cases h
end
section
variable{ι:Type}{K:Fg}{X:ι->Cx}{a b c e o:Expr}{es:List Expr}{f g h:EF}{fa:AF}{pos:Pos}
structure MO(K:Fg)(X:ι->Cx)(e:Option Expr)(f:OF):Prop where
 ex:∃t,(∀i,PO (X i) e t)/\SO K t f
theorem fV:MO K X none cP:=⟨_,fun _=>HG,IS⟩
theorem fR(x:ME K X e f):MO K X (some e) (fZ f):=by
 obtain⟨t,x1,x2⟩:=x.ex;exact⟨_,fun i=>IM (x1 i),HK x2⟩
theorem mG{lo hi:Option Expr}{l u:OF}{p2:Pos}(hK:∀i,(X i).K=K)(x:ME K X a f)(y:MO K X lo l)(z:MO K X hi u):ME K X (.Subscript a (.Slice lo hi none p2) pos) (fSl f l u):=by
 obtain⟨t,x1,x2⟩:=x.ex;obtain⟨t',y1,y2⟩:=y.ex;obtain⟨t'',z1,z2⟩:=z.ex;exact⟨_,fun i=>GH (kSl (hK i)) (x1 i) (y1 i) (z1 i),WG x2 y2 z2⟩
theorem WU:QN K X (.type "int") FR:=⟨_,fun _=>BP,NP⟩
theorem AR{apos cpos:Pos}(hK:∀i,(X i).K=K)(x:ME K X o f)(y:MA K X [e] fa)(hb:∀env:Env,attributeBase o "append" env (eval o env)=eval o env:=by intro _;rfl)(hl:(apos.endLine==cpos.line)=true:=by rfl):
 ME K X (.Call (.Attribute o "append" apos) [e] [] cpos) (AC "list" lT f fa):=by
 obtain⟨t,x1,x2⟩:=x.ex;obtain⟨u,y1,y2⟩:=y.ex;refine⟨_,fun i=>?_,KZ BY x2 y2⟩;have:=WL PySem.F.plainAttrs_list PySem.F.slot_list_append PySem.F.type_list_append CF (x1 i) (y1 i) (apos:=apos) (cpos:=cpos) (hb _) (by rw[y.st.1];rfl) hl (y.st.1 _) (y.st.2.plain _ _);rw[hK i]at this;exact this
end
noncomputable def LR(K:Fg):List V->Hp->VK->Prop:=fun xs H Q=>∃x d,xs=[x]/\Rep K H d x/\d.showable=true/\d.depth<=64/\d.shown.length<=sizeLine/\Q (.str d.shown) H
theorem WR{X:Cx}(hK:X.K=K)(hg:X.A.guards=some [])(hu:X.A.units+200<cLine):gC X (.builtin "repr") (LR K):=by
 subst hK;intro pins s σ H xs us Q I r h;obtain⟨x,d,rfl,hd,hs,hp,hz,q⟩:=h;obtain⟨u,rfl,ru⟩:=vals1 r
 have big:∀a,u=.ref a->wpAny (model X.prog X.w) X.A (call (.builtin "repr") [u]) (EP X pins σ Q) X.xe s:=fun a e=>by
  subst e;obtain⟨as,hr,hn⟩:=Rep.reads' I d x _ hd ru;exact repr_of_reads' hr hs (fun _=>hn) hg (by omega) (fun _ _ e=>e) (fun h' u' tk hk=>⟨.str d.shown,H,I.kept (h':=h') (t':=tk) hk,⟨_,rfl⟩,q⟩) hz
 cases d with
 |none=>
  rw[show x=.non from hd]at ru;cases (show u=Value.none from ru);exact PySem.P.repr_of_none ⟨.str _,H,I.tok _,⟨_,rfl⟩,q⟩
 |bool b=>
  rw[show x=.bl b from hd]at ru;cases (show u=Value.bool b from ru);refine PySem.P.repr_of_bool ⟨.str _,H,I.tok _,⟨_,rfl⟩,?_⟩;cases b<;>exact q
 |int i=>
  rw[show x=.int i from hd]at ru;obtain⟨t,rfl⟩:=(show ∃t,u=Value.int i t from ru);exact PySem.P.repr_of_int (B8 hs) ⟨.str _,H,I.tok _,⟨_,rfl⟩,q⟩
 |str y=>
  rw[show x=.str y from hd]at ru;obtain⟨t,rfl⟩:=(show ∃t,u=Value.str y t from ru);exact PySem.P.repr_of_str ⟨.str _,H,I.tok _,⟨_,rfl⟩,q⟩ hz
 |list ds=>obtain⟨a,vs,e,_,_⟩:=hd;subst e;exact big a ru
 |tuple ds=>obtain⟨a,vs,e,_,_⟩:=hd;subst e;exact big a ru
 |dict ds=>obtain⟨a,vs,e,_,_⟩:=hd;subst e;exact big a ru
noncomputable def lU(d:PyData):Bool:=d.showable&&decide (d.depth<=64)&&decide (d.shown.length<=sizeLine)
noncomputable def zS:FN:=fun xs M=>match xs with
 |[.d x]=>if lU x=true then some (.d (.str x.shown),M)else none
 |_=>none
theorem dU.u200{k:Nat}{A:Around}(r:dU k A):A.units+200<cLine:=by have:=r.un;omega
theorem Def.okNone{P:Program}{w:World}{mg:Str->Option Value}{base:Heap}{x:Str}{st:Stmt}{N ps:List Str}{k:Nat}(D:Def K mg x st)(S:aT N ps (aG st))
 (hb:∀(kV doc pm:Value)(an:Option Addr)(cdv ct:Value)(us:List Value),us.length=ps.length->bindArgs (PySem.W.fnOf x x (fI st) (cK st) (aG st) .none kV doc pm an cdv ct) ⟨us,[]⟩=pure (ps.zip us)):
 Callee P w K mg base (k+1) x ps (spM K fun _ _=>none):=by
 refine D.ok S hb (fun vs H Q E h=>?_) fun f cdv A outer s H vs Q E hr h=>?_
 .obtain⟨xs,M,W,y,M',G,R,hf,_⟩:=h;cases hf
 .obtain⟨xs,M,W,y,M',G,R,hf,_⟩:=h;cases hf
theorem Good.freeze(g:Good K W M H){i:Nat}{c:Cell}{o':HO}(hi:M[i]?=some c)(hc:c≠.dead):
 W.Ext { W with F:=upd W.F (W.α i) o' }/\Good K { W with F:=upd W.F (W.α i) o' } (M.set i .dead) (upd H (W.α i) o'):=by
 obtain⟨h1,o,h2,h3⟩:=g.cs i c hi hc;have lt:i<M.length:=(List.getElem?_eq_some_iff.mp hi).1;have e:W.Ext { W with F:=upd W.F (W.α i) o' }:=⟨gV.upd h1,A4 _,fun _ _=>rfl⟩
 have at_:∀j d,(M.set i .dead)[j]?=some d->d≠.dead->j≠i/\M[j]?=some d:=fun j d h hd=>by
  by_cases q:i=j
  .subst q;rw[E6 lt]at h;exact absurd (C5 h).symm hd
  .rw[J1 q]at h;exact⟨fun z=>q z.symm,h⟩
 refine⟨e,?_,by show W.n=_;rw[g.n,List.length_set],fun j d hj hd=>?_,fun j k d1 d2 hj hk e1 e2 he=>?_⟩
 .intro b u hb;have hb:upd W.F (W.α i) o' b=some u:=hb;by_cases q:b=W.α i
  .subst q;rw[bB]at hb;rw[bB];exact hb
  .rw[aV q]at hb;rw[aV q];exact g.fh b u hb
 .obtain⟨q,h⟩:=at_ j d hj hd;obtain⟨k1,u,k2,k3⟩:=g.cs j d h hd;have ne:W.α j≠W.α i:=fun z=>q (g.inj j i d c h hi hd hc z);exact⟨by show upd W.F (W.α i) o' (W.α j)=none;rw[aV ne];exact k1,u,by rw[aV ne];exact k2,k3.up e⟩
 .exact g.inj j k d1 d2 (at_ j d1 hj e1).2 (at_ k d2 hk e2).2 e1 e2 he
noncomputable def xY:EF:=fun _ M=>some (.d (.dict []),M)
theorem FW:SE K EL xY:=by
 intro γ M x M' hh W H σ Q G R k;cases hh;intro p hp;obtain⟨e2,G2⟩:=G.lay (o:=.dK []) hp;exact k _ _ _ e2 G2 ⟨p,[],rfl,bB,rfl⟩
noncomputable def uT:List (EF×EF)->Ga->Sto->Option (List (CD×CD)×Sto)
 |[],_,M=>some ([],M)
 |(f,g)::r,γ,M=>(f γ M).bind fun a=>(g γ a.2).bind fun b=>(uT r γ b.2).bind fun q=>some ((a.1,b.1)::q.1,q.2)
noncomputable def keyOf:CD->Option Key
 |.d (.int i)=>some (.inl i)
 |.d (.str x)=>some (.inr x)
 |_=>none
noncomputable def keyed:List (CD×CD)->Option (List (Key×PyData))
 |[]=>some []
 |(k,.d x)::r=>(keyOf k).bind fun k'=>(keyed r).bind fun q=>some ((k',x)::q)
 |_=>none
noncomputable def vU(fs:List (EF×EF)):EF:=fun γ M=>(uT fs γ (M++[.dk []])).bind fun r=>match r.2[M.length]? with
 |some (.dk [])=>(keyed r.1).bind fun kvs=>if kvs.length<=15/\(kvs.map (·.1)).Nodup then some (.d (.dict (kvs.map fun p=>(NX p.1,p.2))),r.2.set M.length .dead)else none
 |_=>none
section
variable{K:Fg}
noncomputable def SPs(K:Fg):List (TE×TE)->List (EF×EF)->Prop:=Paired fun t f=>SE K t.1 f.1/\SE K t.2 f.2
theorem DB:∀{ts:List (TE×TE)}{fs:List (EF×EF)},SPs K ts fs->∀{γ:Ga}{M:Sto}{xs:List (CD×CD)}{M':Sto},uT fs γ M=some (xs,M')->∀{W:Wd}{H:Hp}{σ:St}{Q:List (V×V)->Hp->Prop},Good K W M H->dE K W γ σ->
 (∀vs W' H',W.Ext W'->Good K W' M' H'->Paired (fun a b=>cR K W' a.1 b.1/\cR K W' a.2 b.2) xs vs->Q vs H')->uI ts σ H Q
 |_,_,.nil,γ,M,xs,M',h,W,H,σ,Q,G,R,k=>by
  cases h;exact k [] W H (.refl _) G .nil
 |_,_,.cons s1 s2,γ,M,xs,M',h,W,H,σ,Q,G,R,k=>by
  obtain⟨⟨a,M1⟩,h1,h⟩:=aK h;obtain⟨⟨b,M2⟩,h2,h⟩:=aK h;obtain⟨⟨q,M3⟩,h3,h⟩:=aK h;cases h;refine s1.1 _ _ _ _ h1 W H σ _ G R fun v W1 H1 e1 G1 r1=>?_;refine s1.2 _ _ _ _ h2 W1 H1 σ _ G1 (R.up e1) fun u W2 H2 e2 G2 r2=>?_;refine DB s2 h3 G2 (R.up (e1.trans e2)) fun vs W3 H3 e3 G3 r3=>?_;exact k _ W3 H3 ((e1.trans e2).trans e3) G3 (.cons ⟨r1.up (e2.trans e3),r2.up e3⟩ r3)
theorem sS{x:CD}{k:Key}{v:V}(h:keyOf x=some k)(r:cR K W x v):v=kV k:=by
 unfold keyOf at h;split at h
 .cases h;exact r
 .cases h;exact r
 .cases h
theorem tP{W:Wd}:∀{xs:List (CD×CD)}{kvs:List (Key×PyData)}{vs:List (V×V)},keyed xs=some kvs->Paired (fun a b=>cR K W a.1 b.1/\cR K W a.2 b.2) xs vs->
 ∃us:List (Key×V),vs=us.map (fun p=>(kV p.1,p.2))/\us.map (·.1)=kvs.map (·.1)/\jF K W.F (kvs.map fun p=>(NX p.1,p.2)) us
 |[],kvs,vs,h,r=>by
  cases h;cases r;exact⟨[],rfl,rfl,rfl⟩
 |(k,.c _)::_,kvs,vs,h,r=>by cases h
 |(k,.d x)::xs,kvs,vs,h,r=>by
  obtain⟨k',h1,h⟩:=aK (show(keyOf k).bind _=_ from h);obtain⟨q,h2,h⟩:=aK h;cases h;cases r with
  |@cons _ b _ vs' r1 r2=>
   obtain⟨us,e1,e2,e3⟩:=tP h2 r2;refine⟨(k',b.2)::us,?_,?_,k',b.2,us,rfl,rfl,r1.2,e3⟩
   .rw[B6,<- e1,<- sS h1 r1.1]
   .rw[B6,B6,e2]
theorem tD:∀(more acc:List (Key×V)),((acc++more).map (·.1)).Nodup->kZ acc more=acc++more
 |[]=>fun acc _=>by simp[kZ]
 |p::more=>fun acc h=>by
  have hn:uZ acc p.1=none:=by
   unfold uZ;rw[Option.map_eq_none_iff,List.find?_eq_none];intro x hx hd;have:x.1=p.1:=B8 hd;rw[E9,List.nodup_append]at h;exact h.2.2 x.1 (List.mem_map_of_mem hx) p.1 (by simp) this
  show kZ (putK acc p.1 p.2) more=_;rw[EI _ hn,tD more _ (by rw[J0];exact h),J0];rfl
theorem KR{ts:List (TE×TE)}{fs:List (EF×EF)}(sp:SPs K ts fs):SE K (LN ts) (vU fs):=by
 intro γ M x M' hh W H σ Q G R k;obtain⟨⟨xs,M1⟩,h1,hh⟩:=aK hh;intro p hp;have G1:=G.new hp (c:=.dk []) (o:=.dK []) (show Paired _ [] []from .nil);have e1:=W.ext_more p;refine DB sp h1 G1 (R.up e1) fun vs W2 H2 e2 G2 r2=>?_;dsimp only at hh;split at hh
 .rename_i hM;obtain⟨kvs,h2,hh⟩:=aK hh;by_cases hc:kvs.length<=15/\(kvs.map (·.1)).Nodup
  .rw[A6 hc]at hh;cases hh
   have al:W2.α M.length=p:=by
    rw[e2.al M.length (by show M.length<W.n+1;rw[G.n];exact F8 _)];show(if M.length=W.n then p else _)=p;rw[A6 G.n.symm]
   obtain⟨_,o,g2,g3⟩:=G2.cs _ _ hM (by intro z;cases z);rw[al]at g2
   have ho:o=.dK []:=by
    cases o with
    |dK us=>cases g3;rfl
    |_=>exact False.elim g3
   subst ho;obtain⟨us,z1,z2,z3⟩:=tP h2 r2;have nd:(us.map (·.1)).Nodup:=by rw[z2];exact hc.2
   have hl:us.length<=15:=by
    have:=J6 List.length z2;rw[A3,A3]at this;omega
   refine⟨g2,us,z1,hl,?_⟩;rw[tD us [] (by simpa using nd),List.nil_append];obtain⟨e3,G3⟩:=G2.freeze (o':=.dK us) hM (by intro z;cases z);rw[al]at e3 G3;exact k _ _ _ ((e1.trans e2).trans e3) G3 ⟨p,us,rfl,bB,jF.same e3.ff _ _ z3⟩
  .rw[B0 hc]at hh;cases hh
 .cases hh
end
section
variable{ι:Type}{K:Fg}{X:ι->Cx}
structure MD(K:Fg)(X:ι->Cx)(pos:Pos)(ks:List (Option Expr))(vs:List Expr)(fs:List (EF×EF)):Prop where
 ex:∃ts,(∀i,PPs (X i) pos ks vs ts)/\SPs K ts fs
theorem RZ:MD K X pos [] [] []:=⟨_,fun _=>HF,.nil⟩
theorem yY{k v:Expr}{ks:List (Option Expr)}{vs:List Expr}{f g:EF}{fs:List (EF×EF)}(x:ME K X k f)(y:ME K X v g)(z:MD K X pos ks vs fs):MD K X pos (some k::ks) (v::vs) ((f,g)::fs):=by
 obtain⟨t,x1,x2⟩:=x.ex;obtain⟨u,y1,y2⟩:=y.ex;obtain⟨o,z1,z2⟩:=z.ex;exact⟨_,fun i=>CV (x1 i) (y1 i) (z1 i),.cons ⟨x2,y2⟩ z2⟩
theorem KB{ks:List (Option Expr)}{vs:List Expr}{fs:List (EF×EF)}(x:MD K X pos ks vs fs)(hall:ks.all (·.isSome)=true:=by rfl)(hl:ks.length=vs.length:=by rfl)(h0:ks≠[]:=by simp)(h15:ks.length<=15:=by simp):ME K X (.Dict ks vs pos) (vU fs):=by
 obtain⟨t,x1,x2⟩:=x.ex;exact⟨_,fun i=>HV (x1 i) hall hl h0 h15,KR x2⟩
theorem CZ:ME K X (.Dict [] [] pos) xY:=⟨_,fun _=>CP,FW⟩
end
mutual
noncomputable def wt:PyData->Nat
 |.none=>4
 |.bool _=>5
 |.int _=>2000
 |.str x=>(reprText x).length
 |.list xs=>fB xs+3
 |.tuple xs=>fB xs+3
 |.dict kvs=>AW kvs+3
noncomputable def fB:List PyData->Nat
 |[]=>0
 |x::xs=>wt x+2+fB xs
noncomputable def AW:List (PyData×PyData)->Nat
 |[]=>0
 |(k,v)::r=>wt k+wt v+4+AW r
end
mutual
noncomputable def oks:PyData->Bool
 |.none=>true
 |.bool _=>true
 |.int i=>decide (i.natAbs<2 ^ 1900)
 |.str _=>true
 |.list xs=>gH xs
 |.tuple xs=>gH xs
 |.dict kvs=>sI kvs
noncomputable def gH:List PyData->Bool
 |[]=>true
 |x::xs=>oks x&&gH xs
noncomputable def sI:List (PyData×PyData)->Bool
 |[]=>true
 |(k,v)::r=>oks k&&oks v&&sI r
end
theorem KN{i:Int}(h:i.natAbs<2 ^ 1900):i.natAbs.log2<1900:=by
 by_cases h0:i.natAbs=0
 .rw[h0];decide +kernel
 .exact(Nat.log2_lt h0).mpr h
theorem JB{i:Int}(h:i.natAbs<2 ^ 1900):((toString i:String):Str).length<=2000:=by
 have h1:=int_text_length_le (k:=1900) (by decide) (KN h);show(Str.ofString (toString i)).length<=2000;rw[PySem.ofString_length];omega
mutual
theorem shown_le:∀d:PyData,oks d=true->d.shown.length<=wt d
 |.none=>fun _=>by decide
 |.bool b=>fun _=>by cases b<;>decide
 |.int i=>fun h=>JB (B8 h)
 |.str x=>fun _=>A4 _
 |.list xs=>fun h=>by
  have:=shownAll_le xs h;have h2:=listText_len_le (PyData.shownAll xs);show(listText (PyData.shownAll xs)).length<=fB xs+3;omega
 |.tuple xs=>fun h=>by
  have:=shownAll_le xs h;have h2:=tupleText_len_le (PyData.shownAll xs);show(tupleText (PyData.shownAll xs)).length<=fB xs+3;omega
 |.dict kvs=>fun h=>by
  have:=shownKv_le kvs h;have h2:=dictText_len_le (PyData.shownKv kvs);show(dictText (PyData.shownKv kvs)).length<=AW kvs+3;omega
theorem shownAll_le:∀xs:List PyData,gH xs=true->((PyData.shownAll xs).map (·.length)).sum+2*(PyData.shownAll xs).length<=fB xs
 |[]=>fun _=>by simp[PyData.shownAll,fB]
 |x::xs=>fun h=>by
  unfold gH at h;rw[B1]at h;have h1:=shown_le x h.1;have h2:=shownAll_le xs h.2;simp only[PyData.shownAll,fB,List.map_cons,List.sum_cons,List.length_cons];omega
theorem shownKv_le:∀kvs:List (PyData×PyData),sI kvs=true->((PyData.shownKv kvs).map (·.length)).sum+2*(PyData.shownKv kvs).length<=AW kvs
 |[]=>fun _=>by simp[PyData.shownKv,AW]
 |(k,v)::r=>fun h=>by
  unfold sI at h;rw[B1,B1]at h;have h1:=shown_le k h.1.1;have h2:=shown_le v h.1.2;have h3:=shownKv_le r h.2
  have e:(PyData.shown k++": "++PyData.shown v).length=(PyData.shown k).length+2+(PyData.shown v).length:=by
   rw[strLen_append,strLen_append];rfl
  simp only[PyData.shownKv,AW,List.map_cons,List.sum_cons,List.length_cons,e];omega
end
mutual
theorem iM:∀d:PyData,oks d=true->d.showable=true
 |.none=>fun _=>rfl
 |.bool _=>fun _=>rfl
 |.int i=>fun h=>by
  have h:i.natAbs<2 ^ 1900:=B8 h;refine C3 ?_;by_cases h0:i.natAbs=0
  .rw[h0];decide +kernel
  .exact Nat.lt_trans ((Nat.log2_lt h0).mpr h) (by decide)
 |.str _=>fun _=>rfl
 |.list xs=>fun h=>showableAll_of xs h
 |.tuple xs=>fun h=>showableAll_of xs h
 |.dict kvs=>fun h=>showableKv_of kvs h
theorem showableAll_of:∀xs:List PyData,gH xs=true->PyData.showableAll xs=true
 |[]=>fun _=>rfl
 |x::xs=>fun h=>by
  unfold gH at h;rw[B1]at h;show(PyData.showable x&&PyData.showableAll xs)=true;rw[iM x h.1,showableAll_of xs h.2];rfl
theorem showableKv_of:∀kvs:List (PyData×PyData),sI kvs=true->PyData.showableKv kvs=true
 |[]=>fun _=>rfl
 |(k,v)::r=>fun h=>by
  unfold sI at h;rw[B1,B1]at h;show(PyData.showable k&&PyData.showable v&&PyData.showableKv r)=true;rw[iM k h.1.1,iM v h.1.2,showableKv_of r h.2];rfl
end
structure Fit(n m:Nat)(d:PyData):Prop where
 ok:oks d=true
 wt:wt d<=n
 dp:d.depth<=m
theorem Fit.shown{n m:Nat}{d:PyData}(f:Fit n m d)(hn:n<=sizeLine:=by decide)(hm:m<=64:=by decide):lU d=true:=by
 unfold lU;rw[iM d f.ok,C3 (C7 f.dp hm),C3 (C7 (C7 (shown_le d f.ok) f.wt) hn)];rfl
theorem Fit.mono{n m n' m':Nat}{d:PyData}(f:Fit n m d)(hn:n<=n')(hm:m<=m'):Fit n' m' d:=⟨f.ok,C7 f.wt hn,C7 f.dp hm⟩
theorem FH{n m:Nat}{d:PyData}(f:Fit n m d)(hn:n<=sizeLine:=by decide)(hm:m<=64:=by decide):zS [.d d] M=some (.d (.str d.shown),M):=by
 unfold zS;dsimp only;rw[A6 (f.shown hn hm)]
section
variable{K:Fg}
theorem Good.extra(g:Good K W M H){p:Addr}{o:HO}(hp:H p=none):Good K W M (upd H p o):=by
 refine⟨fun b u hb=>?_,g.n,fun i c hi hc=>?_,g.inj⟩
 .have:=g.fh b u hb;rw[aV (aS this hp)];exact this
 .obtain⟨h1,o',h2,h3⟩:=g.cs i c hi hc;exact⟨h1,o',by rw[aV (aS h2 hp)];exact h2,h3⟩
end
section
variable{K:Fg}
noncomputable def reverseF:FM:=fun x ys M=>match x,ys with
 |.c i,[]=>match M[i]? with
  |some (.lst xs)=>some (.d .none,M.set i (.lst xs.reverse))
  |_=>none
 |_,_=>none
noncomputable def WE:List V->Hp->VK->Prop:=fun xs H Q=>∃i j,xs=[.int i,.int j]/\Q (.int (if j<i then j else i)) H
noncomputable def max2F:FN:=fun xs M=>match xs with
 |[.d (.int i),.d (.int j)]=>some (.d (.int (if j > i then j else i)),M)
 |_=>none
noncomputable def oC:FN:=fun xs M=>match xs with
 |[.d (.int i),.d (.int j)]=>some (.d (.int (if j<i then j else i)),M)
 |_=>none
theorem JO:PN K WE oC:=by
 intro xs M z M' h W H vs Q G r k;unfold oC at h;split at h
 .rename_i i j;cases h;rcases r with _|⟨r1,_|⟨r2,_|_⟩⟩;exact⟨i,j,by rw[show _=V.int i from r1,show _=V.int j from r2],k _ W H (.refl _) G rfl⟩
 .cases h
end
section
variable{ι:Type}{K:Fg}{X:ι->Cx}{a b c e o:Expr}{es:List Expr}{f g h:EF}{fa:AF}{pos:Pos}
theorem FQ(hc:∀i,(X i).calm=true):QN K X (.builtin "min") oC:=⟨_,fun i=>CA (hc i),JO⟩
end
open PySem PySem.W PyProof.Rows
end L2
namespace L2
open PySem PySem.Spec PyProof.Rows
open PySem PySem.W PyProof.Rows
end L2
namespace L2
open PySem PySem.Spec PyProof.Rows
mutual
noncomputable def oT:PyData->Bool
 |.int _=>true
 |.tuple xs=>tZ xs
 |_=>false
noncomputable def tZ:List PyData->Bool
 |[]=>true
 |x::r=>oT x&&tZ r
end
mutual
theorem rk{h h':Heap}(k:∀b o vs n,h.get? b=some o->o.data=.seq vs n->h'.get? b=some o):∀(d:PyData)(v:Value)(as:List Addr),oT d=true->Reads h v d as->Reads h' v d as
 |.int n=>fun _ _ _ r=>by cases r;exact .int _ _
 |.tuple xs=>fun _ _ e r=>by
  cases r with
  |tuple a b c d=>exact .tuple (k _ _ _ _ a c) b c (LC k xs _ _ (by unfold oT at e;exact e) d)
 |.none=>fun _ _ e _=>by unfold oT at e;cases e
 |.bool _=>fun _ _ e _=>by unfold oT at e;cases e
 |.str _=>fun _ _ e _=>by unfold oT at e;cases e
 |.list _=>fun _ _ e _=>by unfold oT at e;cases e
 |.dict _=>fun _ _ e _=>by unfold oT at e;cases e
theorem LC{h h':Heap}(k:∀b o vs n,h.get? b=some o->o.data=.seq vs n->h'.get? b=some o):∀(ds:List PyData)(vs:List Value)(as:List Addr),tZ ds=true->ReadsAll h vs ds as->ReadsAll h' vs ds as
 |[]=>fun _ _ _ r=>by cases r;exact .nil
 |d::ds=>fun _ _ e r=>by
  cases r with
  |cons a b=>
   unfold tZ at e;rw[B1]at e;exact .cons (rk k d _ _ e.1 a) (LC k ds _ _ e.2 b)
end
section
variable{X:Cx}{pins:List (Addr×Obj)}{σ:St}{H:Hp}{s:Shared}
end
structure Exc where
 nm:Str
 fs:List (Str×CD)
inductive Rs where
 |v (x:CD)|x (e:Exc)
inductive UW where
 |o (o:Out)|xc (γ:Ga) (e:Exc)
noncomputable abbrev EX:=Ga->Sto->Option (Rs×Sto)
noncomputable abbrev AX:=Ga->Sto->Option ((List CD ⊕ Exc)×Sto)
noncomputable abbrev SFX:=Ga->Sto->Option (UW×Sto)
noncomputable abbrev FX:=List CD->Sto->Option (Rs×Sto)
section
variable(K:Fg)
noncomputable def ExR(W:Wd)(ex:Exc)(c:Value)(dx:Option Addr):Prop:=c=.ref (KW K ex.nm)/\EH K W dx ex.fs
noncomputable def OutOkX(EE:St->XK)(D:Ends)(W:Wd)(H:Hp):UW->Prop
 |.o o=>MH K D W H o
 |.xc γ ex=>∀σ c dx,dE K W γ σ->ExR K W ex c dx->EE σ c dx H
end
noncomputable def liE(f:EF):EX:=fun γ M=>(f γ M).bind fun r=>some (.v r.1,r.2)
noncomputable def liA(f:AF):AX:=fun γ M=>(f γ M).bind fun r=>some (.inl r.1,r.2)
noncomputable def liS(f:SF):SFX:=fun γ M=>(f γ M).bind fun r=>some (.o r.1,r.2)
noncomputable def xCons(f:EX)(g:AX):AX:=fun γ M=>(f γ M).bind fun r=>match r.1 with
 |.x e=>some (.inr e,r.2)
 |.v x=>(g γ r.2).bind fun q=>match q.1 with
  |.inr e=>some (.inr e,q.2)
  |.inl xs=>some (.inl (x::xs),q.2)
noncomputable def UA(f:EX)(k:CD->Sto->Option (Rs×Sto)):EX:=fun γ M=>(f γ M).bind fun r=>match r.1 with
 |.x e=>some (.x e,r.2)
 |.v x=>k x r.2
noncomputable def LD(f:AX)(k:List CD->Sto->Option (Rs×Sto)):EX:=fun γ M=>(f γ M).bind fun r=>match r.1 with
 |.inr e=>some (.x e,r.2)
 |.inl xs=>k xs r.2
noncomputable def VQ(h:FX)(f:AX):EX:=LD f h
noncomputable def VJ(f g:SFX):SFX:=fun γ M=>(f γ M).bind fun r=>match r.1 with
 |.o (.nx γ')=>g γ' r.2
 |o=>some (o,r.2)
noncomputable def TX(f:EX):SFX:=fun γ M=>(f γ M).bind fun r=>match r.1 with
 |.x e=>some (.xc γ e,r.2)
 |.v x=>some (.o (.rt x),r.2)
noncomputable def NL(f:EX):SFX:=fun γ M=>(f γ M).bind fun r=>match r.1 with
 |.x e=>some (.xc γ e,r.2)
 |.v _=>some (.o (.nx γ),r.2)
noncomputable def VZ(f:EX)(g:GF):SFX:=fun γ M=>(f γ M).bind fun r=>match r.1 with
 |.x e=>some (.xc γ e,r.2)
 |.v x=>(g x γ r.2).bind fun q=>some (.o (.nx q.1),q.2)
noncomputable def WX(c:TF)(f g:SFX):SFX:=fun γ M=>(c γ M).bind fun r=>if r.1=true then f γ r.2 else g γ r.2
noncomputable def PY(nm:Str):SFX:=fun γ M=>some (.xc γ ⟨nm,[]⟩,M)
noncomputable def fnX(ps N:Nat)(b:SFX):FX:=fun xs M=>if xs.length=ps then(b (xs.map some++List.replicate (N-xs.length) none) M).bind fun r=>match r.1 with
 |.o (.rt x)=>some (.v x,r.2)
 |.o (.nx _)=>some (.v (.d .none),r.2)
 |.xc _ e=>some (.x e,r.2)
 |_=>none else none
noncomputable def JT:Option Nat->Ga->Ga
 |none,γ=>γ
 |some i,γ=>γ.set i none
noncomputable def setG:Option Nat->Ga->CD->Ga
 |none,γ,_=>γ
 |some i,γ,x=>γ.set i (some x)
noncomputable def SZ(n:Option Nat):Out->Out
 |.nx γ=>.nx (JT n γ)
 |.bk γ=>.bk (JT n γ)
 |.ct γ=>.ct (JT n γ)
 |.rt x=>.rt x
structure HMi where
 tab:List (Str×Bool)
 n:Option Nat
 f:SF
noncomputable def PX:List HMi->Ga->Exc->Sto->Option (Out×Sto)
 |[],_,_,_=>none
 |h::r,γ,ex,M=>match h.tab.lookup ex.nm with
  |some true=>(h.f (setG h.n γ (.c M.length)) (M++[.exc false ex.nm ex.fs])).bind fun q=>some (SZ h.n q.1,q.2)
  |some false=>PX r γ ex M
  |none=>none
noncomputable def XF(b:SFX)(hs:List HMi):SF:=fun γ M=>(b γ M).bind fun r=>match r.1 with
 |.o o=>some (o,r.2)
 |.xc γ' ex=>PX hs γ' ex r.2
section
variable{K:Fg}{EE:St->XK}{ta tb:TE}{tA:TA}{t u:TS}{f g:EX}{fa:AX}{p q:SFX}{tt:TT}{ft:TF}{tg:TG}{hg:GF}
end
section
variable{ι:Type}
variable{K:Fg}{X:ι->Cx}{EE:ι->St->XK}{e a b c tg iter:Expr}{es:List Expr}{f g:EX}{fa:AX}{p q:SFX}{ft:TF}{gf:GF}{st:Stmt}{sts sts':List Stmt}{pos:Pos}
end
section
variable{X:Cx}{K:Fg}
noncomputable def UT(tab:List (Str×Bool))(nn:Option Bool)(f:EF):EF:=fun γ M=>(f γ M).bind fun r=>match r.1 with
 |.c i=>(match r.2[i]? with
  |some (.exc _ nm _)=>(tab.lookup nm).bind fun b=>some (.d (.bool b),r.2)
  |_=>none)
 |.d .none=>nn.bind fun b=>some (.d (.bool b),r.2)
 |_=>none
end
noncomputable def OG(h:FX)(f:AF):EF:=fun γ M=>(f γ M).bind fun r=>(h r.1 r.2).bind fun q=>match q.1 with
 |.v x=>some (x,q.2)
 |.x _=>none
mutual
noncomputable def snap:Nat->Sto->CD->Option PyData
 |_,_,.d x=>some x
 |0,_,.c _=>none
 |n+1,M,.c i=>match M[i]? with
  |some (.lst xs)=>(mO n M xs).bind fun ds=>some (.list ds)
  |_=>none
 |_,_,.f _=>none
 |_,_,.g _=>none
 |0,_,.t _=>none
 |n+1,M,.t xs=>(mO n M (xs.map cdA)).bind fun ds=>some (.tuple ds)
noncomputable def mO:Nat->Sto->List CD->Option (List PyData)
 |_,_,[]=>some []
 |n,M,x::xs=>(snap n M x).bind fun d=>(mO n M xs).bind fun ds=>some (d::ds)
end
section
variable{K:Fg}{W:Wd}{M:Sto}{H:Hp}
theorem Good.lstAt'(G:Good K W M H){i:Nat}{xs:List CD}(h:M[i]?=some (.lst xs)):∃vs,H (W.α i)=some (.lst vs)/\cJ K W xs vs:=by
 obtain⟨_,o,h2,h3⟩:=G.cs i _ h (by intro z;cases z);cases o with
 |lst vs=>exact⟨vs,h2,h3⟩
 |_=>exact False.elim h3
mutual
theorem oB(G:Good K W M H):∀(n:Nat)(x:CD)(d:PyData)(v:V),snap n M x=some d->cR K W x v->Rep K H d v
 |0,.d x=>fun d v h r=>by unfold snap at h;cases h;exact Rep.same G.fh _ _ r
 |n+1,.d x=>fun d v h r=>by unfold snap at h;cases h;exact Rep.same G.fh _ _ r
 |0,.c i=>fun d v h r=>by unfold snap at h;cases h
 |n+1,.c i=>fun d v h r=>by
  unfold snap at h;cases e:M[i]? with
  |none=>rw[e]at h;cases h
  |some c=>
   rw[e]at h;cases c with
   |lst xs=>
    obtain⟨ds,h1,h⟩:=aK (show(mO n M xs).bind _=_ from h);cases h;obtain⟨vs,h2,h3⟩:=G.lstAt' e;exact⟨W.α i,vs,r.2,SqL.of h2,oI G n xs ds vs h1 h3⟩
   |_=>cases h
 |0,.f xs=>fun d v h r=>by unfold snap at h;cases h
 |n+1,.f xs=>fun d v h r=>by unfold snap at h;cases h
 |0,.g xs=>fun d v h r=>by unfold snap at h;cases h
 |n+1,.g xs=>fun d v h r=>by unfold snap at h;cases h
 |0,.t xs=>fun d v h r=>by unfold snap at h;cases h
 |n+1,.t xs=>fun d v h r=>by
  unfold snap at h;obtain⟨ds,h1,h⟩:=aK h;cases h;obtain⟨a,vs,rfl,h2,h3⟩:=r;exact⟨a,vs,rfl,SqT.of (G.fh _ _ h2),oI G n _ ds vs h1 (IK h3)⟩
theorem oI(G:Good K W M H):∀(n:Nat)(xs:List CD)(ds:List PyData)(vs:List V),mO n M xs=some ds->cJ K W xs vs->aM K H ds vs
 |_,[]=>fun ds vs h r=>by
  unfold mO at h;cases h;cases r;rfl
 |n,x::xs=>fun ds vs h r=>by
  unfold mO at h;obtain⟨d,h1,h⟩:=aK h;obtain⟨es,h2,h⟩:=aK h;cases h;cases r with
  |@cons _ v _ vs' r1 r2=>exact⟨v,vs',rfl,oB G n x d v h1 r1,oI G n xs es vs' h2 r2⟩
end
end
noncomputable def mM:FN:=fun xs M=>match xs with
 |[x]=>(snap 5 M x).bind fun d=>if lU d=true then some (.d (.str d.shown),M)else none
 |_=>none
theorem yV{n:Nat}{M:Sto}{x:PyData}:snap n M (.d x)=some x:=by cases n<;>simp only[snap]
theorem KL{x:PyData}{M:Sto}:mM [.d x] M=zS [.d x] M:=by unfold mM zS;dsimp only;rw[yV];rfl
theorem GJ{K:Fg}:PN K (LR K) mM:=by
 intro xs M z M' h W H vs Q G r k;unfold mM at h;split at h
 .rename_i x;obtain⟨d,h1,h⟩:=aK h;by_cases hs:lU d=true
  .rw[A6 hs]at h;cases h;rcases r with _|⟨r1,_|_⟩;have hs':=hs;unfold lU at hs;rw[B1,B1]at hs;exact⟨_,d,rfl,oB G 5 x d _ h1 r1,hs.1.1,B8 hs.1.2,B8 hs.2,k _ W H (.refl _) G rfl⟩
  .rw[B0 hs]at h;cases h
 .cases h
theorem zO{ι:Type}{K:Fg}{X:ι->Cx}(hK:∀i,(X i).K=K)(hg:∀i,(X i).A.guards=some [])(hu:∀i,(X i).A.units+200<cLine):QN K X (.builtin "repr") mM:=⟨_,fun i=>WR (hK i) (hg i) (hu i),GJ⟩
open PySem PySem.Spec PyProof.Rows PySem.Builtin PySem.Builtin.ObjectAttr
end L2
namespace L2
open PySem PySem.Spec PyProof.Rows
noncomputable abbrev KY:=Key ⊕ List Key
noncomputable abbrev KF:=Ga->Sto->Option (KY×Sto)
noncomputable def XW(W:Wd):KY->V->Prop
 |.inl k,v=>v=kV k
 |.inr ks,v=>∃b,v=.ref b/\W.F b=some (.tup (ks.map kV))
section
variable{K:Fg}
noncomputable def SK(K:Fg)(t:TE)(f:KF):Prop:=∀γ M k M',f γ M=some (k,M')->∀(W:Wd)(H:Hp)(σ:St)(Q:VK),Good K W M H->dE K W γ σ->(∀v W' H',W.Ext W'->Good K W' M' H'->XW W' k v->Q v H')->t σ H Q
noncomputable def keysOf:List CD->Option (List Key)
 |[]=>some []
 |x::xs=>(keyOf x).bind fun k=>(keysOf xs).bind fun ks=>some (k::ks)
noncomputable def AU(fa:AF):KF:=fun γ M=>(fa γ M).bind fun r=>(keysOf r.1).bind fun ks=>if ks.length<=sizeLine then some (.inr ks,r.2)else none
variable{t td ty tx tv:TE}{tA:TA}{f fo fx fv:EF}{fk:KF}{fa:AF}
theorem rQ{W:Wd}:∀{xs:List CD}{ks:List Key}{vs:List V},keysOf xs=some ks->cJ K W xs vs->vs=ks.map kV
 |[],ks,vs=>fun h r=>by cases h;cases r;rfl
 |x::xs,ks,vs=>fun h r=>by
  obtain⟨k,h1,h⟩:=aK h;obtain⟨ks',h2,h⟩:=aK h;cases h;cases r with
  |cons r1 r2=>rw[sS h1 r1,rQ h2 r2];rfl
theorem OC(b:SA K tA fa):SK K (JW tA) (AU fa):=by
 intro γ M k M' hh W H σ Q G R c;obtain⟨⟨ys,M1⟩,h1,hh⟩:=aK hh;obtain⟨ks,h2,hh⟩:=aK hh;by_cases hl:ks.length<=sizeLine
 .rw[A6 hl]at hh;cases hh;refine b _ _ _ _ h1 W H σ _ G R fun vs W1 H1 e1 G1 r1=>?_;have ev:=rQ h2 r1;refine⟨by rw[ev,A3];exact hl,fun p hp=>?_⟩;obtain⟨e2,G2⟩:=G1.lay (o:=.tup vs) hp;exact c _ _ _ (e1.trans e2) G2 ⟨p,rfl,by show upd W1.F p (.tup vs) p=_;rw[bB,ev]⟩
 .rw[B0 hl]at hh;cases hh
end
section
variable{ι:Type}
structure MK(K:Fg)(X:ι->Cx)(e:Expr)(f:KF):Prop where
 ex:∃t,(∀i,PE (X i) e t)/\SK K t f
variable{K:Fg}{X:ι->Cx}{e o i a b:Expr}{es:List Expr}{f g fx:EF}{fk:KF}{fa:AF}{pos:Pos}
theorem RB{k:Nat}(x:MA K X es fa):MK K X (.Tuple es k pos) (AU fa):=by
 obtain⟨t,x1,x2⟩:=x.ex;exact⟨_,fun i=>yO (x1 i),OC x2⟩
end
end L2
namespace PySem
open Sem (wp)
open AutoSeq1 (wpAny_loadPart')
end PySem
namespace L2
open PySem PySem.Spec PyProof.Rows
end L2
namespace PySem
open PySem.Calls PyProof.Rows
end PySem
namespace PySem
open PySem.Calls PyProof.Rows
end PySem
namespace PySem.W
open PySem PySem.Calls PyProof.Rows PyProof.V PySem.Spec
end PySem.W
namespace L2
open PySem PySem.Spec PyProof.Rows
section
variable{X:Cx}{pins:List (Addr×Obj)}{σ:St}{H:Hp}{s:Shared}{E:Value->Shared->Prop}
end
noncomputable abbrev IPF:=Ga->Sto->Option ((List CD×(Sto->Prop))×Sto)
end L2
namespace PySem
open Sem (wp)
namespace F
end F
end PySem
namespace L2
open PySem PySem.Spec PyProof.Rows
theorem dU.le{ι:Type}{j k:Nat}{A:Around}{q:Bool}(r:dU k A q)(h:j<=k:=by decide):ι->dU j A q:=fun _=>r.mono h
section
variable{K:Fg}
noncomputable def inC(neg:Bool):F2:=fun x y M=>(snap 5 M x).bind fun a=>(snap 5 M y).bind fun b=>(aZ b).bind fun ds=>if (SeqAt.shaped a&&ds.all SeqAt.shaped)=true then some (.d (.bool (if neg then !ds.any fun d=>PyData.eqv d a else ds.any fun d=>PyData.eqv d a)),M)else none
theorem OX{neg:Bool}:P2 K (SQ K neg) (inC neg):=by
 intro x y M z M' h W H v u Q G rx ry k;obtain⟨a,h1,h⟩:=aK h;obtain⟨b,h2,h⟩:=aK h;obtain⟨ds,h3,h⟩:=aK h;by_cases hs:(SeqAt.shaped a&&ds.all SeqAt.shaped)=true
 .rw[A6 hs]at h;cases h;rw[B1]at hs;obtain⟨p,vs,rfl,hq,hr⟩:=oA (oB G 5 y b u h2 ry) h3;exact⟨a,ds,p,vs,oB G 5 x a v h1 rx,rfl,hq,hr,hs.1,hs.2,k _ W H (.refl _) G rfl⟩
 .rw[B0 hs]at h;cases h
theorem WM{ι:Type}{X:ι->Cx}(hK:∀i,(X i).K=K)(hu:∀i,(X i).A.in1.units+64<cLine):Q2 K X (compareOp .In) (inC false):=⟨_,fun i=>L2.kIn (hK i) (hu i),OX⟩
end
section
variable{K:Fg}
end
end L2
namespace HT
open PySem  PySem.Spec PyProof.Rows
end HT
namespace L2
open PySem PySem.Spec PyProof.Rows
noncomputable def Rsg(xs:Array Nat):Prop:=∀i k:Nat,i<k->k<xs.size->xs.getD i 0<xs.getD k 0
structure Cut(xs:Array Nat)(j r:Nat):Prop where
 le:r<=xs.size
 lo:∀i,i<r->xs.getD i 0<j
 hi:∀i,r<=i->i<xs.size->j<=xs.getD i 0
theorem FU{xs:Array Nat}{i a b:Nat}(h:i<xs.size):xs.getD i a=xs.getD i b:=by
 rw[A5,A5,D7 h];rfl
theorem qT{xs:Array Nat}{j:Nat}(R:Rsg xs):∀(fuel lo hi:Nat),hi<=lo+fuel->lo<=hi->hi<=xs.size->(∀i,i<lo->xs.getD i 0<j)->(∀i,hi<=i->i<xs.size->j<=xs.getD i 0)->Cut xs j (SetTable.below.go xs j fuel lo hi)
 |0=>fun lo hi h1 h2 h3 h4 h5=>by
  have:lo=hi:=by omega
  subst this;exact⟨h3,h4,h5⟩
 |fuel+1=>fun lo hi h1 h2 h3 h4 h5=>by
  unfold SetTable.below.go;by_cases h:lo<hi
  .rw[A6 h];dsimp only;have ml:(lo+hi) / 2<hi:=by omega
   have mg:lo<=(lo+hi) / 2:=by omega
   generalize (lo+hi) / 2=m at ml mg;rw[FU (b:=0) (by omega)];by_cases c:xs.getD m 0<j
   .rw[A6 c];refine qT R fuel (m+1) hi (by omega) (by omega) h3 (fun i hi'=>?_) h5;by_cases e:i=m
    .rw[e];exact c
    .have:=R i m (by omega) (by omega);omega
   .rw[B0 c];refine qT R fuel lo m (by omega) mg (by omega) h4 (fun i h6 h7=>?_);by_cases e:i=m
    .rw[e];omega
    .have:=R m i (by omega) h7;omega
  .rw[B0 h];have:lo=hi:=by omega
   subst this;exact⟨h3,h4,h5⟩
theorem jG{xs:Array Nat}(j:Nat)(R:Rsg xs):Cut xs j (SetTable.below xs j):=
 qT R xs.size 0 xs.size (by omega) (C6 _) (A4 _) (fun i h=>absurd h (L5 _)) fun i h h'=>by omega
theorem rR{xs:Array Nat}{p x:Nat}(h:p<=xs.size):(SetTable.insertAt xs p x).size=xs.size+1:=by
 unfold SetTable.insertAt;simp;omega
theorem CG{xs:Array Nat}{p x i:Nat}(h:p<=xs.size):(SetTable.insertAt xs p x).getD i 0=if i<p then xs.getD i 0 else if i=p then x else xs.getD (i-1) 0:=by
 unfold SetTable.insertAt;rw[A5,Array.getElem?_append];have sz:((xs.extract 0 p).push x).size=p+1:=by simp;omega
 rw[sz];by_cases h1:i<p
 .rw[A6 (by omega),A6 h1,Array.getElem?_push,B0 (by simp;omega),Array.getElem?_extract,A5];simp;rw[A6 (by omega)]
 .rw[B0 h1];by_cases h2:i=p
  .rw[A6 (by omega),A6 h2,Array.getElem?_push,A6 (by simp;omega)];rfl
  .rw[B0 (by omega),B0 h2,Array.getElem?_extract,A5];by_cases h3:i-1<xs.size
   .rw[A6 (by omega),show p+(i-(p+1))=i-1 by omega]
   .rw[B0 (by omega),Array.getElem?_eq_none (by omega)]
theorem IF{xs:Array Nat}{j:Nat}(R:Rsg xs)(nh:SetTable.has xs j=false):Rsg (SetTable.insertAt xs (SetTable.below xs j) j):=by
 have c:=jG j R
 have nh:∀i,i<xs.size->i=SetTable.below xs j->xs.getD i 0≠j:=fun i hi e q=>by
  unfold SetTable.has at nh;rw[<- e,D7 hi]at nh;rw[A5,D7 hi]at q;have q:xs[i]=j:=q;rw[q]at nh;simp at nh
 generalize SetTable.below xs j=p at c nh;have cl:=c.le;intro i k hik hk;rw[rR c.le]at hk;rw[CG c.le,CG c.le]
 have gt:∀i,p<=i->i<xs.size->j<xs.getD i 0:=fun i h1 h2=>by
  have a:=c.hi i h1 h2;by_cases e:i=p
  .have:=nh i h2 e;omega
  .have b:=c.hi p (A4 _) (by omega);have d:=R p i (by omega) h2;omega
 by_cases h1:i<p
 .rw[A6 h1];have:=c.lo i h1;by_cases h2:k<p
  .rw[A6 h2];exact R i k hik (by omega)
  .rw[B0 h2];by_cases h3:k=p
   .rw[A6 h3];exact this
   .rw[B0 h3];have:=gt (k-1) (by omega) (by omega);omega
 .rw[B0 h1,B0 (by omega:¬k<p),B0 (by omega:¬k=p)];by_cases h3:i=p
  .rw[A6 h3];exact gt (k-1) (by omega) (by omega)
  .rw[B0 h3];exact R (i-1) (k-1) (by omega) (by omega)
theorem CH{l:List (Nat×Nat)}(h:(l.map (·.1)).Pairwise (·<·)):Rsg (l.map (·.1)).toArray:=by
 intro i k hik hk;rw[B9]at hk;have:=List.pairwise_iff_getElem.mp h i k (by omega) hk hik;rw[A5,A5,List.getElem?_toArray,List.getElem?_toArray,B5 (by omega),B5 hk];exact this
theorem zR{f:Nat->Option Nat}:∀(l:List Nat),l.Pairwise (·<·)->((l.filterMap fun j=>(f j).map (j,·)).map (·.1)).Pairwise (·<·)
 |[]=>fun _=>List.Pairwise.nil
 |a::l=>fun h=>by
  obtain⟨h1,h2⟩:=List.pairwise_cons.mp h;have ih:=zR (f:=f) l h2;rw[F6];cases e:f a with
  |none=>exact ih
  |some b=>
   show(a::_).Pairwise (·<·);refine List.pairwise_cons.mpr ⟨fun x hx=>?_,ih⟩;obtain⟨y,hy,rfl⟩:=List.mem_map.mp hx;obtain⟨j,hj,hy⟩:=List.mem_filterMap.mp hy;obtain⟨z,_,rfl⟩:=Option.map_eq_some_iff.mp hy;exact h1 j hj
noncomputable abbrev t7(b:Bool)(p:Array Nat):SetTable:=⟨7,p,#[],0,b,0,true⟩
noncomputable abbrev t31(b:Bool)(p:Array Nat):SetTable:=⟨31,p,#[],0,b,1,true⟩
theorem JD{xs:Array Nat}{j:Nat}(h:SetTable.has xs j=true):∃i:Nat,xs[i]?=some j:=by
 unfold SetTable.has at h;exact⟨_,by simpa using h⟩
noncomputable def vI:Value->Int
 |.int i _=>i
 |_=>0
structure Tp(b:Bool)(t:SetTable)(es:Array (Int×Value)):Prop where
 bd:∀e∈es.toList,0<=e.1/\e.1<9
 vl:∀e∈es.toList,vI e.2=e.1
 nd:(es.toList.map (·.1)).Nodup
 fm:∃p,Rsg p/\((t=t7 b p/\(∀i,i<p.size->p.getD i 0<=7)/\p.size<=4/\p.size=es.size)\/(t=t31 b p/\p.toList=es.toList.map fun e=>e.1.toNat))
theorem nH{α:Type}{xs:Array α}{p:Nat}{x:α}:(SetTable.insertAt xs p x).toList=xs.toList.take p++x::xs.toList.drop p:=by
 unfold SetTable.insertAt;simp;rw[List.take_of_length_le (by simp)]
structure XA(prog:Program)(w:World)(b:Bool)(h:Heap)(a:Addr)(es:Array (Int×Value))(σ:List Int):Prop where
 ob:∃o ep t,h.get? a=some o/\o.ExactSet/\o.data=.set es ep t/\t.fits es.size=true/\Tp b t es
 el:ElemsOf (intKind prog w) es.toList
 sm:es.size<scanBound
 pm:(es.toList.map fun e=>vI e.2).Perm σ
section
variable{prog:Program}{w:World}{A:Around}{E:Value->Shared->Prop}{s:Shared}
theorem xZ{h:Heap}{a:Addr}{o:Obj}{es es':Array (Int×Value)}{ep:Nat}{t t':SetTable}(ho:h.get? a=some o)(hd:o.data=.set es ep t):(h.update a (Obj.putSet es' t')).get? a=some { o with data:=.set es' (ep+1) t' }:=by
 have:=Heap.get?_update_self (Obj.putSet es' t') ho (by rw[putSet_of es' t' hd];rfl);rw[putSet_of es' t' hd]at this;exact this
theorem stored{b:Bool}{h:Heap}{a:Addr}{o:Obj}{es es':Array (Int×Value)}{ep:Nat}{t t':SetTable}{σ:List Int}(ho:h.get? a=some o)(hex:o.ExactSet)(hd:o.data=.set es ep t)(el:ElemsOf (intKind prog w) es'.toList)(sm:es'.size<scanBound)(hf:t'.fits es'.size=true)(T:Tp b t' es')(pm:(es'.toList.map fun e=>vI e.2).Perm σ):
 (h.update a (Obj.putSet es' t')).get? a=some { o with data:=.set es' (ep+1) t' }/\XA prog w b (h.update a (Obj.putSet es' t')) a es' σ:=by
 have hg:=xZ (es':=es') (t':=t') ho hd;exact⟨hg,⟨_,_,_,hg,hex,rfl,hf,T⟩,el,sm,pm⟩
end
noncomputable abbrev LZ(w:World):Bool:=w.params.followText "set-order"
section
variable{prog:Program}{w:World}{A:Around}{E:Value->Shared->Prop}{s:Shared}
theorem GA{Q:Bool->Shared->Prop}(h:Q (LZ w) s):wpAny (model prog w) A setsByText Q E s:=by
 unfold setsByText;exact A0 (wpAny_askSetting (A7 h))
end
section
variable{prog:Program}{w:World}{A:Around}{E:Value->Shared->Prop}{s:Shared}
end
end L2
namespace PySem
section
variable{prog:Program}{w:World}{A:Around}{E:Value->Shared->Prop}{s:Shared}
end
end PySem
namespace L2
open PySem PySem.Spec PyProof.Rows
section
variable{K:Fg}
end
section
variable{K:Fg}
end
section
variable{K:Fg}
end
section
variable{K:Fg}
end
section
variable{K:Fg}
end
noncomputable abbrev Pb:=SetTable.Probe
noncomputable def adv(m:Nat)(p:Pb):Pb:=(⟨m,#[],#[],0,false,0,false⟩:SetTable).advance p
noncomputable def eE(m:Nat):Nat->Pb->Pb
 |0,p=>p
 |n+1,p=>eE m n (adv m p)
noncomputable def kF(m:Nat)(oc:Nat->Bool):Nat->Pb->Prop
 |0,p=>oc p.j=false
 |n+1,p=>oc p.j=true/\kF m oc n (adv m p)
inductive Rch(m:Nat)(oc:Nat->Bool)(g:Nat):Pb->Prop
 |here {p:Pb} (h:p.j=g):Rch m oc g p
 |step {p:Pb} (h:oc p.j=true) (r:Rch m oc g (adv m p)):Rch m oc g p
theorem Rch.mono{m:Nat}{oc oc':Nat->Bool}{g:Nat}(h:∀j,oc j=true->oc' j=true):∀{p:Pb},Rch m oc g p->Rch m oc' g p
 |_,.here e=>.here e
 |_,.step e r=>.step (h _ e) (Rch.mono h r)
theorem wR{m:Nat}{oc:Nat->Bool}:∀{n:Nat}{p:Pb},kF m oc n p->Rch m oc (eE m n p).j p
 |0,_=>fun _=>.here rfl
 |n+1,p=>fun h=>.step h.1 (wR h.2)
theorem wH{m:Nat}{oc:Nat->Bool}:∀(n:Nat)(p:Pb),oc (eE m n p).j=false->∃k,k<=n/\kF m oc k p
 |0=>fun p h=>⟨0,A4 _,h⟩
 |n+1=>fun p h=>by
  cases e:oc p.j with
  |false=>exact⟨0,C6 _,e⟩
  |true=>
   obtain⟨k,hk,r⟩:=wH n (adv m p) h;exact⟨k+1,by omega,e,r⟩
theorem sX{m:Nat}{oc:Nat->Bool}:∀{n:Nat}{p:Pb},kF m oc n p->oc (eE m n p).j=false
 |0,_=>fun h=>h
 |n+1,p=>fun h=>sX (n:=n) h.2
theorem lN{m:Nat}:∀(a b:Nat)(p:Pb),eE m (a+b) p=eE m b (eE m a p)
 |0=>fun b p=>by rw[Nat.zero_add];rfl
 |a+1=>fun b p=>by
  rw[Nat.succ_add];exact lN a b (adv m p)
noncomputable def pS(m:Nat)(q:Nat×Nat):Pb:=⟨q.1,SetTable.runEnd m q.1-q.1,q.1,q.2,none⟩
noncomputable def lps(m:Nat):Nat->Nat×Nat->Nat×Nat
 |0,q=>q
 |n+1,q=>lps m n (SetTable.leap m q.1 q.2)
theorem DA{m:Nat}{i pt:Nat}:∀(k j:Nat),eE m k ⟨j,k,i,pt,none⟩=⟨j+k,0,i,pt,none⟩
 |0=>fun j=>rfl
 |k+1=>fun j=>by
  show eE m k (adv m ⟨j,k+1,i,pt,none⟩)=_;rw[show adv m ⟨j,k+1,i,pt,none⟩=⟨j+1,k,i,pt,none⟩from rfl,DA k (j+1),Nat.add_right_comm,Nat.add_assoc]
theorem DZ{m:Nat}(q:Nat×Nat):eE m (SetTable.runEnd m q.1-q.1+1) (pS m q)=pS m (SetTable.leap m q.1 q.2):=by
 rw[lN];unfold pS;rw[DA];rfl
theorem OZ{m i:Nat}:SetTable.runEnd m i-i<=9:=by
 unfold SetTable.runEnd;split<;>omega
theorem runs{m:Nat}:∀(r:Nat)(q:Nat×Nat),∃n,n<=10*r/\eE m n (pS m q)=pS m (lps m r q)
 |0=>fun q=>⟨0,A4 _,rfl⟩
 |r+1=>fun q=>by
  obtain⟨n,hn,e⟩:=runs (m:=m) r (SetTable.leap m q.1 q.2);have l:=OZ (m:=m) (i:=q.1);refine⟨SetTable.runEnd m q.1-q.1+1+n,by omega,?_⟩;rw[lN,DZ];exact e
theorem AL{m:Nat}:∀(a b:Nat)(q:Nat×Nat),lps m (a+b) q=lps m b (lps m a q)
 |0=>fun b q=>by rw[Nat.zero_add];rfl
 |a+1=>fun b q=>by rw[Nat.succ_add];exact AL a b _
theorem DQ{m:Nat}:∀(r:Nat)(q:Nat×Nat),(lps m r q).2=q.2 / 32 ^ r
 |0=>fun q=>by show q.2=_;rw[Nat.pow_zero,Nat.div_one]
 |r+1=>fun q=>by
  show(lps m r (SetTable.leap m q.1 q.2)).2=_;rw[DQ r];show q.2 / 32 / 32 ^ r=_;rw[Nat.div_div_eq_div_mul,Nat.pow_succ,Nat.mul_comm]
theorem DI{m:Nat}(q:Nat×Nat)(h:q.1<=m):∀r,(lps m r q).1<=m:=fun r=>by
 induction r generalizing q with
 |zero=>exact h
 |succ r ih=>exact ih _ (by
  show(q.1*5+1+q.2 / 32) % (m+1)<=m;have:=Nat.mod_lt (q.1*5+1+q.2 / 32) (show 0<m+1 by omega);omega)
noncomputable def orb(m n:Nat):Nat:=(5 ^ n-1) / 4 % (m+1)
theorem XN(n:Nat):5 ^ n % 4=1:=by
 induction n with
 |zero=>rfl
 |succ n ih=>rw[Nat.pow_succ];omega
theorem rN(m n:Nat):(orb m n*5+1) % (m+1)=orb m (n+1):=by
 have e:(5 ^ (n+1)-1) / 4=(5 ^ n-1) / 4*5+1:=by
  have:=XN n;have p:0<5 ^ n:=Nat.pow_pos (by decide);rw[Nat.pow_succ];omega
 unfold orb;rw[e,Nat.add_mod,Nat.mul_mod,Nat.mod_mod,<- Nat.mul_mod,<- Nat.add_mod]
theorem uK(m:Nat):∀(r a:Nat),(lps m r (orb m a,0))=(orb m (a+r),0)
 |0=>fun a=>rfl
 |r+1=>fun a=>by
  show lps m r (SetTable.leap m (orb m a) 0)=_
  rw[show SetTable.leap m (orb m a) 0=(orb m (a+1),0)by
   show((orb m a*5+1+0) % (m+1),0)=_;rw[Nat.add_zero,rN],uK m r (a+1),show a+1+r=a+(r+1)by omega]
noncomputable def jY(m:Nat):Bool:=decide (orb m (m+1)=0)&&(List.range (m+1)).all fun j=>(List.range (m+1)).any fun n=>orb m n==j
theorem JH:jY 7=true:=by decide +kernel
theorem DL:jY 31=true:=by decide +kernel
theorem BM:jY 127=true:=by decide +kernel
noncomputable def Mask(m:Nat):Prop:=m=7\/m=31\/m=127
theorem Mask.all{m:Nat}(h:Mask m):jY m=true:=by
 rcases h with rfl|rfl|rfl
 .exact JH
 .exact DL
 .exact BM
theorem JG{m:Nat}(h:jY m=true)(n:Nat):orb m (n+(m+1))=orb m n:=by
 unfold jY at h;rw[B1]at h;have z:=B8 h.1
 induction n with
 |zero=>rw[Nat.zero_add,z];unfold orb;simp
 |succ n ih=>rw[show n+1+(m+1)=n+(m+1)+1 by omega,<- rN,ih,rN]
theorem GX{m:Nat}(h:jY m=true){j:Nat}(hj:j<=m):∃n,n<=m/\orb m n=j:=by
 unfold jY at h;rw[B1]at h;have q:=List.all_eq_true.mp h.2 j (List.mem_range.mpr (by omega));obtain⟨n,hn,e⟩:=List.any_eq_true.mp q;exact⟨n,by have:=List.mem_range.mp hn;omega,eq_of_beq e⟩
theorem IZ{m:Nat}(h:jY m=true){i j:Nat}(hi:i<=m)(hj:j<=m):∃r,r<=m/\lps m r (i,0)=(j,0):=by
 obtain⟨a,ha,rfl⟩:=GX h hi;obtain⟨b,hb,rfl⟩:=GX h hj;by_cases c:a<=b
 .exact⟨b-a,by omega,by rw[uK,show a+(b-a)=b by omega]⟩
 .exact⟨b+(m+1)-a,by omega,by rw[uK,show a+(b+(m+1)-a)=b+(m+1)by omega,JG h]⟩
theorem JK(h:Int):SetTable.bits h<2 ^ 64:=by
 unfold SetTable.bits;have:=F0 h (show(2:Int) ^ 64≠0 by decide);have:=E3 h (show(0:Int)<2 ^ 64 by decide);omega
noncomputable def st0(m:Nat)(h:Int):Nat×Nat:=(SetTable.bits h % (m+1),SetTable.bits h)
theorem yP(m:Nat)(h:Int):(st0 m h).1<=m:=by
 have:=Nat.mod_lt (SetTable.bits h) (show 0<m+1 by omega);show SetTable.bits h % (m+1)<=m;omega
theorem tN{m:Nat}(M:Mask m)(h:Int){j:Nat}(hj:j<=m):∃r,r<=13+m/\(lps m r (st0 m h)).1=j:=by
 have e:lps m 13 (st0 m h)=((lps m 13 (st0 m h)).1,0):=by
  refine Prod.ext rfl ?_;rw[DQ];have:=JK h;exact Nat.div_eq_of_lt (A8 this (by decide))
 obtain⟨r,hr,q⟩:=IZ M.all (DI (st0 m h) (yP m h) 13) hj;refine⟨13+r,by omega,?_⟩;rw[AL,e,q]
theorem GS{m:Nat}{oc:Nat->Bool}(M:Mask m)(h:Int){j:Nat}(hj:j<=m)(f:oc j=false):∃n,n<10*SetTable.turns m/\kF m oc n (pS m (st0 m h)):=by
 obtain⟨r,hr,e⟩:=tN M h hj;obtain⟨n,hn,q⟩:=runs (m:=m) r (st0 m h);obtain⟨k,hk,z⟩:=wH (oc:=oc) n (pS m (st0 m h)) (by rw[q];show oc (lps m r (st0 m h)).1=false;rw[e];exact f);refine⟨k,?_,z⟩;unfold SetTable.turns;omega
theorem FZ{m:Nat}{p:Pb}(h:p.dummy=none):(adv m p).dummy=none:=by
 unfold adv SetTable.advance;split
 .exact h
 .exact h
theorem IV{t:SetTable}{j:Nat}(d:t.dummies=#[])(h:SetTable.has t.place j=false):t.slot j=.empty:=by
 unfold SetTable.slot;unfold SetTable.has at h;dsimp only;rw[h,B0 A1,d];rfl
theorem tQ{t:SetTable}{j:Nat}(h:SetTable.has t.place j=true):∃i,t.slot j=.live i/\t.place[i]?=some j:=by
 unfold SetTable.has at h;refine⟨SetTable.below t.place j,?_,eq_of_beq h⟩;unfold SetTable.slot;dsimp only;rw[h,A6 rfl]
theorem sR{t:SetTable}{f:Nat->Int}{h:Int}(d:t.dummies=#[]):∀(n:Nat)(p:Pb)(fuel:Nat),kF t.mask (SetTable.has t.place) n p->n<fuel->p.dummy=none->
 (SetTable.probe.go t f h fuel p=some (.empty (eE t.mask n p).j none)/\∀k,k<n->∀i,t.slot (eE t.mask k p).j=.live i->f i≠h) \/
 ∃k i,k<n/\t.slot (eE t.mask k p).j=.live i/\t.place[i]?=some (eE t.mask k p).j/\f i=h/\SetTable.probe.go t f h fuel p=some (.candidate (eE t.mask k p).j i (eE t.mask (k+1) p))/\(∀k',k'<k->∀i',t.slot (eE t.mask k' p).j=.live i'->f i'≠h)
 |n,p,0=>fun _ l _=>by omega
 |0,p,fuel+1=>fun e _ dm=>by
  refine .inl ⟨?_,fun k hk=>absurd hk (L5 _)⟩;rw[SetTable.probe.go.eq_2,IV d e,dm];rfl
 |n+1,p,fuel+1=>fun e l dm=>by
  obtain⟨i,s1,s2⟩:=tQ e.1;by_cases c:f i=h
  .refine .inr ⟨0,i,by omega,s1,s2,c,?_,fun k' hk'=>absurd hk' (L5 _)⟩;rw[SetTable.probe.go.eq_2,s1];dsimp only;rw[A6 (by rw[c];exact E7 h)];rfl
  .have go:SetTable.probe.go t f h (fuel+1) p=SetTable.probe.go t f h fuel (adv t.mask p):=by
    rw[SetTable.probe.go.eq_2,s1];dsimp only;rw[B0 (by simpa using c)];rfl
   have no:∀i',t.slot p.j=.live i'->f i'≠h:=fun i' q=>by
    rw[s1]at q;injection q with q
    rw[<- q];exact c
   rcases sR d n (adv t.mask p) fuel e.2 (by omega) (FZ dm)with⟨g,all⟩|⟨k,i',hk,q1,q2,q3,q4,all⟩
   .refine .inl ⟨go.trans g,fun k hk i' q=>?_⟩;cases k with
    |zero=>exact no i' q
    |succ k=>exact all k (by omega) i' q
   .refine .inr ⟨k+1,i',by omega,q1,q2,q3,go.trans q4,fun k' hk' i'' q=>?_⟩;cases k' with
    |zero=>exact no i'' q
    |succ k'=>exact all k' (by omega) i'' q
theorem sL{m:Nat}{oc:Nat->Bool}:∀(k n:Nat)(p:Pb),kF m oc n p->k<=n->kF m oc (n-k) (eE m k p)
 |0,n=>fun p h _=>h
 |k+1,0=>fun p _ l=>by omega
 |k+1,n+1=>fun p h l=>by
  rw[show n+1-(k+1)=n-k by omega];exact sL k n (adv m p) h.2 (by omega)
theorem FT{m:Nat}:∀(k:Nat){p:Pb},p.dummy=none->(eE m k p).dummy=none
 |0,_=>fun h=>h
 |k+1,_=>fun h=>FT k (FZ h)
theorem HD{m:Nat}{oc:Nat->Bool}{g:Nat}:∀{n:Nat}{p:Pb},kF m oc n p->oc g=true->Rch m oc g p->∃k,k<n/\(eE m k p).j=g
 |0,p,e,og,.here h=>by rw[<- h]at og;rw[show oc p.j=false from e]at og;cases og
 |0,p,e,og,.step h r=>by rw[show oc p.j=false from e]at h;cases h
 |n+1,p,e,og,.here h=>⟨0,by omega,h⟩
 |n+1,p,e,og,.step h r=>by
  obtain⟨k,hk,q⟩:=HD e.2 og r;exact⟨k+1,by omega,q⟩
theorem lW{xs:Array Nat}(R:Rsg xs){j:Nat}:SetTable.has xs j=true↔j∈xs.toList:=by
 constructor
 .intro h;obtain⟨i,e⟩:=JD h;rw[<- D0]at e;exact E4 e
 .intro h;obtain⟨i,e⟩:=List.mem_iff_getElem?.mp h;rw[D0]at e;have hi:i<xs.size:=(Array.getElem?_eq_some_iff.mp e).1;have ge:xs.getD i 0=j:=by rw[A5,e];rfl
  have c:=jG j R
  have:SetTable.below xs j=i:=by
   by_cases h1:i<SetTable.below xs j
   .have:=c.lo i h1;omega
   .by_cases h2:SetTable.below xs j<i
    .have a:=c.hi _ (A4 _) (by omega);have b:=R _ i h2 hi;omega
    .omega
  unfold SetTable.has;rw[this,e];exact E7 _
theorem sP{xs:Array Nat}(R:Rsg xs):∀n,(∀j,j<n->SetTable.has xs j=true)->n<=SetTable.below xs n
 |0=>fun _=>C6 _
 |n+1=>fun h=>by
  have ih:=sP R n fun j hj=>h j (by omega);have q:=eq_of_beq (h n (by omega):(xs[SetTable.below xs n]?==some n)=true);have lt:=(Array.getElem?_eq_some_iff.mp q).1;have ge:xs.getD (SetTable.below xs n) 0=n:=by rw[A5,q];rfl
  have c:=jG (n+1) R;by_cases z:SetTable.below xs (n+1)<=SetTable.below xs n
  .have:=c.hi _ z lt;omega
  .omega
structure gO(t:SetTable)(hs:List Int):Prop where
 dm:t.dummies=#[]
 ms:Mask t.mask
 rs:Rsg t.place
 sz:t.place.size=hs.length
 le:∀j∈t.place.toList,j<=t.mask
 fl:hs.length*5<t.mask*3
 rc:∀q∈hs.zip t.place.toList,Rch t.mask (SetTable.has t.place) q.2 (t.probeStart q.1)
theorem gO.room{t:SetTable}{hs:List Int}(T:gO t hs):∃j,j<=t.mask/\SetTable.has t.place j=false:=by
 by_cases h:∀j,j<t.mask+1->SetTable.has t.place j=true
 .have a:=sP T.rs _ h;have b:=(jG (t.mask+1) T.rs).le;have c:=T.sz;have d:=T.fl;omega
 .obtain⟨j,hj⟩:=Classical.not_forall.mp h;have h1:j<t.mask+1:=Classical.byContradiction fun q=>hj fun z=>absurd z q;refine⟨j,by omega,?_⟩;cases e:SetTable.has t.place j with
  |false=>rfl
  |true=>exact absurd (fun _=>e) hj
theorem gO.search{t:SetTable}{hs:List Int}(T:gO t hs)(h:Int):∃n,n<10*SetTable.turns t.mask/\kF t.mask (SetTable.has t.place) n (t.probeStart h):=by
 obtain⟨j,hj,f⟩:=T.room;exact GS T.ms h hj f
theorem PJ{m:Nat}{p:Pb}(h:p.j+p.more<=m):(adv m p).j+(adv m p).more<=m:=by
 unfold adv SetTable.advance;by_cases c:p.more > 0
 .rw[A6 c];dsimp only;omega
 .rw[B0 c];dsimp only
  have l:(SetTable.leap m p.i p.perturb).1<=m:=by
   have:=Nat.mod_lt (p.i*5+1+p.perturb / 32) (show 0<m+1 by omega);show(p.i*5+1+p.perturb / 32) % (m+1)<=m;omega
  unfold SetTable.runEnd;split<;>omega
theorem DK{m:Nat}:∀(n:Nat){p:Pb},p.j+p.more<=m->(eE m n p).j<=m
 |0,p=>fun h=>by show p.j<=m;omega
 |n+1,p=>fun h=>DK n (PJ h)
theorem II{m:Nat}{q:Nat×Nat}(h:q.1<=m):(pS m q).j+(pS m q).more<=m:=by
 show q.1+(SetTable.runEnd m q.1-q.1)<=m;unfold SetTable.runEnd;split<;>omega
theorem JA{α β:Type}{xs:List α}{ys:List β}{p:Nat}{x:α}{y:β}(h:xs.length=ys.length):∀q∈(xs.take p++x::xs.drop p).zip (ys.take p++y::ys.drop p),q=(x,y)\/q∈xs.zip ys:=fun q hq=>by
 rw[List.zip_append (by rw[D3,D3,h])]at hq;rcases List.mem_append.mp hq with z|z
 .refine .inr ?_;have:(xs.zip ys).take p=(xs.take p).zip (ys.take p):=by rw[L6,L6,List.take_zipWith]
  rw[<- this]at z;exact L0 z
 .rw[List.zip_cons_cons]at z;rcases List.mem_cons.mp z with z|z
  .exact .inl z
  .refine .inr ?_;have:(xs.zip ys).drop p=(xs.drop p).zip (ys.drop p):=by rw[L6,L6,List.drop_zipWith]
   rw[<- this]at z;exact L1 z
theorem gO.put{t:SetTable}{hs:List Int}(T:gO t hs){h:Int}{n j p:Nat}(e:kF t.mask (SetTable.has t.place) n (t.probeStart h))(hj:(eE t.mask n (t.probeStart h)).j=j)(hp:SetTable.below t.place j=p):
 t.put j=({ t with place:=SetTable.insertAt t.place p j },p)/\p<=hs.length/\((hs.length+1)*5<t.mask*3->gO { t with place:=SetTable.insertAt t.place p j } (hs.take p++h::hs.drop p)):=by
 have nh:SetTable.has t.place j=false:=by rw[<- hj];exact sX e
 have c:=(jG j T.rs).le;rw[hp]at c;have R:=IF T.rs nh;rw[hp]at R
 have jm:j<=t.mask:=by
  rw[<- hj];exact DK n (II (yP _ _))
 have up:∀i,SetTable.has t.place i=true->SetTable.has (SetTable.insertAt t.place p j) i=true:=fun i hi=>by
  rw[lW T.rs]at hi;rw[lW R,nH];rw[<- J9 p t.place.toList]at hi;rcases List.mem_append.mp hi with z|z
  .exact C9 _ z
  .exact B4 _ (B7 _ z)
 refine⟨?_,by rw[<- T.sz];exact c,fun fl=>⟨T.dm,T.ms,R,?_,fun i hi=>?_,?_,fun q hq=>?_⟩⟩
 .unfold SetTable.put;dsimp only;rw[hp,T.dm];rfl
 .show(SetTable.insertAt t.place p j).size=_;rw[rR c,T.sz,A9,C1,D3,E2];have:=T.sz;omega
 .have hi:i∈(SetTable.insertAt t.place p j).toList:=hi;rw[nH]at hi;rcases List.mem_append.mp hi with z|z
  .exact T.le i (L0 z)
  .rcases List.mem_cons.mp z with rfl|z
   .exact jm
   .exact T.le i (L1 z)
 .rw[A9,C1,D3,E2];show _<t.mask*3;omega
 .have hq:q∈(hs.take p++h::hs.drop p).zip (SetTable.insertAt t.place p j).toList:=hq;rw[nH]at hq;show Rch t.mask (SetTable.has (SetTable.insertAt t.place p j)) q.2 (t.probeStart q.1);rcases JA (T.sz.symm.trans Array.length_toList.symm) q hq with rfl|z
  .have:=wR e;rw[hj]at this;exact this.mono up
  .exact(T.rc q z).mono up
noncomputable def ocW(ow:Array (Option Nat))(j:Nat):Bool:=(ow.getD j none).isSome
theorem getD_in{ow:Array (Option Nat)}{j:Nat}{a b:Option Nat}(h:j<ow.size):ow.getD j a=ow.getD j b:=by
 rw[A5,A5,D7 h];rfl
theorem vP{m:Nat}{oc:Nat->Bool}{i pt:Nat}:∀(k j more:Nat),k<=more->(∀k',k'<k->oc (j+k')=true)->Rch m oc (j+k) ⟨j,more,i,pt,none⟩
 |0=>fun j more _ _=>.here rfl
 |k+1=>fun j more h a=>by
  refine .step (a 0 (by omega)) ?_
  have:adv m ⟨j,more,i,pt,none⟩=⟨j+1,more-1,i,pt,none⟩:=by
   unfold adv SetTable.advance;rw[A6 (show more > 0 by omega)]
  rw[this,show j+(k+1)=j+1+k by omega]
  exact vP k (j+1) (more-1) (by omega) fun k' hk'=>by
   rw[show j+1+k'=j+(k'+1)by omega];exact a (k'+1) (by omega)
theorem vE{m:Nat}{oc:Nat->Bool}{i pt g:Nat}(r:Rch m oc g (pS m (SetTable.leap m i pt))):∀(more j:Nat),(∀k',k'<=more->oc (j+k')=true)->Rch m oc g ⟨j,more,i,pt,none⟩
 |0=>fun j a=>.step (a 0 (A4 _)) r
 |more+1=>fun j a=>by
  refine .step (a 0 (by omega)) ?_;rw[show adv m ⟨j,more+1,i,pt,none⟩=⟨j+1,more,i,pt,none⟩from rfl]
  exact vE r more (j+1) fun k' hk'=>by
   rw[show j+1+k'=j+(k'+1)by omega];exact a (k'+1) (by omega)
theorem AK{m:Nat}{ow:Array (Option Nat)}(sz:ow.size=m+1):∀(fuel:Nat)(q:Nat×Nat),q.1<=m->(∃r,r<fuel/\ow.getD (lps m r q).1 (some 0)=none)->
 ∃j,SetTable.layClean.free m ow fuel q.1 q.2=some j/\ow.getD j (some 0)=none/\j<=m/\Rch m (ocW ow) j (pS m q)
 |0,q,_,⟨r,hr,_⟩=>by omega
 |fuel+1,q,hq,⟨r,hr,e⟩=>by
  rw[SetTable.layClean.free.eq_2];have ge:q.1<=SetTable.runEnd m q.1/\SetTable.runEnd m q.1<=m:=by unfold SetTable.runEnd;split<;>omega
  cases f:List.find? (fun k=>(ow.getD (q.1+k) (some 0)).isNone) (List.range (SetTable.runEnd m q.1+1-q.1))with
  |some k=>
   obtain⟨h1,h2,h3⟩:=List.find?_range_eq_some.mp f;have h2:=List.mem_range.mp h2;have h1:ow.getD (q.1+k) (some 0)=none:=by simpa using h1
   refine⟨q.1+k,rfl,h1,by omega,?_⟩
   exact vP k q.1 _ (by omega) fun k' hk'=>by
    have:=h3 k' hk';unfold ocW;rw[getD_in (b:=some 0) (by omega)];cases z:ow.getD (q.1+k') (some 0)with
    |none=>rw[z]at this;simp at this
    |some _=>rfl
  |none=>
   have all:=List.find?_eq_none.mp f
   have oc:∀k',k'<=SetTable.runEnd m q.1-q.1->ocW ow (q.1+k')=true:=fun k' hk'=>by
    have:=all k' (List.mem_range.mpr (by omega));unfold ocW;rw[getD_in (b:=some 0) (by omega)];cases z:ow.getD (q.1+k') (some 0)with
    |none=>rw[z]at this;simp at this
    |some _=>rfl
   cases r with
   |zero=>
    have:=oc 0 (C6 _);unfold ocW at this;have e:ow.getD q.1 (some 0)=none:=e;rw[Nat.add_zero,getD_in (b:=some 0) (by omega),e]at this;cases this
   |succ r=>
    have l:(SetTable.leap m q.1 q.2).1<=m:=DI q hq 1;obtain⟨j,a,b,c,d⟩:=AK sz fuel (SetTable.leap m q.1 q.2) l ⟨r,by omega,e⟩;exact⟨j,a,b,c,vE d _ _ oc⟩
noncomputable def NK(m:Nat)(acc:Option (Array (Option Nat)×Nat))(h:Int):Option (Array (Option Nat)×Nat):=acc.bind fun x=>(SetTable.layClean.free m x.1 (SetTable.turns m) (SetTable.bits h % (m+1)) (SetTable.bits h)).bind fun j=>some (x.1.setIfInBounds j (some x.2),x.2+1)
structure sC(m:Nat)(hs:List Int)(k:Nat)(ow:Array (Option Nat)):Prop where
 sz:ow.size=m+1
 tot:∀i h,i<k->hs[i]?=some h->∃j,j<=m/\ow.getD j none=some i/\Rch m (ocW ow) j (pS m (st0 m h))
 rng:∀j i,ow.getD j none=some i->i<k
 one:∀j j' i,ow.getD j none=some i->ow.getD j' none=some i->j=j'
 cnt:ow.toList.countP (·.isNone)=m+1-k
theorem kT{ow:Array (Option Nat)}{j i:Nat}{x d:Option Nat}(h:j<ow.size):(ow.setIfInBounds j x).getD i d=if i=j then x else ow.getD i d:=by
 rw[A5,Array.getElem?_setIfInBounds,A5];by_cases e:j=i
 .rw[A6 e,A6 e.symm,A6 (e▸h)];rfl
 .rw[B0 e,B0 (fun z=>e z.symm)]
theorem sC.step{m:Nat}{hs:List Int}{k:Nat}{ow:Array (Option Nat)}(O:sC m hs k ow)(M:Mask m){h:Int}(hh:hs[k]?=some h)(hk:k<=m):∃ow',NK m (some (ow,k)) h=some (ow',k+1)/\sC m hs (k+1) ow':=by
 have pos:0<ow.toList.countP (·.isNone):=by rw[O.cnt];omega
 obtain⟨a,ha,na⟩:=List.countP_pos_iff.mp pos;obtain⟨j0,e0⟩:=List.mem_iff_getElem?.mp ha;rw[D0]at e0;have l0:j0<ow.size:=(Array.getElem?_eq_some_iff.mp e0).1
 have n0:ow.getD j0 (some 0)=none:=by
  rw[A5,e0];cases a with
  |none=>rfl
  |some _=>cases na
 have sz:=O.sz;obtain⟨r,hr,er⟩:=tN M h (show j0<=m by omega);obtain⟨j,f1,f2,f3,f4⟩:=AK (ow:=ow) O.sz (SetTable.turns m) (st0 m h) (yP m h) ⟨r,by unfold SetTable.turns;omega,by rw[er];exact n0⟩;have jl:j<ow.size:=by omega
 have f2':ow.getD j none=none:=by rw[getD_in (b:=some 0) jl];exact f2
 have up:∀i,ocW ow i=true->ocW (ow.setIfInBounds j (some k)) i=true:=fun i hi=>by
  unfold ocW at hi ⊢;rw[kT jl];split
  .rfl
  .exact hi
 refine⟨ow.setIfInBounds j (some k),?_,by rw[Array.size_setIfInBounds];exact sz,fun i h' hi hh'=>?_,fun j' i e=>?_,fun j1 j2 i e1 e2=>?_,?_⟩
 .show(SetTable.layClean.free m ow (SetTable.turns m) (SetTable.bits h % (m+1)) (SetTable.bits h)).bind _=_;rw[show SetTable.layClean.free m ow (SetTable.turns m) (SetTable.bits h % (m+1)) (SetTable.bits h)=some j from f1];rfl
 .by_cases e:i=k
  .subst e;rw[hh]at hh';cases hh';exact⟨j,f3,by rw[kT jl,A6 rfl],f4.mono up⟩
  .obtain⟨j1,q1,q2,q3⟩:=O.tot i h' (by omega) hh';refine⟨j1,q1,?_,q3.mono up⟩;rw[kT jl,B0 (fun z=>by rw[z,f2']at q2;cases q2)];exact q2
 .rw[kT jl]at e;split at e
  .cases e;omega
  .have:=O.rng j' i e;omega
 .rw[kT jl]at e1 e2;split at e1
  .split at e2
   .omega
   .cases e1;have:=O.rng j2 k e2;omega
  .split at e2
   .cases e2;have:=O.rng j1 k e1;omega
   .exact O.one j1 j2 i e1 e2
 .rw[Array.toList_setIfInBounds,List.countP_set (by rw[D5];exact jl),O.cnt]
  have:ow.toList[j]'(by rw[D5];exact jl)=none:=by
   have q:ow.getD j none=none:=f2';rw[A5,D7 jl]at q;exact q
  rw[this];simp;omega
theorem sC.fold{m:Nat}{hs:List Int}(M:Mask m)(hl:hs.length<=m):∀(ls:List Int)(k:Nat)(ow:Array (Option Nat)),hs.drop k=ls->k<=hs.length->sC m hs k ow->∃ow',ls.foldl (NK m) (some (ow,k))=some (ow',hs.length)/\sC m hs hs.length ow'
 |[]=>fun k ow e hk O=>by
  have:hs.length<=k:=List.drop_eq_nil_iff.mp e;have kk:k=hs.length:=by omega
  subst kk;exact⟨ow,rfl,O⟩
 |h::ls=>fun k ow e hk' O=>by
  have hk:k<hs.length:=by
   by_cases q:k<hs.length
   .exact q
   .rw[List.drop_eq_nil_iff.mpr (by omega)]at e;cases e
  have hh:hs[k]?=some h:=by
   have:=J6 (·[0]?) e;rw[List.getElem?_drop]at this;simpa using this
  obtain⟨ow1,e1,O1⟩:=O.step M hh (by omega);obtain⟨ow2,e2,O2⟩:=sC.fold M hl ls (k+1) ow1 (by rw[<- List.drop_drop,e];rfl) (by omega) O1;exact⟨ow2,by rw[List.foldl_cons,e1];exact e2,O2⟩
theorem EY(m:Nat)(hs:List Int):sC m hs 0 (Array.replicate (m+1) none):=by
 have g0:∀(j:Nat),(Array.replicate (m+1) (none:Option Nat)).getD j none=none:=fun j=>by
  rw[A5,Array.getElem?_replicate];split<;>rfl
 refine⟨Array.size_replicate,fun i h hi=>absurd hi (L5 _),fun j i e=>(by rw[g0]at e;cases e),fun j j' i e=>(by rw[g0]at e;cases e),?_⟩;rw[Array.toList_replicate,List.countP_replicate];rfl
theorem RC{m:Nat}{hs:List Int}(M:Mask m)(hl:hs.length<=m):∃ow,SetTable.layClean m hs.toArray=some ow/\sC m hs hs.length ow:=by
 obtain⟨ow,e,O⟩:=sC.fold M hl hs 0 (Array.replicate (m+1) none) rfl (C6 _) (EY m hs);refine⟨ow,?_,O⟩;unfold SetTable.layClean;rw[<- Array.foldl_toList];show Option.map (fun x=>x.1) (List.foldl (NK m) (some (Array.replicate (m+1) none,0)) hs)=some ow;rw[e];rfl
theorem GT{m:Nat}{ow:Array (Option Nat)}{q:Nat×Nat}:q∈(List.range (m+1)).filterMap (fun j=>(ow.getD j none).map (j,·))↔q.1<=m/\ow.getD q.1 none=some q.2:=by
 rw[List.mem_filterMap];constructor
 .rintro⟨j,hj,h⟩;obtain⟨i,hi,rfl⟩:=Option.map_eq_some_iff.mp h;exact⟨by have:=List.mem_range.mp hj;show j<=m;omega,hi⟩
 .rintro⟨h1,h2⟩;exact⟨q.1,List.mem_range.mpr (by omega),by rw[h2];rfl⟩
theorem wZ{α β γ:Type}(f:α->β)(g:α->γ):∀(l:List α),(l.map f).zip (l.map g)=l.map fun a=>(f a,g a)
 |[]=>rfl
 |a::l=>by rw[B6,B6,List.zip_cons_cons,wZ f g l,B6]
theorem IB{m fg mv:Nat}{ld pl:Bool}{hs:List Int}(M:Mask m)(hl:hs.length*5<m*3):∃(place:Array Nat)(order:List Nat),SetTable.laid m fg mv ld pl hs.toArray=some (⟨m,place,#[],fg,ld,mv,pl⟩,order.toArray) /\
 order.Perm (List.range hs.length)/\gO ⟨m,place,#[],fg,ld,mv,pl⟩ (order.map fun k=>hs.getD k 0):=by
 obtain⟨ow,e1,O⟩:=RC (hs:=hs) M (by omega);obtain⟨L,hL⟩:∃L,(List.range (m+1)).filterMap (fun j=>(ow.getD j none).map (j,·))=L:=⟨_,rfl⟩;have mem:∀q,q∈L↔q.1<=m/\ow.getD q.1 none=some q.2:=fun q=>by rw[<- hL];exact GT
 have rise:(L.map (·.1)).Pairwise (·<·):=by rw[<- hL];exact zR _ List.pairwise_lt_range
 have pm:(L.map (·.2)).Perm (List.range hs.length):=by
  refine(List.perm_ext_iff_of_nodup ?_ List.nodup_range).mpr fun i=>?_
  .refine List.pairwise_map.mpr ?_;refine List.Pairwise.imp_of_mem (fun{a b} ha hb lt q=>?_) (List.pairwise_map.mp rise);have:=O.one a.1 b.1 a.2 ((mem a).mp ha).2 (by rw[((mem b).mp hb).2,q]);omega
  .rw[List.mem_range];constructor
   .intro h;obtain⟨q,hq,rfl⟩:=List.mem_map.mp h;exact O.rng _ _ ((mem q).mp hq).2
   .intro h;obtain⟨j,j1,j2,_⟩:=O.tot i hs[i] h (B5 h);exact List.mem_map.mpr ⟨(j,i),(mem (j,i)).mpr ⟨j1,j2⟩,rfl⟩
 have R:=CH rise
 have ln:L.length=hs.length:=by
  have:=pm.length_eq
  rwa [A3,List.length_range]at this
 refine⟨(L.map (·.1)).toArray,L.map (·.2),?_,pm,rfl,M,R,by rw[B9,A3,A3,A3],fun j hj=>?_,by rw[A3,A3,ln];exact hl,fun q hq=>?_⟩
 .unfold SetTable.laid;rw[e1];show some _=_;rw[hL]
 .obtain⟨q,hq,rfl⟩:=List.mem_map.mp hj;exact((mem q).mp hq).1
 .have hq:q∈((L.map (·.2)).map fun k=>hs.getD k 0).zip (L.map (·.1)):=hq;rw[List.map_map,wZ]at hq;obtain⟨z,hz,rfl⟩:=List.mem_map.mp hq;obtain⟨z1,z2⟩:=(mem z).mp hz;have zk:=O.rng _ _ z2;have hh:hs[z.2]?=some (hs.getD z.2 0):=by rw[B5 zk,E8,B5 zk];rfl
  obtain⟨j,_,j2,j3⟩:=O.tot z.2 _ zk hh;have ej:j=z.1:=O.one _ _ _ j2 z2;subst ej;refine j3.mono fun i hi=>?_;show SetTable.has (L.map (·.1)).toArray i=true;rw[lW R];unfold ocW at hi;obtain⟨k,hk⟩:=Option.isSome_iff_exists.mp hi
  have c:i<ow.size:=by
   by_cases c:i<ow.size
   .exact c
   .rw[A5,Array.getElem?_eq_none (by omega)]at hk;cases hk
  exact List.mem_map.mpr ⟨(i,k),(mem (i,k)).mpr ⟨by have:=O.sz;show i<=m;omega,hk⟩,rfl⟩
section
variable{prog:Program}{w:World}{A:Around}{E:Value->Shared->Prop}{s:Shared}
noncomputable abbrev TK(prog:Program)(w:World):HeapKind prog w (List Key):=tupleKind (cM prog w)
theorem GW{k:Key}{v:Value}(h:(cM prog w).is k v=true):v.scannable=true:=by
 have h:pC k v=true:=h;cases k<;>cases v<;>first|rfl|exact absurd (show false=true from h) A1
theorem mW:∀{ks:List Key}{vs:List Value},ItemsAre (cM prog w) ks vs->∀v∈vs,v.scannable=true
 |_,_,.nil=>fun v h=>by simp at h
 |_,_,.cons e r=>fun v h=>by
  rcases List.mem_cons.mp h with rfl|h
  .exact GW e
  .exact mW r v h
theorem TK.ty{k:List Key}{a:Addr}(h:(TK prog w).is s.heap k a):s.TypeIs (.ref a) "tuple":=let⟨o,_,_,h1,h2,_⟩:=h;⟨o,h1,h2⟩
theorem yA{v:Value}(h:v.scannable=true)(n:Nat):ofAClassStatement n v=pure false:=by
 cases v<;>first|(cases n<;>rfl)|(simp[Value.scannable]at h)
theorem rY{k:List Key}{a:Addr}{Q:Bool->Shared->Prop}(h:(TK prog w).is s.heap k a)(q:Q false s):wpAny (model prog w) A (ofAClassStatement 8 (.ref a)) Q E s:=by
 have ty:=TK.ty h;obtain⟨o,items,n,h1,h2,h3,h4⟩:=h;rw[show(8:Nat)=Nat.succ 7 from rfl];unfold ofAClassStatement;refine A0 (wpAny_typeOf ty ?_);refine A0 (A7 ?_);refine A0 (wpAny_seqItems h1 h3 ?_);refine A0 (wpAny_forIn_array' _ (fun rest b s'=>(∀v∈rest,v.scannable=true)/\b=(none,())/\s'=s) _ (fun x rest b s' ⟨hs,hb,es⟩=>?_) (fun b s' ⟨_,hb,es⟩=>?_) items (none,()) ⟨mW h4,rfl,rfl⟩)
 .rw[yA (hs x C2) 7];refine A0 (A7 ?_);exact A7 ⟨fun v hv=>hs v (B7 _ hv),rfl,es⟩
 .subst hb es;exact A7 q
theorem AZ{k:List Key}{a:Addr}{Q:Bool->Shared->Prop}(h:(TK prog w).is s.heap k a)(q:∀r,Q r s):wpAny (model prog w) A (hashByValue 8 (.ref a)) Q E s:=by
 have ty:=TK.ty h;obtain⟨o,items,n,h1,h2,h3,h4⟩:=h;show wpAny (model prog w) A (specialOf (.ref a) "__hash__" >>= _) Q E s;refine A0 (wpAny_specialOf ty PySem.F.slot_tuple_hash.lookup ?_);refine A0 (wpAny_seqItems h1 h3 ?_);refine A0 (wpAny_forIn_array' _ (fun rest b s'=>(∀v∈rest,v.scannable=true)/\b=(none,())/\s'=s) _ (fun x rest b s' ⟨hs,hb,es⟩=>?_) (fun b s' ⟨_,hb,es⟩=>?_) items (none,()) ⟨mW h4,rfl,rfl⟩)
 .rw[hashByValue_scannable 7 (hs x C2)];refine A0 (A7 ?_);cases plainKind x with
  |true=>exact A7 ⟨fun v hv=>hs v (B7 _ hv),rfl,es⟩
  |false=>
   subst es;exact A7 (A7 (q _))
 .subst hb es;exact A7 (q _)
theorem HJ{k:List Key}{b:Addr}{ys:List Value}{Q:Bool->Shared->Prop}(hb:(TK prog w).is s.heap k b)(hy:∀y∈ys,∃k' a',y=.ref a'/\(TK prog w).is s.heap k' a')(q:Q false s):
 wpAny (model prog w) A (searchCouldBeSeen (.ref b) ys) Q E s:=by
 unfold searchCouldBeSeen;refine A0 (wpAny_forIn_list _ (fun rest r s'=>(∀v∈rest,v∈ys)/\r=(none,())/\s'=s) _ (fun x rest r s' ⟨hs,hr,es⟩=>?_) (fun r s' ⟨_,hr,es⟩=>?_) ys (none,()) ⟨fun _ h=>h,rfl,rfl⟩)
 .subst es;obtain⟨k',a',rfl,ha⟩:=hy x (hs x C2);have nx:(∀v∈rest,v∈ys)/\((none,()):Option Bool×Unit)=(none,())/\s'=s':=⟨fun v hv=>hs v (B7 _ hv),rfl,rfl⟩;dsimp only;by_cases c:(b==a')=true
  .rw[c];exact A7 nx
  .have c:(b==a')=false:=by simpa using c
   rw[c];refine A0 ((TK prog w).quiet hb ?_);refine A0 ((TK prog w).quiet ha ?_);refine A0 (rY hb ?_);refine A0 (rY ha ?_);exact A7 nx
 .subst hr es;exact A7 q
end
section
variable{prog:Program}{w:World}{A:Around}{E:Value->Shared->Prop}{s:Shared}
noncomputable abbrev hT(prog:Program)(w:World)(k:List Key):Int:=(TK prog w).hash k
noncomputable def enT(prog:Program)(w:World)(xs:List (List Key×Addr)):List (Int×Value):=xs.map fun x=>(hT prog w x.1,Value.ref x.2)
theorem EC(a:Addr):isSame (Value.ref a) (Value.ref a)=pure true:=by
 unfold isSame;dsimp only;rw[A6 (E7 _)]
theorem HM{t:SetTable}(M:Mask t.mask):t.gaveWay=false:=by
 unfold SetTable.gaveWay;rcases M with e|e|e<;>rw[e]<;>rfl
theorem gO.fits{t:SetTable}{hs:List Int}(T:gO t hs){n:Nat}(h:n=hs.length):t.fits n=true:=by
 have:=T.sz;have:=T.fl;have:=T.dm;unfold SetTable.fits SetTable.fill;rw[T.dm,T.sz,h,B1];exact⟨E7 _,C3 (by show hs.length+0<=_;omega)⟩
theorem BV{a:Addr}{o:Obj}{es:Array (Int×Value)}{ep:Nat}{t:SetTable}{xs:List (List Key×Addr)}{k:List Key}{b:Addr}{Q:SetFound->Shared->Prop}(ho:s.heap.get? a=some o)(hd:o.data=.set es ep t)(he:es.toList=enT prog w xs)(T:gO t (xs.map fun x=>hT prog w x.1))
 (hx:∀x∈xs,(TK prog w).is s.heap x.1 x.2) (hb:(TK prog w).is s.heap k b) (room:(TK prog w).room A):
 ∀(n:Nat)(p:Pb)(op:Option Pb)(fuel:Nat),op.getD (t.probeStart (hT prog w k))=p->kF t.mask (SetTable.has t.place) n p->n<10*SetTable.turns t.mask->p.dummy=none->n<fuel->
  (∀(i:Nat)(x:List Key×Addr),xs[i]?=some x->x.1=k->∃j m,t.place[i]?=some j/\m<n/\(eE t.mask m p).j=j)->
  (k∈xs.map (·.1)->Q (.there none) s)->(k∉xs.map (·.1)->Q (.free (eE t.mask n p).j false) s)->wpAny (model prog w) A (setSearchFrom a (.ref b) (hT prog w k) true fuel op) Q E s:=by
 have hf:=T.fits (n:=es.size) (by rw[<- D5,he];unfold enT;rw[A3,A3])
 have esi:∀(i:Nat)(x:List Key×Addr),xs[i]?=some x->es[i]?=some (hT prog w x.1,Value.ref x.2):=fun i x e=>by
  rw[<- D0,he];unfold enT;rw[D6,e];rfl
 have plc:∀(i j:Nat),t.place[i]?=some j->∃x,xs[i]?=some x:=fun i j e=>by
  have l:=(Array.getElem?_eq_some_iff.mp e).1;rw[T.sz,A3]at l;exact⟨_,B5 l⟩
 intro n
 induction n using Nat.strongRecOn with
 |_ n ih=>
  intro p op fuel hop en ln dm lf pos yes no;cases fuel with
  |zero=>omega
  |succ fuel=>
   rw[setSearchFrom.eq_2];refine A0 (L3 ho hd hf ?_);dsimp only;rw[HM T.ms,B0 A1,hop];obtain⟨f,hF⟩:∃f:Nat->Int,(fun i=>(Option.map (fun x:Int×Value=>x.1) es[i]?).getD 0)=f:=⟨_,rfl⟩
   have fi:∀(i:Nat)(x:List Key×Addr),xs[i]?=some x->f i=hT prog w x.1:=fun i x e=>by
    rw[<- hF];show(Option.map (fun x:Int×Value=>x.1) es[i]?).getD 0=_;rw[esi i x e];rfl
   generalize hP:t.probe _ (hT prog w k) p=r;have hP:t.probe f (hT prog w k) p=r:=by rw[<- hF];exact hP
   rcases sR (f:=f) (h:=hT prog w k) T.dm n p (10*SetTable.turns t.mask) en ln dm with⟨g,all⟩|⟨m,i,hm,s1,s2,s3,g,all⟩
   .have:r=some (.empty (eE t.mask n p).j none):=hP.symm.trans g;subst this;refine A7 (no fun hk=>?_);obtain⟨x,hx',rfl⟩:=List.mem_map.mp hk;obtain⟨i,ei⟩:=List.mem_iff_getElem?.mp hx';obtain⟨j,m,pj,hm,ej⟩:=pos i x ei rfl;obtain⟨i',q1,q2⟩:=tQ (t:=t) (j:=j) (by rw[lW T.rs];rw[<- D0]at pj;exact E4 pj)
    have ii:i'=i:=by
     have l1:=(Array.getElem?_eq_some_iff.mp q2).1;have l2:=(Array.getElem?_eq_some_iff.mp pj).1;have g1:t.place.getD i' 0=j:=by rw[A5,q2];rfl
     have g2:t.place.getD i 0=j:=by rw[A5,pj];rfl
     by_cases c:i'<i
     .have:=T.rs _ _ c l2;omega
     .by_cases c':i<i'
      .have:=T.rs _ _ c' l1;omega
      .omega
    subst ii;exact all m hm i' (by rw[ej];exact q1) (fi i' x ei)
   .have:r=some (.candidate (eE t.mask m p).j i (eE t.mask (m+1) p)):=hP.symm.trans g;subst this;obtain⟨x,ex⟩:=plc i _ s2;have xm:x∈xs:=E4 ex
    have fin:wpAny (model prog w) A (holding [Value.ref x.2] (eqBool (.ref x.2) (.ref b)) >>= fun equal=>setState a >>= fun y=>match y with
     |(es',_,t')=>if (true&&equal)=true then pure (SetFound.there none)else match t'.sameMemory t.moves t.mask with
      |some same=>do
       let still <- match if same=true then t'.slot (eE t.mask m p).j else SetTable.Slot.empty with
        |SetTable.Slot.live i'=>match es'[i']? with
         |some (_,y')=>do
          let z <- isSame y' (.ref x.2)
          pure (if z=true then some i' else none)
         |none=>pure none
        |_=>pure none
       match still with
       |none=>do
        rule "set.search.anew"
        setSearchFrom a (.ref b) (hT prog w k) true fuel none
       |some i'=>if equal=true then pure (SetFound.there (some i'))else setSearchFrom a (.ref b) (hT prog w k) true fuel (some (eE t.mask (m+1) p))
      |_=>unsupported "set.changed-during-lookup:is-the-new-block-at-the-old-address") Q E s:=by
     refine A0 (J4 ((TK prog w).eqBool room (hx x xm) hb ?_));refine A0 (L3 ho hd hf ?_);dsimp only;by_cases c:x.1=k
     .rw[C3 c];exact A7 (yes (List.mem_map.mpr ⟨x,xm,c⟩))
     .rw[C8 c];rw[B0 (by decide)]
      have sm:t.sameMemory t.moves t.mask=some true:=by
       unfold SetTable.sameMemory;rw[A6 (E7 _)]
      rw[sm];dsimp only;rw[A6 rfl,s1];dsimp only;rw[esi i x ex];dsimp only;refine A0 ?_;rw[EC];refine A7 (A0 (A7 ?_));rw[A6 rfl];dsimp only;rw[B0 (by decide)];have en':=sL (m+1) n p en hm;refine ih (n-(m+1)) (by omega) (eE t.mask (m+1) p) (some (eE t.mask (m+1) p)) fuel rfl en' (by omega) (FT _ dm) (by omega) (fun i2 x2 e2 k2=>?_) yes (fun z=>?_)
      .obtain⟨j,m2,pj,hm2,ej⟩:=pos i2 x2 e2 k2;obtain⟨i',q1,q2⟩:=tQ (t:=t) (j:=j) (by rw[lW T.rs];rw[<- D0]at pj;exact E4 pj)
       have ii:i'=i2:=by
        have l1:=(Array.getElem?_eq_some_iff.mp q2).1;have l2:=(Array.getElem?_eq_some_iff.mp pj).1;have g1:t.place.getD i' 0=j:=by rw[A5,q2];rfl
        have g2:t.place.getD i2 0=j:=by rw[A5,pj];rfl
        by_cases c1:i'<i2
        .have:=T.rs _ _ c1 l2;omega
        .by_cases c2:i2<i'
         .have:=T.rs _ _ c2 l1;omega
         .omega
       subst ii;have h1:¬m2<m:=fun lt=>all m2 lt i' (by rw[ej];exact q1) (by rw[fi i' x2 e2,k2])
       have h2:m2≠m:=fun e=>by
        subst e;rw[ej]at s1;rw[q1]at s1;injection s1 with s1
        subst s1;rw[e2]at ex;cases ex;exact c k2
       refine⟨j,m2-(m+1),pj,by omega,?_⟩;rw[<- lN,show m+1+(m2-(m+1))=m2 by omega];exact ej
      .have:=no z;rw[<- lN,show m+1+(n-(m+1))=n by omega];exact this
    cases hl:t.led with
    |true=>
     dsimp only;rw[B0 (by decide),esi i x ex];exact fin
    |false=>
     dsimp only;rw[A6 (by decide)];refine A0 (HJ hb (fun y hy=>?_) ?_)
     .obtain⟨e,he1,rfl⟩:=List.mem_map.mp hy;rw[Array.toList_filter]at he1;have he2:=(List.mem_filter.mp he1).1;rw[he]at he2;obtain⟨x',hx',rfl⟩:=List.mem_map.mp he2;exact⟨x'.1,x'.2,rfl,hx x' hx'⟩
     .rw[B0 A1,esi i x ex];exact fin
end
section
variable{prog:Program}{w:World}{A:Around}{E:Value->Shared->Prop}{s:Shared}
theorem qU{α:Type}:∀(xs:List α),(List.range xs.length).filterMap (xs[·]?)=xs
 |[]=>rfl
 |x::xs=>by
  rw[C1,List.range_succ_eq_map,F6];show x::List.filterMap _ (List.map Nat.succ (List.range xs.length))=_;rw[List.filterMap_map];exact J6 (x::·) (qU xs)
theorem xX{α:Type}{xs:List α}{order:List Nat}(h:order.Perm (List.range xs.length)):(order.filterMap (xs[·]?)).Perm xs:=by
 have:=h.filterMap (xs[·]?)
 rwa [qU]at this
theorem xO{α β:Type}(f:α->β)(d:β){xs:List α}:∀{order:List Nat},(∀k∈order,k<xs.length)->order.map (fun k=>(xs.map f).getD k d)=(order.filterMap (xs[·]?)).map f
 |[]=>fun _=>rfl
 |k::order=>fun h=>by
  have hk:=h k C2;rw[B6,F6,B5 hk,B6,xO f d fun i hi=>h i (B7 _ hi),E8,D6,B5 hk];rfl
theorem HU{α β:Type}(f:α->β){xs:List α}(order:List Nat):order.filterMap ((xs.map f)[·]?)=(order.filterMap (xs[·]?)).map f:=by
 rw[List.map_filterMap];congr 1;funext k;rw[D6]
structure STu(prog:Program)(w:World)(b:Bool)(h:Heap)(a:Addr)(xs:List (List Key×Addr)):Prop where
 ex:∃o es ep t,h.get? a=some o/\o.ExactSet/\o.data=.set es ep t/\es.toList=enT prog w xs/\gO t (xs.map fun x=>hT prog w x.1)/\t.led=b
 nd:(xs.map (·.1)).Nodup
theorem gO.off{t:SetTable}{hs:List Int}(T:gO t hs)(c:Bool):gO { t with plain:=c } hs:=⟨T.dm,T.ms,T.rs,T.sz,T.le,T.fl,T.rc⟩
theorem zZ{α β:Type}(f:α->β)(xs:List α)(p:Nat)(x:α):(xs.take p++x::xs.drop p).map f=(xs.map f).take p++f x::(xs.map f).drop p:=by
 rw[E9,B6,List.map_take,List.map_drop]
theorem lH{α:Type}(xs:List α)(p:Nat)(x:α):(xs.take p++x::xs.drop p).Perm (x::xs):=by
 refine List.perm_middle.trans ?_;rw[J9]
theorem FA{a:Addr}{o:Obj}{es:Array (Int×Value)}{ep:Nat}{t:SetTable}{xs:List (List Key×Addr)}{Q:Unit->Shared->Prop}(ho:s.heap.get? a=some o)(hx:o.ExactSet)(hd:o.data=.set es ep t)(he:es.toList=enT prog w xs)(sz:t.place.size=xs.length)(dm:t.dummies=#[])(lm:xs.length<=t.mask)
 (hn:xs.length=5\/xs.length=19) (nd:(xs.map (·.1)).Nodup) (h:∀h' xs',Heap.SameBut a s.heap h'->STu prog w t.led h' a xs'->xs'.Perm xs->Q () { s with heap:=h' }):
 wpAny (model prog w) A (setRelay a (SetTable.grown xs.length)) Q E s:=by
 have ez:es.size=xs.length:=by rw[<- D5,he];unfold enT;rw[A3]
 have hf:t.fits es.size=true:=by
  unfold SetTable.fits SetTable.fill;rw[dm,sz,ez,B1];exact⟨E7 _,C3 (by show xs.length+0<=_;omega)⟩
 obtain⟨m,M,hm,hl⟩:∃m,Mask m/\SetTable.sizeAbove (SetTable.grown xs.length)=m+1/\xs.length*5<m*3:=by
  rcases hn with e|e
  .exact⟨31,.inr (.inl rfl),by rw[e];decide,by omega⟩
  .exact⟨127,.inr (.inr rfl),by rw[e];decide,by omega⟩
 have ms:m<=127:=by rcases M with e|e|e<;>omega
 obtain⟨hs,hhs⟩:∃hs,xs.map (fun x=>hT prog w x.1)=hs:=⟨_,rfl⟩;have hsl:hs.length=xs.length:=by rw[<- hhs,A3]
 have ah:Array.map (fun x:Int×Value=>x.1) es=hs.toArray:=by
  apply Array.toList_inj.mp
  rw[Array.toList_map,he,<- hhs];unfold enT;rw[List.map_map];rfl
 obtain⟨place,order,e1,pm,T⟩:=IB (m:=m) (fg:=t.finger) (mv:=t.movedTo m) (ld:=t.led) (pl:=t.plain) (hs:=hs) M (by omega)
 have lt:∀k∈order,k<xs.length:=fun k hk=>by
  have:=List.mem_range.mp (pm.mem_iff.mp hk);omega
 have pmx:(order.filterMap (xs[·]?)).Perm xs:=xX (by rw[<- hsl];exact pm);rw[<- hhs,xO _ _ lt]at T
 have er:(Array.filterMap (fun x=>es[x]?) order.toArray).toList=enT prog w (order.filterMap (xs[·]?)):=by
  rw[List.filterMap_toArray];show order.filterMap (fun x=>es[x]?)=_;unfold enT at he ⊢;rw[<- HU,<- he];congr 1;funext k;rw[D0]
 have e2:t.relaid (Array.map (fun x=>x.1) es) (SetTable.grown xs.length)=some (⟨m,place,#[],t.finger,t.led,t.movedTo m,t.plain⟩,order.toArray):=by
  unfold SetTable.relaid;rw[hm,Nat.add_sub_cancel,ah];exact e1
 have s2:(Array.filterMap (fun x=>es[x]?) order.toArray).size=es.size:=by
  rw[<- D5,er,ez];unfold enT;rw[A3,pmx.length_eq]
 unfold setRelay;refine A0 (L3 ho hd hf ?_);dsimp only;rw[B0 (by rw[hm,I0];omega),e2];show wpAny (model prog w) A ((if ((Array.filterMap (fun x=>es[x]?) order.toArray).size != es.size)=true then _ else pure (Array.filterMap (fun x=>es[x]?) order.toArray,(⟨m,place,#[],t.finger,t.led,t.movedTo m,t.plain⟩:SetTable))) >>= _) Q E s;rw[B0 (by rw[s2];simp)];refine A0 (A7 ?_);dsimp only;refine wpAny_storeSet_of ho hd ?_ (by rw[s2,ez,I0];omega);have g1:=xZ (es':=Array.filterMap (fun x=>es[x]?) order.toArray) (t':=(⟨m,place,#[],t.finger,t.led,t.movedTo m,t.plain⟩:SetTable)) ho hd;exact h _ _ (Heap.SameBut.update s.heap a _) ⟨⟨_,_,_,_,g1,hx,rfl,er,T,rfl⟩,((pmx.map (·.1)).nodup_iff).mpr nd⟩ pmx
theorem JZ{b:Bool}{a c:Addr}{xs:List (List Key×Addr)}{k:List Key}{Q:Bool->Shared->Prop}(S:STu prog w b s.heap a xs)(hx:∀x∈xs,(TK prog w).is s.heap x.1 x.2)(hc:(TK prog w).is s.heap k c)(room:(TK prog w).room A)(len:xs.length<=70)
 (h:∀h' xs' r t',Heap.SameBut a s.heap h'->STu prog w b h' a xs'->((k∈xs.map (·.1)/\xs'=xs)\/(k∉xs.map (·.1)/\xs'.Perm ((k,c)::xs)))->Q r { s with heap:=h',toks:=t' }):
 wpAny (model prog w) A (setAdd a (.ref c)) Q E s:=by
 unfold setAdd;refine J4 (A0 ((TK prog w).pyHash room hc ?_));generalize s.toks+(TK prog w).draws k=tt;obtain⟨⟨o,es,ep,t,ho,hex,hd,he,T,led⟩,nd⟩:=S;have ez:es.size=xs.length:=by rw[<- D5,he];unfold enT;rw[A3]
 have hf:=T.fits (n:=es.size) (by rw[ez,A3]);obtain⟨n,ln,en⟩:=T.search (hT prog w k);have tm:t.mask<=127:=by rcases T.ms with e|e|e<;>omega
 unfold setAddHashed;rw[show(100000:Nat)=Nat.succ 99999 from rfl,setAddHashedIn.eq_2];refine J4 (A0 (L3 (s:={ s with toks:=tt }) ho hd hf ?_));dsimp only;rw[show byScan (Value.ref c) es=false from rfl,B0 A1];refine A0 (BV (s:={ s with toks:=tt }) ho hd he T hx hc room n (t.probeStart (hT prog w k)) none 100000 rfl en ln rfl (by unfold SetTable.turns at ln;omega) (fun i x ex kx=>?_) (fun yes=>?_) (fun no=>?_))
 .have il:i<xs.length:=(List.getElem?_eq_some_iff.mp ex).1;have pl:i<t.place.size:=by rw[T.sz,A3];exact il
  have pj:t.place[i]?=some t.place[i]:=D7 pl
  have zm:(hT prog w k,t.place[i])∈(xs.map fun x=>hT prog w x.1).zip t.place.toList:=by
   refine E4 (i:=i) ?_;rw[List.getElem?_zip_eq_some];refine⟨?_,?_⟩
   .rw[D6,ex,<- kx];rfl
   .rw[D0];exact pj
  obtain⟨m,hm,e⟩:=HD en (by rw[lW T.rs];rw[<- D0]at pj;exact E4 pj) (T.rc _ zm);exact⟨_,m,pj,hm,e⟩
 .exact A7 (h s.heap xs false tt (Heap.SameBut.refl ..) ⟨⟨o,es,ep,t,ho,hex,hd,he,T,led⟩,nd⟩ (.inl ⟨yes,rfl⟩))
 .obtain⟨j,hj⟩:∃j,(eE t.mask n (t.probeStart (hT prog w k))).j=j:=⟨_,rfl⟩;obtain⟨p,hp⟩:∃p,SetTable.below t.place j=p:=⟨_,rfl⟩;obtain⟨pt,pl,T'⟩:=T.put en hj hp;rw[hj];dsimp only;refine A0 (L3 (s:={ s with toks:=tt }) ho hd hf ?_);dsimp only;rw[pt];dsimp only;rw[A3]at pl T'
  have he':(SetTable.insertAt es p (hT prog w k,Value.ref c)).toList=enT prog w (xs.take p++(k,c)::xs.drop p):=by
   rw[nH,he];unfold enT;rw[zZ]
  have ez':(SetTable.insertAt es p (hT prog w k,Value.ref c)).size=xs.length+1:=by
   rw[<- D5,he'];unfold enT;rw[A3,(lH xs p (k,c)).length_eq,C1]
  have nd':((xs.take p++(k,c)::xs.drop p).map (·.1)).Nodup:=((lH xs p (k,c)).map (·.1)).nodup_iff.mpr (List.nodup_cons.mpr ⟨no,nd⟩);have psz:(SetTable.insertAt t.place p j).size=xs.length+1:=by rw[rR (by rw[T.sz,A3];exact pl),T.sz,A3]
  have fin:∀bv:Bool,wpAny (model prog w) A (do
   let t1:SetTable:=if bv=true then{ t with place:=SetTable.insertAt t.place p j }else{ { t with place:=SetTable.insertAt t.place p j }with plain:=false }
   storeSet a (SetTable.insertAt es p (hT prog w k,Value.ref c)) t1
   if (!false&&t1.tooFull)=true then do
       setRelay a (SetTable.grown (es.size+1))
       pure true
    else pure true) Q E { s with toks:=tt }:=fun bv=>by
   obtain⟨pl1,hpl⟩:∃q:Bool,(if bv=true then({ t with place:=SetTable.insertAt t.place p j }:SetTable)else{ { t with place:=SetTable.insertAt t.place p j }with plain:=false })={ { t with place:=SetTable.insertAt t.place p j }with plain:=q }:=by
    cases bv
    .exact⟨false,rfl⟩
    .exact⟨t.plain,rfl⟩
   dsimp only;rw[hpl];refine A0 (wpAny_storeSet_of (s:={ s with toks:=tt }) ho hd ?_ (by rw[ez',I0];omega));have g1:=xZ (h:=s.heap) (es':=SetTable.insertAt es p (hT prog w k,Value.ref c)) (t':={ { t with place:=SetTable.insertAt t.place p j }with plain:=pl1 }) ho hd;have sb:=Heap.SameBut.update s.heap a (Obj.putSet (SetTable.insertAt es p (hT prog w k,Value.ref c)) { { t with place:=SetTable.insertAt t.place p j }with plain:=pl1 })
   have tf:({ { t with place:=SetTable.insertAt t.place p j }with plain:=pl1 }:SetTable).tooFull=decide ((xs.length+1)*5>=t.mask*3):=by
    unfold SetTable.tooFull SetTable.fill;show decide (((SetTable.insertAt t.place p j).size+t.dummies.size)*5>=_)=_;rw[psz,T.dm];rfl
   rw[tf];by_cases c1:(xs.length+1)*5>=t.mask*3
   .rw[C3 c1,A6 (by decide)];have n1:(xs.take p++(k,c)::xs.drop p).length=xs.length+1:=by rw[(lH xs p (k,c)).length_eq,C1]
    have fl:=T.fl;rw[A3]at fl;rw[ez,<- n1];refine A0 (FA (s:={ s with toks:=tt,heap:=_ }) g1 hex rfl he' (by show(SetTable.insertAt t.place p j).size=_;rw[psz,n1]) T.dm (by rw[n1];show _<=t.mask;omega) (by rw[n1];rcases T.ms with e|e|e<;>omega) nd' fun h' xs' hsb hS hpm=>A7 ?_);refine h h' xs' true tt (sb.trans hsb) ?_ (.inr ⟨no,hpm.trans (lH xs p (k,c))⟩);rw[<- led];exact hS
   .rw[C8 c1,B0 (by decide)];have T1:=(T' (by omega)).off pl1;refine A7 (h _ (xs.take p++(k,c)::xs.drop p) true tt sb ⟨⟨_,_,_,_,g1,hex,rfl,he',?_,led⟩,nd'⟩ (.inr ⟨no,lH xs p (k,c)⟩));rw[zZ];exact T1
  cases hpn:t.plain with
  |true=>
   rw[A6 rfl];refine A0 (AZ (s:={ s with toks:=tt }) hc fun r=>?_);have:=fin r;rw[hpn]at this;exact this
  |false=>
   rw[B0 A1];refine A0 (A7 ?_);have:=fin true;rw[hpn]at this;exact this
end
section
variable{prog:Program}{w:World}{A:Around}{E:Value->Shared->Prop}{R:Result->Shared->Prop}{s:Shared}
theorem STu.ty{b:Bool}{a:Addr}{xs:List (List Key×Addr)}(S:STu prog w b s.heap a xs):s.TypeIs (.ref a) "set":=let⟨⟨o,_,_,_,ho,hx,_⟩,_⟩:=S;⟨o,ho,hx.1⟩
theorem STu.same{b:Bool}{h h':Heap}{a:Addr}{xs:List (List Key×Addr)}(S:STu prog w b h a xs)(k:∀o,h.get? a=some o->h'.get? a=some o):STu prog w b h' a xs:=by
 obtain⟨⟨o,es,ep,t,ho,r⟩,nd⟩:=S;exact⟨⟨o,es,ep,t,k o ho,r⟩,nd⟩
theorem XB(b:Bool):gO (.fresh 0 0 b) []:=⟨rfl,.inl rfl,fun i k _ h=>absurd h (L5 _),rfl,fun j h=>(by simp[SetTable.fresh]at h),by show 0*5<7*3;decide,fun q h=>(by simp at h)⟩
theorem BK{b:Bool}{a c:Addr}{xs:List (List Key×Addr)}{k:List Key}{Q:Value->Shared->Prop}(S:STu prog w b s.heap a xs)(hx:∀x∈xs,(TK prog w).is s.heap x.1 x.2)(hc:(TK prog w).is s.heap k c)(hu:A.units+1<cLine)(len:xs.length<=70)
 (h:∀h' xs' t',Heap.SameBut a s.heap h'->STu prog w b h' a xs'->((k∈xs.map (·.1)/\xs'=xs)\/(k∉xs.map (·.1)/\xs'.Perm ((k,c)::xs)))->Q .none { s with heap:=h',toks:=t' }):
 wpAny (model prog w) A (call (.builtin "set.add") [.ref a,.ref c]) Q E s:=by
 refine call_meetsIn PySem.F.slot_set_add S.ty PySem.F.entry_set_add (PySem.F.args_set_add_2 _ _) (S:=fun A' R s'=>A'.units+1<cLine/\STu prog w b s'.heap a xs/\(∀x∈xs,(TK prog w).is s'.heap x.1 x.2)/\(TK prog w).is s'.heap k c/\∀h' xs' t',Heap.SameBut a s'.heap h'->STu prog w b h' a xs'->((k∈xs.map (·.1)/\xs'=xs)\/(k∉xs.map (·.1)/\xs'.Perm ((k,c)::xs)))->R (.ok (.ret .none)) { s' with heap:=h',toks:=t' }) ?_ ⟨hu,S,hx,hc,h⟩;rintro A' R s' ⟨hu',S',hx',hc',h'⟩;show wpAny (model prog w) A'.in1 ((pure (a,Value.ref c):Sem (Addr×Value)) >>= _) _ _ s';refine A0 (A7 ?_);dsimp only;refine A0 (JZ S' hx' hc' (tupleKind_room_in1 hu') len fun h2 xs2 r t2 q1 q2 q3=>?_);exact A7 (h' h2 xs2 t2 q1 q2 q3)
theorem tV(elt target iter:Expr)(ifs:List Expr)(scope:Scope)(pos:Pos)(it acc:Value)(env:Env):
 compTurn (.SetComp elt [⟨target,iter,ifs,0⟩] scope pos) 0 it acc env=(do
  standAt iter.pos
  match <- pyNext it with
  |none=>pure (Fin.done Flow.next)
  |some v=>do
   letOwnedTupleGo target it v
   assign target env v
   let ok <- forIn ifs true fun c r=>if r=true then(do
    let ok <- isTrue c env (eval c env)
    pure (ForInStep.yield ok))else pure (ForInStep.yield r)
   if ok=true then do
    (do
     let v <- eval elt env
     standAt elt.pos
     let _ <- call (.builtin "set.add") [acc,v]
     pure ())
    again (.compLoop (.SetComp elt [⟨target,iter,ifs,0⟩] scope pos) 0 it acc env)
   else again (.compLoop (.SetComp elt [⟨target,iter,ifs,0⟩] scope pos) 0 it acc env)):=rfl
theorem HP{elt target iter:Expr}{ifs:List Expr}{scope:Scope}{pos:Pos}{it acc:Value}{env:Env}(I:Nat->Shared->Prop)
 (turn:∀n s,I n s->wpAny (model prog w) A (pyNext it) (fun r s1=>(r=none/\R (.ok .next) s1)\/∃v,r=some v /\
  wpAny (model prog w) A (letOwnedTupleGo target it v) (fun _ s2=>wpAny (model prog w) A (assign target env v) (fun _ s3=>
   wpAny (model prog w) A (forIn ifs true fun c r=>if r=true then(do
    let ok <- isTrue c env (eval c env)
    pure (ForInStep.yield ok))else pure (ForInStep.yield r)) (fun ok s4=>
     (ok=true/\wpAny (model prog w) A (eval elt env) (fun x s5=>wpAny (model prog w) A (call (.builtin "set.add") [acc,x]) (fun _ s6=>∃m,m<n/\I m s6) (fun _ _=>False) s5) (fun _ _=>False) s4) \/
     (ok=false/\∃m,m<n/\I m s4)) (fun _ _=>False) s3) (fun _ _=>False) s2) (fun _ _=>False) s1) (fun _ _=>False) s)
 (n:Nat) (h:I n s):codeAny (model prog w) A (.compLoop (.SetComp elt [⟨target,iter,ifs,0⟩] scope pos) 0 it acc env) R s:=by
 refine codeAny_loop rfl I (fun n s hI=>?_) n h
 show wpAny _ A ((compTurn (.SetComp elt [⟨target,iter,ifs,0⟩] scope pos) 0 it acc env).onRaise fun x=>do
  noteFrame x env
  theTreesLotGoes x) _ _ s
 refine wpAny_noted ?_;rw[tV];refine A0 (J7 (A0 (D8 (turn n s hI) (fun r s1 h1=>?_) fun _ _ f=>f.elim)));rcases h1 with⟨rfl,h1⟩|⟨v,rfl,h1⟩
 .exact A7 h1
 .refine A0 (D8 h1 (fun _ s2 h2=>?_) fun _ _ f=>f.elim);refine A0 (D8 h2 (fun _ s3 h3=>?_) fun _ _ f=>f.elim);refine A0 (D8 h3 (fun ok s4 h4=>?_) fun _ _ f=>f.elim);rcases h4 with⟨rfl,h4⟩|⟨rfl,h4⟩
  .refine A0 (A0 (D8 h4 (fun x s5 h5=>?_) fun _ _ f=>f.elim));exact A0 (J7 (A0 (D8 h5 (fun _ s6 h6=>A7 (A7 ⟨rfl,h6⟩)) fun _ _ f=>f.elim)))
  .exact A7 ⟨rfl,h4⟩
theorem sD{elt target iter:Expr}{ifs:List Expr}{scope:Scope}{pos:Pos}{it acc:Value}{env:Env}
 (h0:codeAny (model prog w) A (.compLoop (.SetComp elt [⟨target,iter,ifs,0⟩] scope pos) 0 it acc env) R s)
 (h:wpAny (model prog w) A (pyIter it) (fun it' s'=>codeAny (model prog w) A (.compLoop (.SetComp elt [⟨target,iter,ifs,0⟩] scope pos) 0 it' acc env) R s') (notedBy (model prog w) A env fun x s'=>R (.error x) s') s):
 codeAny (model prog w) A (.compStart (.SetComp elt [⟨target,iter,ifs,0⟩] scope pos) 0 it acc env) R s:=by
 refine codeAny_of_tree (wpAny_notedAt (A0 (wpAny_askSetting ?_)));split
 .exact A0 (A7 (A7 ⟨rfl,h0⟩))
 .exact A0 (wpAny_rule (A0 (J7 (A0 (D8 h (fun it' s' h'=>A7 ⟨rfl,h'⟩) fun _ _ z=>z)))))
end
noncomputable def stO(D:Addr)(xs:List (List Key×Addr)):HO:=.ext fun h=>∃P w b,STu P w b h D xs
noncomputable def RY(H:Hp)(acc:List (Addr×List Key)):Prop:=∀q∈acc,H q.1=some (.tup (q.2.map kV))
structure yN(acc:List (Addr×List Key))(xs:List (List Key×Addr)):Prop where
 fr:∀x∈xs,(x.2,x.1)∈acc
 to:∀q∈acc,q.2∈xs.map (·.1)
theorem yN.step{acc:List (Addr×List Key)}{xs xs':List (List Key×Addr)}{k:List Key}{c:Addr}(e:yN acc xs)(h:(k∈xs.map (·.1)/\xs'=xs)\/(k∉xs.map (·.1)/\xs'.Perm ((k,c)::xs))):yN (acc++[(c,k)]) xs':=by
 rcases h with⟨hk,rfl⟩|⟨hk,pm⟩
 .refine⟨fun x hx=>C9 _ (e.fr x hx),fun q hq=>?_⟩;rcases List.mem_append.mp hq with z|z
  .exact e.to q z
  .rw[List.mem_singleton.mp z];exact hk
 .refine⟨fun x hx=>?_,fun q hq=>?_⟩
  .rcases List.mem_cons.mp (pm.mem_iff.mp hx)with rfl|z
   .exact B4 _ (List.mem_singleton.mpr rfl)
   .exact C9 _ (e.fr x z)
  .rw[(pm.map (·.1)).mem_iff,B6];rcases List.mem_append.mp hq with z|z
   .exact B7 _ (e.to q z)
   .rw[List.mem_singleton.mp z];exact C2
theorem yN.len{acc:List (Addr×List Key)}{xs:List (List Key×Addr)}(e:yN acc xs)(nd:(xs.map (·.1)).Nodup):∀{ks:List (List Key)},ks.Nodup->(∀k,k∈ks↔k∈acc.map (·.2))->xs.length=ks.length:=fun{ks} nk mk=>by
 have pm:(xs.map (·.1)).Perm ks:=(List.perm_ext_iff_of_nodup nd nk).mpr fun k=>by
  rw[mk];constructor
  .intro h;obtain⟨x,hx,rfl⟩:=List.mem_map.mp h;exact List.mem_map.mpr ⟨(x.2,x.1),e.fr x hx,rfl⟩
  .intro h;obtain⟨q,hq,rfl⟩:=List.mem_map.mp h;exact e.to q hq
 rw[<- pm.length_eq,A3]
noncomputable def tSc(cap:List (Option Nat))(wi:TI)(g:TG)(tc:TT)(te:TE):TE:=fun σ H Q=>wi σ H fun J H1=>∃W:Nat->Nat->List (Addr×List Key)->St->Hp->Prop,(∃m,W 0 m [] (pR cap σ) H1)/\∀i m acc σ' H',W i m acc σ' H'->
 (J.stop i H'/\∀p xs,H' p=none->yN acc xs->(xs.map (·.1)).Nodup->Q (.ref p) (upd H' p (stO p xs))) \/
 (J.go i H'/\acc.length<70/\∃N:List (Addr×List Key)->St->Hp->Prop,(∀acc' σ2 H2,N acc' σ2 H2->∃m',m'<m/\W (i+1) m' acc' σ2 H2)/\∀x H2,J.yld i H' x H2->g x σ' H2 fun σ2 H3=>tc σ2 H3 fun b H4=>(b=true/\te σ2 H4 fun v H5=>∃c k,v=.ref c/\RY H5 (acc++[(c,k)])/\N (acc++[(c,k)]) σ2 H5)\/(b=false/\N acc σ2 H4))
section
variable{X:Cx}{N':List Str}{cap:List (Option Nat)}{scope:Scope}
theorem MX{elt tg iter:Expr}{ifs:List Expr}{pos:Pos}{wi:TI}{g:TG}{tc:TT}{te:TE}(hu:X.A.units+1<cLine)(hc:X.calm=true)(S:lX X N' cap scope)(hi:PI X tg iter wi)
 (hg:∀C s H fp pn,PG (eA X N' scope C s H fp pn) tg g) (hif:∀C s H fp pn,yQ (eA X N' scope C s H fp pn) ifs tc) (he:∀C s H fp pn,PE (eA X N' scope C s H fp pn) elt te)
 (hs:∀x,foldedSetIterable iter X.env x=pure x) {pins:List (Addr×Obj)} {s:Shared} {σ:St} {H:Hp} {Q:VK} (I:Inv X pins σ H s) (h:tSc cap wi g tc te σ H Q)
 {use:Option (Value->Sem Unit)} {QQ:Value->Shared->Prop}
 (post:∀(D C:Addr)(H':Hp)(xs:List (List Key×Addr))(s':Shared),D≠C->(∃m,s'.heap.Ns C m)->(∀h',Heap.SameBut C s'.heap h'->Inv X pins σ (upd H' D (stO D xs)) { s' with heap:=h' })->pK X pins (upd H' D (stO D xs)) C->Q (.ref D) (upd H' D (stO D xs))->compPost (model X.prog X.w) X.A X.xe use QQ (.ref D) C (.ok .next) s'):
 wpAny (model X.prog X.w) X.A (comprehension (.SetComp elt [⟨tg,iter,ifs,0⟩] scope pos) scope X.env (firstIterPos [⟨tg,iter,ifs,0⟩] pos) (newSet (.type "set")) false (firstIter [⟨tg,iter,ifs,0⟩] X.env) use) QQ X.xe s:=by
 refine wpAny_comprehension_free (e:=.SetComp elt [⟨tg,iter,ifs,0⟩] scope pos) (g:=⟨tg,iter,ifs,0⟩) (gs:=[]) rfl hs (qL (S.cells I.ok)) S.kind S.names ?_;refine thn (hi pins s σ H _ I h) fun v s1 h1=>thn h1 fun itv s2 h2=>?_;obtain⟨it,fp,tn,J,H2,e,I2,T,st2,f2,W,⟨m0,w0⟩,turn⟩:=h2;subst e
 have fplt:∀b∈fp,b<s2.heap.objs.size:=fun b hb=>by
  obtain⟨o,e,_⟩:=T.obj _ _ st2 b hb;exact B3 e
 unfold newSet;refine A0 (GA ?_);generalize (!LZ X.w)=bt;refine F7 (wpAny_newFunctionEnv S.nocell (fun y hy=>by simp at hy) (fun h1' hns hsb=>?_) S.kind);dsimp only at hns hsb ⊢;generalize hP:s2.heap.push { cls:=.type "set",dict:=none,data:=.set #[] 0 (.fresh 0 0 bt) }=P2 at hns hsb ⊢;have hsz:P2.objs.size=s2.heap.objs.size+1:=by rw[<- hP,Heap.size_push]
 have hDC:s2.heap.objs.size≠P2.objs.size:=by rw[hsz];exact C0 (F8 _)
 have hC:s2.heap.objs.size<=P2.objs.size:=by rw[hsz];exact Nat.le_succ _
 have keepP:∀b o,P2.get? b=some o->b≠P2.objs.size->h1'.get? b=some o:=fun b o e hb=>hsb.extBut b o hb (B2 _ e);have old:∀b o,s2.heap.get? b=some o->h1'.get? b=some o:=fun b o e=>keepP b o (by rw[<- hP];exact B2 _ e) (C0 (A8 (B3 e) hC));have hD0:h1'.get? s2.heap.objs.size=some { cls:=.type "set",dict:=none,data:=.set #[] 0 (.fresh 0 0 bt) }:=keepP _ _ (by rw[<- hP];exact D1 _ rfl) hDC
 have I4:Inv (eA X N' scope P2.objs.size s2 H2 fp pins) [] (pR cap σ) H2 { s2 with heap:=h1',toks:=s2.toks+([]:List (Str×Value)).length }:=
  wI S I2 f2 fplt hC (by simpa using hns) old
 have S0:STu X.prog X.w bt h1' s2.heap.objs.size []:=⟨⟨_,_,_,_,hD0,⟨rfl,rfl,rfl⟩,rfl,rfl,XB bt,rfl⟩,J8⟩
 have loop:∀s4:Shared,s4={ s2 with heap:=h1',toks:=s2.toks+([]:List (Str×Value)).length }->
  codeAny (model X.prog X.w) X.A (.compLoop (.SetComp elt [⟨tg,iter,ifs,0⟩] scope pos) 0 (.ref it) (.ref s2.heap.objs.size) (compEnvC scope (dB X.env scope.names []) P2.objs.size X.env)) (compPost (model X.prog X.w) X.A X.xe use QQ (.ref s2.heap.objs.size) P2.objs.size) s4:=by
  rintro s4 rfl
  have hfrD:s2.heap.objs.size∉frs X.stack:=fun hb=>by
   obtain⟨_,o,ho,_⟩:=I2.stack.mem hb;exact absurd (B3 ho) (F4 _)
  have cne:∀x c,(dB X.env scope.names []).lookup x=some c->c<s2.heap.objs.size:=fun x c e=>by
   obtain⟨v,q⟩:=I2.cell x c (S.sub I2.ok x c e);exact q.lt
  have stat:∀{Hx:Hp}{ob:Obj},(∀b∈fp,Hx b=none)->∀b∈fp,pK (eA X N' scope P2.objs.size s2 H2 fp pins) [(s2.heap.objs.size,ob)] Hx b:=fun{Hx ob} hn b hb=>by
   refine⟨hn b hb,C0 (A8 (fplt b hb) hC),I2.stkAll (f2 b hb).2.1 (f2 b hb).2.2.1,.inl hb,fun x c e=>(f2 b hb).2.2.2.2.1 x c (S.sub I2.ok x c e),fun p hp=>?_⟩;rcases List.mem_append.mp hp with z|z
   .exact(f2 b hb).2.2.2.2.2 p z
   .rw[List.mem_singleton.mp z];exact Nat.ne_of_gt (fplt b hb)
  refine HP (fun n s'=>∃(i:Nat)(σ':St)(H':Hp)(acc:List (Addr×List Key))(xs:List (List Key×Addr)),Inv (eA X N' scope P2.objs.size s2 H2 fp pins) [] σ' H' s'/\tn i s'.heap/\(∀b∈fp,H' b=none)/\H' s2.heap.objs.size=none /\
   STu X.prog X.w bt s'.heap s2.heap.objs.size xs/\yN acc xs/\xs.length<=acc.length/\W i n acc σ' H') ?_ m0
   ⟨0,pR cap σ,H2,[],[],I4,T.keep _ _ _ st2 fun b _ o e=>old b o e,fun b hb=>(f2 b hb).1,I2.hok.fresh (A4 _),S0,⟨fun x h=>by simp at h,fun q h=>by simp at h⟩,A4 _,w0⟩
  rintro n s5 ⟨i,σ',H',acc,xs,I5,t5,fr5,d5,S5,el5,la,w5⟩;obtain⟨ob,g5⟩:∃ob,s5.heap.get? s2.heap.objs.size=some ob:=let⟨⟨o,_,_,_,ho,_⟩,_⟩:=S5;⟨o,ho⟩
  have nfr:∀v,ob.data≠.cell v:=fun v z=>by
   obtain⟨⟨o,_,_,_,ho,_,hd,_⟩,_⟩:=S5;rw[g5]at ho;cases ho;rw[z]at hd;cases hd
  have I5p:Inv (eA X N' scope P2.objs.size s2 H2 fp pins) [(s2.heap.objs.size,ob)] σ' H' s5:=I5.pins_of fun p hp=>by
   rw[List.mem_singleton.mp hp];exact⟨g5,d5,hDC,hfrD,fun v z=>absurd z (nfr v)⟩
  rcases turn i n acc σ' H' w5 with⟨stop,q⟩|⟨go,lt,N,hN,step⟩
  .refine thn (T.done (eA X N' scope P2.objs.size s2 H2 fp pins) rfl rfl rfl hc i _ s5 σ' H' _ I5p (stat fr5) t5 stop) fun r s6 ⟨hr,I6⟩=>.inl ⟨hr,?_⟩;have d6:=(I6.pin (s2.heap.objs.size,ob) (by simp)).1;have S6:STu X.prog X.w bt s6.heap s2.heap.objs.size xs:=S5.same fun o z=>by rw[g5]at z;cases z;exact d6
   have nC:H' P2.objs.size=none:=I6.free;refine post _ _ H' xs s6 hDC (let⟨m,hn,_⟩:=I6.loc;⟨m,hn⟩) (fun h' hs'=>?_) (I2.fpOk hC (by rw[aV hDC.symm];exact nC)) (q _ xs d5 el5 S6.nd);have up:∀b o,b≠P2.objs.size->s6.heap.get? b=some o->h'.get? b=some o:=fun b o hb e=>hs'.extBut b o hb e;have ltC:∀b o,s2.heap.get? b=some o->b≠P2.objs.size/\b≠s2.heap.objs.size:=fun b o e=>⟨C0 (A8 (B3 e) hC),C0 (B3 e)⟩;have u6:Un (frs X.stack) fp H2 H' s2.heap s6.heap:=I6.base
   have u7:Un (frs X.stack) fp H2 (upd H' s2.heap.objs.size (stO s2.heap.objs.size xs)) s2.heap h':=by
    refine⟨fun b o e n hb hx=>up b o (ltC b o e).1 (u6.keep b o e n hb hx),fun b o e n hb hx=>?_,fun b o e n hx=>?_,fun b o e hx=>?_,fun b xs e=>?_,fun b o u e=>?_,fun b ps e=>?_⟩
    .obtain⟨sl,q⟩:=u6.slot b o e n hb hx;exact⟨sl,up b _ (ltC b o e).1 q⟩
    .rw[aV (ltC b o e).2];exact u6.free b o e n hx
    .obtain⟨o',q⟩:=u6.there b o e hx;exact⟨o',up b o' (ltC b o e).1 q⟩
    .have z:=u6.tups b xs e;rw[aV (aS z d5)];exact z
    .have z:=u6.frzs b o u e;rw[aV (aS z d5)];exact z
    .obtain⟨more,z⟩:=u6.tbls b ps e;exact⟨more,by rw[aV (aS z d5)];exact z⟩
   have ok7:HOk X.prog X.w (upd H' s2.heap.objs.size (stO s2.heap.objs.size xs)) h':=fun b u e=>by
    by_cases hb:b=s2.heap.objs.size
    .subst hb;rw[bB]at e;cases e;have S7:=S6.same (h':=h') fun o z=>up _ _ hDC z;exact⟨⟨X.prog,X.w,bt,S7⟩,⟨ob,up _ _ hDC d6⟩,fun h1 h2 ⟨P,w,b,z⟩ k=>⟨P,w,b,z.same k⟩⟩
    .rw[aV hb]at e;refine(I6.hok b u e).stay (fun c v hc' z=>up c v ?_ z) (fun c z=>by rw[aV (aS z d5)];exact z) fun c xs z=>by rw[aV (aS z d5)];exact z
     rcases hc' with rfl|z
     .exact aS e nC
     .exact aS z nC
   have os6:s6.os=s2.os:=I6.os;have ba6:=I6.bare;obtain⟨hh,gg,dd,tt,oo⟩:=s6;subst os6;have z7:=I2.call (s:=s2) (h':=h') (g':=gg) (d':=dd) (t':=tt) (ch:=fp) u7 ok7 ba6 fun b hb=>⟨(f2 b hb).2.2.2.1,(f2 b hb).2.1,(f2 b hb).2.2.2.2.1,(f2 b hb).2.2.2.2.2⟩;exact z7
  .refine thn (T.item (eA X N' scope P2.objs.size s2 H2 fp pins) rfl rfl rfl hc i _ s5 σ' H' _ I5p (stat fr5) t5 go) fun r s6 ⟨u,hr,h6⟩=>.inr ⟨u,hr,?_⟩;refine thn h6 fun _ s7 ⟨x,H7,I7,r7,y7,t7,fr7⟩=>?_;have I7':=I7.pinned (stat fr7) (T.obj _ _ t7)
   have back:∀{σx:St}{Hx:Hp}{sx:Shared},Inv (eA X N' scope P2.objs.size s2 H2 fp pins) ([(s2.heap.objs.size,ob)]++oO fp s7.heap) σx Hx sx->
    (∀b∈fp,∀o,s7.heap.get? b=some o->sx.heap.get? b=some o)/\(∀b∈fp,Hx b=none)/\STu X.prog X.w bt sx.heap s2.heap.objs.size xs/\Hx s2.heap.objs.size=none:=fun{σx Hx sx} Ix=>by
    refine⟨fun b hb o e=>(Ix.pin (b,o) (B4 _ (B4 _ (fN hb e)))).1,fun b hb=>?_,?_,?_⟩
    .obtain⟨o,e,_⟩:=T.obj _ _ t7 b hb;exact(Ix.pin (b,o) (B4 _ (B4 _ (fN hb e)))).2.1
    .have z:=(Ix.pin (s2.heap.objs.size,ob) (B4 _ (C9 _ (List.mem_singleton.mpr rfl)))).1;exact S5.same fun o y=>by rw[g5]at y;cases y;exact z
    .exact(Ix.pin (s2.heap.objs.size,ob) (B4 _ (C9 _ (List.mem_singleton.mpr rfl)))).2.1
   refine thn (hg _ _ _ _ _ _ s7 σ' H7 x u _ I7' r7 (step x H7 y7)) fun _ s8 ⟨σ8,H8,I8,q8⟩=>?_;refine thn (hif _ _ _ _ _ _ s8 σ8 H8 _ I8 q8) fun b s9 ⟨H9,I9,q9⟩=>?_;rcases q9 with⟨rfl,q9⟩|⟨rfl,n9⟩
   .refine .inl ⟨rfl,thn (he _ _ _ _ _ _ s9 σ8 H9 _ I9 q9) fun uv s10 ⟨v,H10,I10,rv,c,k,ev,tu,n10⟩=>?_⟩;subst ev;cases (show uv=Value.ref c from rv);obtain⟨m',hm,w10⟩:=hN _ _ _ n10;obtain⟨b1,b2,b3,b4⟩:=back I10;have isx:∀x∈xs,(TK X.prog X.w).is s10.heap x.1 x.2:=fun x hx=>EN I10.hok (tu (x.2,x.1) (C9 _ (el5.fr x hx)));have isc:(TK X.prog X.w).is s10.heap k c:=EN I10.hok (tu (c,k) (B4 _ (List.mem_singleton.mpr rfl)));refine BK b3 isx isc hu (by omega) fun h' xs' t' hs' S' hor=>?_;have up:∀b o,b≠s2.heap.objs.size->s10.heap.get? b=some o->h'.get? b=some o:=fun b o hb e=>hs'.extBut b o hb e;have I10':Inv (eA X N' scope P2.objs.size s2 H2 fp pins) [] σ8 H10 s10:=I10.pins_of fun p hp=>absurd hp (by simp);refine⟨m',hm,i+1,σ8,H10,acc++[(c,k)],xs',I10'.turned (t':=t') up b4 hDC (.inr (A4 _)) (fun x c e=>C0 (cne x c e)) (fun p hp=>?_),T.keep _ _ _ t7 fun b hb o e=>up b o (C0 (fplt b hb)) (b1 b hb o e),b2,b4,S',el5.step hor,?_,w10⟩
    .have hp':p∈X.pn++pins:=by
      rcases List.mem_append.mp hp with z|z
      .exact z
      .exact absurd z (by simp)
     exact C0 (B3 (I2.pin p hp').1)
    .rw[A9,E1];rcases hor with⟨_,rfl⟩|⟨_,pm⟩
     .omega
     .rw[pm.length_eq,C1];omega
   .obtain⟨m',hm,w9⟩:=hN _ _ _ n9;obtain⟨b1,b2,b3,b4⟩:=back I9;exact .inr ⟨rfl,m',hm,i+1,σ8,H9,acc,xs,I9.pins_of fun p hp=>absurd hp (by simp),T.keep _ _ _ t7 b1,b2,b4,b3,el5,la,w9⟩
 exact sD (loop _ rfl) (T.self _ 0 _ _ _ (T.keep _ _ _ st2 fun b _ o e=>old b o e) (loop _ rfl))
theorem VD{elt tg iter:Expr}{ifs:List Expr}{pos:Pos}{wi:TI}{g:TG}{tc:TT}{te:TE}(hu:X.A.units+1<cLine)(hc:X.calm=true)(S:lX X N' cap scope)(hi:PI X tg iter wi)
 (hg:∀C s H fp pn,PG (eA X N' scope C s H fp pn) tg g) (hif:∀C s H fp pn,yQ (eA X N' scope C s H fp pn) ifs tc) (he:∀C s H fp pn,PE (eA X N' scope C s H fp pn) elt te)
 (hs:∀x,foldedSetIterable iter X.env x=pure x:=by intro _;rfl):PE X (.SetComp elt [⟨tg,iter,ifs,0⟩] scope pos) (tSc cap wi g tc te):=by
 intro pins s σ H Q I h;rw[arm_eval_SetComp];refine MX (use:=none) (Q:=Q) hu hc S hi hg hif he hs I h fun D C H' xs s' hDC ⟨m,hn⟩ hI _ hq=>⟨m,hn,fun h' hs'=>?_⟩;exact⟨.ref D,_,hI h' hs',rfl,hq⟩
noncomputable def LP:List V->Hp->VK->Prop:=fun xs H Q=>∃D ys,xs=[.ref D]/\H D=some (stO D ys)/\ys.length<=100/\Q (.int ys.length) H
theorem AY:gC X (.builtin "len") LP:=by
 intro pins s σ H xs us Q I r h;obtain⟨D,ys,rfl,hD,hl,q⟩:=h;cases r with
 |cons r1 r2=>
  cases r2;cases (show _=Value.ref D from r1);obtain⟨⟨P,w,b,⟨o,es,ep,t,ho,hx,hd,he,T,_⟩,nd⟩,_⟩:=(show dS X.prog X.w H s.heap D (stO D ys)from I.hok D _ hD);have ez:es.size=ys.length:=by rw[<- D5,he];unfold enT;rw[A3]
  refine call_len_set ho hx hd (T.fits (by rw[ez,A3])) (by rw[ez];omega) ?_;rw[ez];exact⟨.int ys.length,H,I.tok _,⟨_,rfl⟩,q⟩
end
noncomputable def iS:List (List Key)->List (List Key)
 |[]=>[]
 |k::ks=>if ((iS ks).any fun x=>decide (x=k))=true then iS ks else k::iS ks
theorem any_mem{k:List Key}{l:List (List Key)}:(l.any fun x=>decide (x=k))=true↔k∈l:=by
 rw[List.any_eq_true];exact⟨fun⟨x,hx,e⟩=>B8 e▸hx,fun h=>⟨k,h,C3 rfl⟩⟩
theorem nN(k:List Key):∀ks,k∈iS ks↔k∈ks
 |[]=>Iff.rfl
 |a::ks=>by
  have ih:=nN k ks;unfold iS;by_cases c:a∈iS ks
  .rw[A6 (any_mem.mpr c),ih,List.mem_cons];refine⟨.inr,fun h=>h.elim (fun e=>?_) id⟩;rw[e];exact(nN a ks).mp c
  .rw[B0 (fun z=>c (any_mem.mp z)),List.mem_cons,List.mem_cons,ih]
theorem uF:∀ks,(iS ks).Nodup
 |[]=>J8
 |a::ks=>by
  unfold iS;by_cases c:a∈iS ks
  .rw[A6 (any_mem.mpr c)];exact uF ks
  .rw[B0 (fun z=>c (any_mem.mp z))];exact List.nodup_cons.mpr ⟨c,uF ks⟩
theorem qG:∀ks,(iS ks).length<=ks.length
 |[]=>A4 _
 |a::ks=>by
  have:=qG ks;unfold iS;split
  .show _<=ks.length+1;omega
  .show _+1<=ks.length+1;omega
noncomputable def scF(g:GF)(c:TF)(fk:KF):List CD->Ga->Sto->Option (List (List Key)×Sto)
 |[],_,M=>some ([],M)
 |x::xs,γ,M=>(g x γ M).bind fun a=>(c a.1 a.2).bind fun b=>if b.1=true then(fk a.1 b.2).bind fun k=>match k.1 with
  |.inr ks=>(scF g c fk xs a.1 k.2).bind fun q=>some (ks::q.1,q.2)
  |.inl _=>none
  else scF g c fk xs a.1 b.2
noncomputable def uA(cap:List (Option Nat))(f:AF)(g:GF)(c:TF)(fk:KF):EF:=fun γ M=>(f γ M).bind fun r=>if r.1.length<=70 then(scF g c fk r.1 (sF cap γ) r.2).bind fun q=>some (.d (.int ((iS q.1).length:Nat)),q.2)else none
section
variable{K:Fg}{tg:TG}{tt:TT}{hg:GF}{ft:TF}{fa:AF}
theorem EZ{wi:TI}{cap:List (Option Nat)}{tk:TE}{fk:KF}(i:SI K wi fa)(a:SG K tg hg)(c:STt K tt ft)(b:SK K tk fk):
 SE K (tCB LP (nJ (tSc cap wi tg tt tk) BZ)) (uA cap fa hg ft fk):=by
 intro γ M x M' hh W H σ Q G R k;obtain⟨⟨ys,M1⟩,h1,hh⟩:=aK hh;have hh:(if ys.length<=70 then(scF hg ft fk ys (sF cap γ) M1).bind fun q=>some (CD.d (.int ((iS q.1).length:Nat)),q.2)else none)=some (x,M'):=hh;by_cases hl:ys.length<=70
 .rw[A6 hl]at hh;obtain⟨⟨ks,M9⟩,h9,hh⟩:=aK hh;cases hh;refine i _ _ _ _ h1 W H σ _ G R fun J W1 H1 e1 G1 gv=>?_
  refine⟨fun j m acc σ' H'=>∃γ' M3 W3 suf,j<=ys.length/\m=ys.length-j/\acc.length<=j/\W1.Ext W3/\Good K W3 M3 H'/\dE K W3 γ' σ'/\(∀q∈acc,W3.F q.1=some (.tup (q.2.map kV)))/\acc.map (·.2)++suf=ks/\scF hg ft fk (ys.drop j) γ' M3=some (suf,M9),
   ⟨_,sF cap γ,M1,W1,ks,C6 _,rfl,C6 _,.refl _,G1,uJ (R.up e1) cap,fun q h=>by simp at h,rfl,h9⟩,?_⟩
  rintro j m acc σ' H' ⟨γ',M3,W3,suf,hj,rfl,hacc,e3,G3,R3,tu,hx,h3⟩;obtain⟨gv1,gv2⟩:=gv W3 M3 H' e3 G3;by_cases hlt:j<ys.length
  .obtain⟨go,yl⟩:=gv1 j ys[j] (B5 hlt);rw[List.drop_eq_getElem_cons hlt]at h3;refine .inr ⟨go,by omega,fun acc4 σ4 H4=>∃γ4 M4 W4 suf4,acc4.length<=j+1/\W3.Ext W4/\Good K W4 M4 H4/\dE K W4 γ4 σ4/\(∀q∈acc4,W4.F q.1=some (.tup (q.2.map kV)))/\acc4.map (·.2)++suf4=ks/\scF hg ft fk (ys.drop (j+1)) γ4 M4=some (suf4,M9),?_,fun y H4 hy=>?_⟩
   .rintro acc4 σ4 H4 ⟨γ4,M4,W4,suf4,hl4,e4,G4,R4,tu4,hx4,h4⟩;exact⟨_,by omega,γ4,M4,W4,suf4,hlt,rfl,hl4,e3.trans e4,G4,R4,tu4,hx4,h4⟩
   .obtain⟨W8,e8,G8,ry⟩:=yl y H4 hy;obtain⟨⟨γ5,M5⟩,h5,h3⟩:=aK (show(hg ys[j] γ' M3).bind _=_ from h3);obtain⟨⟨b6,M6⟩,h6,h3⟩:=aK h3;refine a _ _ _ _ _ h5 W8 _ σ' y _ G8 (R3.up e8) ry fun σ5 W5 H5 e5 G5 R5=>?_;refine c _ _ _ _ h6 W5 H5 σ5 _ G5 R5 fun W6 H6 e6 G6=>?_;have e36:=(e8.trans e5).trans e6;cases b6 with
    |true=>
     rw[A6 rfl]at h3;obtain⟨⟨ky,M7⟩,h7,h3⟩:=aK h3;cases ky with
     |inl _=>cases h3
     |inr kk=>
      obtain⟨⟨sf,M8⟩,h8,h3⟩:=aK (show(scF hg ft fk (ys.drop (j+1)) γ5 M7).bind _=_ from h3);cases h3;refine .inl ⟨rfl,b _ _ _ _ h7 W6 H6 σ5 _ G6 (R5.up e6) fun yv W7 H7 e7 G7 r7=>?_⟩;obtain⟨q,rfl,fq⟩:=(show ∃b,yv=V.ref b/\W7.F b=some (.tup (kk.map kV))from r7);have e37:=e36.trans e7
      have tu7:∀z∈acc++[(q,kk)],W7.F z.1=some (.tup (z.2.map kV)):=fun z hz=>by
       rcases List.mem_append.mp hz with z1|z1
       .exact e37.ff _ _ (tu z z1)
       .rw[List.mem_singleton.mp z1];exact fq
      refine⟨q,kk,rfl,fun z hz=>G7.fh _ _ (tu7 z hz),γ5,M7,W7,sf,?_,e37,G7,R5.up (e6.trans e7),tu7,?_,h8⟩
      .rw[A9,E1];omega
      .rw[<- hx,E9,J0];rfl
    |false=>
     rw[B0 A1]at h3;exact .inr ⟨rfl,γ5,M6,W6,suf,by omega,e36,G6,R5.up e6,fun z hz=>e36.ff _ _ (tu z hz),hx,h3⟩
  .have ej:j=ys.length:=by omega
   subst ej;rw[List.drop_length]at h3;cases h3;rw[F9]at hx;refine .inl ⟨gv2,fun p xs hp el nd=>?_⟩;have len:=el.len nd (uF ks) fun k=>by rw[nN,hx]
   have dl:=qG ks;have kl:ks.length<=ys.length:=by rw[<- hx,A3];exact hacc
   have G4:=G3.extra (o:=stO p xs) hp;refine⟨p,xs,rfl,bB,by omega,?_⟩;rw[len];exact k _ _ _ (e1.trans e3) G4 rfl
 .rw[B0 hl]at hh;cases hh
theorem dU.uS{k:Nat}{A:Around}(r:dU k A):A.units+1<cLine:=by have:=r.un;omega
variable{ι:Type}{X:ι->Cx}{N':List Str}{cap:List (Option Nat)}{scope:Scope}{tg' iter kx:Expr}{ifs:List Expr}{gf:GF}{fk:KF}{pos pos' p:Pos}
theorem GE(hu:∀i,(X i).A.units+1<cLine)(hc:∀i,(X i).calm=true)(hm:∀i,(X i).mg "len"=none)(S:∀i,lX (X i) N' cap scope)(x:MI K X tg' iter fa)(y:MG K (nM X N' scope) tg' gf)(z:MF K (nM X N' scope) ifs ft)(w:MK K (nM X N' scope) kx fk)(hg:∀i,Gl (X i) "len":=by intro _;rfl)(hs:∀(env:Env)(x:Value),foldedSetIterable iter env x=pure x:=by intro _ _;rfl):
 ME K X (.Call (.Name "len" p) [.SetComp kx [⟨tg',iter,ifs,0⟩] scope pos'] [] pos) (uA cap fa gf ft fk):=by
 obtain⟨t,x1,x2⟩:=x.ex;obtain⟨u,y1,y2⟩:=y.ex;obtain⟨v,z1,z2⟩:=z.ex;obtain⟨o,w1,w2⟩:=w.ex;exact⟨_,fun i=>nX AY (hg i) (hm i) L9 (iK (VD (hu i) (hc i) (S i) (x1 i) (fun C s H fp pn=>y1 (i,C,s,H,fp,pn)) (fun C s H fp pn=>z1 (i,C,s,H,fp,pn)) (fun C s H fp pn=>w1 (i,C,s,H,fp,pn)) (hs _)) rM (by rfl)) (by decide) (by decide) (by rfl) (by rfl),EZ x2 y2 z2 w2⟩
end
end L2
section
noncomputable section
namespace Q63
open PySem PySem.Spec PyProof.Rows L2
noncomputable def top(i:Nat):Stmt:=PySem.Challenge.pw_cutstree_k63_demands_told.main.body.getD i (.Pass ⟨0,0,0,0⟩)
noncomputable abbrev hG:Stmt:=top 22
noncomputable abbrev mQ:List Str:=["_law_script","_law_k","_law_cell","_law_mixed"]
noncomputable abbrev iQ:List Str:=["_law_script","_law_k"]
theorem sc__law_stream:aT mQ iQ (aG hG):=by sleep 990
noncomputable def eM:SF:=(aY (sIf (gB (fOp ltI (aE 1) (aI gF (aB (aE 0) aH))))
 (aY (bW (fOp ixF (aE 0) (aE 1)) (hName 2))
 (aY (bW (fOp dQ (fOp dQ (fOp kN (aE 2) (fC (.int 2147483629))) (fOp wF (aE 1) (aE 1))) (fC (.int 1))) (hName 3))
 (aY (sIf (gB (fOp ltI (aE 2) (fOp pM (fC (.int 10)) (fC (.int 18)))))
  (bW (fC (.int 0)) (hName 2))
  bO)
 (bG (yL (aB (aE 2) (aB (aE 3) aH)))))))
  bO)
 (bG (yL (aB (fC (.int 0)) (aB (fOp dQ (fOp wF (aE 1) (aE 1)) (fC (.int 11))) aH)))))
noncomputable def cS:FN:=fnF 2 4 eM
noncomputable abbrev jO:Stmt:=top 23
noncomputable abbrev pE:List Str:=["_law_stream_here","_law_most","_law_digit"]
noncomputable abbrev lF:List Str:=["_law_stream_here","_law_most"]
theorem sc__law_take:aT pE lF (aG jO):=by sleep 990
noncomputable def iI:SF:=(aY (sIf (gB (fOp (eqX false) (fOp ixF (aE 0) (fC (.int 0))) (fC (.int 0))))
 (aY (bW (fOp kN (fOp dQ (fOp wF (fOp ixF (aE 0) (fC (.int 1))) (fC (.int 48271))) (fC (.int 12345))) (fC (.int 2147483647))) (hSub (aE 0) (fC (.int 1)) uN))
 (bG (fOp kN (fOp kN (fOp wF (fOp ixF (aE 0) (fC (.int 1))) (fOp ixF (aE 0) (fC (.int 1)))) (fC (.int 2147483629))) (aE 1))))
  bO)
 (aY (bW (fOp kN (fOp ixF (aE 0) (fC (.int 0))) (aE 1)) (hName 2))
 (aY (bW (fOp tH (fOp ixF (aE 0) (fC (.int 0))) (aE 1)) (hSub (aE 0) (fC (.int 0)) uN))
 (bG (aE 2)))))
noncomputable def aQ:FN:=fnF 2 3 iI
noncomputable abbrev kB:Stmt:=top 24
noncomputable abbrev pB:List Str:=["_law_stream_here","_law_some"]
noncomputable abbrev lJ:List Str:=["_law_stream_here","_law_some"]
theorem uR:aT pB lJ (aG kB):=by sleep 990
noncomputable def lI:SF:=(bG (fOp ixF (aE 1) (aI aQ (aB (aE 0) (aB (aI gF (aB (aE 1) aH)) aH)))))
noncomputable def cW:FN:=fnF 2 2 lI
noncomputable abbrev iT:Stmt:=top 25
noncomputable abbrev nL:List Str:=["_law_above","_law_below","_law_one","_law_other"]
noncomputable abbrev jT:List Str:=["_law_above","_law_below"]
theorem sc__law_least:aT nL jT (aG iT):=by sleep 990
noncomputable def kU:SF:=(nA (gB (fOp gtI (aE 3) (fC (.int 0)))) (wV 2 3 (aB (aE 3) (aB (fOp kN (aE 2) (aE 3)) aH))))
noncomputable def jR:SF:=(aY (bW (aE 0) (hName 2))
 (aY (bW (aE 1) (hName 3))
 (aY kU
 (bG (cX (aB (fOp tH (aE 0) (aE 2)) (aB (fOp tH (aE 1) (aE 2)) aH)))))))
noncomputable def eX:FN:=fnF 2 4 jR
noncomputable abbrev hZ:Stmt:=top 26
noncomputable abbrev mC:List Str:=["_law_stream_here","_law_kind","_law_below","_law_above"]
noncomputable abbrev iR:List Str:=["_law_stream_here"]
theorem sc__law_demand:aT mC iR (aG hZ):=by sleep 990
noncomputable def kH:EF:=(gJ (aB (cX (aB (fC (.int 1)) (aB (fC (.int 1)) aH))) (aB (cX (aB (fC (.int 1)) (aB (fC (.int 1)) aH))) (aB (cX (aB (fC (.int 2)) (aB (fC (.int 1)) aH))) (aB (cX (aB (fC (.int 1)) (aB (fC (.int 2)) aH))) (aB (cX (aB (fC (.int 3)) (aB (fC (.int 4)) aH))) (aB (cX (aB (fC (.int 0)) (aB (fC (.int 1)) aH))) aH)))))))
noncomputable def kG:EF:=(gJ (aB (fC (.int 1)) (aB (fC (.int 3)) (aB (fC (.int 5)) (aB (fC (.int 7)) (aB (fC (.int 8)) (aB (fC (.int 9)) (aB (fC (.int 11)) (aB (fC (.int 24)) (aB (fC (.int 360)) (aB (fC (.int 2520)) (aB (fC (.int 27720)) aH))))))))))))
noncomputable def kD:EF:=(gJ (aB (fOp pM (fC (.int 10)) (fC (.int 6))) (aB (fOp pP (fOp pM (fC (.int 10)) (fC (.int 6))) (fC (.int 1))) (aB (fC (.int 1)) (aB (fC (.int 999)) aH)))))
theorem oN(γ:Ga)(M:Sto):kD γ M=some (.d (.list [(.int 1000000),(.int 999999),(.int 1),(.int 999)]),M):=rfl
noncomputable def eO:SF:=(aY (bW (aI aQ (aB (aE 0) (aB (fC (.int 8)) aH))) (hName 1))
 (aY (sIf (gB (fOp ltI (aE 1) (fC (.int 6))))
  (bG (fOp ixF kH (aE 1)))
  bO)
 (aY (bW (aI cW (aB (aE 0) (aB kG aH))) (hName 2))
 (aY (bW (aI aQ (aB (aE 0) (aB (fC (.int 1000)) aH))) (hName 3))
 (aY (sIf (gB (fOp (eqX false) (aE 1) (fC (.int 7))))
  (bW (fOp ixF kD (aI aQ (aB (aE 0) (aB (fC (.int 4)) aH)))) (hName 3))
  bO)
 (bG (aI eX (aB (aE 3) (aB (aE 2) aH)))))))))
noncomputable def bT:FN:=fnF 1 4 eO
noncomputable abbrev gE:Stmt:=top 27
noncomputable abbrev kQ:List Str:=["_law_stream_here","_law_many","_law_share","_law_found","_law_j","_law_i","_law_at"]
noncomputable abbrev iB:List Str:=["_law_stream_here","_law_many"]
theorem sc__law_demands:aT kQ iB (aG gE):=by sleep 990
noncomputable def cE:SF:=(sIf (gB (fOp ltI (aI aQ (aB (aE 0) (aB (fC (.int 4)) aH))) (aE 2)))
 (aY (bW (aI aQ (aB (aE 0) (aB (fOp dQ (aI gF (aB (aE 3) aH)) (fC (.int 1))) aH))) (hName 6))
 (bW (fOp dQ (fOp dQ (fSl (aE 3) cP (fZ (aE 6))) (gJ (aB (cX (aB (aE 5) (aB (aE 4) (aB (aI bT (aB (aE 0) aH)) aH)))) aH))) (fSl (aE 3) (fZ (aE 6)) cP)) (hName 3)))
  bO)
noncomputable def cF:SF:=(rV (kI (aB (aE 4) aH)) (hName 5) cE)
noncomputable def iC:SF:=(aY (bW (aI aQ (aB (aE 0) (aB (fC (.int 5)) aH))) (hName 2))
 (aY (bW (gJ aH) (hName 3))
 (aY (rV (kI (aB (aE 1) aH)) (hName 4) cF)
 (bG (aE 3)))))
noncomputable def cV:FN:=fnF 2 7 iC
noncomputable abbrev fT:Stmt:=top 33
noncomputable abbrev gQ:List Str:=["_law_thing"]
noncomputable abbrev gT:List Str:=["_law_thing"]
theorem mD:aT gQ gT (aG fT):=by sleep 990
noncomputable def lQ(self:FN):EF:=(fLc [none] (fJ (aE 0)) (hName 0) kA (aI self (aB (aE 0) aH)))
noncomputable def jW(self:FN):SF:=(aY (sIf (gB (pQ "tuple" (aE 0)))
 (bG (lQ self))
 bO)
 (bG (aE 0)))
noncomputable def bA:Nat->FN
 |0=>fun _ _=>none
 |n+1=>fnF 1 1 (jW (bA n))
noncomputable abbrev jU:Stmt:=top 34
noncomputable abbrev pG:List Str:=["_law_stream_here","_law_row","_law_place","_law_kind","_law_some"]
noncomputable abbrev kS:List Str:=["_law_stream_here","_law_row"]
theorem sc__law_bent:aT pG kS (aG jU):=by sleep 990
noncomputable def mR:EF:=(gJ (aB (fC .none) (aB (fC (.bool true)) (aB (fC (.bool false)) (aB (fUn wB (fC (.int 1))) (aB (fC (.int 0)) (aB (fC (.int 1)) (aB (fC (.int 40)) (aB (fOp dQ (fOp pM (fC (.int 10)) (fC (.int 12))) (fC (.int 1))) (aB (fC (.str "")) (aB (fC (.str "1")) (aB (cX aH) (aB (cX (aB (fC (.int 1)) (aB (fC (.int 2)) aH))) (aB (cX (aB (fC (.int 2)) (aB (fC (.int 2)) aH))) (aB (cX (aB (fC (.int 0)) (aB (fC (.int 2)) aH))) (aB (cX (aB (fC (.int 1)) (aB (fC (.int 13)) aH))) (aB xY aH)))))))))))))))))
noncomputable def gA:SF:=(aY (bW (aI aQ (aB (aE 0) (aB (aI gF (aB (aE 1) aH)) aH))) (hName 2))
 (aY (bW (aI aQ (aB (aE 0) (aB (fC (.int 4)) aH))) (hName 3))
 (aY (sIf (gB (fOp (eqX false) (aE 3) (fC (.int 0))))
  (bG (fOp dQ (fSl (aE 1) cP (fZ (aE 2))) (fSl (aE 1) (fZ (fOp dQ (aE 2) (fC (.int 1)))) cP)))
  bO)
 (aY (sIf (gB (fOp (eqX false) (aE 3) (fC (.int 1))))
  (bG (fOp dQ (fOp dQ (fSl (aE 1) cP (fZ (aE 2))) (cX (aB (fOp ixF (aE 1) (aE 2)) aH))) (fSl (aE 1) (fZ (aE 2)) cP)))
  bO)
 (aY (bW mR (hName 4))
 (bG (fOp dQ (fOp dQ (fSl (aE 1) cP (fZ (aE 2))) (cX (aB (fOp ixF (aE 4) (aI aQ (aB (aE 0) (aB (fC (.int 16)) aH)))) aH))) (fSl (aE 1) (fZ (fOp dQ (aE 2) (fC (.int 1)))) cP))))))))
noncomputable def dP:FN:=fnF 2 5 gA
noncomputable abbrev iO:Stmt:=top 28
noncomputable abbrev jQ:List Str:=["_law_stream_here","_law_script","_law_depth","_law_kind","_law_some"]
noncomputable abbrev jN:List Str:=["_law_stream_here","_law_script","_law_depth"]
theorem sc__law_any:aT jQ jN (aG iO):=by sleep 990
noncomputable def nZ:EF:=(gJ (aB (fC (.int 0)) (aB (fC (.int 1)) (aB (fC (.int 2)) (aB (fC (.int 3)) (aB (fUn wB (fC (.int 1))) (aB (fC (.int 40)) (aB (fC (.int 55440)) aH))))))))
noncomputable def nD:EF:=(gJ (aB (fC (.bool true)) (aB (fC (.bool false)) (aB (fC .none) aH))))
noncomputable def nF:EF:=(gJ (aB (fC (.str "")) (aB (fC (.str "1")) (aB (fC (.str "1/2")) (aB (fC (.str "place")) (aB (fC (.str "tie")) (aB (fC (.str "ab")) aH)))))))
noncomputable def nE(self:FN):EF:=(fLc [some 0,some 1,some 2,none] (kI (aB (aI aQ (aB (aE 0) (aB (fC (.int 4)) aH))) aH)) (hName 3) kA (aI self (aB (aE 0) (aB (aE 1) (aB (fOp pP (aE 2) (fC (.int 1))) aH)))))
noncomputable def bY(self:FN):SF:=(aY (bW (aI aQ (aB (aE 0) (aB (fOp pP (fC (.int 9)) (fOp wF (fC (.int 3)) (aI FR (aB (fOp (eqX false) (aE 2) (fC (.int 0))) aH)))) aH))) (hName 3))
 (aY (sIf (gB (fOp (eqX false) (aE 3) (fC (.int 0))))
  (bG (fIf (gB (fOp (eqX true) (aE 1) (gJ aH))) (fOp pP (fOp kN (fOp ixF (aE 1) (fC (.int 0))) (fOp pM (fC (.int 10)) (fC (.int 40)))) (fOp pM (fC (.int 10)) (fC (.int 39)))) (fUn wB (fC (.int 1)))))
  bO)
 (aY (sIf (gB (fOp (eqX false) (aE 3) (fC (.int 1))))
  (bG (fOp ixF nZ (aI aQ (aB (aE 0) (aB (fC (.int 7)) aH)))))
  bO)
 (aY (sIf (gB (fOp (eqX false) (aE 3) (fC (.int 2))))
  (bG (fOp ixF nD (aI aQ (aB (aE 0) (aB (fC (.int 3)) aH)))))
  bO)
 (aY (sIf (gB (fOp ltI (aE 3) (fC (.int 6))))
  (bG (fOp ixF nF (aI aQ (aB (aE 0) (aB (fC (.int 6)) aH)))))
  bO)
 (aY (bW (nE self) (hName 4))
 (aY (sIf (gB (fOp (eqX false) (aE 3) (fC (.int 6))))
  (bG (aI eZ (aB (aE 4) aH)))
  bO)
 (aY (sIf (gB (fOp (eqX false) (aE 3) (fC (.int 7))))
  (bG (aE 4))
  bO)
 (bG (vU [((fC (.int 0)),(aE 4)),((fC (.str "a")),(fC .none))]))))))))))
noncomputable def cT:Nat->FN
 |0=>fun _ _=>none
 |n+1=>fnF 3 5 (bY (cT n))
noncomputable abbrev eR:Stmt:=top 35
noncomputable abbrev iP:List Str:=["_law_stream_here","_law_script","_law_many","_law_demands_here","_law_one","_law_kind","_law_weights"]
noncomputable abbrev eY:List Str:=["_law_stream_here","_law_script","_law_many","_law_demands_here"]
theorem sc__law_bad_demand:aT iP eY (aG eR):=by sleep 990
noncomputable def eG:EF:=(cX (aB (fC (.int 0)) (aB (fC (.int 1)) (aB (cX (aB (fC (.int 1)) (aB (fC (.int 1)) aH))) aH))))
theorem fX(γ:Ga)(M:Sto):eG γ M=some (.d (.tuple [(.int 0),(.int 1),(.tuple [(.int 1),(.int 1)])]),M):=rfl
noncomputable def eK:EF:=(gJ (aB (cX (aB (fOp dQ (fOp pM (fC (.int 10)) (fC (.int 6))) (fC (.int 1))) (aB (fC (.int 1)) aH))) (aB (cX (aB (fC (.int 1)) (aB (fC (.int 16)) aH))) (aB (cX (aB (fC (.int 1)) (aB (fC (.int 55440)) aH))) (aB (cX (aB (fC (.int 1)) (aB (fC (.int 13)) aH))) (aB (cX (aB (fC (.int 2)) (aB (fC (.int 2)) aH))) (aB (cX (aB (fC (.int 0)) (aB (fC (.int 2)) aH))) (aB (cX (aB (fUn wB (fC (.int 1))) (aB (fC (.int 1)) aH))) (aB (cX (aB (fC (.bool true)) (aB (fC (.int 1)) aH))) (aB (fC (.int 1)) aH))))))))))
noncomputable def fG:SF:=(aY (bW eG (hName 4))
 (aY (sIf (gB (fOp (eqX true) (aE 3) (gJ aH)))
  (bW (aI cW (aB (aE 0) (aB (aE 3) aH))) (hName 4))
  bO)
 (aY (bW (aI aQ (aB (aE 0) (aB (fC (.int 6)) aH))) (hName 5))
 (aY (sIf (gB (fOp (eqX false) (aE 5) (fC (.int 0))))
  (bG (aI dP (aB (aE 0) (aB (aE 4) aH))))
  bO)
 (aY (sIf (gB (fOp (eqX false) (aE 5) (fC (.int 1))))
  (bG (cX (aB (fOp ixF (aE 4) (fC (.int 1))) (aB (fOp ixF (aE 4) (fC (.int 0))) (aB (fOp ixF (aE 4) (fC (.int 2))) aH)))))
  bO)
 (aY (sIf (gB (fOp (eqX false) (aE 5) (fC (.int 2))))
  (bG (cX (aB (fOp ixF (aE 4) (fC (.int 0))) (aB (fOp ixF (aE 4) (fC (.int 1))) (aB (aI bT (aB (aE 0) aH)) aH)))))
  bO)
 (aY (sIf (gB (fOp (eqX false) (aE 5) (fC (.int 3))))
  (bG (cX (aB (fOp ixF (aE 4) (fC (.int 0))) (aB (aE 2) (aB (fOp ixF (aE 4) (fC (.int 2))) aH)))))
  bO)
 (aY (sIf (gB (fOp (eqX false) (aE 5) (fC (.int 4))))
  (aY (bW eK (hName 6))
 (bG (cX (aB (fOp ixF (aE 4) (fC (.int 0))) (aB (fOp ixF (aE 4) (fC (.int 1))) (aB (aI cW (aB (aE 0) (aB (aE 6) aH))) aH))))))
  bO)
 (bG (aI (cT 4) (aB (aE 0) (aB (aE 1) (aB (fC (.int 2)) aH)))))))))))))
noncomputable def bX:FN:=fnF 4 7 fG
noncomputable abbrev iE:Stmt:=top 36
noncomputable abbrev mF:List Str:=["_law_stream_here","_law_script","_law_many","_law_demands_here","_law_at","_law_one","_law_two"]
noncomputable abbrev jA:List Str:=["_law_stream_here","_law_script","_law_many"]
theorem sc__law_things:aT mF jA (aG iE):=by sleep 990
noncomputable def iY:SF:=(aY (bW (aI cV (aB (aE 0) (aB (aE 2) aH))) (hName 3))
 (aY (bW (aI aQ (aB (aE 0) (aB (fOp dQ (aI gF (aB (aE 3) aH)) (fC (.int 1))) aH))) (hName 4))
 (aY (bW (fOp dQ (fOp dQ (fSl (aE 3) cP (fZ (aE 4))) (gJ (aB (aI bX (aB (aE 0) (aB (aE 1) (aB (aE 2) (aB (aE 3) aH))))) aH))) (fSl (aE 3) (fZ (aE 4)) cP)) (hName 5))
 (aY (bW (fOp dQ (aE 5) (gJ (aB (aI bX (aB (aE 0) (aB (aE 1) (aB (aE 2) (aB (aE 3) aH))))) aH))) (hName 6))
 (bG (gJ (aB (aE 5) (aB (aI eZ (aB (aE 6) aH)) (aB (aI (bA 6) (aB (aI eZ (aB (aE 6) aH)) aH)) (aB (aI (cT 4) (aB (aE 0) (aB (aE 1) (aB (fC (.int 3)) aH)))) (aB (fC (.int 7)) (aB (fC .none) aH))))))))))))
noncomputable def dG:FN:=fnF 3 7 iY
noncomputable abbrev oR:Stmt:=top 13
noncomputable abbrev wY:List Str:=["one","other"]
noncomputable abbrev qX:List Str:=["one","other"]
theorem sc_common:aT wY qX (aG oR):=by sleep 990
noncomputable def mY:SF:=(nA (yE (aE 1)) (wV 0 1 (aB (aE 1) (aB (fOp kN (aE 0) (aE 1)) aH))))
noncomputable def vW:SF:=(aY mY
 (bG (aE 0)))
noncomputable def rB:FN:=fnF 2 2 vW
noncomputable abbrev lC:Stmt:=top 1
noncomputable abbrev rK:List Str:=["thing"]
noncomputable abbrev mV:List Str:=["thing"]
theorem vY:aT rK mV (aG lC):=by sleep 990
noncomputable def qD:SF:=(bG (iG (pQ "int" (aE 0)) (FJ (pQ "bool" (aE 0)))))
noncomputable def hV:FN:=fnF 1 1 qD
noncomputable abbrev oS:Stmt:=top 2
noncomputable abbrev vX:List Str:=["thing"]
noncomputable abbrev rE:List Str:=["thing"]
theorem BQ:aT vX rE (aG oS):=by sleep 990
noncomputable def vF:SF:=(bG (zM "list" "tuple" (aE 0)))
noncomputable def jJ:FN:=fnF 1 1 vF
noncomputable abbrev jS:Stmt:=top 3
noncomputable abbrev oU:List Str:=["thing","length"]
noncomputable abbrev lE:List Str:=["thing","length"]
theorem tX:aT oU lE (aG jS):=by sleep 990
noncomputable def oX:SF:=(bG (iG (aI jJ (aB (aE 0) aH)) (fOp (eqX false) (aI gF (aB (aE 0) aH)) (aE 1))))
noncomputable def iL:FN:=fnF 2 2 oX
noncomputable abbrev dM:Stmt:=top 12
noncomputable abbrev gD:List Str:=["thing"]
noncomputable abbrev dO:List Str:=["thing"]
theorem kL:aT gD dO (aG dM):=by sleep 990
noncomputable def bV:SF:=(aY (sIf (gOr (iH (gB (aI iL (aB (aE 0) (aB (fC (.int 2)) aH))))) (gOr (iH (gB (aI hV (aB (fOp ixF (aE 0) (fC (.int 0))) aH)))) (iH (gB (aI hV (aB (fOp ixF (aE 0) (fC (.int 1))) aH))))))
 (bG (fC (.bool false)))
 bO)
 (bG (iG (fOp geI (fOp ixF (aE 0) (fC (.int 0))) (fC (.int 0))) (fOp geI (fOp ixF (aE 0) (fC (.int 1))) (fC (.int 1))))))
noncomputable def bL:FN:=fnF 1 1 bV
noncomputable abbrev hW:Stmt:=top 11
noncomputable abbrev mE:List Str:=["thing"]
noncomputable abbrev iW:List Str:=["thing"]
theorem qW:aT mE iW (aG hW):=by sleep 990
noncomputable def dI:SF:=(bG (iG (aI bL (aB (aE 0) aH)) (iG (fOp (eqX false) (fOp kN (fC (.int 55440)) (fOp ixF (aE 0) (fC (.int 1)))) (fC (.int 0))) (fOp (eqX false) (aI rB (aB (fOp ixF (aE 0) (fC (.int 0))) (aB (fOp ixF (aE 0) (fC (.int 1))) aH))) (fC (.int 1))))))
noncomputable def cD:FN:=fnF 1 1 dI
noncomputable abbrev jX:Stmt:=top 10
noncomputable abbrev pD:List Str:=["thing"]
noncomputable abbrev lB:List Str:=["thing"]
theorem uC:aT pD lB (aG jX):=by sleep 990
noncomputable def fW:SF:=(bG (iG (aI cD (aB (aE 0) aH)) (fOp leI (fOp ixF (aE 0) (fC (.int 0))) (fC (.int 1000000000000)))))
noncomputable def dY:FN:=fnF 1 1 fW
noncomputable abbrev lG:Stmt:=top 4
noncomputable abbrev rW:List Str:=["many","thing"]
noncomputable abbrev mT:List Str:=["many","thing"]
theorem wO:aT rW mT (aG lG):=by sleep 990
noncomputable def jP:SF:=(bG (iG (aI hV (aB (aE 1) aH)) (rS leI ltI (fC (.int 0)) (aE 1) (aE 0))))
noncomputable def fL:FN:=fnF 2 2 jP
noncomputable abbrev dW:Stmt:=top 5
noncomputable abbrev gM:List Str:=["many","i","j"]
noncomputable abbrev eF:List Str:=["many","i","j"]
theorem lA:aT gM eF (aG dW):=by sleep 990
noncomputable def cA:SF:=(bG (iG (aI fL (aB (aE 0) (aB (aE 1) aH))) (iG (aI fL (aB (aE 0) (aB (aE 2) aH))) (fOp (eqX true) (aE 1) (aE 2)))))
noncomputable def bR:FN:=fnF 3 3 cA
noncomputable abbrev dX:Stmt:=top 6
noncomputable abbrev gP:List Str:=["many","thing"]
noncomputable abbrev eH:List Str:=["many","thing"]
theorem kP:aT gP eH (aG dX):=by sleep 990
noncomputable def bZ:SF:=(bG (iG (aI iL (aB (aE 1) (aB (fC (.int 3)) aH))) (iG (aI bR (aB (aE 0) (aB (fOp ixF (aE 1) (fC (.int 0))) (aB (fOp ixF (aE 1) (fC (.int 1))) aH)))) (fOp ltI (fOp ixF (aE 1) (fC (.int 0))) (fOp ixF (aE 1) (fC (.int 1)))))))
noncomputable def bD:FN:=fnF 2 2 bZ
noncomputable abbrev oM:Stmt:=top 15
noncomputable abbrev wW:List Str:=["many","thing"]
noncomputable abbrev rX:List Str:=["many","thing"]
theorem BX:aT wW rX (aG oM):=by sleep 990
noncomputable def jH:SF:=(bG (iG (aI bD (aB (aE 0) (aB (aE 1) aH))) (aI dY (aB (fOp ixF (aE 1) (fC (.int 2))) aH))))
noncomputable def hE:FN:=fnF 2 2 jH
noncomputable abbrev jL:Stmt:=top 20
noncomputable abbrev pJ:List Str:=["many","thing"]
noncomputable abbrev lP:List Str:=["many","thing"]
theorem tR:aT pJ lP (aG jL):=by sleep 990
noncomputable def fY:SF:=(bG (iG (aI hE (aB (aE 0) (aB (aE 1) aH))) (iG (fOp leI (fOp ixF (fOp ixF (aE 1) (fC (.int 2))) (fC (.int 0))) (fC (.int 1000000))) (fOp (eqX false) (fOp kN (fC (.int 27720)) (fOp ixF (fOp ixF (aE 1) (fC (.int 2))) (fC (.int 1)))) (fC (.int 0))))))
noncomputable def eV:FN:=fnF 2 2 fY
noncomputable abbrev dR:Stmt:=top 19
noncomputable abbrev fS:List Str:=["many","demands"]
noncomputable abbrev iU:List Str:=["many","demands"]
theorem qB:aT fS iU (aG dR):=by sleep 990
noncomputable def dC:EF:=(fLc [some 0,none] (fJ (aE 1)) (hName 1) kA (aI eV (aB (aE 0) (aB (aE 1) aH))))
noncomputable def gI:EF:=(uA [none] (fJ (aE 1)) (hName 0) kA (AU (aB (fOp ixF (aE 0) (fC (.int 0))) (aB (fOp ixF (aE 0) (fC (.int 1))) aH))))
noncomputable def eL:SF:=(aY (sIf (gOr (iH (gB (aI jJ (aB (aE 1) aH)))) (iH (gB (aI sA (aB dC aH)))))
 (bG (fC (.bool false)))
 bO)
 (bG (fOp (eqX false) gI (aI gF (aB (aE 1) aH)))))
noncomputable def eN:FN:=fnF 2 2 eL
noncomputable abbrev hX:Stmt:=top 29
noncomputable abbrev mL:List Str:=["_law_thing"]
noncomputable abbrev iV:List Str:=["_law_thing"]
theorem qM:aT mL iV (aG hX):=by sleep 990
noncomputable def mJ:SF:=(bG (fOr (pQ "list" (aE 0)) (pQ "tuple" (aE 0))))
noncomputable def dF:FN:=fnF 1 1 mJ
noncomputable abbrev fM:Stmt:=top 30
noncomputable abbrev kE:List Str:=["_law_thing","_law_low","_law_most"]
noncomputable abbrev gK:List Str:=["_law_thing","_law_low","_law_most"]
theorem oQ:aT kE gK (aG fM):=by sleep 990
noncomputable def gG:SF:=(bG (iG (pQ "int" (aE 0)) (iG (FJ (pQ "bool" (aE 0))) (rS leI leI (aE 1) (aE 0) (aE 2)))))
noncomputable def bC:FN:=fnF 3 3 gG
noncomputable abbrev fF:Stmt:=top 31
noncomputable abbrev jD:List Str:=["_law_thing"]
noncomputable abbrev fP:List Str:=["_law_thing"]
theorem nW:aT jD fP (aG fF):=by sleep 990
noncomputable def bK:SF:=(aY (sIf (gOr (iH (gB (aI dF (aB (aE 0) aH)))) (gB (fOp (eqX true) (aI gF (aB (aE 0) aH)) (fC (.int 2)))))
 (bG (fC (.bool false)))
 bO)
 (aY (sIf (gOr (iH (gB (aI bC (aB (fOp ixF (aE 0) (fC (.int 0))) (aB (fC (.int 0)) (aB (fOp pM (fC (.int 10)) (fC (.int 6))) aH)))))) (gOr (iH (gB (aI bC (aB (fOp ixF (aE 0) (fC (.int 1))) (aB (fC (.int 1)) (aB (fC (.int 27720)) aH)))))) (gB (fOp (eqX true) (fOp kN (fC (.int 27720)) (fOp ixF (aE 0) (fC (.int 1)))) (fC (.int 0))))))
  (bG (fC (.bool false)))
  bO)
 (bG (fOp (eqX false) (aI eX (aB (fOp ixF (aE 0) (fC (.int 0))) (aB (fOp ixF (aE 0) (fC (.int 1))) aH))) (cX (aB (fOp ixF (aE 0) (fC (.int 0))) (aB (fOp ixF (aE 0) (fC (.int 1))) aH)))))))
noncomputable def bF:FN:=fnF 1 1 bK
noncomputable abbrev eI:Stmt:=top 32
noncomputable abbrev iA:List Str:=["_law_many","_law_thing","_law_known","_law_one"]
noncomputable abbrev eQ:List Str:=["_law_many","_law_thing"]
theorem sc__law_are_demands:aT iA eQ (aG eI):=by sleep 990
noncomputable def aN:SF:=(aY (sIf (gOr (iH (gB (aI dF (aB (aE 3) aH)))) (gOr (gB (fOp (eqX true) (aI gF (aB (aE 3) aH)) (fC (.int 3)))) (iH (gB (aI bF (aB (fOp ixF (aE 3) (fC (.int 2))) aH))))))
 (bG (fC (.bool false)))
 bO)
 (aY (sIf (gOr (iH (gB (aI bC (aB (fOp ixF (aE 3) (fC (.int 0))) (aB (fC (.int 0)) (aB (fOp pP (aE 0) (fC (.int 1))) aH)))))) (iH (gB (aI bC (aB (fOp ixF (aE 3) (fC (.int 1))) (aB (fOp dQ (fOp ixF (aE 3) (fC (.int 0))) (fC (.int 1))) (aB (fOp pP (aE 0) (fC (.int 1))) aH)))))))
  (bG (fC (.bool false)))
  bO)
 (aY (sIf (gB (fOp (inC false) (cX (aB (fOp ixF (aE 3) (fC (.int 0))) (aB (fOp ixF (aE 3) (fC (.int 1))) aH))) (aE 2)))
  (bG (fC (.bool false)))
  bO)
 (AJ (AC "list" lT (aE 2) (aB (cX (aB (fOp ixF (aE 3) (fC (.int 0))) (aB (fOp ixF (aE 3) (fC (.int 1))) aH))) aH))))))
noncomputable def cI:SF:=(aY (sIf (iH (gB (aI dF (aB (aE 1) aH))))
 (bG (fC (.bool false)))
 bO)
 (aY (bW (yL aH) (hName 2))
 (aY (rV (fJ (aE 1)) (hName 3) aN)
 (bG (fC (.bool true))))))
noncomputable def bS:FN:=fnF 2 4 cI
noncomputable abbrev jB:Stmt:=top 37
noncomputable abbrev nI:List Str:=["_law_many","_law_thing","_law_kept","_law_found"]
noncomputable abbrev jV:List Str:=["_law_many","_law_thing"]
theorem sc__law_right:aT nI jV (aG jB):=by sleep 990
noncomputable def gU:SF:=(aY (bW (aI mM (aB (aE 1) aH)) (hName 2))
 (aY (bW (aI eN (aB (aE 0) (aB (aE 1) aH))) (hName 3))
 (bG (iG (pQ "bool" (aE 3)) (iG (fOp (eqX false) (aE 3) (aI bS (aB (aE 0) (aB (aE 1) aH)))) (fOp (eqX false) (aI mM (aB (aE 1) aH)) (aE 2)))))))
noncomputable def fE:FN:=fnF 2 4 gU
noncomputable abbrev xS:Stmt:=top 38
noncomputable abbrev LF:List Str:=["_law_script","_law_k","_law_stream_here","_law_many","_law_good","_law_thing"]
noncomputable abbrev LW:List Str:=["_law_script"]
theorem sc_law:aT LF LW (aG xS):=by sleep 990
noncomputable def uP:EF:=(gJ (aB (fC (.int 1)) (aB (fC (.int 2)) (aB (fC (.int 3)) (aB (fC (.int 5)) (aB (fC (.int 9)) (aB (fC (.int 40)) aH)))))))
theorem DX(γ:Ga)(M:Sto):uP γ M=some (.d (.list [(.int 1),(.int 2),(.int 3),(.int 5),(.int 9),(.int 40)]),M):=rfl
noncomputable def uL:SF:=(sIf (iH (gB (aI fE (aB (aE 3) (aB (aE 5) aH)))))
 (bG (fC (.bool false)))
 bO)
noncomputable def pT:SF:=(aY (bW (aI cS (aB (aE 0) (aB (aE 1) aH))) (hName 2))
 (aY (bW (fOp ixF uP (aI aQ (aB (aE 2) (aB (fC (.int 6)) aH)))) (hName 3))
 (aY (bW (aI cV (aB (aE 2) (aB (aI oC (aB (aE 3) (aB (fC (.int 9)) aH))) aH))) (hName 4))
 (rV (fJ (fOp dQ (gJ (aB (aE 4) (aB (aI (bA 6) (aB (aI eZ (aB (aE 4) aH)) aH)) aH))) (aI dG (aB (aE 2) (aB (aE 0) (aB (aI oC (aB (aE 3) (aB (fC (.int 9)) aH))) aH)))))) (hName 5) uL))))
noncomputable def zX:SF:=(aY (rV (kI (aB (fC (.int 5)) aH)) (hName 1) pT)
 (bG (fC (.bool true))))
noncomputable def F_law:FN:=fnF 1 6 zX
structure Txt(K:Fg)(mg:Str->Option Value):Prop where
 hB:AQ mg ["all","bool","int","isinstance","len","list","min","range","repr","tuple"]
 v44:∃t:Tok,mg "MOST_ABOVE"=some (.int 1000000000000 t)
 v45:∃t:Tok,mg "BELOW"=some (.int 55440 t)
 v46:∃t:Tok,mg "MOST_DEMAND"=some (.int 1000000 t)
 v47:∃t:Tok,mg "DEMAND_BELOW"=some (.int 27720 t)
 v14:Def K mg "_law_stream" hG
 v15:Def K mg "_law_take" jO
 v16:Def K mg "_law_pick" kB
 v17:Def K mg "_law_least" iT
 v18:Def K mg "_law_demand" hZ
 v19:Def K mg "_law_demands" gE
 v20:Def K mg "_law_lists" fT
 v21:Def K mg "_law_bent" jU
 v22:Def K mg "_law_any" iO
 v23:Def K mg "_law_bad_demand" eR
 v24:Def K mg "_law_things" iE
 v25:Def K mg "common" oR
 v26:Def K mg "is_whole" lC
 v27:Def K mg "is_row" oS
 v28:Def K mg "is_row_of" jS
 v29:Def K mg "has_amount_numbers" dM
 v30:Def K mg "is_in_parts" hW
 v31:Def K mg "is_weight" jX
 v32:Def K mg "is_place" lG
 v33:Def K mg "are_unlike_places" dW
 v34:Def K mg "is_between_places" dX
 v35:Def K mg "is_tie" oM
 v36:Def K mg "is_demand" jL
 v37:Def K mg "are_demands" dR
 v38:Def K mg "_law_is_row" hX
 v39:Def K mg "_law_is_whole" fM
 v40:Def K mg "_law_is_demand" fF
 v41:Def K mg "_law_are_demands" eI
 v42:Def K mg "_law_right" jB
 v43:Def K mg "law" xS
section
variable{P:Program}{w:World}{K:Fg}{mg:Str->Option Value}{base:Heap}
theorem rJ(T:Txt K mg):Callee P w K mg base 1 "_law_stream" iQ (spM K cS):=
 T.v14.okG (N:=mQ) (ps:=iQ) (k:=0) (b:=eM) sc__law_stream (by sleep 992) fun f cdv A outer s H E hr=>
  (aL (cL (bU xR (aC 1) (cQ oD (fun _=>T.hB.of "len") L9 (aA (aC 0) aF)))
   (aL (bI 2 (fun _=>sc__law_stream.nd) (aW bP (aC 0) (aC 1)))
   (aL (bI 3 (fun _=>sc__law_stream.nd) (aX eD (aX eD (aX lR (aC 2) aD) (aX xD (aC 1) (aC 1))) aD))
   (aL (cL (bU xR (aC 2) (aX oY aD aD))
    (aP (bI 2 (fun _=>sc__law_stream.nd) aD))
    bM)
   (aP (aR (yT (aA (aC 2) (aA (aC 3) aF))))))))
    bM)
   (aP (aR (yT (aA aD (aA (aX eD (aX xD (aC 1) (aC 1)) aD) aF))))))
theorem aU(T:Txt K mg):Callee P w K mg base 1 "_law_take" lF (spM K aQ):=
 T.v15.okG (N:=pE) (ps:=lF) (k:=0) (b:=iI) sc__law_take (by sleep 992) fun f cdv A outer s H E hr=>
  (aL (cL (bU (gX (fun _=>rfl) (fun _=>hr.units)) (aW bP (aC 0) aD) aD)
   (aL (FP (aX lR (aX eD (aX xD (aW bP (aC 0) aD) aD) aD) aD) (CQ LM (aC 0) aD))
   (aP (aR (aX lR (aX lR (aX xD (aW bP (aC 0) aD) (aW bP (aC 0) aD)) aD) (aC 1)))))
    bM)
   (aL (bI 2 (fun _=>sc__law_take.nd) (aX lR (aW bP (aC 0) aD) (aC 1)))
   (aL (FP (aX xU (aW bP (aC 0) aD) (aC 1)) (CQ LM (aC 0) aD))
   (aP (aR (aC 2))))))
theorem jM(T:Txt K mg):Callee P w K mg base 2 "_law_pick" lJ (spM K cW):=
 T.v16.okG (N:=pB) (ps:=lJ) (k:=1) (b:=lI) uR (by sleep 992) fun f cdv A outer s H E hr=>
  (aP (aR (aW bP (aC 1) (aJ (fun _=>aU T) hr.le (aA (aC 0) (aA (cQ oD (fun _=>T.hB.of "len") L9 (aA (aC 1) aF)) aF))))))
theorem mK(T:Txt K mg):Callee P w K mg base 1 "_law_least" jT (spM K eX):=
 T.v17.okG (N:=nL) (ps:=jT) (k:=0) (b:=jR) sc__law_least (by sleep 992) fun f cdv A outer s H E hr=>
  (aL (bI 2 (fun _=>sc__law_least.nd) (aC 0))
   (aL (bI 3 (fun _=>sc__law_least.nd) (aC 1))
   (aL (wC (fun _=>J3) (bU XJ (aC 3) aD) (aP (CY 2 3 (fun _=>rfl) (fun _=>sc__law_least.nd) (aA (aC 3) (aA (aX lR (aC 2) (aC 3)) aF)))))
   (aP (aR (bJ (aA (aX xU (aC 0) (aC 2)) (aA (aX xU (aC 1) (aC 2)) aF))))))))
theorem lO(T:Txt K mg):Callee P w K mg base 3 "_law_demand" iR (spM K bT):=
 T.v18.okG (N:=mC) (ps:=iR) (k:=2) (b:=eO) sc__law_demand (by sleep 991) fun f cdv A outer s H E hr=>
  (aL (bI 1 (fun _=>sc__law_demand.nd) (aJ (fun _=>aU T) hr.le (aA (aC 0) (aA aD aF))))
   (aL (cL (bU xR (aC 1) aD)
    (aP (aR (aW bP (dN (aA (bJ (aA aD (aA aD aF))) (aA (bJ (aA aD (aA aD aF))) (aA (bJ (aA aD (aA aD aF))) (aA (bJ (aA aD (aA aD aF))) (aA (bJ (aA aD (aA aD aF))) (aA (bJ (aA aD (aA aD aF))) aF))))))) (aC 1))))
    bM)
   (aL (bI 2 (fun _=>sc__law_demand.nd) (aJ (fun _=>jM T) hr.le (aA (aC 0) (aA (dN (aA aD (aA aD (aA aD (aA aD (aA aD (aA aD (aA aD (aA aD (aA aD (aA aD (aA aD aF)))))))))))) aF))))
   (aL (bI 3 (fun _=>sc__law_demand.nd) (aJ (fun _=>aU T) hr.le (aA (aC 0) (aA aD aF))))
   (aL (cL (bU (gX (fun _=>rfl) (fun _=>hr.units)) (aC 1) aD)
    (aP (bI 3 (fun _=>sc__law_demand.nd) (aW bP (dN (aA (aX oY aD aD) (aA (aX tL (aX oY aD aD) aD) (aA aD (aA aD aF))))) (aJ (fun _=>aU T) hr.le (aA (aC 0) (aA aD aF))))))
    bM)
   (aP (aR (aJ (fun _=>mK T) hr.le (aA (aC 3) (aA (aC 2) aF))))))))))
theorem kC(T:Txt K mg):Callee P w K mg base 4 "_law_demands" iB (spM K cV):=
 T.v19.okG (N:=kQ) (ps:=iB) (k:=3) (b:=iC) sc__law_demands (by sleep 992) fun f cdv A outer s H E hr=>
  (aL (bI 2 (fun _=>sc__law_demands.nd) (aJ (fun _=>aU T) hr.le (aA (aC 0) (aA aD aF))))
   (aL (bI 3 (fun _=>sc__law_demands.nd) (dN aF))
   (aL (qC (fun _=>J3) (fun _=>rfl) (pY (fun _=>T.hB.of "range") (aA (aC 1) aF)) (gR 4 (fun _=>sc__law_demands.nd))
    (aP (qC (fun _=>J3) (fun _=>rfl) (pY (fun _=>T.hB.of "range") (aA (aC 4) aF)) (gR 5 (fun _=>sc__law_demands.nd))
    (aP (cL (bU xR (aJ (fun _=>aU T) hr.le (aA (aC 0) (aA aD aF))) (aC 2))
    (aL (bI 6 (fun _=>sc__law_demands.nd) (aJ (fun _=>aU T) hr.le (aA (aC 0) (aA (aX eD (cQ oD (fun _=>T.hB.of "len") L9 (aA (aC 3) aF)) aD) aF))))
   (aP (bI 3 (fun _=>sc__law_demands.nd) (aX eD (aX eD (mG (fun _=>rfl) (aC 3) fV (fR (aC 6))) (dN (aA (bJ (aA (aC 5) (aA (aC 4) (aA (aJ (fun _=>lO T) hr.le (aA (aC 0) aF)) aF)))) aF))) (mG (fun _=>rfl) (aC 3) (fR (aC 6)) fV)))))
    bM)))))
   (aP (aR (aC 3))))))
theorem iX(T:Txt K mg):∀n:Nat,Callee P w K mg base (n+1) "_law_lists" gT (spM K (bA n))
 |0=>(T.v20.okNone (N:=gQ) (ps:=gT) (k:=0) mD (by intro _ _ _ _ _ _ _ hl;apply ar1 hl;intros;rfl)).mono (by decide)
 |n+1=>(T.v20.okG (N:=gQ) (ps:=gT) (k:=n+1) (b:=jW (bA n)) mD (by sleep 991) fun f cdv A outer s H E hr=>
  (aL (cL (eT (kW (T:="tuple") (fun _=>rfl) (by decide) (aC 0) (fun _=>cG) (fun _=>T.hB.of "isinstance") (fun _=>T.hB.of "tuple") O0))
   (aP (aR (MQ (N':=(["_law_one"]:List Str)) (cap:=[none]) (fun _=>rfl) (fun _=>pX (sc0:=aG fT) (N:=gQ) rfl rfl (by decide +kernel)) (qK (fun _=>rfl) (aC 0)) (gR 0 (fun _=>(show(["_law_one"]:List Str).Nodup by decide +kernel))) uW (aJ (fun _=>iX T n) (fun _=>hr.mono (by omega)) (aA (aC 0) aF)))))
   bM)
   (aP (aR (aC 0))))).mono (by omega)
theorem uE(T:Txt K mg):Callee P w K mg base 2 "_law_bent" kS (spM K dP):=
 T.v21.okG (N:=pG) (ps:=kS) (k:=1) (b:=gA) sc__law_bent (by sleep 992) fun f cdv A outer s H E hr=>
  (aL (bI 2 (fun _=>sc__law_bent.nd) (aJ (fun _=>aU T) hr.le (aA (aC 0) (aA (cQ oD (fun _=>T.hB.of "len") L9 (aA (aC 1) aF)) aF))))
   (aL (bI 3 (fun _=>sc__law_bent.nd) (aJ (fun _=>aU T) hr.le (aA (aC 0) (aA aD aF))))
   (aL (cL (bU (gX (fun _=>rfl) (fun _=>hr.units)) (aC 3) aD)
    (aP (aR (aX eD (mG (fun _=>rfl) (aC 1) fV (fR (aC 2))) (mG (fun _=>rfl) (aC 1) (fR (aX eD (aC 2) aD)) fV))))
    bM)
   (aL (cL (bU (gX (fun _=>rfl) (fun _=>hr.units)) (aC 3) aD)
    (aP (aR (aX eD (aX eD (mG (fun _=>rfl) (aC 1) fV (fR (aC 2))) (bJ (aA (aW bP (aC 1) (aC 2)) aF))) (mG (fun _=>rfl) (aC 1) (fR (aC 2)) fV))))
    bM)
   (aL (bI 4 (fun _=>sc__law_bent.nd) (dN (aA uY (aA gL (aA gL (aA (AA zH aD) (aA aD (aA aD (aA aD (aA (aX eD (aX oY aD aD) aD) (aA jZ (aA jZ (aA (bJ aF) (aA (bJ (aA aD (aA aD aF))) (aA (bJ (aA aD (aA aD aF))) (aA (bJ (aA aD (aA aD aF))) (aA (bJ (aA aD (aA aD aF))) (aA CZ aF))))))))))))))))))
   (aP (aR (aX eD (aX eD (mG (fun _=>rfl) (aC 1) fV (fR (aC 2))) (bJ (aA (aW bP (aC 4) (aJ (fun _=>aU T) hr.le (aA (aC 0) (aA aD aF)))) aF))) (mG (fun _=>rfl) (aC 1) (fR (aX eD (aC 2) aD)) fV)))))))))
theorem kX(T:Txt K mg):∀n:Nat,Callee P w K mg base (n+2) "_law_any" jN (spM K (cT n))
 |0=>(T.v22.okNone (N:=jQ) (ps:=jN) (k:=1) sc__law_any (by intro _ _ _ _ _ _ _ hl;apply ar3 hl;intros;rfl)).mono (by decide)
 |n+1=>(T.v22.okG (N:=jQ) (ps:=jN) (k:=n+2) (b:=bY (cT n)) sc__law_any (by sleep 993) fun f cdv A outer s H E hr=>
  (aL (bI 3 (fun _=>sc__law_any.nd) (aJ (fun _=>aU T) (fun _=>hr.mono (by omega)) (aA (aC 0) (aA (aX tL aD (aX xD aD (lD WU (fun _=>T.hB.of "int") boot_int (aA (eS (gX (fun _=>rfl) (fun _=>hr.units)) (aC 2) aD) aF)))) aF))))
   (aL (cL (bU (gX (fun _=>rfl) (fun _=>hr.units)) (aC 3) aD)
    (aP (aR (UX (bU (BF (fun _=>rfl) (fun _=>hr.units)) (aC 1) (dN aF)) (aX tL (aX lR (aW bP (aC 1) aD) (aX oY aD aD)) (aX oY aD aD)) (AA zH aD))))
    bM)
   (aL (cL (bU (gX (fun _=>rfl) (fun _=>hr.units)) (aC 3) aD)
    (aP (aR (aW bP (dN (aA aD (aA aD (aA aD (aA aD (aA (AA zH aD) (aA aD (aA aD aF)))))))) (aJ (fun _=>aU T) (fun _=>hr.mono (by omega)) (aA (aC 0) (aA aD aF))))))
    bM)
   (aL (cL (bU (gX (fun _=>rfl) (fun _=>hr.units)) (aC 3) aD)
    (aP (aR (aW bP (dN (aA gL (aA gL (aA uY aF)))) (aJ (fun _=>aU T) (fun _=>hr.mono (by omega)) (aA (aC 0) (aA aD aF))))))
    bM)
   (aL (cL (bU xR (aC 3) aD)
    (aP (aR (aW bP (dN (aA jZ (aA jZ (aA jZ (aA jZ (aA jZ (aA jZ aF))))))) (aJ (fun _=>aU T) (fun _=>hr.mono (by omega)) (aA (aC 0) (aA aD aF))))))
    bM)
   (aL (EV 4 (fun _=>sc__law_any.nd) (N':=(["_law_stream_here","_law_script","_law_depth","_law_k"]:List Str)) (cap:=[some 0,some 1,some 2,none]) (fun _=>rfl) (fun _=>pX (sc0:=aG iO) (N:=jQ) rfl rfl (by decide +kernel)) (pY (fun _=>T.hB.of "range") (aA (aJ (fun _=>aU T) (fun _=>hr.mono (by omega)) (aA (aC 0) (aA aD aF))) aF)) (gR 3 (fun _=>(show(["_law_stream_here","_law_script","_law_depth","_law_k"]:List Str).Nodup by decide +kernel))) uW (aJ (fun _=>kX T n) (fun _=>hr.mono (by omega)) (aA (aC 0) (aA (aC 1) (aA (aX tL (aC 2) aD) aF)))))
   (aL (cL (bU (gX (fun _=>rfl) (fun _=>hr.units)) (aC 3) aD)
    (aP (aR (lD (pU (fun _=>rfl)) (fun _=>T.hB.of "tuple") O0 (aA (aC 4) aF))))
    bM)
   (aL (cL (bU (gX (fun _=>rfl) (fun _=>hr.units)) (aC 3) aD)
    (aP (aR (aC 4)))
    bM)
   (aP (aR (KB (yY aD (aC 4) (yY jZ uY RZ)))))))))))))).mono (by omega)
theorem iD(T:Txt K mg):Callee P w K mg base 7 "_law_bad_demand" eY (spM K bX):=
 T.v23.okG (N:=iP) (ps:=eY) (k:=6) (b:=fG) sc__law_bad_demand (by sleep 994) fun f cdv A outer s H E hr=>
  (aL (bI 4 (fun _=>sc__law_bad_demand.nd) (bJ (aA aD (aA aD (aA (bJ (aA aD (aA aD aF))) aF)))))
   (aL (cL (bU (BF (fun _=>rfl) (fun _=>hr.units)) (aC 3) (dN aF))
    (aP (bI 4 (fun _=>sc__law_bad_demand.nd) (aJ (fun _=>jM T) hr.le (aA (aC 0) (aA (aC 3) aF)))))
    bM)
   (aL (bI 5 (fun _=>sc__law_bad_demand.nd) (aJ (fun _=>aU T) hr.le (aA (aC 0) (aA aD aF))))
   (aL (cL (bU (gX (fun _=>rfl) (fun _=>hr.units)) (aC 5) aD)
    (aP (aR (aJ (fun _=>uE T) hr.le (aA (aC 0) (aA (aC 4) aF)))))
    bM)
   (aL (cL (bU (gX (fun _=>rfl) (fun _=>hr.units)) (aC 5) aD)
    (aP (aR (bJ (aA (aW bP (aC 4) aD) (aA (aW bP (aC 4) aD) (aA (aW bP (aC 4) aD) aF))))))
    bM)
   (aL (cL (bU (gX (fun _=>rfl) (fun _=>hr.units)) (aC 5) aD)
    (aP (aR (bJ (aA (aW bP (aC 4) aD) (aA (aW bP (aC 4) aD) (aA (aJ (fun _=>lO T) hr.le (aA (aC 0) aF)) aF))))))
    bM)
   (aL (cL (bU (gX (fun _=>rfl) (fun _=>hr.units)) (aC 5) aD)
    (aP (aR (bJ (aA (aW bP (aC 4) aD) (aA (aC 2) (aA (aW bP (aC 4) aD) aF))))))
    bM)
   (aL (cL (bU (gX (fun _=>rfl) (fun _=>hr.units)) (aC 5) aD)
    (aL (bI 6 (fun _=>sc__law_bad_demand.nd) (dN (aA (bJ (aA (aX eD (aX oY aD aD) aD) (aA aD aF))) (aA (bJ (aA aD (aA aD aF))) (aA (bJ (aA aD (aA aD aF))) (aA (bJ (aA aD (aA aD aF))) (aA (bJ (aA aD (aA aD aF))) (aA (bJ (aA aD (aA aD aF))) (aA (bJ (aA (AA zH aD) (aA aD aF))) (aA (bJ (aA gL (aA aD aF))) (aA aD aF)))))))))))
   (aP (aR (bJ (aA (aW bP (aC 4) aD) (aA (aW bP (aC 4) aD) (aA (aJ (fun _=>jM T) hr.le (aA (aC 0) (aA (aC 6) aF))) aF)))))))
    bM)
   (aP (aR (aJ (fun _=>kX T 4) hr.le (aA (aC 0) (aA (aC 1) (aA aD aF))))))))))))))
theorem rL(T:Txt K mg):Callee P w K mg base 8 "_law_things" jA (spM K dG):=
 T.v24.okG (N:=mF) (ps:=jA) (k:=7) (b:=iY) sc__law_things (by sleep 993) fun f cdv A outer s H E hr=>
  (aL (bI 3 (fun _=>sc__law_things.nd) (aJ (fun _=>kC T) hr.le (aA (aC 0) (aA (aC 2) aF))))
   (aL (bI 4 (fun _=>sc__law_things.nd) (aJ (fun _=>aU T) hr.le (aA (aC 0) (aA (aX eD (cQ oD (fun _=>T.hB.of "len") L9 (aA (aC 3) aF)) aD) aF))))
   (aL (bI 5 (fun _=>sc__law_things.nd) (aX eD (aX eD (mG (fun _=>rfl) (aC 3) fV (fR (aC 4))) (dN (aA (aJ (fun _=>iD T) hr.le (aA (aC 0) (aA (aC 1) (aA (aC 2) (aA (aC 3) aF))))) aF))) (mG (fun _=>rfl) (aC 3) (fR (aC 4)) fV)))
   (aL (bI 6 (fun _=>sc__law_things.nd) (aX eD (aC 5) (dN (aA (aJ (fun _=>iD T) hr.le (aA (aC 0) (aA (aC 1) (aA (aC 2) (aA (aC 3) aF))))) aF))))
   (aP (aR (dN (aA (aC 5) (aA (lD (pU (fun _=>rfl)) (fun _=>T.hB.of "tuple") O0 (aA (aC 6) aF)) (aA (aJ (fun _=>iX T 6) hr.le (aA (lD (pU (fun _=>rfl)) (fun _=>T.hB.of "tuple") O0 (aA (aC 6) aF)) aF)) (aA (aJ (fun _=>kX T 4) hr.le (aA (aC 0) (aA (aC 1) (aA aD aF)))) (aA aD (aA uY aF)))))))))))))
theorem CC(T:Txt K mg):Callee P w K mg base 1 "common" qX (spM K rB):=
 T.v25.okG (N:=wY) (ps:=qX) (k:=0) (b:=vW) sc_common (by sleep 992) fun f cdv A outer s H E hr=>
  (aL (wC (fun _=>J3) (NV (fun _=>rfl) (aC 1)) (aP (CY 0 1 (fun _=>rfl) (fun _=>sc_common.nd) (aA (aC 1) (aA (aX lR (aC 0) (aC 1)) aF)))))
   (aP (aR (aC 0))))
theorem lS(T:Txt K mg):Callee P w K mg base 1 "is_whole" mV (spM K hV):=
 T.v26.okG (N:=rK) (ps:=mV) (k:=0) (b:=qD) vY (by sleep 991) fun f cdv A outer s H E hr=>
  (aP (aR (dJ (kW (T:="int") (fun _=>rfl) (by decide) (aC 0) (fun _=>cG) (fun _=>T.hB.of "isinstance") (fun _=>T.hB.of "int") boot_int) (fQ (FD (kW (T:="bool") (fun _=>rfl) (by decide) (aC 0) (fun _=>cG) (fun _=>T.hB.of "isinstance") (fun _=>T.hB.of "bool") boot_bool))))))
theorem sJ(T:Txt K mg):Callee P w K mg base 1 "is_row" rE (spM K jJ):=
 T.v27.okG (N:=vX) (ps:=rE) (k:=0) (b:=vF) BQ (by sleep 991) fun f cdv A outer s H E hr=>
  (aP (aR (JY (T:="list") (U:="tuple") (fun _=>rfl) (by decide) (by decide) (aC 0) (fun _=>cG) (fun _=>T.hB.of "isinstance") (fun _=>T.hB.of "list") (fun _=>T.hB.of "tuple") boot_list O0)))
theorem nR(T:Txt K mg):Callee P w K mg base 2 "is_row_of" lE (spM K iL):=
 T.v28.okG (N:=oU) (ps:=lE) (k:=1) (b:=oX) tX (by sleep 992) fun f cdv A outer s H E hr=>
  (aP (aR (dJ (aJ (fun _=>sJ T) hr.le (aA (aC 0) aF)) (fQ (eS (gX (fun _=>rfl) (fun _=>hr.units)) (cQ oD (fun _=>T.hB.of "len") L9 (aA (aC 0) aF)) (aC 1))))))
theorem kK(T:Txt K mg):Callee P w K mg base 3 "has_amount_numbers" dO (spM K bL):=
 T.v29.okG (N:=gD) (ps:=dO) (k:=2) (b:=bV) kL (by sleep 991) fun f cdv A outer s H E hr=>
  (aL (cL (BH (nK (fK (eT (aJ (fun _=>nR T) hr.le (aA (aC 0) (aA aD aF))))) (nK (fK (eT (aJ (fun _=>lS T) hr.le (aA (aW bP (aC 0) aD) aF)))) (oF (fK (eT (aJ (fun _=>lS T) hr.le (aA (aW bP (aC 0) aD) aF))))))))
   (aP (aR gL))
   bM)
   (aP (aR (dJ (eS VC (aW bP (aC 0) aD) aD) (fQ (eS VC (aW bP (aC 0) aD) aD))))))
theorem rC(T:Txt K mg):Callee P w K mg base 4 "is_in_parts" iW (spM K cD):=
 T.v30.okG (N:=mE) (ps:=iW) (k:=3) (b:=dI) qW (by sleep 991) fun f cdv A outer s H E hr=>
  (aP (aR (dJ (aJ (fun _=>kK T) hr.le (aA (aC 0) aF)) (dJ (eS (gX (fun _=>rfl) (fun _=>hr.units)) (aX lR (nS (fun _=>T.v45)) (aW bP (aC 0) aD)) aD) (fQ (eS (gX (fun _=>rfl) (fun _=>hr.units)) (aJ (fun _=>CC T) hr.le (aA (aW bP (aC 0) aD) (aA (aW bP (aC 0) aD) aF))) aD))))))
theorem vB(T:Txt K mg):Callee P w K mg base 5 "is_weight" lB (spM K dY):=
 T.v31.okG (N:=pD) (ps:=lB) (k:=4) (b:=fW) uC (by sleep 991) fun f cdv A outer s H E hr=>
  (aP (aR (dJ (aJ (fun _=>rC T) hr.le (aA (aC 0) aF)) (fQ (eS DJ (aW bP (aC 0) aD) (nS (fun _=>T.v44)))))))
theorem pA(T:Txt K mg):Callee P w K mg base 2 "is_place" mT (spM K fL):=
 T.v32.okG (N:=rW) (ps:=mT) (k:=1) (b:=jP) wO (by sleep 992) fun f cdv A outer s H E hr=>
  (aP (aR (dJ (aJ (fun _=>lS T) hr.le (aA (aC 1) aF)) (fQ (xG DJ xR aD (aC 1) (aC 0))))))
theorem lK(T:Txt K mg):Callee P w K mg base 3 "are_unlike_places" eF (spM K bR):=
 T.v33.okG (N:=gM) (ps:=eF) (k:=2) (b:=cA) lA (by sleep 993) fun f cdv A outer s H E hr=>
  (aP (aR (dJ (aJ (fun _=>pA T) hr.le (aA (aC 0) (aA (aC 1) aF))) (dJ (aJ (fun _=>pA T) hr.le (aA (aC 0) (aA (aC 2) aF))) (fQ (eS (BF (fun _=>rfl) (fun _=>hr.units)) (aC 1) (aC 2)))))))
theorem lM(T:Txt K mg):Callee P w K mg base 4 "is_between_places" eH (spM K bD):=
 T.v34.okG (N:=gP) (ps:=eH) (k:=3) (b:=bZ) kP (by sleep 992) fun f cdv A outer s H E hr=>
  (aP (aR (dJ (aJ (fun _=>nR T) hr.le (aA (aC 1) (aA aD aF))) (dJ (aJ (fun _=>lK T) hr.le (aA (aC 0) (aA (aW bP (aC 1) aD) (aA (aW bP (aC 1) aD) aF)))) (fQ (eS xR (aW bP (aC 1) aD) (aW bP (aC 1) aD)))))))
theorem AM(T:Txt K mg):Callee P w K mg base 6 "is_tie" rX (spM K hE):=
 T.v35.okG (N:=wW) (ps:=rX) (k:=5) (b:=jH) BX (by sleep 992) fun f cdv A outer s H E hr=>
  (aP (aR (dJ (aJ (fun _=>lM T) hr.le (aA (aC 0) (aA (aC 1) aF))) (fQ (aJ (fun _=>vB T) hr.le (aA (aW bP (aC 1) aD) aF))))))
theorem uX(T:Txt K mg):Callee P w K mg base 7 "is_demand" lP (spM K eV):=
 T.v36.okG (N:=pJ) (ps:=lP) (k:=6) (b:=fY) tR (by sleep 992) fun f cdv A outer s H E hr=>
  (aP (aR (dJ (aJ (fun _=>AM T) hr.le (aA (aC 0) (aA (aC 1) aF))) (dJ (eS DJ (aW bP (aW bP (aC 1) aD) aD) (nS (fun _=>T.v46))) (fQ (eS (gX (fun _=>rfl) (fun _=>hr.units)) (aX lR (nS (fun _=>T.v47)) (aW bP (aW bP (aC 1) aD) aD)) aD))))))
theorem qF(T:Txt K mg):Callee P w K mg base 8 "are_demands" iU (spM K eN):=
 T.v37.okG (N:=fS) (ps:=iU) (k:=7) (b:=eL) qB (by sleep 992) fun f cdv A outer s H E hr=>
  (aL (cL (BH (nK (fK (eT (aJ (fun _=>sJ T) hr.le (aA (aC 1) aF)))) (oF (fK (eT (cQ (VL (fun _=>rfl) (fun _=>rfl)) (fun _=>T.hB.of "all") boot_all (aA (MQ (N':=(["many","row"]:List Str)) (cap:=[some 0,none]) (fun _=>rfl) (fun _=>pX (sc0:=aG dR) (N:=fS) rfl rfl (by decide +kernel)) (qK (fun _=>rfl) (aC 1)) (gR 1 (fun _=>(show(["many","row"]:List Str).Nodup by decide +kernel))) uW (aJ (fun _=>uX T) hr.le (aA (aC 0) (aA (aC 1) aF)))) aF)))))))
   (aP (aR gL))
   bM)
   (aP (aR (eS (gX (fun _=>rfl) (fun _=>hr.units)) (GE (N':=(["row"]:List Str)) (cap:=[none]) (fun _=>hr.uS) (fun _=>rfl) (fun _=>T.hB.of "len") (fun _=>pX (sc0:=aG dR) (N:=fS) rfl rfl (by decide +kernel)) (qK (fun _=>rfl) (aC 1)) (gR 0 (fun _=>(show(["row"]:List Str).Nodup by decide +kernel))) uW (RB (aA (aW bP (aC 0) aD) (aA (aW bP (aC 0) aD) aF)))) (cQ oD (fun _=>T.hB.of "len") L9 (aA (aC 1) aF))))))
theorem gZ(T:Txt K mg):Callee P w K mg base 1 "_law_is_row" iV (spM K dF):=
 T.v38.okG (N:=mL) (ps:=iV) (k:=0) (b:=mJ) qM (by sleep 991) fun f cdv A outer s H E hr=>
  (aP (aR (VM (kW (T:="list") (fun _=>rfl) (by decide) (aC 0) (fun _=>cG) (fun _=>T.hB.of "isinstance") (fun _=>T.hB.of "list") boot_list) (fQ (kW (T:="tuple") (fun _=>rfl) (by decide) (aC 0) (fun _=>cG) (fun _=>T.hB.of "isinstance") (fun _=>T.hB.of "tuple") O0)))))
theorem eB(T:Txt K mg):Callee P w K mg base 1 "_law_is_whole" gK (spM K bC):=
 T.v39.okG (N:=kE) (ps:=gK) (k:=0) (b:=gG) oQ (by sleep 993) fun f cdv A outer s H E hr=>
  (aP (aR (dJ (kW (T:="int") (fun _=>rfl) (by decide) (aC 0) (fun _=>cG) (fun _=>T.hB.of "isinstance") (fun _=>T.hB.of "int") boot_int) (dJ (FD (kW (T:="bool") (fun _=>rfl) (by decide) (aC 0) (fun _=>cG) (fun _=>T.hB.of "isinstance") (fun _=>T.hB.of "bool") boot_bool)) (fQ (xG DJ DJ (aC 1) (aC 0) (aC 2)))))))
theorem nO(T:Txt K mg):Callee P w K mg base 2 "_law_is_demand" fP (spM K bF):=
 T.v40.okG (N:=jD) (ps:=fP) (k:=1) (b:=bK) nW (by sleep 991) fun f cdv A outer s H E hr=>
  (aL (cL (BH (nK (fK (eT (aJ (fun _=>gZ T) hr.le (aA (aC 0) aF)))) (oF (bU (BF (fun _=>rfl) (fun _=>hr.units)) (cQ oD (fun _=>T.hB.of "len") L9 (aA (aC 0) aF)) aD))))
   (aP (aR gL))
   bM)
   (aL (cL (BH (nK (fK (eT (aJ (fun _=>eB T) hr.le (aA (aW bP (aC 0) aD) (aA aD (aA (aX oY aD aD) aF)))))) (nK (fK (eT (aJ (fun _=>eB T) hr.le (aA (aW bP (aC 0) aD) (aA aD (aA aD aF)))))) (oF (bU (BF (fun _=>rfl) (fun _=>hr.units)) (aX lR aD (aW bP (aC 0) aD)) aD)))))
    (aP (aR gL))
    bM)
   (aP (aR (eS (gX (fun _=>rfl) (fun _=>hr.units)) (aJ (fun _=>mK T) hr.le (aA (aW bP (aC 0) aD) (aA (aW bP (aC 0) aD) aF))) (bJ (aA (aW bP (aC 0) aD) (aA (aW bP (aC 0) aD) aF))))))))
theorem mB(T:Txt K mg):Callee P w K mg base 3 "_law_are_demands" eQ (spM K bS):=
 T.v41.okG (N:=iA) (ps:=eQ) (k:=2) (b:=cI) sc__law_are_demands (by sleep 992) fun f cdv A outer s H E hr=>
  (aL (cL (fK (eT (aJ (fun _=>gZ T) hr.le (aA (aC 1) aF))))
   (aP (aR gL))
   bM)
   (aL (bI 2 (fun _=>sc__law_are_demands.nd) (yT aF))
   (aL (qC (fun _=>J3) (fun _=>rfl) (qK (fun _=>rfl) (aC 1)) (gR 3 (fun _=>sc__law_are_demands.nd))
    (aL (cL (BH (nK (fK (eT (aJ (fun _=>gZ T) hr.le (aA (aC 3) aF)))) (nK (bU (BF (fun _=>rfl) (fun _=>hr.units)) (cQ oD (fun _=>T.hB.of "len") L9 (aA (aC 3) aF)) aD) (oF (fK (eT (aJ (fun _=>nO T) hr.le (aA (aW bP (aC 3) aD) aF))))))))
    (aP (aR gL))
    bM)
   (aL (cL (BH (nK (fK (eT (aJ (fun _=>eB T) hr.le (aA (aW bP (aC 3) aD) (aA aD (aA (aX tL (aC 0) aD) aF)))))) (oF (fK (eT (aJ (fun _=>eB T) hr.le (aA (aW bP (aC 3) aD) (aA (aX eD (aW bP (aC 3) aD) aD) (aA (aX tL (aC 0) aD) aF)))))))))
    (aP (aR gL))
    bM)
   (aL (cL (bU (WM (fun _=>rfl) (fun _=>hr.units1)) (bJ (aA (aW bP (aC 3) aD) (aA (aW bP (aC 3) aD) aF))) (aC 2))
    (aP (aR gL))
    bM)
   (aP (JE (AR (fun _=>rfl) (aC 2) (aA (bJ (aA (aW bP (aC 3) aD) (aA (aW bP (aC 3) aD) aF))) aF))))))))
   (aP (aR gL)))))
theorem sH(T:Txt K mg):Callee P w K mg base 9 "_law_right" jV (spM K fE):=
 T.v42.okG (N:=nI) (ps:=jV) (k:=8) (b:=gU) sc__law_right (by sleep 992) fun f cdv A outer s H E hr=>
  (aL (bI 2 (fun _=>sc__law_right.nd) (cQ (zO (fun _=>rfl) (fun _=>hr.gd) (fun _=>hr.u200)) (fun _=>T.hB.of "repr") boot_repr (aA (aC 1) aF)))
   (aL (bI 3 (fun _=>sc__law_right.nd) (aJ (fun _=>qF T) hr.le (aA (aC 0) (aA (aC 1) aF))))
   (aP (aR (dJ (kW (T:="bool") (fun _=>rfl) (by decide) (aC 3) (fun _=>cG) (fun _=>T.hB.of "isinstance") (fun _=>T.hB.of "bool") boot_bool) (dJ (eS (gX (fun _=>rfl) (fun _=>hr.units)) (aC 3) (aJ (fun _=>mB T) hr.le (aA (aC 0) (aA (aC 1) aF)))) (fQ (eS (gX (fun _=>rfl) (fun _=>hr.units)) (cQ (zO (fun _=>rfl) (fun _=>hr.gd) (fun _=>hr.u200)) (fun _=>T.hB.of "repr") boot_repr (aA (aC 1) aF)) (aC 2)))))))))
theorem fn_law(T:Txt K mg):∃f fd,mg "law"=some (.ref f)/\(∀(s:Shared)(u:Value),BindsTo s fd ⟨[u],[]⟩ [("_law_script",u)])/\∀base,mS P w K mg base CX0 10 f fd LW (spM K F_law):=
 T.v43.okLG (N:=LF) (k:=9) (b:=zX) sc_law rfl (by sleep 991) fun base f cdv A outer s H E hr=>
  (aL (qC (fun _=>J3) (fun _=>rfl) (pY (fun _=>T.hB.of "range") (aA aD aF)) (gR 1 (fun _=>sc_law.nd))
   (aL (bI 2 (fun _=>sc_law.nd) (aJ (fun _=>rJ T) hr.le (aA (aC 0) (aA (aC 1) aF))))
   (aL (bI 3 (fun _=>sc_law.nd) (aW bP (dN (aA aD (aA aD (aA aD (aA aD (aA aD (aA aD aF))))))) (aJ (fun _=>aU T) hr.le (aA (aC 2) (aA aD aF)))))
   (aL (bI 4 (fun _=>sc_law.nd) (aJ (fun _=>kC T) hr.le (aA (aC 2) (aA (cQ (FQ (fun _=>rfl)) (fun _=>T.hB.of "min") boot_min (aA (aC 3) (aA aD aF))) aF))))
   (aP (qC (fun _=>J3) (fun _=>rfl) (qK (fun _=>rfl) (aX eD (dN (aA (aC 4) (aA (aJ (fun _=>iX T 6) hr.le (aA (lD (pU (fun _=>rfl)) (fun _=>T.hB.of "tuple") O0 (aA (aC 4) aF)) aF)) aF))) (aJ (fun _=>rL T) hr.le (aA (aC 2) (aA (aC 0) (aA (cQ (FQ (fun _=>rfl)) (fun _=>T.hB.of "min") boot_min (aA (aC 3) (aA aD aF))) aF)))))) (gR 5 (fun _=>sc_law.nd))
    (aP (cL (fK (eT (aJ (fun _=>sH T) hr.le (aA (aC 3) (aA (aC 5) aF)))))
    (aP (aR gL))
    bM))))))))
   (aP (aR gL)))
theorem txt_mk{h:Heap}{v48:Tok}{v49:Tok}{v50:Tok}{v51:Tok}(X:K.In h)(G:h.Ns mainGlobals mg)(v0:PySem.W.nsIn K mainGlobals "all"=some none)(v1:PySem.W.nsIn K mainGlobals "bool"=some none)(v2:PySem.W.nsIn K mainGlobals "int"=some none)(v3:PySem.W.nsIn K mainGlobals "isinstance"=some none)(v4:PySem.W.nsIn K mainGlobals "len"=some none)(v5:PySem.W.nsIn K mainGlobals "list"=some none)(v6:PySem.W.nsIn K mainGlobals "min"=some none)(v7:PySem.W.nsIn K mainGlobals "range"=some none)(v8:PySem.W.nsIn K mainGlobals "repr"=some none)(v9:PySem.W.nsIn K mainGlobals "tuple"=some none)(v10:PySem.W.nsIn K mainGlobals "MOST_ABOVE"=some (some (.int 1000000000000 v48)))(v11:PySem.W.nsIn K mainGlobals "BELOW"=some (some (.int 55440 v49)))(v12:PySem.W.nsIn K mainGlobals "MOST_DEMAND"=some (some (.int 1000000 v50)))(v13:PySem.W.nsIn K mainGlobals "DEMAND_BELOW"=some (some (.int 27720 v51)))(v14:Def K mg "_law_stream" hG)(v15:Def K mg "_law_take" jO)(v16:Def K mg "_law_pick" kB)(v17:Def K mg "_law_least" iT)(v18:Def K mg "_law_demand" hZ)(v19:Def K mg "_law_demands" gE)(v20:Def K mg "_law_lists" fT)(v21:Def K mg "_law_bent" jU)(v22:Def K mg "_law_any" iO)(v23:Def K mg "_law_bad_demand" eR)(v24:Def K mg "_law_things" iE)(v25:Def K mg "common" oR)(v26:Def K mg "is_whole" lC)(v27:Def K mg "is_row" oS)(v28:Def K mg "is_row_of" jS)(v29:Def K mg "has_amount_numbers" dM)(v30:Def K mg "is_in_parts" hW)(v31:Def K mg "is_weight" jX)(v32:Def K mg "is_place" lG)(v33:Def K mg "are_unlike_places" dW)(v34:Def K mg "is_between_places" dX)(v35:Def K mg "is_tie" oM)(v36:Def K mg "is_demand" jL)(v37:Def K mg "are_demands" dR)(v38:Def K mg "_law_is_row" hX)(v39:Def K mg "_law_is_whole" fM)(v40:Def K mg "_law_is_demand" fF)(v41:Def K mg "_law_are_demands" eI)(v42:Def K mg "_law_right" jB)(v43:Def K mg "law" xS):Txt K mg:=by
 exact⟨(dH (D2 X G v0) (dH (D2 X G v1) (dH (D2 X G v2) (dH (D2 X G v3) (dH (D2 X G v4) (dH (D2 X G v5) (dH (D2 X G v6) (dH (D2 X G v7) (dH (D2 X G v8) (dH (D2 X G v9) FO)))))))))),⟨_,PySem.W.mg_of X G v10⟩,⟨_,PySem.W.mg_of X G v11⟩,⟨_,PySem.W.mg_of X G v12⟩,⟨_,PySem.W.mg_of X G v13⟩,v14,v15,v16,v17,v18,v19,v20,v21,v22,v23,v24,v25,v26,v27,v28,v29,v30,v31,v32,v33,v34,v35,v36,v37,v38,v39,v40,v41,v42,v43⟩
end
end Q63
end
end
section
namespace Q63
variable{M M':Sto}{i m s w:Nat}{J a b j lo n y:Int}{γ γ':Ga}{x z:CD}{d p r:PyData}{ds:List PyData}{xs:List CD}{t:Tie}{f:EF}{us:List Tie}{k q:Bool}{ns:List Int}{c:TF}{g:SF}
open PySem PySem.Spec PyProof.Rows L2
local macro_rules | `(tactic| simp! [$a,*]) => `(tactic| simp only [fnF, fnX, VJ, WX, TX, NL, VZ, VQ, LD, UA, liA, liE, liS, PY, XF, PX, SZ, JT, setG, UT, OG, aY, sIf, bG, VN, bO, bW, AJ, hName, WZ, TQ, XM, hSub, gOr, XU, iH, gB, yE, JL, aI, aB, aH, aE, fC, fOp, fUn, iG, fOr, FJ, fIf, rS, asB, cX, gJ, yL, lZ, pQ, zM, pI, ifS, NS, pP, wF, tH, kN, pM, ltI, leI, gtI, geI, Option.bind_some, Option.bind_none, Option.map_some, List.getElem?_cons_zero, List.getElem?_cons_succ, List.length_cons, List.length_nil, List.set_cons_zero, List.set_cons_succ, List.map_cons, List.map_nil, List.replicate_zero, List.replicate_succ, List.cons_append, List.nil_append, List.append_nil, if_true, ite_true, ite_false, Nat.reduceAdd, Nat.reduceSub, reduceIte, Bool.not_true, Bool.not_false, Bool.false_eq_true, $a,*])
noncomputable def nP:PyData->Bool
 |.int _=>true
 |_=>false
noncomputable def hJ:PyData->Bool
 |.list _=>true
 |.tuple _=>true
 |_=>false
theorem jK(x:PyData)(M:Sto):hV [.d x] M=some (.d (.bool (nP x)),M):=by cases x<;>rfl
theorem wG(x:PyData)(M:Sto):jJ [.d x] M=some (.d (.bool (hJ x)),M):=by cases x<;>rfl
noncomputable def dA(d:PyData)(n:Int):Bool:=match aZ d with
 |some ds=>((ds.length:Int)==n)
 |none=>false
theorem eW(x:PyData)(n:Int)(M:Sto):iL [.d x,.d (.int n)] M=some (.d (.bool (dA x n)),M):=by cases x<;>rfl
theorem vO(x y:Int):Int.gcd y (x % y)=Int.gcd x y:=by
 rw[Int.gcd_comm x y];have:x % y=x-y*(x / y):=by have:=Int.emod_add_mul_ediv x y;omega
 rw[this];simp
noncomputable abbrev I(n:Int):CD:=.d (.int n)
theorem fA{x:Int}(h:0<y):lL x y=true:=by simp[lL,h]
theorem oW(M:Sto):∀(n:Nat)(x y:Int),0<=x->0<=y->y.toNat<n->
 eJ (yE (aE 1)) (wV 0 1 (aB (aE 1) (aB (fOp kN (aE 0) (aE 1)) aH))) n [some (I x),some (I y)] M=some (.nx [some (I (Int.gcd x y)),some (I 0)],M)
 |0=>fun _ _ _ _ h=>by omega
 |n+1=>fun x y hx hy h=>by
  by_cases e:y=0
  .subst e;have:(Int.gcd x 0:Int)=x:=by rw[Int.gcd_zero_right];omega
   rw[this];rfl
  .have hp:0<y:=by omega
   have ih:=oW M n y (x % y) hy (F0 _ e) (by have:=E3 x hp;omega);rw[vO]at ih;rw[<- ih];have hb:(y != 0)=true:=by simp[e]
   simp only[eJ,yE,aE,JL,wV,aB,fOp,aH,kN,pI,ifS,fA hp,hb,Option.bind,List.getElem?_cons_succ,List.getElem?_cons_zero,if_true,List.set]
theorem FC(M:Sto)(ha:0<=a)(hb:0<=b):rB [I a,I b] M=some (I (Int.gcd a b),M):=by
 have h:mY [some (I a),some (I b)] M=_:=xN (oW M (b.toNat+1) a b ha hb (F8 _));show((aY mY _ [some (I a),some (I b)] M).bind _)=_;unfold aY;rw[h];rfl
noncomputable abbrev B(b:Bool):CD:=.d (.bool b)
noncomputable def nQ(d:PyData):Bool:=match aZ d with
 |some [.int a,.int b]=>decide (0<=a)&&decide (1<=b)
 |_=>false
theorem GK{x:PyData}(h:dA x 2=true):∃a b,x=.list [a,b]\/x=.tuple [a,b]:=by
 unfold dA at h;cases x with
 |list ds=>
  have h:((ds.length:Int)==2)=true:=h;rcases ds with _|⟨a,_|⟨b,_|⟨c,r⟩⟩⟩
  .simp at h
  .simp at h
  .exact⟨a,b,.inl rfl⟩
  .simp at h;omega
 |tuple ds=>
  have h:((ds.length:Int)==2)=true:=h;rcases ds with _|⟨a,_|⟨b,_|⟨c,r⟩⟩⟩
  .simp at h
  .simp at h
  .exact⟨a,b,.inr rfl⟩
  .simp at h;omega
 |_=>simp[aZ]at h
theorem vK{x:PyData}(h:dA x 2=false):nQ x=false:=by
 unfold nQ;unfold dA at h;cases q:aZ x with
 |none=>rfl
 |some ds=>
  rw[q]at h;rcases ds with _|⟨a,_|⟨b,_|⟨c,r⟩⟩⟩
  .rfl
  .cases a<;>rfl
  .simp at h
  .cases a<;>cases b<;>rfl
theorem XX{a b:PyData}:ixF (.d (.list [a,b])) (I 0) M=some (.d a,M):=rfl
theorem XZ{a b:PyData}:ixF (.d (.list [a,b])) (I 1) M=some (.d b,M):=rfl
theorem XG{a b:PyData}:ixF (.d (.tuple [a,b])) (I 0) M=some (.d a,M):=rfl
theorem XI{a b:PyData}:ixF (.d (.tuple [a,b])) (I 1) M=some (.d b,M):=rfl
theorem UF{p:Bool}:(if p=true then some (B q,M)else some (B false,M))=some (B (p&&q),M):=by cases p<;>rfl
theorem cN(x:PyData)(M:Sto):bL [.d x] M=some (B (nQ x),M):=by
 cases h:dA x 2 with
 |false=>
  rw[vK h];simp![bL,bV,eW,h]
 |true=>
  obtain⟨a,b,rfl|rfl⟩:=GK h
  .cases a<;>cases b<;>first|rfl|(rename_i a b;simp![bL,bV,eW,h,jK,XX,XZ,nP,UF];rfl)
  .cases a<;>cases b<;>first|rfl|(rename_i a b;simp![bL,bV,eW,h,jK,XG,XI,nP,UF];rfl)
noncomputable def P(k:Bool)(a b:Int):PyData:=if k then .list [.int a,.int b]else .tuple [.int a,.int b]
theorem OH:ixF (.d (P k a b)) (I 0) M=some (I a,M):=by cases k<;>rfl
theorem UM:ixF (.d (P k a b)) (I 1) M=some (I b,M):=by cases k<;>rfl
theorem nY{i:Int}:eqX false (I i) (I j) M=some (B (i==j),M):=rfl
theorem pO{i:Int}:eqX true (I i) (I j) M=some (B (!(i==j)),M):=rfl
theorem kJ{i:Int}:dQ (I i) (I j) M=some (I (i+j),M):=rfl
theorem CT:nQ (P k a b)=(decide (0<=a)&&decide (1<=b)):=by cases k<;>rfl
theorem YA(n m:Nat):((n:Int)==(m:Int))=(n==m):=by
 rw[E5];simp;omega
noncomputable def lY(a b:Int):Bool:=decide (0<=a)&&decide (1<=b)&&(55440 % b==0)&&(Int.gcd a b==1)&&decide (a<=1000000000000)
theorem mN(k:Bool)(a b:Int)(M:Sto):cD [.d (P k a b)] M=some (B (decide (0<=a)&&decide (1<=b)&&(55440 % b==0)&&(Int.gcd a b==1)),M):=by
 cases h:(decide (0<=a)&&decide (1<=b))with
 |false=>
  simp![cD,dI,cN,CT,h,Bool.false_and]
 |true=>
  have hh:=h;rw[B1]at h;have h1:=B8 h.1;have h2:=B8 h.2;have hm:lL 55440 b=true:=fA (by omega);cases h3:(55440 % b==0)with
  |false=>simp![cD,dI,cN,CT,hh,OH,UM,hm,nY,h3,Bool.true_and,Bool.false_and]
  |true=>
   simp![cD,dI,cN,CT,hh,OH,UM,hm,nY,h3,Bool.true_and,FC M h1 (Int.le_trans (by decide) h2)];rw[show(1:Int)=((1:Nat):Int)from rfl,YA]
theorem xJ(k:Bool)(a b:Int)(M:Sto):dY [.d (P k a b)] M=some (B (lY a b),M):=by
 cases h:(decide (0<=a)&&decide (1<=b)&&(55440 % b==0)&&(Int.gcd a b==1))with
 |false=>
  have e:lY a b=false:=by unfold lY;rw[h];rfl
  rw[e];simp![dY,fW,mN,h]
 |true=>
  have e:lY a b=decide (a<=1000000000000):=by unfold lY;rw[h];rfl
  rw[e];simp![dY,fW,mN,h,OH]
theorem qN(M:Sto)(a b:Int):∀(n:Nat)(x y:Int),0<=x->0<=y->y.toNat<n->
 eJ (gB (fOp gtI (aE 3) (fC (.int 0)))) (wV 2 3 (aB (aE 3) (aB (fOp kN (aE 2) (aE 3)) aH))) n [some (I a),some (I b),some (I x),some (I y)] M=some (.nx [some (I a),some (I b),some (I (Int.gcd x y)),some (I 0)],M)
 |0=>fun _ _ _ _ h=>by omega
 |n+1=>fun x y hx hy h=>by
  by_cases e:y=0
  .subst e;have:(Int.gcd x 0:Int)=x:=by rw[Int.gcd_zero_right];omega
   rw[this];rfl
  .have hp:0<y:=by omega
   have ih:=qN M a b n y (x % y) hy (F0 _ e) (by have:=E3 x hp;omega);rw[vO]at ih;rw[<- ih];have hb:decide (0<y)=true:=C3 hp;simp![eJ,wV,fA hp,hb]
theorem uQ(h:1<=b):1<=(Int.gcd a b:Int):=by
 have:Int.gcd a b≠0:=fun z=>by have:=(Int.gcd_eq_zero_iff.mp z).2;omega
 omega
theorem OU(h:1<=b):(Int.gcd a b:Int)<=b:=Int.le_of_dvd (by omega) (Int.gcd_dvd_right a b)
theorem wsm(h:0<=y)(h2:y<2 ^ 200):y.natAbs<pH:=by
 have h1:y.natAbs<2 ^ 200:=by omega
 exact A8 h1 (Nat.pow_le_pow_right (by decide) (by decide))
theorem zK{x:Int}(h:0<y)(h2:y.natAbs<pH):tJ x y=true:=by simp[tJ,h,h2]
theorem vA(M:Sto)(ha:0<=a)(hb:1<=b)(hw:b.natAbs<pH):eX [I a,I b] M=some (.d (.tuple [.int (a / (Int.gcd a b:Int)),.int (b / (Int.gcd a b:Int))]),M):=by
 have h:kU [some (I a),some (I b),some (I a),some (I b)] M=_:=xN (qN M a b (b.toNat+1) a b ha (by omega) (F8 _));have g1:=uQ (a:=a) hb;have g2:=OU (a:=a) hb;have d1:∀x,tJ x (Int.gcd a b:Int)=true:=fun x=>zK (by omega) (Nat.lt_of_le_of_lt (by omega) hw);have sz:(2:Nat)<=sizeLine:=by decide
 simp![eX,jR,h,d1,sz]
theorem XO{c d:Int}:eqX false (.d (.tuple [.int a,.int b])) (.d (.tuple [.int c,.int d])) M=some (B (a==c&&(b==d&&true)),M):=rfl
theorem ED(ha:0<=a)(hb:1<=b):((a / (Int.gcd a b:Int)==a)&&((b / (Int.gcd a b:Int)==b)&&true))=(Int.gcd a b==1):=by
 have g1:=uQ (a:=a) hb;by_cases h:Int.gcd a b=1
 .rw[h];simp
 .have hb2:b / (Int.gcd a b:Int)<b:=Int.ediv_lt_self_of_pos_of_ne_one (by omega) (by omega);have e1:(b / (Int.gcd a b:Int)==b)=false:=by rw[beq_eq_false_iff_ne];omega
  have e2:(Int.gcd a b==1)=false:=by rw[beq_eq_false_iff_ne];exact h
  rw[e1,e2];simp
noncomputable def jE(a b:Int):Bool:=lY a b&&(decide (a<=1000000)&&(27720 % b==0))
noncomputable def lw(lo hi:Int):PyData->Bool
 |.int i=>decide (lo<=i)&&decide (i<=hi)
 |_=>false
theorem wK(p:PyData)(lo hi:Int)(M:Sto):bC [.d p,I lo,I hi] M=some (B (lw lo hi p),M):=by
 cases p with
 |int i=>
  have hc:lw lo hi (.int i)=(decide (lo<=i)&&decide (i<=hi)):=rfl;have w1:nU "int" (.int i)=true:=rfl;have w2:nU "bool" (.int i)=false:=rfl;rw[hc];cases h0:decide (lo<=i)<;>simp![bC,gG,w1,w2,h0,Bool.true_and,Bool.false_and]
 |_=>rfl
theorem tW{hi:Int}(h:lw lo hi p=true):∃i,p=.int i/\lo<=i/\i<=hi:=by
 cases p with
 |int i=>
  have h:(decide (lo<=i)&&decide (i<=hi))=true:=h;rw[B1]at h;exact⟨i,rfl,B8 h.1,B8 h.2⟩
 |_=>cases h
theorem eU(x:PyData)(M:Sto):dF [.d x] M=some (B (hJ x),M):=by cases x<;>rfl
theorem lV(h:aZ r=some ds)(M:Sto):gF [.d r] M=some (I ds.length,M):=by
 cases r<;>first|(cases h;rfl)|cases h
theorem xP(h:hJ r=true):∃ds,aZ r=some ds:=by
 cases r<;>first|exact⟨_,rfl⟩|cases h
noncomputable def eC(w:PyData):Bool:=match aZ w with
 |some [.int a,.int b]=>jE a b
 |_=>false
noncomputable def R2'(k:Bool)(p q:PyData):PyData:=if k then .list [p,q]else .tuple [p,q]
theorem qI(k:Bool)(p q:PyData):aZ (R2' k p q)=some [p,q]:=by cases k<;>rfl
theorem yX{x:PyData}(h:dA x 2=true):∃k p q,x=R2' k p q:=by
 obtain⟨a,b,rfl|rfl⟩:=GK h
 .exact⟨true,a,b,rfl⟩
 .exact⟨false,a,b,rfl⟩
theorem ix2(k:Bool)(p q:PyData)(M:Sto):ixF (.d (R2' k p q)) (I 0) M=some (.d p,M)/\ixF (.d (R2' k p q)) (I 1) M=some (.d q,M):=by cases k<;>exact⟨rfl,rfl⟩
theorem pZ:jE a b=(lw 0 1000000 (.int a)&&(lw 1 27720 (.int b)&&((27720 % b==0)&&(Int.gcd a b==1)))):=by
 show(decide (0<=a)&&decide (1<=b)&&(55440 % b==0)&&(Int.gcd a b==1)&&decide (a<=1000000000000)&&(decide (a<=1000000)&&(27720 % b==0)))=((decide (0<=a)&&decide (a<=1000000))&&((decide (1<=b)&&decide (b<=27720))&&((27720 % b==0)&&(Int.gcd a b==1))));by_cases h1:1<=b
 .by_cases h2:27720 % b=0
  .have d:b ∣ 27720:=Int.dvd_of_emod_eq_zero h2;have h3:55440 % b=0:=Int.emod_eq_zero_of_dvd (Int.dvd_trans d (by decide));have h4:b<=27720:=Int.le_of_dvd (by decide) d;rw[C3 h1,h2,h3,C3 h4];by_cases h5:a<=1000000
   .rw[C3 h5,C3 (show a<=1000000000000 by omega)];cases decide (0<=a)<;>cases (Int.gcd a b==1)<;>rfl
   .rw[C8 h5];cases decide (0<=a)<;>cases (Int.gcd a b==1)<;>cases decide (a<=1000000000000)<;>rfl
  .rw[show(27720 % b==0)=false by simpa using h2];simp
 .rw[C8 h1];simp
theorem dD(w:PyData)(M:Sto):bF [.d w] M=some (B (eC w),M):=by
 cases hr:dA w 2 with
 |false=>
  have hd:eC w=false:=by
   unfold eC;unfold dA at hr;cases e:aZ w with
   |none=>rfl
   |some ds=>
    rw[e]at hr;rcases ds with _|⟨a,_|⟨b,_|⟨c,r⟩⟩⟩
    .rfl
    .cases a<;>rfl
    .simp at hr
    .cases a<;>cases b<;>rfl
  rw[hd];cases hi:hJ w with
  |false=>simp![bF,bK,eU,hi]
  |true=>
   obtain⟨ds,e⟩:=xP hi
   have ln:((ds.length:Int)==2)=false:=by
    unfold dA at hr;rw[e]at hr;exact hr
   simp![bF,bK,eU,hi,lV e,pO,ln]
 |true=>
  obtain⟨k,p,q,rfl⟩:=yX hr;have hi:hJ (R2' k p q)=true:=by cases k<;>rfl
  obtain⟨x0,x1⟩:=ix2 k p q M;have ln:=lV (qI k p q) M;have l2:((2:Int)==2)=true:=rfl;have l2':gF [.d (R2' k p q)] M=some (I 2,M):=ln;have pw:pM (I 10) (I 6) M=some (I 1000000,M):=rfl
  have dd:eC (R2' k p q)=(match some [p,q]with
   |some [.int a,.int b]=>jE a b
   |_=>false):=by unfold eC;rw[qI]
  cases h1:lw 0 1000000 p with
  |false=>
   have z:eC (R2' k p q)=false:=by
    rw[dd];cases p with
    |int a=>cases q with
     |int b=>show jE a b=false;rw[pZ,h1];rfl
     |_=>rfl
    |_=>rfl
   rw[z];have t:bC [.d p,I 0,I 1000000] M=some (B false,M):=by rw[wK,h1]
   have pk:rG 10 6=true:=by decide
   have p6:(10:Int) ^ (6:Int).toNat=1000000:=rfl;simp![bF,bK,eU,hi,l2',pO,l2,x0,pk,p6,t]
  |true=>
   obtain⟨a,rfl,a0,a1⟩:=tW h1;have t:bC [I a,I 0,I 1000000] M=some (B true,M):=by rw[wK,h1]
   have pk:rG 10 6=true:=by decide
   have p6:(10:Int) ^ (6:Int).toNat=1000000:=rfl;cases h2:lw 1 27720 q with
   |false=>
    have z:eC (R2' k (.int a) q)=false:=by
     rw[dd];cases q with
     |int b=>show jE a b=false;rw[pZ,h1,h2];rfl
     |_=>rfl
    rw[z];have u:bC [.d q,I 1,I 27720] M=some (B false,M):=by rw[wK,h2]
    simp![bF,bK,eU,hi,l2',pO,l2,x0,x1,pk,p6,t,u]
   |true=>
    obtain⟨b,rfl,b0,b1⟩:=tW h2;have u:bC [I b,I 1,I 27720] M=some (B true,M):=by rw[wK,h2]
    have mo:lL 27720 b=true:=fA (by omega)
    have z:eC (R2' k (.int a) (.int b))=((27720 % b==0)&&(Int.gcd a b==1)):=by
     rw[dd];show jE a b=_;rw[pZ,h1,h2];rfl
    rw[z];cases h3:(27720 % b==0)with
    |false=>simp![bF,bK,eU,hi,l2',pO,l2,x0,x1,pk,p6,t,u,mo,h3,Bool.false_and]
    |true=>
     have sz:(2:Nat)<=sizeLine:=by decide
     rw[Bool.true_and,<- ED a0 b0];simp![bF,bK,eU,hi,l2',pO,l2,x0,x1,pk,p6,t,u,mo,h3,vA M a0 b0 (wsm (by omega) (by omega)),sz,XO]
noncomputable def Stm(M:Sto)(i:Nat):Prop:=∃a b:Int,M[i]?=some (.lst [I a,I b])/\0<=a/\0<=b/\b<2 ^ 40
noncomputable def Nxt(i:Nat)(M M':Sto):Prop:=∃a b:Int,M'=M.set i (.lst [I a,I b])/\0<=a/\0<=b/\b<2 ^ 40
theorem Stm.lt(h:Stm M i):i<M.length:=by
 obtain⟨a,b,h,_⟩:=h;exact(List.getElem?_eq_some_iff.mp h).1
theorem Nxt.stm(n:Nxt i M M')(h:Stm M i):Stm M' i:=by
 obtain⟨a,b,rfl,r⟩:=n;exact⟨a,b,by rw[E6 h.lt],r⟩
theorem Nxt.trans{M1 M2:Sto}(n:Nxt i M M1)(m:Nxt i M1 M2):Nxt i M M2:=by
 obtain⟨a,b,rfl,_⟩:=n;obtain⟨c,d,rfl,r⟩:=m;exact⟨c,d,by rw[List.set_set],r⟩
theorem UZ{y:CD}(h:M[i]?=some (.lst [x,y])):ixF (.c i) (I 0) M=some (x,M):=by
 unfold ixF;dsimp only;rw[h];rfl
theorem TC{y:CD}(h:M[i]?=some (.lst [x,y])):ixF (.c i) (I 1) M=some (y,M):=by
 unfold ixF;dsimp only;rw[h];rfl
theorem WC{y:CD}(h:M[i]?=some (.lst [x,y])):uN (.c i) (I 0) z M=some (M.set i (.lst [z,y])):=by
 unfold uN;dsimp only;rw[h];rfl
theorem UL{y:CD}(h:M[i]?=some (.lst [x,y])):uN (.c i) (I 1) z M=some (M.set i (.lst [x,z])):=by
 unfold uN;dsimp only;rw[h];rfl
theorem uV{x:Int}(h:y.natAbs<2 ^ 64):kR x y=true:=by simp only[kR,decide_eq_true h,Bool.or_true,Bool.true_or]
theorem IT{x:Int}(h:x.natAbs<2 ^ 64):kR x y=true:=by simp only[kR,decide_eq_true h,Bool.true_or]
theorem cZ{m:Int}(h:Stm M i)(m0:0<m)(m1:m<2 ^ 200):∃r M',aQ [.c i,I m] M=some (I r,M')/\0<=r/\r<m/\Nxt i M M':=by
 obtain⟨a,b,hM,a0,b0,b1⟩:=h;have lt:i<M.length:=(List.getElem?_eq_some_iff.mp hM).1;cases e:(a==0)with
 |true=>
  have q0:=F0 (b*48271+12345) (b:=2147483647) (by decide);have q1:=E3 (b*48271+12345) (b:=2147483647) (by decide);have o1:kR b 48271=true:=uV (by decide);have o2:lL (b*48271+12345) 2147483647=true:=fA (by decide);obtain⟨c,hc⟩:∃c,(b*48271+12345) % 2147483647=c:=⟨_,rfl⟩;rw[hc]at q0 q1;have hM1:(M.set i (.lst [I a,I c]))[i]?=some (.lst [I a,I c]):=by rw[E6 lt]
  have o3:kR c c=true:=uV (by omega);have o4:lL (c*c) 2147483629=true:=fA (by decide);have o5:lL (c*c % 2147483629) m=true:=fA m0;refine⟨c*c % 2147483629 % m,M.set i (.lst [I a,I c]),?_,F0 _ (by omega),E3 _ m0,a,c,rfl,a0,q0,by omega⟩;simp![aQ,iI,UZ hM,TC hM,nY,kJ,e,o1,o2,hc,UL hM,TC hM1,o3,o4,o5]
 |false=>
  have o1:lL a m=true:=fA m0;have o2:tJ a m=true:=zK m0 (wsm (by omega) m1);refine⟨a % m,M.set i (.lst [I (a / m),I b]),?_,F0 _ (by omega),E3 _ m0,a / m,b,rfl,Int.ediv_nonneg a0 (by omega),b0,b1⟩;simp![aQ,iI,UZ hM,nY,e,o1,o2,WC hM]
theorem ixL{j:Nat}(h:ds[j]?=some d):ixF (.d (.list ds)) (I j) M=some (.d d,M):=by
 have hlt:j<ds.length:=(List.getElem?_eq_some_iff.mp h).1;have e:atI ds (j:Int)=some d:=zF h;unfold ixF;dsimp only;show(some ds).bind _=_;rw[A2,e];rfl
theorem yI(h:Stm M i)(h0:0<ds.length)(h1:ds.length<1000):∃d M',cW [.c i,.d (.list ds)] M=some (.d d,M')/\d∈ds/\Nxt i M M':=by
 obtain⟨r,M',e,r0,r1,n⟩:=cZ (m:=(ds.length:Int)) h (by omega) (by omega);have hlt:r.toNat<ds.length:=by omega
 have hd:ds[r.toNat]?=some ds[r.toNat]:=B5 hlt;have hr:(r.toNat:Int)=r:=L7 r0;have hx:=ixL (M:=M') hd;rw[hr]at hx;have hl:gF [.d (.list ds)] M=some (I ds.length,M):=rfl;refine⟨ds[r.toNat],M',?_,List.getElem_mem hlt,n⟩;simp![cW,lI,hl,e,hx]
noncomputable abbrev T2(a b:Int):CD:=.d (.tuple [.int a,.int b])
theorem sO(h0:0<=a)(h1:a<=1000000)(h2:1<=b)(h3:b ∣ 27720):jE (a / (Int.gcd a b:Int)) (b / (Int.gcd a b:Int))=true:=by
 have g1:=uQ (a:=a) h2;have gd:((Int.gcd a b:Int)) ∣ b:=Int.gcd_dvd_right a b;have e1:0<=a / (Int.gcd a b:Int):=Int.ediv_nonneg h0 (by omega);have e2:a / (Int.gcd a b:Int)<=1000000:=Int.le_trans (Int.ediv_le_self _ h0) h1;have e3:0<b / (Int.gcd a b:Int):=Int.ediv_pos_of_pos_of_dvd (by omega) (by omega) gd;have dv:b / (Int.gcd a b:Int) ∣ 27720:=Int.dvd_trans (Int.ediv_dvd_of_dvd gd) h3;have e4:27720 % (b / (Int.gcd a b:Int))=0:=Int.emod_eq_zero_of_dvd dv;have e6:b / (Int.gcd a b:Int)<=27720:=Int.le_of_dvd (by decide) dv;have e5:Int.gcd (a / (Int.gcd a b:Int)) (b / (Int.gcd a b:Int))=1:=Int.gcd_ediv_gcd_ediv_gcd (by omega);rw[pZ,e4,e5];show((decide (0<=a / (Int.gcd a b:Int))&&decide (a / (Int.gcd a b:Int)<=1000000))&&((decide (1<=b / (Int.gcd a b:Int))&&decide (b / (Int.gcd a b:Int)<=27720))&&_))=true;rw[C3 e1,C3 e2,C3 (show 1<=b / (Int.gcd a b:Int)by omega),C3 e6];rfl
theorem DE(h:jE a b=true):lY a b=true:=by
 unfold jE at h;rw[B1]at h;exact h.1
theorem EM(h:lY a b=true):0<=a/\a<=1000000000000/\1<=b/\b<=55440:=by
 unfold lY at h;simp only[Bool.and_eq_true,decide_eq_true_eq,beq_iff_eq]at h;obtain⟨⟨⟨⟨h1,h2⟩,h3⟩,_⟩,h5⟩:=h;exact⟨h1,h5,h2,Int.le_of_dvd (by decide) (Int.dvd_of_emod_eq_zero h3)⟩
noncomputable def six:List PyData:=[.tuple [.int 1,.int 1],.tuple [.int 1,.int 1],.tuple [.int 2,.int 1],.tuple [.int 1,.int 2],.tuple [.int 3,.int 4],.tuple [.int 0,.int 1]]
noncomputable def belows:List PyData:=[.int 1,.int 3,.int 5,.int 7,.int 8,.int 9,.int 11,.int 24,.int 360,.int 2520,.int 27720]
theorem EK(h:d∈belows):∃n:Int,d=.int n/\1<=n/\n ∣ 27720/\n<=27720:=by
 unfold belows at h;simp only[List.mem_cons,List.not_mem_nil,or_false]at h;rcases h with rfl|rfl|rfl|rfl|rfl|rfl|rfl|rfl|rfl|rfl|rfl<;>exact⟨_,rfl,by decide,by decide,by decide⟩
theorem OB{r:Int}(h0:0<=r)(h1:r<6)(M:Sto):∃a b,ixF (.d (.list six)) (I r) M=some (T2 a b,M)/\jE a b=true:=by
 have cs:r=0\/r=1\/r=2\/r=3\/r=4\/r=5:=by omega
 rcases cs with rfl|rfl|rfl|rfl|rfl|rfl<;>exact⟨_,_,rfl,by decide⟩
theorem XY(γ:Ga)(M:Sto):kH γ M=some (.d (.list six),M):=rfl
theorem WD(γ:Ga)(M:Sto):kG γ M=some (.d (.list belows),M):=rfl
theorem HN{x z w r:Int}(h0:0<=r)(h1:r<4)(M:Sto):∃c,ixF (.d (.list [.int x,.int y,.int z,.int w])) (I r) M=some (I c,M)/\(c=x\/c=y\/c=z\/c=w):=by
 have cs:r=0\/r=1\/r=2\/r=3:=by omega
 rcases cs with rfl|rfl|rfl|rfl
 .exact⟨x,rfl,.inl rfl⟩
 .exact⟨y,rfl,.inr (.inl rfl)⟩
 .exact⟨z,rfl,.inr (.inr (.inl rfl))⟩
 .exact⟨w,rfl,.inr (.inr (.inr rfl))⟩
theorem vZ(h:Stm M i):∃a b M',bT [.c i] M=some (T2 a b,M')/\jE a b=true/\Nxt i M M':=by
 obtain⟨r,M1,e1,r0,r1,n1⟩:=cZ (m:=8) h (by decide) (by decide);have s1:=n1.stm h;cases c:decide (r<6)with
 |true=>
  obtain⟨a,b,e2,w⟩:=OB r0 (B8 c) M1;refine⟨a,b,M1,?_,w,n1⟩;simp![bT,eO,e1,c,XY,e2]
 |false=>
  obtain⟨d,M2,e2,hd,n2⟩:=yI (ds:=belows) s1 (by decide) (by decide);obtain⟨n,rfl,b0,b1,b2⟩:=EK hd;have s2:=n2.stm s1;obtain⟨t,M3,e3,t0,t1,n3⟩:=cZ (m:=1000) s2 (by decide) (by decide);have s3:=n3.stm s2;cases c7:(r==7)with
  |false=>
   refine⟨_,_,M3,?_,sO t0 (by omega) b0 b1,(n1.trans n2).trans n3⟩;simp![bT,eO,e1,c,WD,e2,e3,nY,c7,vA M3 t0 b0 (wsm (by omega) (by omega))]
  |true=>
   obtain⟨v,M5,e5,v0,v1,n5⟩:=cZ (m:=4) s3 (by decide) (by decide);obtain⟨x,e6,hx⟩:=HN (x:=1000000) (y:=999999) (z:=1) (w:=999) v0 v1 M5;have x0:0<=x/\x<=1000000:=by omega
   have k2:=fun γ=>oN γ M3;refine⟨_,_,M5,?_,sO x0.1 x0.2 b0 b1,((n1.trans n2).trans n3).trans n5⟩;simp![bT,eO,e1,c,WD,e2,e3,nY,c7,k2,e5,e6,vA M5 x0.1 b0 (wsm (by omega) (by omega))]
theorem FL{k:Int}(k0:0<=k)(k1:k<1000):∃M',cS [.d (.list (ns.map .int)),I k] M=some (.c M.length,M')/\Stm M' M.length:=by
 have hl:gF [.d (.list (ns.map .int))] M=some (I ns.length,M):=by
  show some (I ((ns.map PyData.int).length:Nat),M)=_;rw[A3]
 have k2:k<=1000:=by omega
 have kq:=Int.mul_le_mul k2 k2 k0 (by decide);have kk:0<=k*k/\k*k<=1000000:=⟨Int.mul_nonneg k0 k0,by omega⟩;have o1:kR k k=true:=uV (by omega);have sz:(2:Nat)<=sizeLine:=by decide
 have last:∀x y:Int,0<=x->0<=y->y<2 ^ 40->Stm (M++[.lst [I x,I y]]) M.length:=fun x y h1 h2 h3=>⟨x,y,by simp,h1,h2,h3⟩;cases c:decide (k<(ns.length:Int))with
 |false=>
  refine⟨M++[.lst [I 0,I (k*k+11)]],?_,last _ _ (by decide) (by omega) (by omega)⟩;simp![cS,eM,hl,c,o1,kJ,sz]
 |true=>
  have hk:k<(ns.length:Int):=B8 c;have hlt:k.toNat<ns.length:=by omega
  have hd:(ns.map PyData.int)[k.toNat]?=some (.int ns[k.toNat]):=by rw[D6,B5 hlt];rfl
  have hx:=ixL (M:=M) hd;rw[L7 k0]at hx;generalize ns[k.toNat]=x at hx;have o2:lL x 2147483629=true:=fA (by decide);have p1:rG 10 18=true:=by decide
  have q0:=F0 x (b:=2147483629) (by decide);have q1:=E3 x (b:=2147483629) (by decide);have q18:(10:Int) ^ (18:Int).toNat=1000000000000000000:=rfl;cases c2:decide (x<10 ^ (18:Int).toNat)with
  |true=>
   refine⟨M++[.lst [I 0,I (x % 2147483629+k*k+1)]],?_,last _ _ (by decide) (by omega) (by omega)⟩;simp![cS,eM,hl,c,hx,o1,o2,p1,kJ,c2,sz]
  |false=>
   have:=of_decide_eq_false c2;refine⟨M++[.lst [I x,I (x % 2147483629+k*k+1)]],?_,last _ _ (by omega) (by omega) (by omega)⟩;simp![cS,eM,hl,c,hx,o1,o2,p1,kJ,c2,sz]
noncomputable def gW(x:PyData):Bool:=match aZ x with
 |some [.int a,.int b]=>lY a b
 |_=>false
theorem HH{x:PyData}(h:nQ x=true):∃k a b,x=P k a b:=by
 have hr:dA x 2=true:=by
  cases e:dA x 2 with
  |true=>rfl
  |false=>rw[vK e]at h;cases h
 obtain⟨k,p,q,rfl⟩:=yX hr;unfold nQ at h;rw[qI]at h;cases p<;>cases q<;>first|exact⟨k,_,_,rfl⟩|simp at h
theorem HE(k:Bool)(a b:Int):gW (P k a b)=lY a b:=by cases k<;>rfl
theorem vG{x:PyData}(h:nQ x=false):gW x=false:=by
 unfold nQ at h;unfold gW;split
 .rename_i a b e;rw[e]at h;dsimp only at h;unfold lY;rw[h];rfl
 .rfl
theorem wX(x:PyData)(M:Sto):dY [.d x] M=some (B (gW x),M):=by
 cases h:nQ x with
 |false=>
  rw[vG h];have e:cD [.d x] M=some (B false,M):=by simp![cD,dI,cN,h]
  simp![dY,fW,e]
 |true=>
  obtain⟨k,a,b,rfl⟩:=HH h;rw[HE];exact xJ k a b M
theorem XD{p:Bool}:eqX false (B p) (B q) M=some (B (p==q),M):=rfl
theorem sU{ds:List PyData}(h:∀d∈ds,oks d=true):gH ds=true:=by
 induction ds with
 |nil=>rfl
 |cons d ds ih=>
  show(oks d&&gH ds)=true;rw[h d C2,ih fun e he=>h e (B7 _ he)];rfl
theorem qS{w k:Nat}:∀{ds:List PyData},(∀d∈ds,wt d<=w)->ds.length<=k->fB ds<=k*(w+2)
 |[]=>fun _ _=>C6 _
 |d::ds=>fun h hl=>by
  cases k with
  |zero=>simp at hl
  |succ k=>
   have h1:=h d C2;have h2:=qS (w:=w) (k:=k) (fun e he=>h e (B7 _ he)) (by simpa using hl);show wt d+2+fB ds<=_;rw[Nat.succ_mul];omega
theorem kO{m:Nat}:∀{ds:List PyData},(∀d∈ds,d.depth<=m)->PyData.depthAll ds<=m
 |[]=>fun _=>C6 _
 |d::ds=>fun h=>by
  show max d.depth (PyData.depthAll ds)<=m;exact Nat.max_le.mpr ⟨h d C2,kO fun e he=>h e (B7 _ he)⟩
theorem Fit.list{k:Nat}{ds:List PyData}(h:∀d∈ds,Fit w m d)(hl:ds.length<=k):Fit (k*(w+2)+3) (m+1) (.list ds):=
 ⟨sU fun d hd=>(h d hd).ok,L4 (qS (fun d hd=>(h d hd).wt) hl) 3,L4 (kO fun d hd=>(h d hd).dp) 1⟩
theorem Fit.tuple{k:Nat}{ds:List PyData}(h:∀d∈ds,Fit w m d)(hl:ds.length<=k):Fit (k*(w+2)+3) (m+1) (.tuple ds):=
 ⟨sU fun d hd=>(h d hd).ok,L4 (qS (fun d hd=>(h d hd).wt) hl) 3,L4 (kO fun d hd=>(h d hd).dp) 1⟩
theorem Fit.int{i:Int}(h:i.natAbs<2 ^ 1900):Fit 2000 0 (.int i):=⟨C3 h,A4 _,A4 _⟩
theorem cH{i:Int}(h:i.natAbs<2 ^ 200):i.natAbs<2 ^ 1900:=A8 h (Nat.pow_le_pow_right (by decide) (by decide))
theorem Fit.dictA(f:Fit w m d):Fit (w+2050) (m+1) (.dict [(.int 0,d),(.str "a",.none)]):=by
 refine⟨?_,?_,?_⟩
 .show((oks (.int 0)&&oks d&&(oks (.str "a")&&oks .none&&true)))=true;rw[f.ok];decide +kernel
 .have h1:=f.wt;show(wt (.int 0)+wt d+4+(wt (.str "a")+wt .none+4+0))+3<=_;have e1:wt (.int 0)=2000:=rfl;have e2:wt (.str "a")=3:=by decide +kernel
  have e3:wt PyData.none=4:=rfl;omega
 .have h1:=f.dp;show max (max 0 d.depth) (max (max 0 0) 0)+1<=_;omega
mutual
noncomputable def cY:PyData->PyData
 |.tuple xs=>.list (bQ xs)
 |.none=>.none
 |.bool b=>.bool b
 |.int i=>.int i
 |.str x=>.str x
 |.list xs=>.list xs
 |.dict kvs=>.dict kvs
noncomputable def bQ:List PyData->List PyData
 |[]=>[]
 |x::xs=>cY x::bQ xs
end
mutual
theorem rH:∀d:PyData,wt (cY d)=wt d/\oks (cY d)=oks d/\(cY d).depth=d.depth
 |.tuple xs=>by
  obtain⟨h1,h2,h3⟩:=mP xs;exact⟨by show fB (bQ xs)+3=_;rw[h1];rfl,h2,by show PyData.depthAll (bQ xs)+1=_;rw[h3];rfl⟩
 |.none=>⟨rfl,rfl,rfl⟩
 |.bool _=>⟨rfl,rfl,rfl⟩
 |.int _=>⟨rfl,rfl,rfl⟩
 |.str _=>⟨rfl,rfl,rfl⟩
 |.list _=>⟨rfl,rfl,rfl⟩
 |.dict _=>⟨rfl,rfl,rfl⟩
theorem mP:∀ds:List PyData,fB (bQ ds)=fB ds/\gH (bQ ds)=gH ds/\PyData.depthAll (bQ ds)=PyData.depthAll ds
 |[]=>⟨rfl,rfl,rfl⟩
 |x::xs=>by
  obtain⟨h1,h2,h3⟩:=rH x;obtain⟨k1,k2,k3⟩:=mP xs;refine⟨?_,?_,?_⟩
  .show wt (cY x)+2+fB (bQ xs)=_;rw[h1,k1];rfl
  .show(oks (cY x)&&gH (bQ xs))=_;rw[h2,k2];rfl
  .show max (cY x).depth (PyData.depthAll (bQ xs))=_;rw[h3,k3];rfl
end
theorem Fit.lists{n:Nat}(f:Fit n m d):Fit n m (cY d):=by
 obtain⟨h1,h2,h3⟩:=rH d;exact⟨by rw[h2];exact f.ok,by rw[h1];exact f.wt,by rw[h3];exact f.dp⟩
theorem kY:∀ds:List PyData,lZ (ds.map .d)=some ds
 |[]=>rfl
 |d::ds=>by
  show(lZ (ds.map .d)).map (d::·)=_;rw[kY ds];rfl
theorem rA{self:FN}{M:Sto}{s:Option CD}:∀{ds:List PyData},(∀d∈ds,self [.d d] M=some (.d (cY d),M))->∀s,lcF (hName 0) kA (aI self (aB (aE 0) aH)) (ds.map .d) [s] M=some ((bQ ds).map .d,M)
 |[]=>fun _ s=>rfl
 |d::ds=>fun h s=>by
  have e:=h d C2;have ih:=rA (s:=s) (fun e he=>h e (B7 _ he)) (some (.d d));show(Option.bind ((self [.d d] M)) fun r=>(lcF (hName 0) kA (aI self (aB (aE 0) aH)) (ds.map .d) [some (.d d)] r.2).bind fun q=>some (r.1::q.1,q.2))=_;rw[e,A2];dsimp only;rw[ih];rfl
theorem tO:∀ds:List PyData,2*ds.length<=fB ds
 |[]=>C6 _
 |d::ds=>by
  have:=tO ds;show 2*(ds.length+1)<=wt d+2+fB ds;omega
theorem tI{m:Nat}:∀{ds:List PyData},PyData.depthAll ds<=m->∀d∈ds,d.depth<=m
 |[]=>fun _ d hd=>absurd hd (by simp)
 |x::xs=>fun h d hd=>by
  have h':max x.depth (PyData.depthAll xs)<=m:=h;rcases List.mem_cons.mp hd with rfl|hd
  .omega
  .exact tI (by omega) d hd
theorem DD:∀{ds:List PyData},∀d∈ds,wt d<=fB ds
 |[]=>fun d hd=>absurd hd (by simp)
 |x::xs=>fun d hd=>by
  show _<=wt x+2+fB xs;rcases List.mem_cons.mp hd with rfl|hd
  .omega
  .have:=DD d hd;omega
theorem AH(M:Sto):∀(n:Nat)(d:PyData),d.depth<n->wt d<=sizeLine->bA n [.d d] M=some (.d (cY d),M)
 |0=>fun _ h _=>by omega
 |n+1=>fun d h hw=>by
  cases d with
  |tuple ds=>
   have h':PyData.depthAll ds+1<n+1:=h;have hw':fB ds+3<=sizeLine:=hw;have hl:=tO ds;have hs:∀e∈ds,bA n [.d e] M=some (.d (cY e),M):=fun e he=>AH M n e (by have:=tI (m:=PyData.depthAll ds) (A4 _) e he;omega) (by have:=DD e he;omega);have lp:=rA (s:=none) hs none
   have hlen:(bQ ds).length=ds.length:=by
    have:∀xs:List PyData,(bQ xs).length=xs.length:=fun xs=>by
     induction xs with
     |nil=>rfl
     |cons x xs ih=>show(bQ xs).length+1=_;rw[ih];rfl
    exact this ds
   have c:lQ (bA n) [some (.d (.tuple ds))] M=some (.d (.list (bQ ds)),M):=by
    have e1:mI [none] (fJ (aE 0)) (hName 0) kA (aI (bA n) (aB (aE 0) aH)) [some (.d (.tuple ds))] M=some ((bQ ds).map .d,M):=by
     show(if (ds.map CD.d).length<=sizeLine then lcF (hName 0) kA (aI (bA n) (aB (aE 0) aH)) (ds.map .d) [none] M else none)=_;rw[A6 (by rw[A3];omega)];exact lp
    show(Option.bind (mI _ _ _ _ _ _ _) _)=_;rw[e1,A2];dsimp only;rw[kY,A2,A6 (by rw[hlen];omega)]
   have ht:nU "tuple" (.tuple ds)=true:=rfl;simp![bA,jW,ht,c];rfl
  |_=>rfl
theorem pV{ds:List PyData}{r:Int}(h0:0<=r)(h1:r<ds.length)(M:Sto):∃d∈ds,ixF (.d (.list ds)) (I r) M=some (.d d,M):=by
 have hlt:r.toNat<ds.length:=by omega
 have hd:ds[r.toNat]?=some ds[r.toNat]:=B5 hlt;have hx:=ixL (M:=M) hd;rw[L7 h0]at hx;exact⟨_,List.getElem_mem hlt,hx⟩
theorem kM{i:Int}:eqX false (I i) (I j) M=some (B (i==j),M):=rfl
noncomputable def Wn:Nat->Nat
 |0=>2000
 |k+1=>3*(Wn k+2)+3+2050
theorem LU:∀k,2000<=Wn k
 |0=>A4 _
 |k+1=>by
  have:=LU k;show 2000<=3*(Wn k+2)+3+2050;omega
noncomputable def uH:List PyData:=[.int 0,.int 1,.int 2,.int 3,.int (-1),.int 40,.int 55440]
noncomputable def uG:List PyData:=[.bool true,.bool false,.none]
noncomputable def zN:List PyData:=[.str "",.str "1",.str "1/2",.str "place",.str "tie",.str "ab"]
theorem QO(γ:Ga)(M:Sto):nZ γ M=some (.d (.list uH),M):=rfl
theorem NT(γ:Ga)(M:Sto):nD γ M=some (.d (.list uG),M):=rfl
theorem OP(γ:Ga)(M:Sto):nF γ M=some (.d (.list zN),M):=rfl
theorem yD:∀d∈uH,Fit 2000 0 d:=by
 intro d hd;unfold uH at hd;simp only[List.mem_cons,List.not_mem_nil,or_false]at hd;rcases hd with rfl|rfl|rfl|rfl|rfl|rfl|rfl<;>exact Fit.int (cH (by decide))
theorem xW:∀d∈uG,Fit 2000 0 d:=by
 intro d hd;unfold uG at hd;simp only[List.mem_cons,List.not_mem_nil,or_false]at hd;rcases hd with rfl|rfl|rfl<;>exact⟨rfl,by decide,A4 _⟩
theorem BR:∀d∈zN,Fit 2000 0 d:=by
 intro d hd;unfold zN at hd;simp only[List.mem_cons,List.not_mem_nil,or_false]at hd;rcases hd with rfl|rfl|rfl|rfl|rfl|rfl<;>exact⟨rfl,by decide +kernel,A4 _⟩
theorem oV:∀ns:List Int,PyData.canLayAll0 (ns.map .int)=true
 |[]=>rfl
 |n::ns=>by show(true&&PyData.canLayAll0 (ns.map .int))=true;rw[oV ns];rfl
theorem qH:∀ns:List Int,PyData.depthAll (ns.map .int)=0
 |[]=>rfl
 |n::ns=>by show max 0 (PyData.depthAll (ns.map .int))=0;rw[qH ns];rfl
theorem shaped_ints(ns:List Int):SeqAt.shaped (.list (ns.map .int))=true:=by
 unfold SeqAt.shaped;have e1:PyData.canLay0 (.list (ns.map .int))=true:=oV ns;have e2:PyData.depth (.list (ns.map .int))=1:=by show PyData.depthAll (ns.map .int)+1=1;rw[qH]
 rw[e1,e2];rfl
theorem ne_nil(ns:List Int)(M:Sto):eqX true (.d (.list (ns.map .int))) (.d (.list [])) M=some (B (!ns.isEmpty),M):=by
 have e1:=shaped_ints ns;have e2:SeqAt.shaped (.list [])=true:=rfl;show(if (SeqAt.shaped (.list (ns.map .int))&&SeqAt.shaped (.list []))=true then some (B (!PyData.eqv (.list (ns.map .int)) (.list [])),M)else none)=_;rw[e1,e2];cases ns<;>rfl
noncomputable abbrev Sc(ns:List Int):CD:=.d (.list (ns.map .int))
noncomputable def Few(d:PyData):Prop:=∀l,aZ d=some l->l.length<=3
noncomputable def oE(f:Option (CD×Sto))(i w m:Nat):Prop:=∃d M',f=some (.d d,M')/\(Fit w m d/\Few d)/\Stm M' i
theorem yC{ds:List PyData}(h:ds.all (fun d=>(aZ d).isNone)=true):∀d∈ds,Few d:=fun d hd l e=>by
 have:=List.all_eq_true.mp h d hd;rw[e]at this;cases this
theorem wJ{self:FN}{i w m:Nat}{S:CD}{k:Int}(hself:∀M,Stm M i->oE (self [.c i,S,I (k-1)] M) i w m):∀(xs:List CD)(s:Option CD)(M:Sto),Stm M i->
 ∃(ds:List PyData)(M':Sto),lcF (hName 3) kA (aI self (aB (aE 0) (aB (aE 1) (aB (fOp pP (aE 2) (fC (.int 1))) aH)))) xs [some (.c i),some S,some (I k),s] M=some (ds.map .d,M')/\ds.length=xs.length/\(∀d∈ds,Fit w m d)/\Stm M' i
 |[]=>fun s M h=>⟨[],M,rfl,rfl,by simp,h⟩
 |x::xs=>fun s M h=>by
  obtain⟨d,M1,e1,f1,s1⟩:=hself M h;obtain⟨ds,M2,e2,l2,f2,s2⟩:=wJ hself xs (some x) M1 s1;refine⟨d::ds,M2,?_,by simp[l2],?_,s2⟩
  .show(Option.bind (self [.c i,S,I (k-1)] M) fun r=>(lcF (hName 3) kA (aI self (aB (aE 0) (aB (aE 1) (aB (fOp pP (aE 2) (fC (.int 1))) aH)))) xs [some (.c i),some S,some (I k),some x] r.2).bind fun q=>some (r.1::q.1,q.2))=_;rw[e1,A2];dsimp only;rw[e2];rfl
  .intro y hy;rcases List.mem_cons.mp hy with rfl|hy
   .exact f1.1
   .exact f2 y hy
theorem CU{self:FN}{S:CD}{k:Int}{a b:Option CD}(hself:∀M,Stm M i->oE (self [.c i,S,I (k-1)] M) i w m){M:Sto}(h:Stm M i):
 ∃(ds:List PyData)(M':Sto),nE self [some (.c i),some S,some (I k),a,b] M=some (.d (.list ds),M')/\ds.length<=3/\(∀d∈ds,Fit w m d)/\Stm M' i:=by
 obtain⟨r,M1,e1,r0,r1,n1⟩:=cZ (m:=4) h (by decide) (by decide);obtain⟨ds,M2,e2,l2,f2,s2⟩:=wJ hself (jC 0 r.toNat) none M1 (n1.stm h);have hlen:(jC 0 r.toNat).length=r.toNat:=by simp[jC]
 have hl:ds.length<=3:=by rw[l2,hlen];omega
 have sz:(3:Nat)<=sizeLine:=by decide
 refine⟨ds,M2,?_,hl,f2,s2⟩
 have sm:fU r=true:=by
  unfold fU;rw[C3 (show -(2 ^ 62)<=r by omega),C3 (show r<2 ^ 62 by omega)];rfl
 have e3:kI (aB (aI aQ (aB (aE 0) (aB (fC (.int 4)) aH))) aH) [some (.c i),some S,some (I k),a,b] M=some (jC 0 r.toNat,M1):=by
  simp![kI,e1,sm]
 show(Option.bind (mI _ _ _ _ _ _ _) _)=_
 have e4:mI [some 0,some 1,some 2,none] (kI (aB (aI aQ (aB (aE 0) (aB (fC (.int 4)) aH))) aH)) (hName 3) kA (aI self (aB (aE 0) (aB (aE 1) (aB (fOp pP (aE 2) (fC (.int 1))) aH)))) [some (.c i),some S,some (I k),a,b] M=some (ds.map .d,M2):=by
  unfold mI;rw[e3,A2];dsimp only;rw[A6 (by rw[hlen];omega)];exact e2
 rw[e4,A2];dsimp only;rw[kY,A2,A6 (by omega)]
theorem LB{a b c e:Option CD}:vU [((fC (.int 0)),(aE 4)),((fC (.str "a")),(fC .none))] [a,b,c,e,some (.d d)] M=some (.d (.dict [(.int 0,d),(.str "a",.none)]),(M++[Cell.dk []]).set M.length Cell.dead):=by
 have e1:uT [((fC (.int 0)),(aE 4)),((fC (.str "a")),(fC .none))] [a,b,c,e,some (.d d)] (M++[.dk []])=some ([(I 0,.d d),(.d (.str "a"),.d .none)],M++[.dk []]):=rfl;have e2:(M++[Cell.dk []])[M.length]?=some (.dk []):=by simp
 have nd:(([(.inl 0,d),(.inr "a",PyData.none)]:List (Key×PyData)).map (·.1)).Nodup:=by
  show([.inl 0,.inr "a"]:List Key).Nodup;simp
 unfold vU;rw[e1,A2];dsimp only;rw[e2];have e3:keyed [(I 0,.d d),(.d (.str "a"),.d .none)]=some [(.inl 0,d),(.inr "a",.none)]:=rfl;rw[e3,A2,A6 ⟨(by show 2<=15;decide),nd⟩];rfl
theorem GY(h:Stm M i):Stm ((M++[Cell.dk []]).set M.length Cell.dead) i:=by
 have hlt:=h.lt;obtain⟨a,b,h1,r⟩:=h;refine⟨a,b,?_,r⟩;rw[J1 (by omega),List.getElem?_append_left hlt];exact h1
theorem JS(n:Int)(ns:List Int)(M:Sto):ixF (Sc (n::ns)) (I 0) M=some (I n,M):=ixL (ds:=(n::ns).map .int) (j:=0) (d:=.int n) rfl
theorem int_bool(b:Bool)(M:Sto):FR [B b] M=some (I (if b then 1 else 0),M):=rfl
theorem NC(ds:List PyData)(M:Sto):eZ [.d (.list ds)] M=some (.d (.tuple ds),M):=rfl
theorem CS{w m:Nat}{k:Nat}(f:Fit 2000 0 d):Fit (Wn k) (2*k) d:=f.mono (LU k) (C6 _)
theorem DV(k:Nat)(self:FN)(hself:k≠0->∀M,Stm M i->oE (self [.c i,Sc ns,I ((k:Int)-1)] M) i (Wn (k-1)) (2*(k-1))){M:Sto}(h:Stm M i):
 oE (fnF 3 5 (bY self) [.c i,Sc ns,I (k:Int)] M) i (Wn k) (2*k):=by
 have o3:∀b:Bool,kR 3 (if b=true then 1 else 0)=true:=fun b=>IT (by decide);have sz:(0:Nat)<=sizeLine:=C6 _;have p1:rG 10 40=true:=by decide
 have p2:rG 10 39=true:=by decide
 obtain⟨r,M1,e1,r0,r1,n1⟩:∃r M1,aQ [.c i,I (9-3*(if ((k:Int)==0)=true then 1 else 0))] M=some (I r,M1)/\0<=r/\r<9-3*(if ((k:Int)==0)=true then 1 else 0)/\Nxt i M M1:=by
  cases ((k:Int)==0)with
  |true=>exact cZ (m:=9-3*1) h (by decide) (by decide)
  |false=>exact cZ (m:=9-3*0) h (by decide) (by decide)
 have s1:=n1.stm h;cases c0:(r==0)with
 |true=>
  cases ns with
  |nil=>
   refine⟨.int (-1),M1,?_,⟨CS (w:=0) (m:=0) (Fit.int (cH (by decide))),fun _ z=>nomatch z⟩,s1⟩;have ne:=ne_nil [] M1;simp![bY,wB,kM,int_bool,o3,e1,c0,sz,ne];rfl
  |cons n ns=>
   have q:(10:Int) ^ (40:Int).toNat=10 ^ 40:=rfl;have q':(10:Int) ^ (39:Int).toNat=10 ^ 39:=rfl;have m1:lL n (10 ^ (40:Int).toNat)=true:=fA (by decide);have b0:=F0 n (b:=10 ^ (40:Int).toNat) (by decide);have b1:=E3 n (b:=10 ^ (40:Int).toNat) (by decide);refine⟨.int (n % 10 ^ (40:Int).toNat-10 ^ (39:Int).toNat),M1,?_,⟨CS (w:=0) (m:=0) (Fit.int (cH (by rw[q,q']at *;omega))),fun _ z=>nomatch z⟩,s1⟩;have ne:=ne_nil (n::ns) M1;have em:(!(n::ns).isEmpty)=true:=rfl;simp![bY,kM,int_bool,o3,e1,c0,sz,ne,em,JS,p1,p2,m1]
 |false=>
  cases c1:(r==1)with
  |true=>
   obtain⟨t,M2,e2,t0,t1,n2⟩:=cZ (m:=7) s1 (by decide) (by decide);obtain⟨d,hd,e3⟩:=pV (ds:=uH) t0 t1 M2;refine⟨d,M2,?_,⟨CS (w:=0) (m:=0) (yD d hd),yC (by decide) d hd⟩,n2.stm s1⟩;simp![bY,kM,int_bool,o3,e1,c0,c1,e2,QO,e3]
  |false=>
   cases c2:(r==2)with
   |true=>
    obtain⟨t,M2,e2,t0,t1,n2⟩:=cZ (m:=3) s1 (by decide) (by decide);obtain⟨d,hd,e3⟩:=pV (ds:=uG) t0 t1 M2;refine⟨d,M2,?_,⟨CS (w:=0) (m:=0) (xW d hd),yC (by decide) d hd⟩,n2.stm s1⟩;simp![bY,kM,int_bool,o3,e1,c0,c1,c2,e2,NT,e3]
   |false=>
    cases c6:decide (r<6)with
    |true=>
     obtain⟨t,M2,e2,t0,t1,n2⟩:=cZ (m:=6) s1 (by decide) (by decide);obtain⟨d,hd,e3⟩:=pV (ds:=zN) t0 t1 M2;refine⟨d,M2,?_,⟨CS (w:=0) (m:=0) (BR d hd),yC (by decide) d hd⟩,n2.stm s1⟩;simp![bY,kM,int_bool,o3,e1,c0,c1,c2,c6,e2,OP,e3]
    |false=>
     have r6:6<=r:=by have:=of_decide_eq_false c6;omega
     have k0:k≠0:=by
      intro z;subst z;have:r<9-3*(if (((0:Nat):Int)==0)=true then 1 else 0):=r1;simp at this;omega
     obtain⟨ds,M2,e2,l2,f2,s2⟩:=CU (S:=Sc ns) (k:=(k:Int)) (a:=some (I r)) (b:=none) (hself k0) s1;obtain⟨k',rfl⟩:∃k',k=k'+1:=⟨k-1,by omega⟩;have f2':∀d∈ds,Fit (Wn k') (2*k') d:=f2;have w1:3*(Wn k'+2)+3<=Wn (k'+1):=Nat.le_add_right _ _;have d1:2*k'+1<=2*(k'+1):=by omega
     cases c7:(r==6)with
     |true=>
      refine⟨.tuple ds,M2,?_,⟨(Fit.tuple f2' l2).mono w1 d1,fun l z=>by cases z;exact l2⟩,s2⟩;simp![bY,kM,int_bool,o3,e1,c0,c1,c2,c6,e2,c7,NC]
     |false=>
      cases c8:(r==7)with
      |true=>
       refine⟨.list ds,M2,?_,⟨(Fit.list f2' l2).mono w1 d1,fun l z=>by cases z;exact l2⟩,s2⟩;simp![bY,kM,int_bool,o3,e1,c0,c1,c2,c6,e2,c7,c8]
      |false=>
       have fd:=Fit.dictA (Fit.list f2' l2);refine⟨_,_,?_,⟨fd.mono (A4 _) (by omega),fun _ z=>nomatch z⟩,GY s2⟩;have e3:=LB (a:=some (.c i)) (b:=some (Sc ns)) (c:=some (I ((k'+1:Nat):Int))) (e:=some (I r)) (d:=.list ds) (M:=M2);simp![bY,kM,int_bool,o3,e1,c0,c1,c2,c6,e2,c7,c8,e3]
theorem DW{ns:List Int}{i:Nat}:∀(n k:Nat),k<n->∀{M:Sto},Stm M i->oE (cT n [.c i,Sc ns,I (k:Int)] M) i (Wn k) (2*k)
 |0,_,h,_,_=>by omega
 |n+1,k,h,M,hs=>by
  show oE (fnF 3 5 (bY (cT n)) [.c i,Sc ns,I (k:Int)] M) i (Wn k) (2*k);refine DV k _ (fun k0 M' hs'=>?_) hs;have:=DW (ns:=ns) n (k-1) (by omega) hs';have e:((k-1:Nat):Int)=(k:Int)-1:=by omega
  rw[e]at this;exact this
theorem cat_tup(xs ys:List PyData)(M:Sto)(h:xs.length+ys.length<=sizeLine):dQ (.d (.tuple xs)) (.d (.tuple ys)) M=some (.d (.tuple (xs++ys)),M):=by
 cases xs with
 |nil=>rfl
 |cons x xs=>
  show(if (x::xs)≠[]/\(x::xs).length+ys.length<=sizeLine then some (CD.d (.tuple ((x::xs)++ys)),M)else none)=_;rw[A6 ⟨by simp,h⟩]
theorem nT{α:Type}{xs:List α}{lo hi:Option Int}{x:α}(h:x∈eP xs lo hi):x∈xs:=L1 (L0 h)
theorem tU{α:Type}(xs:List α)(lo hi:Option Int):(eP xs lo hi).length<=xs.length:=by
 unfold eP;rw[D3,E2];omega
theorem slT(xs:List PyData)(lo hi:Option Int)(M:Sto):slF (.d (.tuple xs)) lo hi M=some (.d (.tuple (eP xs lo hi)),M):=rfl
theorem xB(i:Int):asI (I i)=some i:=rfl
theorem QX{ds:List PyData}{r:Int}(h0:0<=r)(h1:r<ds.length)(M:Sto):∃d∈ds,ixF (.d (.tuple ds)) (I r) M=some (.d d,M):=by
 have hlt:r.toNat<ds.length:=by omega
 have hd:ds[r.toNat]?=some ds[r.toNat]:=B5 hlt
 have e:atI ds r=some ds[r.toNat]:=by
  have:=zF hd
  rwa [L7 h0]at this
 refine⟨_,List.getElem_mem hlt,?_⟩;unfold ixF;dsimp only;show(some ds).bind _=_;rw[A2,e];rfl
noncomputable def KC:List PyData:=[.none,(.bool true),(.bool false),(.int (-1)),(.int 0),(.int 1),(.int 40),(.int 1000000000001),(.str ""),(.str "1"),(.tuple []),(.tuple [(.int 1),(.int 2)]),(.tuple [(.int 2),(.int 2)]),(.tuple [(.int 0),(.int 2)]),(.tuple [(.int 1),(.int 13)]),(.dict [])]
theorem PH(γ:Ga)(M:Sto):mR γ M=some (.d (.list KC),M):=rfl
theorem cB(ha:a.natAbs<2 ^ 200)(hb:b.natAbs<2 ^ 200):Fit 4100 1 (.tuple [.int a,.int b]):=
 (Fit.tuple (w:=2000) (m:=0) (k:=2) (ds:=[.int a,.int b]) (fun d hd=>by
  simp only[List.mem_cons,List.not_mem_nil,or_false]at hd;rcases hd with rfl|rfl
  .exact Fit.int (cH ha)
  .exact Fit.int (cH hb)) (A4 _)).mono (by decide) (A4 _)
theorem GC:∀d∈KC,Fit 4100 1 d:=by
 intro d hd;unfold KC at hd;simp only[List.mem_cons,List.not_mem_nil,or_false]at hd;rcases hd with rfl|rfl|rfl|rfl|rfl|rfl|rfl|rfl|rfl|rfl|rfl|rfl|rfl|rfl|rfl|rfl
 .exact⟨rfl,by decide,by decide⟩
 .exact⟨rfl,by decide,by decide⟩
 .exact⟨rfl,by decide,by decide⟩
 .exact(Fit.int (cH (by decide))).mono (by decide) (by decide)
 .exact(Fit.int (cH (by decide))).mono (by decide) (by decide)
 .exact(Fit.int (cH (by decide))).mono (by decide) (by decide)
 .exact(Fit.int (cH (by decide))).mono (by decide) (by decide)
 .exact(Fit.int (cH (by decide))).mono (by decide) (by decide)
 .exact⟨rfl,by decide +kernel,by decide⟩
 .exact⟨rfl,by decide +kernel,by decide⟩
 .exact⟨rfl,by decide,by decide⟩
 .exact cB (by decide) (by decide)
 .exact cB (by decide) (by decide)
 .exact cB (by decide) (by decide)
 .exact cB (by decide) (by decide)
 .exact⟨rfl,by decide,by decide⟩
structure Row(n:Nat)(ds:List PyData):Prop where
 fit:∀d∈ds,Fit 4100 1 d
 len:ds.length<=n
theorem OV{n:Nat}(h:Stm M i)(hr:Row n ds)(h0:0<ds.length)(hn:n<=100):∃es M',dP [.c i,.d (.tuple ds)] M=some (.d (.tuple es),M')/\Row (2*n+1) es/\Nxt i M M':=by
 have hl:=hr.len;obtain⟨p,M1,e1,p0,p1,n1⟩:=cZ (m:=(ds.length:Int)) h (by omega) (by omega);have s1:=n1.stm h;obtain⟨c,M2,e2,c0,c1,n2⟩:=cZ (m:=4) s1 (by decide) (by decide);have s2:=n2.stm s1;have hlen:gF [.d (.tuple ds)] M=some (I ds.length,M):=rfl;have big:sizeLine=16777216:=I0;have l1:=tU ds none (some p);have l2:=tU ds (some (p+1)) none;have l3:=tU ds (some p) none;have sz1:(1:Nat)<=sizeLine:=by decide
 cases k0:(c==0)with
 |true=>
  refine⟨eP ds none (some p)++eP ds (some (p+1)) none,M2,?_,⟨fun d hd=>?_,by rw[A9];omega⟩,n1.trans n2⟩
  .have e3:=cat_tup (eP ds none (some p)) (eP ds (some (p+1)) none) M2 (by omega);simp![dP,gA,fSl,cP,fZ,hlen,e1,e2,kM,k0,slT,xB,kJ,e3]
  .rcases List.mem_append.mp hd with hd|hd<;>exact hr.fit d (nT hd)
 |false=>
  cases k1:(c==1)with
  |true=>
   obtain⟨y,hy,e4⟩:=QX p0 p1 M2;refine⟨(eP ds none (some p)++[y])++eP ds (some p) none,M2,?_,⟨fun d hd=>?_,by rw[A9,A9];simp only[List.length_singleton];omega⟩,n1.trans n2⟩
   .have e3:=cat_tup (eP ds none (some p)) [y] M2 (by simp only[List.length_singleton];omega);have e5:=cat_tup (eP ds none (some p)++[y]) (eP ds (some p) none) M2 (by rw[A9];simp only[List.length_singleton];omega);simp![dP,gA,fSl,cP,fZ,hlen,e1,e2,kM,k0,k1,slT,xB,kJ,e4,sz1,e3,e5]
   .rcases List.mem_append.mp hd with hd|hd
    .rcases List.mem_append.mp hd with hd|hd
     .exact hr.fit d (nT hd)
     .rw[List.mem_singleton.mp hd];exact hr.fit y hy
    .exact hr.fit d (nT hd)
  |false=>
   obtain⟨q,M3,e4,q0,q1,n3⟩:=cZ (m:=16) s2 (by decide) (by decide);obtain⟨y,hy,e5⟩:=pV (ds:=KC) q0 q1 M3;refine⟨(eP ds none (some p)++[y])++eP ds (some (p+1)) none,M3,?_,⟨fun d hd=>?_,by rw[A9,A9];simp only[List.length_singleton];omega⟩,(n1.trans n2).trans n3⟩
   .have e3:=cat_tup (eP ds none (some p)) [y] M3 (by simp only[List.length_singleton];omega);have e6:=cat_tup (eP ds none (some p)++[y]) (eP ds (some (p+1)) none) M3 (by rw[A9];simp only[List.length_singleton];omega);simp![dP,gA,fSl,cP,fZ,hlen,e1,e2,kM,k0,k1,slT,xB,kJ,PH,e4,e5,sz1,e3,e6]
   .rcases List.mem_append.mp hd with hd|hd
    .rcases List.mem_append.mp hd with hd|hd
     .exact hr.fit d (nT hd)
     .rw[List.mem_singleton.mp hd];exact GC y hy
    .exact hr.fit d (nT hd)
structure Tie where
 i:Int
 j:Int
 a:Int
 b:Int
deriving DecidableEq
noncomputable def f2(t:Tie):List PyData:=[.int t.i,.int t.j,.tuple [.int t.a,.int t.b]]
noncomputable def aO(us:List Tie):List PyData:=us.map fun t=>.tuple (f2 t)
theorem sz{n:Nat}(hn:n<=1000):n<=sizeLine:=by rw[I0];exact C7 hn (by decide)
theorem z1:(1:Nat)<=sizeLine:=sz (by decide)
theorem z2:(2:Nat)<=sizeLine:=sz (by decide)
theorem z3:(3:Nat)<=sizeLine:=sz (by decide)
theorem z6:(6:Nat)<=sizeLine:=sz (by decide)
noncomputable def R3(k:Bool)(p q w:PyData):PyData:=if k then .list [p,q,w]else .tuple [p,q,w]
theorem fH(k:Bool)(p q w:PyData):aZ (R3 k p q w)=some [p,q,w]:=by cases k<;>rfl
theorem uU{x:PyData}(h:dA x 3=true):∃k p q w,x=R3 k p q w:=by
 have aux:∀ds:List PyData,((ds.length:Int)==3)=true->∃p q w,ds=[p,q,w]:=fun ds h=>by
  match ds,h with
  |[p,q,w],_=>exact⟨p,q,w,rfl⟩
  |[],h=>exact absurd h (by decide)
  |[_],h=>exact absurd h (by simp)
  |[_,_],h=>exact absurd h (by simp)
  |_::_::_::_::r,h=>
   have:((r.length+1+1+1+1:Nat):Int)=3:=by simpa using h
   omega
 cases x with
 |list ds=>obtain⟨p,q,w,rfl⟩:=aux ds h;exact⟨true,p,q,w,rfl⟩
 |tuple ds=>obtain⟨p,q,w,rfl⟩:=aux ds h;exact⟨false,p,q,w,rfl⟩
 |_=>cases h
noncomputable def plc(n:Int):PyData->Bool
 |.int i=>decide (0<=i)&&decide (i<n)
 |_=>false
theorem mZ(n:Int)(p:PyData)(M:Sto):fL [I n,.d p] M=some (B (plc n p),M):=by
 cases hp:nP p with
 |false=>
  have e:plc n p=false:=by cases p<;>first|rfl|cases hp
  rw[e];simp![fL,jP,jK,hp]
 |true=>
  obtain⟨i,rfl⟩:∃i,p=.int i:=by cases p<;>first|exact⟨_,rfl⟩|cases hp
  have hc:plc n (.int i)=(decide (0<=i)&&decide (i<n)):=rfl;rw[hc];cases h0:decide (0<=i)<;>simp![fL,jP,jK,hp,h0,Bool.true_and,Bool.false_and]
noncomputable def ulk(n:Int)(p q:PyData):Bool:=match p,q with
 |.int i,.int j=>plc n p&&(plc n q&&!(i==j))
 |_,_=>false
theorem pW(h:plc n p=true):∃i,p=.int i/\0<=i/\i<n:=by
 cases p with
 |int i=>simp only[plc,Bool.and_eq_true,decide_eq_true_eq]at h;exact⟨i,rfl,h.1,h.2⟩
 |_=>cases h
theorem MM(n:Int)(p q:PyData)(M:Sto):bR [I n,.d p,.d q] M=some (B (ulk n p q),M):=by
 cases h1:plc n p with
 |false=>
  have e:ulk n p q=false:=by
   unfold ulk;split
   .rw[h1];rfl
   .rfl
  rw[e];simp![bR,cA,mZ,h1]
 |true=>
  obtain⟨i,rfl,_⟩:=pW h1;cases h2:plc n q with
  |false=>
   have e:ulk n (.int i) q=false:=by
    unfold ulk;split
    .rw[h2,Bool.false_and,Bool.and_false]
    .rfl
   rw[e];simp![bR,cA,mZ,h1,h2]
  |true=>
   obtain⟨j,rfl,_⟩:=pW h2;have e:ulk n (.int i) (.int j)=!(i==j):=by show(plc n (.int i)&&(plc n (.int j)&&!(i==j)))=_;rw[h1,h2];rfl
   rw[e];simp![bR,cA,mZ,h1,h2,pO]
noncomputable def gN(n:Int)(r:PyData):Option Tie:=match aZ r with
 |some [.int i,.int j,w]=>match aZ w with
  |some [.int a,.int b]=>if 0<=i/\i<j/\j<n/\lY a b=true then some ⟨i,j,a,b⟩else none
  |_=>none
 |_=>none
theorem AV{w:PyData}(h:gW w=true):∃a b,aZ w=some [.int a,.int b]/\lY a b=true:=by
 unfold gW at h;split at h
 .rename_i a b e;exact⟨a,b,e,h⟩
 .cases h
theorem AI{i:Int}{w:PyData}(hr:aZ r=some [.int i,.int j,w])(hw:aZ w=some [.int a,.int b])(h:0<=i/\i<j/\j<n/\lY a b=true):gN n r=some ⟨i,j,a,b⟩:=by
 unfold gN;rw[hr];dsimp only;rw[hw];dsimp only;rw[A6 h]
theorem gY(h:gN n r=some t):∃w,aZ r=some [.int t.i,.int t.j,w]/\aZ w=some [.int t.a,.int t.b]/\0<=t.i/\t.i<t.j/\t.j<n/\lY t.a t.b=true:=by
 unfold gN at h;split at h
 .rename_i i j w hr;split at h
  .rename_i a b hw;split at h
   .rename_i c;cases h;exact⟨w,hr,hw,c⟩
   .cases h
  .cases h
 .cases h
theorem ix3(k:Bool)(p q w:PyData)(M:Sto):ixF (.d (R3 k p q w)) (I 0) M=some (.d p,M)/\ixF (.d (R3 k p q w)) (I 1) M=some (.d q,M)/\ixF (.d (R3 k p q w)) (I 2) M=some (.d w,M):=by cases k<;>exact⟨rfl,rfl,rfl⟩
theorem DS(n:Int)(r:PyData)(M:Sto):hE [I n,.d r] M=some (B (gN n r).isSome,M):=by
 cases h3:dA r 3 with
 |false=>
  have e:gN n r=none:=by
   cases h:gN n r with
   |none=>rfl
   |some t=>
    obtain⟨w,hr,_⟩:=gY h;unfold dA at h3;rw[hr]at h3;cases h3
  have bt:bD [I n,.d r] M=some (B false,M):=by
   simp![bD,bZ,eW,h3]
  rw[e];simp![hE,jH,bt,Option.isSome_none]
 |true=>
  obtain⟨k,p,q,w,rfl⟩:=uU h3;obtain⟨x0,x1,x2⟩:=ix3 k p q w M;cases hu:ulk n p q with
  |false=>
   have e:gN n (R3 k p q w)=none:=by
    cases h:gN n (R3 k p q w)with
    |none=>rfl
    |some t=>
     obtain⟨w',hr,_,i0,ij,jn,_⟩:=gY h;rw[fH]at hr;cases hr
     have:ulk n (.int t.i) (.int t.j)=true:=by
      have ne:(!(t.i==t.j))=true:=by simp;omega
      show(plc n (.int t.i)&&(plc n (.int t.j)&&!(t.i==t.j)))=true;rw[ne];simp only[plc,decide_eq_true i0,decide_eq_true jn,decide_eq_true (show t.i<n by omega),decide_eq_true (show(0:Int)<=t.j by omega),Bool.and_true,Bool.true_and]
     rw[this]at hu;cases hu
   have bt:bD [I n,.d (R3 k p q w)] M=some (B false,M):=by
    simp![bD,bZ,eW,h3,x0,x1,MM,hu]
   rw[e];simp![hE,jH,bt,Option.isSome_none]
  |true=>
   obtain⟨i,j,rfl,rfl,i0,jn⟩:∃i j,p=.int i/\q=.int j/\0<=i/\j<n:=by
    unfold ulk at hu;split at hu
    .rename_i i j;rw[B1,B1]at hu;obtain⟨i',e1,q1,_⟩:=pW hu.1;obtain⟨j',e2,_,q2⟩:=pW hu.2.1;cases e1;cases e2;exact⟨i,j,rfl,rfl,q1,q2⟩
    .cases hu
   have bt:bD [I n,.d (R3 k (.int i) (.int j) w)] M=some (B (decide (i<j)),M):=by
    simp![bD,bZ,eW,h3,x0,x1,MM,hu]
   cases ij:decide (i<j)with
   |false=>
    have e:gN n (R3 k (.int i) (.int j) w)=none:=by
     cases h:gN n (R3 k (.int i) (.int j) w)with
     |none=>rfl
     |some t=>
      obtain⟨w',hr,_,_,z,_⟩:=gY h;rw[fH]at hr;cases hr;exact absurd z (of_decide_eq_false ij)
    rw[ij]at bt;rw[e];simp![hE,jH,bt,Option.isSome_none]
   |true=>
    rw[ij]at bt
    have e:(gN n (R3 k (.int i) (.int j) w)).isSome=gW w:=by
     cases hw:gW w with
     |true=>
      obtain⟨a,b,w1,w2⟩:=AV hw;rw[AI (fH ..) w1 ⟨i0,B8 ij,jn,w2⟩];rfl
     |false=>
      cases h:gN n (R3 k (.int i) (.int j) w)with
      |none=>rfl
      |some t=>
       obtain⟨w',hr,h2,_,_,_,h3'⟩:=gY h;rw[fH]at hr;cases hr;unfold gW at hw;rw[h2]at hw;dsimp only at hw;rw[h3']at hw;cases hw
    rw[e];simp![hE,jH,bt,x2,wX]
noncomputable def fD(n:Int)(r:PyData):Option (Int×Int):=(gN n r).bind fun t=>if jE t.a t.b=true then some (t.i,t.j)else none
theorem wQ(n:Int)(r:PyData)(M:Sto):eV [I n,.d r] M=some (B (fD n r).isSome,M):=by
 have ti:=DS n r M;cases h:gN n r with
 |none=>
  rw[h]at ti;have z:fD n r=none:=by unfold fD;rw[h];rfl
  rw[z];simp![eV,fY,ti,Option.isSome_none]
 |some t=>
  rw[h]at ti;obtain⟨w,hr,hw,h0,h1,h2,hg⟩:=gY h
  have x2:ixF (.d r) (I 2) M=some (.d w,M):=by
   cases r<;>first|(cases hr;rfl)|cases hr
  have y0:ixF (.d w) (I 0) M=some (I t.a,M):=by
   cases w<;>first|(cases hw;rfl)|cases hw
  have y1:ixF (.d w) (I 1) M=some (I t.b,M):=by
   cases w<;>first|(cases hw;rfl)|cases hw
  have b0:0<t.b:=by have:=EM hg;omega
  have z:(fD n r).isSome=(decide (t.a<=1000000)&&(27720 % t.b==0)):=by
   unfold fD jE;rw[h,A2,hg];show Option.isSome (if (true&&(decide (t.a<=1000000)&&(27720 % t.b==0)))=true then some (t.i,t.j)else none)=_;cases decide (t.a<=1000000)<;>cases (27720 % t.b==0)<;>rfl
  rw[z];cases c:decide (t.a<=1000000)with
  |false=>simp![eV,fY,ti,Option.isSome_some,x2,y0,c,Bool.false_and]
  |true=>simp![eV,fY,ti,Option.isSome_some,x2,y0,y1,c,fA b0,nY,Bool.true_and]
theorem iZ{f:SF}(h:f γ M=some (.nx γ',M')):aY f g γ M=g γ' M':=by simp only[aY,h,Option.bind_some]
theorem GQ{f:SF}(h:f γ M=some (.rt x,M')):aY f g γ M=some (.rt x,M'):=by simp only[aY,h,Option.bind_some]
theorem rP(h:f γ M=some (x,M')):bW f (hName i) γ M=some (.nx (γ.set i (some x)),M'):=by simp only[bW,hName,h,Option.bind_some]
theorem AD{ps N:Nat}{b:SF}(h:xs.length=ps)(hb:b (xs.map some++List.replicate (N-xs.length) none) M=some (.rt x,M')):fnF ps N b xs M=some (x,M'):=by simp only[fnF,if_pos h,hb,Option.bind_some]
theorem tT{f:AF}{g:GF}{b:SF}{M1:Sto}{r:Option (Out×Sto)}(h:f γ M=some (xs,M1))(hb:iF g b xs γ M1=r):rV f g b γ M=r:=by simp only[rV,h,Option.bind_some,hb]
theorem bE{g:AF}{M1 M2:Sto}(h1:f γ M=some (x,M1))(h2:g γ M1=some (xs,M2)):aB f g γ M=some (x::xs,M2):=by simp only[aB,h1,h2,Option.bind_some]
theorem dZ:aH γ M=some ([],M):=rfl
theorem cU{F:FN}{fa:AF}{M1 M2:Sto}{y:CD}(ha:fa γ M=some (xs,M1))(h:F xs M1=some (y,M2)):aI F fa γ M=some (y,M2):=by simp only[aI,ha,Option.bind_some,h]
theorem vV{k:F2}{g:EF}{M1 M2 M3:Sto}{a b c:CD}(h1:f γ M=some (a,M1))(h2:g γ M1=some (b,M2))(h:k a b M2=some (c,M3)):fOp k f g γ M=some (c,M3):=by simp only[fOp,h1,h2,Option.bind_some,h]
theorem DP{M1:Sto}{b:Bool}(h:f γ M=some (B b,M1)):gB f γ M=some (b,M1):=by
 unfold gB;rw[h];rfl
theorem VB{a b:SF}(h:c γ M=some (true,M')):sIf c a b γ M=a γ M':=by simp only[sIf,h,Option.bind_some,if_true]
theorem LS{a b:SF}(h:c γ M=some (false,M')):sIf c a b γ M=b γ M':=by simp only[sIf,h,Option.bind_some,Bool.false_eq_true,if_false]
theorem UR{i:Int}:fC (.int i) γ M=some (I i,M):=rfl
theorem zJ{p:Int×Int}(h:fD n r=some p):∃t,gN n r=some t/\jE t.a t.b=true/\p=(t.i,t.j):=by
 unfold fD at h;obtain⟨t,ht,h⟩:=aK h;refine⟨t,ht,?_⟩;by_cases c:jE t.a t.b=true
 .rw[A6 c]at h;exact⟨c,(C5 h).symm⟩
 .rw[B0 c]at h;cases h
theorem PL{w:PyData}(h:eC w=true):∃a b,aZ w=some [.int a,.int b]/\jE a b=true:=by
 unfold eC at h;split at h
 .rename_i a b e;exact⟨a,b,e,h⟩
 .cases h
noncomputable abbrev LG(n:Int)(x:CD)(c:Nat)(r:PyData):Ga:=[some (I n),some x,some (.c c),some (.d r)]
theorem JV{c:Nat}(ht:fD n r=none):aN (LG n x c r) M=some (.rt (B false),M):=by
 cases hr:hJ r with
 |false=>simp![aN,eU,hr]
 |true=>
  obtain⟨ds,hd⟩:=xP hr;cases h3:((ds.length:Int)==3)with
  |false=>simp![aN,eU,hr,lV hd,pO,h3]
  |true=>
   have h3':dA r 3=true:=by unfold dA;rw[hd];exact h3
   obtain⟨kk,p,q,w,rfl⟩:=uU h3';rw[fH]at hd;cases hd;obtain⟨x0,x1,x2⟩:=ix3 kk p q w M;have l3:gF [.d (R3 kk p q w)] M=some (I 3,M):=lV (fH kk p q w) M;have n3:((3:Int)==3)=true:=rfl;cases hw:eC w with
   |false=>simp![aN,eU,hr,l3,pO,n3,x2,dD,hw]
   |true=>
    cases hp:lw 0 (n-1) p with
    |false=>simp![aN,eU,hr,l3,pO,n3,x0,x2,dD,hw,wK,hp]
    |true=>
     obtain⟨i,rfl,i0,i1⟩:=tW hp;cases hq:lw (i+1) (n-1) q with
     |false=>simp![aN,eU,hr,l3,pO,n3,x0,x1,x2,dD,hw,wK,hp,kJ,hq]
     |true=>
      obtain⟨j,rfl,j0,j1⟩:=tW hq;obtain⟨a,b,w1,w2⟩:=PL hw;unfold fD at ht;rw[AI (fH ..) w1 ⟨i0,by omega,by omega,DE w2⟩,A2,A6 w2]at ht;cases ht
noncomputable def prD(p:Int×Int):PyData:=.tuple [.int p.1,.int p.2]
theorem RR(p q:Int×Int):PyData.eqv (prD p) (prD q)=decide (p=q):=by
 obtain⟨a,b⟩:=p;obtain⟨c,d⟩:=q;show(a==c&&(b==d&&true))=_;rw[E5];simp
theorem RK(l:List (Int×Int))(p:Int×Int):(l.map prD).any (fun d=>PyData.eqv d (prD p))=decide (p∈l):=by
 rw[List.any_map,E5];simp only[List.any_eq_true,Function.comp,RR,decide_eq_true_eq];exact⟨fun⟨q,h,e⟩=>e▸h,fun h=>⟨p,h,rfl⟩⟩
theorem zQ{n:Nat}{M:Sto}:∀ds:List PyData,mO n M (ds.map .d)=some ds
 |[]=>by unfold mO;rfl
 |d::ds=>by
  rw[B6];unfold mO;rw[yV,A2,zQ ds];rfl
theorem XR{c:Nat}{l:List (Int×Int)}{i:Int}(h:M[c]?=some (.lst ((l.map prD).map .d))):inC false (.d (.tuple [.int i,.int j])) (.c c) M=some (B (decide ((i,j)∈l)),M):=by
 have s1:snap 5 M (.c c)=some (.list (l.map prD)):=by
  unfold snap;rw[h];dsimp only;rw[zQ,A2]
 have s2:(SeqAt.shaped (.tuple [.int i,.int j])&&(l.map prD).all SeqAt.shaped)=true:=by
  rw[B1];refine⟨rfl,List.all_eq_true.mpr fun d hd=>?_⟩;obtain⟨p,_,rfl⟩:=List.mem_map.mp hd;rfl
 unfold inC;rw[yV,A2,s1,A2];show(some (l.map prD)).bind _=_;rw[A2,A6 s2,B0 A1];rw[show(PyData.tuple [.int i,.int j])=prD (i,j)from rfl,RK]
theorem FF{x:CD}{c:Nat}{p:Int×Int}{l:List (Int×Int)}(ht:fD n r=some p)(h:M[c]?=some (.lst ((l.map prD).map .d)))(hl:l.length<1000):
 aN (LG n x c r) M=if p∈l then some (.rt (B false),M)else some (.nx (LG n x c r),M.set c (.lst (((l++[p]).map prD).map .d))):=by
 obtain⟨t,ht',hd,rfl⟩:=zJ ht;obtain⟨w,hr,hw,i0,ij,jn,hv⟩:=gY ht';have h3:dA r 3=true:=by unfold dA;rw[hr];rfl
 obtain⟨kk,p,q,w',rfl⟩:=uU h3;rw[fH]at hr;cases hr;obtain⟨x0,x1,x2⟩:=ix3 kk (.int t.i) (.int t.j) w M;have rr:hJ (R3 kk (.int t.i) (.int t.j) w)=true:=by cases kk<;>rfl
 have l3:gF [.d (R3 kk (.int t.i) (.int t.j) w)] M=some (I 3,M):=lV (fH kk (.int t.i) (.int t.j) w) M;have n3:((3:Int)==3)=true:=rfl;have hw':eC w=true:=by unfold eC;rw[hw];exact hd
 have hp:lw 0 (n-1) (.int t.i)=true:=by
  simp only[lw,decide_eq_true i0,decide_eq_true (show t.i<=n-1 by omega),Bool.and_true]
 have hq:lw (t.i+1) (n-1) (.int t.j)=true:=by
  simp only[lw,decide_eq_true (show t.i+1<=t.j by omega),decide_eq_true (show t.j<=n-1 by omega),Bool.and_true]
 have ei:=XR (i:=t.i) (j:=t.j) h;by_cases hm:(t.i,t.j)∈l
 .rw[A6 hm];have hm':decide ((t.i,t.j)∈l)=true:=C3 hm;simp![aN,eU,rr,l3,pO,n3,x0,x1,x2,dD,hw',wK,hp,kJ,hq,ei,hm',if_pos z2,Nat.zero_add]
 .rw[B0 hm];have hm':decide ((t.i,t.j)∈l)=false:=C8 hm
  have ap:lT (.c c) [.d (.tuple [.int t.i,.int t.j])] M=some (.d .none,M.set c (.lst (((l++[(t.i,t.j)]).map prD).map .d))):=by
   have hz:((l.map prD).map CD.d).length<sizeLine:=by rw[A3,A3,I0];omega
   unfold lT;dsimp only;rw[h];dsimp only;rw[A6 hz,E9,E9];rfl
  have ty:tyB "list" M (.c c)=true:=by unfold tyB;dsimp only;rw[h];rfl
  simp![aN,eU,rr,l3,pO,n3,x0,x1,x2,dD,hw',wK,hp,kJ,hq,ei,hm',if_pos z2,Nat.zero_add,AC,ty,ap]
noncomputable def goL(n:Int):List PyData->List (Int×Int)->Bool
 |[],_=>true
 |r::l,kn=>match fD n r with
  |none=>false
  |some p=>if p∈kn then false else goL n l (kn++[p])
theorem RT{c:Cell}:(M++[c])[M.length]?=some c:=by rw[L8 (A4 _),Nat.sub_self];rfl
theorem KD{c c':Cell}:(M++[c]).set M.length c'=M++[c']:=by
 rw[List.set_append_right _ _ (A4 _),Nat.sub_self];rfl
theorem xK{n:Int}{x:CD}{M:Sto}:∀(l:List PyData)(kn:List (Int×Int))(g:Option CD),kn.length+l.length<1000->
 ∃L,(goL n l kn=false->iF (hName 3) aN (l.map .d) [some (I n),some x,some (.c M.length),g] (M++[.lst ((kn.map prD).map .d)])=some (.rt (B false),M++L)) /\
  (goL n l kn=true->∃g',iF (hName 3) aN (l.map .d) [some (I n),some x,some (.c M.length),g] (M++[.lst ((kn.map prD).map .d)])=some (.nx [some (I n),some x,some (.c M.length),g'],M++L))
 |[]=>fun kn g _=>⟨[.lst ((kn.map prD).map .d)],fun h=>(by cases h),fun _=>⟨g,rfl⟩⟩
 |r::l=>fun kn g hl=>by
  have nm:hName 3 (.d r) [some (I n),some x,some (.c M.length),g] (M++[.lst ((kn.map prD).map .d)])=some (LG n x M.length r,M++[.lst ((kn.map prD).map .d)]):=rfl
  have fr:∀M' o,aN (LG n x M.length r) (M++[.lst ((kn.map prD).map .d)])=some (.rt o,M')->iF (hName 3) aN ((r::l).map .d) [some (I n),some x,some (.c M.length),g] (M++[.lst ((kn.map prD).map .d)])=some (.rt o,M'):=fun M' o e=>by
   rw[B6]
   conv=>lhs;unfold iF
   rw[nm,A2];dsimp only;rw[e];rfl
  rw[C1]at hl;cases hd:fD n r with
  |none=>
   have z:goL n (r::l) kn=false:=by show(match fD n r with|none=>false|some p=>_)=false;rw[hd]
   exact⟨[.lst ((kn.map prD).map .d)],fun _=>fr _ _ (JV hd),fun h=>by rw[z]at h;cases h⟩
  |some p=>
   have lg:=FF (n:=n) (x:=x) (c:=M.length) hd (RT (M:=M) (c:=.lst ((kn.map prD).map .d))) (by omega);by_cases hm:p∈kn
   .have z:goL n (r::l) kn=false:=by show(match fD n r with|none=>false|some p=>if p∈kn then false else _)=false;rw[hd];exact A6 hm
    rw[A6 hm]at lg;exact⟨[.lst ((kn.map prD).map .d)],fun _=>fr _ _ lg,fun h=>by rw[z]at h;cases h⟩
   .have z:goL n (r::l) kn=goL n l (kn++[p]):=by show(match fD n r with|none=>false|some p=>if p∈kn then false else _)=_;rw[hd];exact B0 hm
    rw[B0 hm,KD]at lg;obtain⟨L,h1,h2⟩:=xK (n:=n) (x:=x) (M:=M) l (kn++[p]) (some (.d r)) (by rw[A9,E1];omega)
    have st:iF (hName 3) aN ((r::l).map .d) [some (I n),some x,some (.c M.length),g] (M++[.lst ((kn.map prD).map .d)])=iF (hName 3) aN (l.map .d) [some (I n),some x,some (.c M.length),some (.d r)] (M++[.lst (((kn++[p]).map prD).map .d)]):=by
     rw[B6]
     conv=>lhs;unfold iF
     rw[nm,A2];dsimp only;rw[lg];rfl
    rw[st,z];exact⟨L,h1,h2⟩
theorem AN{n:Int}{d:PyData}{M:Sto}(hl:∀l,aZ d=some l->l.length<1000):∃L,bS [I n,.d d] M=some (B (match aZ d with
 |some l=>goL n l []
 |none=>false),M++L):=by
 cases hd:aZ d with
 |none=>
  have hr:hJ d=false:=by cases d<;>first|rfl|cases hd
  refine⟨[],?_⟩;rw[F9];simp![bS,cI,eU,hr]
 |some l=>
  have hr:hJ d=true:=by cases d<;>first|rfl|cases hd
  obtain⟨L,h1,h2⟩:=xK (n:=n) (x:=.d d) (M:=M) l [] none (by have:=hl l hd;simp only[List.length_nil];omega);refine⟨L,?_⟩
  have s1:sIf (iH (gB (aI dF (aB (aE 1) aH)))) (bG (fC (.bool false))) bO [some (I n),some (.d d),none,none] M=some (.nx [some (I n),some (.d d),none,none],M):=by
   simp![eU,hr]
  have s0:(0:Nat)<=sizeLine:=C6 _
  have s2:bW (yL aH) (hName 2) [some (I n),some (.d d),none,none] M=some (.nx [some (I n),some (.d d),some (.c M.length),none],M++[.lst []]):=by
   simp![s0]
  have it:fJ (aE 1) [some (I n),some (.d d),some (.c M.length),none] (M++[.lst []])=some (l.map .d,M++[.lst []]):=by
   unfold fJ;show(aZ d).bind _=_;rw[hd];rfl
  refine AD rfl ?_;show cI [some (I n),some (.d d),none,none] M=_;unfold cI;rw[iZ s1,iZ s2];show _=some (Out.rt (B (goL n l [])),M++L);cases g:goL n l []with
  |false=>exact GQ (tT it (h1 g))
  |true=>
   obtain⟨g',e⟩:=h2 g;rw[iZ (tT it e)];rfl
theorem OI{cap:List (Option Nat)}{f:AF}{g:GF}{ee:EF}{M1 M2:Sto}(it:f γ M=some (xs,M1))(hl:xs.length<=sizeLine)(e:lcF g c ee xs (sF cap γ) M1=some (ds.map .d,M2))(hd:ds.length<=sizeLine):fLc cap f g c ee γ M=some (.d (.list ds),M2):=by
 have h1:mI cap f g c ee γ M=some (ds.map .d,M2):=by
  unfold mI;rw[it,A2,A6 hl];exact e
 show(mI cap f g c ee γ M).bind _=_;rw[h1,A2,kY,A2,A6 hd]
theorem vR{α:Type}{e:EF}{M:Sto}{x0:Option CD}(f:α->CD)(h:α->PyData):∀(xs:List α)(g:Option CD),(∀x∈xs,e [x0,some (f x)] M=some (.d (h x),M))->lcF (hName 1) kA e (xs.map f) [x0,g] M=some ((xs.map h).map .d,M)
 |[]=>fun _ _=>rfl
 |x::xs=>fun g he=>by
  have ih:=vR (M:=M) (e:=e) (x0:=x0) f h xs (some (f x)) fun y hy=>he y (B7 _ hy);have e1:=he x C2;rw[B6,B6,B6];show(hName 1 (f x) [x0,g] M).bind _=_;rw[show hName 1 (f x) [x0,g] M=some ([x0,some (f x)],M)from rfl,A2];show(kA _ M).bind _=_;rw[show kA [x0,some (f x)] M=some (true,M)from rfl,A2,A6 rfl,e1,A2];dsimp only;rw[ih,A2]
theorem xM{α:Type}(f:α->Bool):∀l:List α,boolsOf (l.map fun a=>.bool (f a))=some (l.map f)
 |[]=>rfl
 |a::l=>by
  show(boolsOf (l.map fun a=>.bool (f a))).bind _=_;rw[xM f l];rfl
theorem QD{α:Type}(f:α->Bool)(l:List α)(M:Sto):sA [.d (.list (l.map fun a=>.bool (f a)))] M=some (B (l.all f),M):=by
 simp only[sA,xM,Option.bind_some,List.all_map];rfl
noncomputable def kp(p:Int×Int):List Key:=[.inl p.1,.inl p.2]
theorem PZ{p q:Int×Int}(h:kp p=kp q):p=q:=by
 obtain⟨a,b⟩:=p;obtain⟨c,d⟩:=q;unfold kp at h;simp only[List.cons.injEq,Sum.inl.injEq,and_true]at h;rw[h.1,h.2]
theorem VI{p:Int×Int}(h:fD n r=some p)(M:Sto):ixF (.d r) (I 0) M=some (I p.1,M)/\ixF (.d r) (I 1) M=some (I p.2,M):=by
 obtain⟨t,ht,_,rfl⟩:=zJ h;obtain⟨w,hr,_⟩:=gY ht;cases r<;>first|(cases hr;exact⟨rfl,rfl⟩)|cases hr
theorem zA{n:Int}{M:Sto}:∀(l:List PyData)(ps:List (Int×Int))(g:Option CD),l.map (fD n)=ps.map some->scF (hName 0) kA (AU (aB (fOp ixF (aE 0) (fC (.int 0))) (aB (fOp ixF (aE 0) (fC (.int 1))) aH))) (l.map .d) [g] M=some (ps.map kp,M)
 |[],[],_,_=>rfl
 |[],_::_,_,h=>by simp at h
 |_::_,[],_,h=>by simp at h
 |r::l,p::ps,g,h=>by
  rw[B6,B6]at h;injection h with h1 h2
  have ih:=zA (n:=n) (M:=M) l ps (some (.d r)) h2;obtain⟨x0,x1⟩:=VI h1 M;have s2:(2:Nat)<=sizeLine:=by decide
  have kk:AU (aB (fOp ixF (aE 0) (fC (.int 0))) (aB (fOp ixF (aE 0) (fC (.int 1))) aH)) [some (.d r)] M=some (.inr (kp p),M):=by
   simp![AU,x0,x1,keysOf,keyOf,s2];rfl
  rw[B6,B6];show(hName 0 (.d r) [g] M).bind _=_;rw[show hName 0 (.d r) [g] M=some ([some (.d r)],M)from rfl,A2];show(kA [some (.d r)] M).bind _=_;rw[show kA [some (CD.d r)] M=some (true,M)from rfl,A2,A6 rfl,kk,A2];show(scF _ _ _ _ [some (.d r)] M).bind _=_;rw[ih];rfl
theorem all_some{n:Int}:∀{l:List PyData},(l.all fun r=>(fD n r).isSome)=true->∃ps:List (Int×Int),l.map (fD n)=ps.map some
 |[]=>fun _=>⟨[],rfl⟩
 |r::l=>fun h=>by
  rw[List.all_cons,B1]at h;obtain⟨ps,e⟩:=all_some h.2;obtain⟨p,hp⟩:=Option.isSome_iff_exists.mp h.1;exact⟨p::ps,by rw[B6,B6,e,hp]⟩
theorem wD:∀ks:List (List Key),(iS ks).length=ks.length↔ks.Nodup
 |[]=>⟨fun _=>J8,fun _=>rfl⟩
 |k::ks=>by
  have ih:=wD ks;have le:=qG ks;have mm:=nN k ks;rw[List.nodup_cons];by_cases c:k∈iS ks
  .have e:iS (k::ks)=iS ks:=by show(if _ then _ else _)=_;exact A6 (any_mem.mpr c)
   rw[e,C1];exact⟨fun h=>by omega,fun h=>absurd (mm.mp c) h.1⟩
  .have e:iS (k::ks)=k::iS ks:=by show(if _ then _ else _)=_;exact B0 fun z=>c (any_mem.mp z)
   rw[e,C1,C1];exact⟨fun h=>⟨fun z=>c (mm.mpr z),ih.mp (by omega)⟩,fun h=>by rw[ih.mpr h.2]⟩
theorem VH(ps:List (Int×Int)):(ps.map kp).Nodup↔ps.Nodup:=by
 constructor
 .intro h;exact(List.pairwise_map.mp h).imp fun ne e=>ne (by rw[e])
 .intro h;exact List.pairwise_map.mpr (h.imp fun ne e=>ne (PZ e))
theorem AB{n:Int}:∀(l:List PyData)(kn:List (Int×Int)),goL n l kn=true->(l.all fun r=>(fD n r).isSome)=true
 |[]=>fun _ _=>rfl
 |r::l=>fun kn h=>by
  have h:(match fD n r with|none=>false|some p=>if p∈kn then false else goL n l (kn++[p]))=true:=h;cases hd:fD n r with
  |none=>rw[hd]at h;cases h
  |some p=>
   rw[hd]at h;dsimp only at h;by_cases c:p∈kn
   .rw[A6 c]at h;cases h
   .rw[B0 c]at h;rw[List.all_cons,hd,AB l _ h];rfl
theorem FE{n:Int}:∀(l:List PyData)(ps kn:List (Int×Int)),l.map (fD n)=ps.map some->kn.Nodup->(goL n l kn=true↔(kn++ps).Nodup)
 |[],[]=>fun kn _ hk=>by rw[F9];exact⟨fun _=>hk,fun _=>rfl⟩
 |[],_::_=>fun _ h _=>by simp at h
 |_::_,[]=>fun _ h _=>by simp at h
 |r::l,p::ps=>fun kn h hk=>by
  rw[B6,B6]at h;injection h with h1 h2
  have u:goL n (r::l) kn=if p∈kn then false else goL n l (kn++[p]):=by show(match fD n r with|none=>false|some p=>_)=_;rw[h1]
  have ap:kn++p::ps=(kn++[p])++ps:=by rw[J0];rfl
  rw[u];by_cases c:p∈kn
  .rw[A6 c];refine⟨fun z=>(by cases z),fun z=>?_⟩;rw[List.nodup_append]at z;exact absurd rfl (z.2.2 p c p C2)
  .rw[B0 c,ap];refine FE l ps (kn++[p]) h2 ?_;rw[List.nodup_append];refine⟨hk,List.nodup_cons.mpr ⟨by simp,J8⟩,fun a ha b hb e=>?_⟩;rw[List.mem_singleton.mp hb]at e;exact c (e▸ha)
noncomputable def xC(n:Int)(d:PyData):Bool:=match aZ d with
 |some l=>goL n l []
 |none=>false
theorem WH(hl:∀l,aZ d=some l->l.length<=70):eN [I n,.d d] M=some (B (xC n d),M):=by
 unfold xC;cases hd:aZ d with
 |none=>
  have hr:hJ d=false:=by cases d<;>first|rfl|cases hd
  simp![eN,eL,wG,hr]
 |some l=>
  have l7:=hl l hd;have hr:hJ d=true:=by cases d<;>first|rfl|cases hd
  have it:fJ (aE 1) [some (I n),some (.d d)] M=some (l.map .d,M):=by
   unfold fJ;show(aZ d).bind _=_;rw[hd];rfl
  have c0:dC [some (I n),some (.d d)] M=some (.d (.list (l.map fun r=>.bool (fD n r).isSome)),M):=by
   unfold dC;refine OI it (by rw[A3];exact sz (by omega)) ?_ (by rw[A3];exact sz (by omega));rw[show sF [some 0,none] [some (I n),some (.d d)]=[some (I n),none]from rfl];exact vR (x0:=some (I n)) (fun r=>.d r) (fun r=>.bool (fD n r).isSome) l none fun r _=>cU (bE (show aE 0 [some (I n),some (.d r)] M=some (I n,M)from rfl) (bE (show aE 1 [some (I n),some (.d r)] M=some (.d r,M)from rfl) dZ)) (wQ n r M)
  have ca:=cU (F:=sA) (bE c0 dZ) (QD (fun r=>(fD n r).isSome) l M);have t1:=DP (cU (F:=jJ) (bE (show aE 1 [some (I n),some (.d d)] M=some (.d d,M)from rfl) dZ) (wG d M));rw[hr]at t1;have t2:=DP ca
  have t:gOr (iH (gB (aI jJ (aB (aE 1) aH)))) (iH (gB (aI sA (aB dC aH)))) [some (I n),some (.d d)] M=some (!(l.all fun r=>(fD n r).isSome),M):=by
   unfold gOr iH;rw[t1];show((gB (aI sA (aB dC aH)) [some (I n),some (.d d)] M).bind _)=_;rw[t2];rfl
  refine AD rfl ?_;show eL [some (I n),some (.d d)] M=some (.rt (B (goL n l [])),M);unfold eL;cases ha:(l.all fun r=>(fD n r).isSome)with
  |false=>
   rw[ha]at t
   have g:goL n l []=false:=by
    cases g:goL n l []with
    |false=>rfl
    |true=>rw[AB l [] g]at ha;cases ha
   rw[g];exact GQ ((VB t).trans rfl)
  |true=>
   rw[ha]at t;obtain⟨ps,e⟩:=all_some ha;have lp:ps.length=l.length:=by have:=J6 List.length e;rw[A3,A3]at this;exact this.symm
   rw[iZ ((LS t).trans rfl)]
   have c1:gI [some (I n),some (.d d)] M=some (I ((iS (ps.map kp)).length:Nat),M):=by
    unfold gI uA;rw[it,A2];dsimp only;rw[A6 (by rw[A3];exact l7),show sF [none] [some (I n),some (.d d)]=[none]from rfl,zA l ps none e];rfl
   have le:=cU (F:=gF) (bE (show aE 1 [some (I n),some (.d d)] M=some (.d d,M)from rfl) dZ) (lV hd M);obtain⟨A,hA⟩:∃A:Int,(((iS (ps.map kp)).length:Nat):Int)=A:=⟨_,rfl⟩;obtain⟨C,hC⟩:∃C:Int,((l.length:Nat):Int)=C:=⟨_,rfl⟩;rw[hA]at c1;rw[hC]at le;have q:=vV (k:=eqX false) c1 le nY
   have fin:(A==C)=goL n l []:=by
    rw[E5,FE l ps [] e J8,List.nil_append,<- VH,<- wD,A3,lp,beq_iff_eq,<- hA,<- hC];omega
   rw[<- fin];simp only[bG,q,Option.bind_some]
noncomputable def Tie.key(t:Tie):List Key:=[.inl t.i,.inl t.j]
noncomputable def Ok(n:Int)(us:List Tie):Prop:=(∀t∈us,jE t.a t.b=true/\0<=t.i/\t.i<t.j/\t.j<n)/\(us.map Tie.key).Nodup/\us.length<64
theorem wL(lo:Int)(m:Nat):jC lo (m+1)=I lo::jC (lo+1) m:=by
 unfold jC;rw[List.range_succ_eq_map,B6,List.map_map];congr 1
 .show CD.d (.int (lo+((0:Nat):Int)))=_;rw[show lo+((0:Nat):Int)=lo by omega]
 .refine List.map_congr_left fun i _=>?_;show CD.d (.int (lo+((i+1:Nat):Int)))=.d (.int (lo+1+(i:Nat)));rw[show lo+((i+1:Nat):Int)=lo+1+(i:Nat)by omega]
theorem slL(xs:List PyData)(lo hi:Option Int)(M:Sto):slF (.d (.list xs)) lo hi M=some (.d (.list (eP xs lo hi)),M):=rfl
theorem oH{xs ys:List PyData}(hl:(xs++ys).length<=sizeLine):dQ (.d (.list xs)) (.d (.list ys)) M=some (.d (.list (xs++ys)),M):=by
 have a:NS (.d (.list xs)) (.d (.list ys)) M=none:=rfl
 have c:KJ (.d (.list xs)) (.d (.list ys)) M=some (.d (.list (xs++ys)),M):=by
  unfold KJ;simp only[wA,Option.bind_some];rw[<- E9,kY,A2,A6 hl]
 unfold dQ yB;rw[a];dsimp only;rw[c]
theorem FY{xs:List PyData}{r:Nat}(h:r<=xs.length):eP xs none (some (r:Int))=xs.take r:=by
 unfold eP;rw[HT.sIx_none,HT.sIx_nat,List.drop_zero,Nat.sub_zero,Nat.min_eq_left h]
theorem vN{xs:List PyData}{r:Nat}(h:r<=xs.length):eP xs (some (r:Int)) none=xs.drop r:=by
 unfold eP;rw[HT.sIx_none,HT.sIx_nat,Nat.min_eq_left h,List.take_of_length_le];rw[E2];exact A4 _
theorem cO(us:List Tie):(aO us).length=us.length:=by unfold aO;rw[A3]
theorem DT{n c j i:Int}{g6:Option CD}(h:Stm M s)(h64:us.length<64):
 ∃us' g M',cE [some (.c s),some (I n),some (I c),some (.d (.list (aO us))),some (I j),some (I i),g6] M=some (.nx [some (.c s),some (I n),some (I c),some (.d (.list (aO us'))),some (I j),some (I i),g],M')/\Stm M' s/\(us'=us\/∃a b,jE a b=true/\us'.Perm (⟨i,j,a,b⟩::us)):=by
 obtain⟨r,M1,e1,r0,r1,n1⟩:=cZ (m:=4) h (by decide) (by decide);have h1:=n1.stm h;by_cases q:r<c
 .have ln:gF [.d (.list (aO us))] M1=some (I us.length,M1):=by
   unfold gF;dsimp only;rw[show aZ (.list (aO us))=some (aO us)from rfl,A2,cO]
  obtain⟨k,M2,e2,k0,k1,n2⟩:=cZ (m:=(us.length:Int)+1) h1 (by omega) (by
   have:(2:Int) ^ 200=1606938044258990275541962092341162602522202993782792835301376:=by decide
   omega)
  have h2:=n2.stm h1;obtain⟨a,b,M3,e3,w3,n3⟩:=vZ h2;have h3:=n3.stm h2;obtain⟨k,rfl⟩:∃z:Nat,k=(z:Int):=⟨k.toNat,by omega⟩;have kl:k<=(aO us).length:=by rw[cO];omega
  have rr:aO us=(aO us).take k++(aO us).drop k:=(J9 ..).symm;have c1:=FY kl;have c2:=vN kl;have lt:((aO us).take k).length<=us.length:=by rw[D3,cO];omega
  have ld:((aO us).drop k).length<=us.length:=by rw[E2,cO];omega
  have a1:dQ (.d (.list ((aO us).take k))) (.d (.list [.tuple [.int i,.int j,.tuple [.int a,.int b]]])) M3=some (.d (.list ((aO us).take k++[.tuple [.int i,.int j,.tuple [.int a,.int b]]])),M3):=oH (sz (by rw[A9,C1,List.length_nil];omega));have a2:dQ (.d (.list ((aO us).take k++[.tuple [.int i,.int j,.tuple [.int a,.int b]]]))) (.d (.list ((aO us).drop k))) M3=some (.d (.list ((aO us).take k++[.tuple [.int i,.int j,.tuple [.int a,.int b]]]++(aO us).drop k)),M3):=oH (sz (by rw[A9,A9,C1,List.length_nil];omega))
  have er:(aO us).take k++[.tuple [.int i,.int j,.tuple [.int a,.int b]]]++(aO us).drop k=aO (us.take k++[⟨i,j,a,b⟩]++us.drop k):=by
   unfold aO;rw[E9,E9,List.map_take,List.map_drop];rfl
  have e3:bT [.c s] M2=some (.d (.tuple [.int a,.int b]),M3):=e3;refine⟨us.take k++[⟨i,j,a,b⟩]++us.drop k,some (I k),M3,?_,h3,.inr ⟨a,b,w3,?_⟩⟩
  .rw[<- er];simp![cE,fSl,cP,fZ,e1,decide_eq_true q,ln,kJ,e2,slL,xB,c1,c2,e3,z1,z2,z3,a1,a2]
  .rw[J0];have p:=List.perm_middle (a:=(⟨i,j,a,b⟩:Tie)) (l₁:=us.take k) (l₂:=us.drop k);rw[J9]at p;exact p
 .refine⟨us,g6,M1,?_,h1,.inl rfl⟩;simp![cE,e1,decide_eq_false q]
structure Dr(n J K:Int)(us:List Tie):Prop where
 ok:∀t∈us,(jE t.a t.b=true/\0<=t.i/\t.i<t.j/\t.j<n)/\(t.j<J\/(t.j=J/\t.i<K))
 nd:(us.map Tie.key).Nodup
theorem Dr.more{K a b:Int}{us':List Tie}(d:Dr n J K us)(k0:0<=K)(kj:K<J)(jn:J<n)(h:us'=us\/∃a b,jE a b=true/\us'.Perm (⟨K,J,a,b⟩::us)):Dr n J (K+1) us'/\us'.length<=us.length+1:=by
 rcases h with rfl|⟨a,b,w,p⟩
 .exact⟨⟨fun t ht=>⟨(d.ok t ht).1,by have:=(d.ok t ht).2;omega⟩,d.nd⟩,by omega⟩
 .refine⟨⟨fun t ht=>?_,?_⟩,by rw[p.length_eq,C1];exact A4 _⟩
  .rcases List.mem_cons.mp (p.subset ht)with rfl|ht
   .exact⟨⟨w,k0,kj,jn⟩,.inr ⟨rfl,by show K<K+1;omega⟩⟩
   .exact⟨(d.ok t ht).1,by have:=(d.ok t ht).2;omega⟩
  .rw[(p.map Tie.key).nodup_iff,B6,List.nodup_cons];refine⟨fun z=>?_,d.nd⟩;obtain⟨t,ht,e⟩:=List.mem_map.mp z;have e:([.inl t.i,.inl t.j]:List Key)=[.inl K,.inl J]:=e;injection e with e1 e2
   injection e2 with e2 _
   injection e1 with e1
   injection e2 with e2
   have:=(d.ok t ht).2;omega
theorem inner{s:Nat}{n c j:Int}(jn:j<n):∀(m:Nat)(i:Int)(us:List Tie)(g5 g6:Option CD)(M:Sto),0<=i->i+m=j->Stm M s->Dr n j i us->us.length+m<64->
 ∃us' g g' M',iF (hName 5) cE (jC i m) [some (.c s),some (I n),some (I c),some (.d (.list (aO us))),some (I j),g5,g6] M=some (.nx [some (.c s),some (I n),some (I c),some (.d (.list (aO us'))),some (I j),g,g'],M')/\Stm M' s/\Dr n j j us'/\us'.length<=us.length+m
 |0=>fun i us g5 g6 M i0 hi h d _=>⟨us,g5,g6,M,rfl,h,by rwa [show i=j by omega]at d,A4 _⟩
 |m+1=>fun i us g5 g6 M i0 hi h d hl=>by
  obtain⟨us1,g,M1,e1,h1,q⟩:=DT (n:=n) (c:=c) (j:=j) (i:=i) (g6:=g6) h (us:=us) (by omega);obtain⟨d1,l1⟩:=d.more (a:=0) (b:=0) i0 (by omega) jn q;obtain⟨us2,g2,g3,M2,e2,h2,d2,l2⟩:=inner jn m (i+1) us1 (some (I i)) g M1 (by omega) (by omega) h1 d1 (by omega);refine⟨us2,g2,g3,M2,?_,h2,d2,by omega⟩;rw[wL];unfold iF;simp only[hName,List.set_cons_zero,List.set_cons_succ,List.length_cons,Option.bind_some,e1];exact e2
noncomputable def tri:Nat->Nat
 |0=>0
 |k+1=>tri k+k
theorem DH(h0:0<=J)(h1:J<=40):fU J=true:=by
 simp only[fU,Bool.and_eq_true,decide_eq_true_eq];omega
theorem HW{x0 x1 x2 x3:CD}{g5 g6:Option CD}(h0:0<=J)(h1:J<=40)(e:iF (hName 5) cE (jC 0 J.toNat) [some x0,some x1,some x2,some x3,some (I J),g5,g6] M=some (.nx γ',M')):cF [some x0,some x1,some x2,some x3,some (I J),g5,g6] M=some (.nx γ',M'):=by
 have sm:=DH h0 h1;simp![cF,rV,kI,sm,e]
theorem FB(k:Nat):tri (k+1)=tri k+k:=rfl
theorem XH{j:Nat}(h:j<=8):tri j<=28:=by
 have:j=0\/j=1\/j=2\/j=3\/j=4\/j=5\/j=6\/j=7\/j=8:=by omega
 rcases this with rfl|rfl|rfl|rfl|rfl|rfl|rfl|rfl|rfl<;>decide
theorem CJ{c:Int}(n9:n<=9){j:Nat}{g4 g5 g6:Option CD}(hj:(j:Int)<n)(h:Stm M s)(d:Dr n j 0 us)(l:us.length<=tri j):
 ∃us' g' g'' M',cF [some (.c s),some (I n),some (I c),some (.d (.list (aO us))),some (I j),g5,g6] M=some (.nx [some (.c s),some (I n),some (I c),some (.d (.list (aO us'))),some (I j),g',g''],M')/\Stm M' s/\Dr n ((j+1:Nat):Int) 0 us'/\us'.length<=tri (j+1):=by
 have t8:=XH (j:=j) (by omega);obtain⟨us1,g,g',M1,e1,h1,d1,l1⟩:=inner (s:=s) (n:=n) (c:=c) (j:=(j:Int)) hj j 0 us g5 g6 M (by omega) (by omega) h d (by omega);have d2:Dr n ((j+1:Nat):Int) 0 us1:=⟨fun t ht=>⟨(d1.ok t ht).1,by have:=(d1.ok t ht).2;omega⟩,d1.nd⟩;refine⟨us1,g,g',M1,?_,h1,d2,by rw[FB];omega⟩;exact HW (by omega) (by omega) (by rw[Int.toNat_natCast];exact e1)
theorem outer{c:Int}(n9:n<=9)(m:Nat):∀(j:Nat)(us:List Tie)(g4 g5 g6:Option CD)(M:Sto),((j+m:Nat):Int)=n->Stm M s->Dr n j 0 us->us.length<=tri j->
 ∃us' g g' g'' M',iF (hName 4) cF (jC j m) [some (.c s),some (I n),some (I c),some (.d (.list (aO us))),g4,g5,g6] M=some (.nx [some (.c s),some (I n),some (I c),some (.d (.list (aO us'))),g,g',g''],M')/\Stm M' s/\Dr n n 0 us'/\us'.length<=tri (j+m):=by
 induction m with
 |zero=>intro j us g4 g5 g6 M hj h d l;exact⟨us,g4,g5,g6,M,rfl,h,by rwa [show((j:Nat):Int)=n by omega]at d,l⟩
 |succ m ih=>
  intro j us g4 g5 g6 M hj h d l;obtain⟨us1,g,g',M1,e1,h1,d1,l1⟩:=CJ (c:=c) (g4:=g4) (g5:=g5) (g6:=g6) n9 (j:=j) (us:=us) (M:=M) (by omega) h d l;obtain⟨us2,q1,q2,q3,M2,e2,h2,d2,l2⟩:=ih (j+1) us1 (some (I j)) g g' M1 (by omega) h1 d1 l1;refine⟨us2,q1,q2,q3,M2,?_,h2,d2,by rwa [show j+(m+1)=j+1+m by omega]⟩;rw[wL,show((j:Nat):Int)+1=((j+1:Nat):Int)by omega];unfold iF;rw[show hName 4 (I j) [some (.c s),some (I n),some (I c),some (.d (.list (aO us))),g4,g5,g6] M=some ([some (.c s),some (I n),some (I c),some (.d (.list (aO us))),some (I j),g5,g6],M)from rfl,A2,e1,A2];exact e2
theorem tF(h:Stm M s)(n1:1<=n)(n9:n<=9):∃us M',cV [.c s,I n] M=some (.d (.list (aO us)),M')/\Stm M' s/\Ok n us/\us.length<=36:=by
 obtain⟨c,M1,e1,c0,c1,m1⟩:=cZ (m:=5) h (by decide) (by decide);obtain⟨us,g,g',g'',M2,e2,h2,d2,l2⟩:=outer (s:=s) (n:=n) (c:=c) n9 n.toNat 0 [] none none none M1 (by omega) (m1.stm h) ⟨fun t ht=>(by cases ht),J8⟩ (A4 _);have e2:iF (hName 4) cF (jC 0 n.toNat) [some (.c s),some (I n),some (I c),some (.d (.list [])),none,none,none] M1=_:=e2
 have t9:tri (0+n.toNat)<=36:=by
  obtain⟨k,hk⟩:∃k,n.toNat=k:=⟨_,rfl⟩;rw[hk];have:k=0\/k=1\/k=2\/k=3\/k=4\/k=5\/k=6\/k=7\/k=8\/k=9:=by omega
  rcases this with rfl|rfl|rfl|rfl|rfl|rfl|rfl|rfl|rfl|rfl<;>decide
 refine⟨us,M2,?_,h2,⟨fun t ht=>(d2.ok t ht).1,d2.nd,by omega⟩,by omega⟩
 have sm:fU n=true:=by
  simp only[fU,Bool.and_eq_true,decide_eq_true_eq];omega
 have z0:(0:Nat)<=sizeLine:=C6 _;simp![cV,iC,rV,kI,e1,z0,sm,e2]
noncomputable def Sml(t:Tie):Prop:=t.i.natAbs<2 ^ 200/\t.j.natAbs<2 ^ 200/\t.a.natAbs<2 ^ 200/\t.b.natAbs<2 ^ 200
theorem GG{us:List Tie}(ok:Ok n us)(n40:n<=40):∀t∈us,Sml t:=fun t ht=>by
 obtain⟨h1,h2,h3,h4⟩:=ok.1 t ht;obtain⟨a0,a1,b0,b1⟩:=EM (DE h1);exact⟨by omega,by omega,by omega,by omega⟩
theorem DR{q w:PyData}(hp:Fit 4100 1 p)(hq:Fit 4100 1 q)(hw:Fit 4100 1 w):Fit 30000 4 (.tuple [p,q,w]):=
 (Fit.tuple (w:=4100) (m:=1) (k:=3) (ds:=[p,q,w]) (fun d hd=>by
  simp only[List.mem_cons,List.not_mem_nil,or_false]at hd;rcases hd with rfl|rfl|rfl
  .exact hp
  .exact hq
  .exact hw) (A4 _)).mono (by decide) (by decide)
theorem oJ{i:Int}(h:i.natAbs<2 ^ 200):Fit 4100 1 (.int i):=(Fit.int (cH h)).mono (by decide) (by decide)
theorem RO(h:Sml t):Row 3 (f2 t):=⟨fun d hd=>by
 unfold f2 at hd;simp only[List.mem_cons,List.not_mem_nil,or_false]at hd;rcases hd with rfl|rfl|rfl
 .exact oJ h.1
 .exact oJ h.2.1
 .exact cB h.2.2.1 h.2.2.2,A4 _⟩
theorem PD(h:Sml t):Fit 30000 4 (.tuple (f2 t)):=DR (oJ h.1) (oJ h.2.1) (cB h.2.2.1 h.2.2.2)
noncomputable def IR:List PyData:=[(.tuple [(.int 1000001),(.int 1)]),(.tuple [(.int 1),(.int 16)]),(.tuple [(.int 1),(.int 55440)]),(.tuple [(.int 1),(.int 13)]),(.tuple [(.int 2),(.int 2)]),(.tuple [(.int 0),(.int 2)]),(.tuple [(.int (-1)),(.int 1)]),(.tuple [(.bool true),(.int 1)]),(.int 1)]
theorem OA(γ:Ga)(M:Sto):eK γ M=some (.d (.list IR),M):=rfl
theorem EB:∀d∈IR,Fit 4100 1 d:=by
 intro d hd;unfold IR at hd;simp only[List.mem_cons,List.not_mem_nil,or_false]at hd;rcases hd with rfl|rfl|rfl|rfl|rfl|rfl|rfl|rfl|rfl
 .exact cB (by decide) (by decide)
 .exact cB (by decide) (by decide)
 .exact cB (by decide) (by decide)
 .exact cB (by decide) (by decide)
 .exact cB (by decide) (by decide)
 .exact cB (by decide) (by decide)
 .exact cB (by decide) (by decide)
 .refine(Fit.tuple (w:=2000) (m:=0) (k:=2) (ds:=[.bool true,.int 1]) (fun d hd=>?_) (A4 _)).mono (by decide) (A4 _);simp only[List.mem_cons,List.not_mem_nil,or_false]at hd;rcases hd with rfl|rfl
  .exact⟨rfl,by decide,by decide⟩
  .exact Fit.int (cH (by decide))
 .exact oJ (by decide)
noncomputable def gS:SF:=(aY (bW (aI aQ (aB (aE 0) (aB (fC (.int 6)) aH))) (hName 5))
 (aY (sIf (gB (fOp (eqX false) (aE 5) (fC (.int 0))))
  (bG (aI dP (aB (aE 0) (aB (aE 4) aH))))
  bO)
 (aY (sIf (gB (fOp (eqX false) (aE 5) (fC (.int 1))))
  (bG (cX (aB (fOp ixF (aE 4) (fC (.int 1))) (aB (fOp ixF (aE 4) (fC (.int 0))) (aB (fOp ixF (aE 4) (fC (.int 2))) aH)))))
  bO)
 (aY (sIf (gB (fOp (eqX false) (aE 5) (fC (.int 2))))
  (bG (cX (aB (fOp ixF (aE 4) (fC (.int 0))) (aB (fOp ixF (aE 4) (fC (.int 1))) (aB (aI bT (aB (aE 0) aH)) aH)))))
  bO)
 (aY (sIf (gB (fOp (eqX false) (aE 5) (fC (.int 3))))
  (bG (cX (aB (fOp ixF (aE 4) (fC (.int 0))) (aB (aE 2) (aB (fOp ixF (aE 4) (fC (.int 2))) aH)))))
  bO)
 (aY (sIf (gB (fOp (eqX false) (aE 5) (fC (.int 4))))
  (aY (bW eK (hName 6))
 (bG (cX (aB (fOp ixF (aE 4) (fC (.int 0))) (aB (fOp ixF (aE 4) (fC (.int 1))) (aB (aI cW (aB (aE 0) (aB (aE 6) aH))) aH))))))
  bO)
 (bG (aI (cT 4) (aB (aE 0) (aB (aE 1) (aB (fC (.int 2)) aH)))))))))))
theorem FK:fG=aY (bW eG (hName 4)) (aY (sIf (gB (fOp (eqX true) (aE 3) (gJ aH))) (bW (aI cW (aB (aE 0) (aB (aE 3) aH))) (hName 4)) bO) gS):=rfl
theorem HR(t:Tie)(M:Sto):ixF (.d (.tuple (f2 t))) (I 0) M=some (I t.i,M)/\ixF (.d (.tuple (f2 t))) (I 1) M=some (I t.j,M)/\ixF (.d (.tuple (f2 t))) (I 2) M=some (T2 t.a t.b,M):=⟨rfl,rfl,rfl⟩
theorem vT{ns:List Int}{x:CD}(h:Stm M i)(ht:Sml t)(n0:0<=n)(n40:n<=40):
 ∃d M',gS [some (.c i),some (Sc ns),some (I n),some x,some (.d (.tuple (f2 t))),none,none] M=some (.rt (.d d),M')/\Fit 30000 4 d/\Stm M' i:=by
 obtain⟨c,M1,e1,c0,c1,n1⟩:=cZ (m:=6) h (by decide) (by decide);have s1:=n1.stm h;have fn:Fit 4100 1 (.int n):=oJ (by omega);cases q0:(c==0)with
 |true=>
  obtain⟨es,M2,e2,r2,n2⟩:=OV s1 (RO ht) (Nat.succ_pos 2) (by decide);refine⟨.tuple es,M2,?_,(Fit.tuple r2.fit r2.len).mono (by decide) (by decide),n2.stm s1⟩;simp![gS,e1,nY,q0,e2]
 |false=>
  cases q1:(c==1)with
  |true=>
   obtain⟨x0,x1,x2⟩:=HR t M1;refine⟨.tuple [.int t.j,.int t.i,.tuple [.int t.a,.int t.b]],M1,?_,DR (oJ ht.2.1) (oJ ht.1) (cB ht.2.2.1 ht.2.2.2),s1⟩;simp![gS,e1,nY,q0,q1,x0,x1,x2,if_pos z3,Nat.zero_add]
  |false=>
   cases q2:(c==2)with
   |true=>
    obtain⟨x0,x1,x2⟩:=HR t M1;obtain⟨a,b,M2,e2,w2,n2⟩:=vZ s1;obtain⟨a0,a1,b0,b1⟩:=EM (DE w2);refine⟨.tuple [.int t.i,.int t.j,.tuple [.int a,.int b]],M2,?_,DR (oJ ht.1) (oJ ht.2.1) (cB (by omega) (by omega)),n2.stm s1⟩;simp![gS,e1,nY,q0,q1,q2,x0,x1,e2,if_pos z3,Nat.zero_add]
   |false=>
    cases q3:(c==3)with
    |true=>
     obtain⟨x0,x1,x2⟩:=HR t M1;refine⟨.tuple [.int t.i,.int n,.tuple [.int t.a,.int t.b]],M1,?_,DR (oJ ht.1) fn (cB ht.2.2.1 ht.2.2.2),s1⟩;simp![gS,e1,nY,q0,q1,q2,q3,x0,x2,if_pos z3,Nat.zero_add]
    |false=>
     cases q4:(c==4)with
     |true=>
      obtain⟨x0,x1,x2⟩:=HR t M1;obtain⟨d,M2,e2,hd,n2⟩:=yI (ds:=IR) s1 (by decide) (by decide);refine⟨.tuple [.int t.i,.int t.j,d],M2,?_,DR (oJ ht.1) (oJ ht.2.1) (EB d hd),n2.stm s1⟩;simp![gS,e1,nY,q0,q1,q2,q3,q4,OA,x0,x1,e2,if_pos z3,Nat.zero_add]
     |false=>
      obtain⟨d,M2,e2,f2',s2⟩:=DW (ns:=ns) 4 2 (by decide) s1;refine⟨d,M2,?_,f2'.1.mono (by decide) (by decide),s2⟩;have e2:cT 4 [.c i,Sc ns,I 2] M1=some (.d d,M2):=e2;simp![gS,e1,nY,q0,q1,q2,q3,q4,e2]
theorem pF:∀us:List Tie,PyData.canLayAll0 (aO us)=true
 |[]=>rfl
 |t::us=>by show(true&&PyData.canLayAll0 (aO us))=true;rw[pF us];rfl
theorem rO:∀us:List Tie,PyData.depthAll (aO us)<=2
 |[]=>by decide
 |t::us=>by
  show max 2 (PyData.depthAll (aO us))<=2;exact Nat.max_le.mpr ⟨A4 _,rO us⟩
theorem HX(us:List Tie)(M:Sto):eqX true (.d (.list (aO us))) (.d (.list [])) M=some (B (!us.isEmpty),M):=by
 have e1:SeqAt.shaped (.list (aO us))=true:=by
  unfold SeqAt.shaped;have e2:PyData.canLay0 (.list (aO us))=true:=pF us
  have e3:PyData.depth (.list (aO us))<=64:=by
   show PyData.depthAll (aO us)+1<=64;have:=rO us;omega
  rw[e2,C3 e3];rfl
 have e2:SeqAt.shaped (.list [])=true:=rfl;show(if (SeqAt.shaped (.list (aO us))&&SeqAt.shaped (.list []))=true then some (B (!PyData.eqv (.list (aO us)) (.list [])),M)else none)=_;rw[e1,e2];cases us<;>rfl
theorem MR{ns:List Int}(h:Stm M i)(ok:Ok n us)(n1:1<=n)(n40:n<=40):
 ∃d M',bX [.c i,Sc ns,I n,.d (.list (aO us))] M=some (.d d,M')/\Fit 30000 4 d/\Stm M' i:=by
 have z0:(0:Nat)<=sizeLine:=C6 _;have ne:=HX us M;cases hu:us with
 |nil=>
  subst hu;obtain⟨d,M1,e1,f1,s1⟩:=vT (ns:=ns) (n:=n) (x:=.d (.list (aO []))) (t:=⟨0,1,1,1⟩) h ⟨by decide,by decide,by decide,by decide⟩ (by omega) n40;have e1:gS [some (.c i),some (Sc ns),some (I n),some (.d (.list (aO []))),some (.d (.tuple [(.int 0),(.int 1),(.tuple [(.int 1),(.int 1)])])),none,none] M=some (.rt (.d d),M1):=e1;refine⟨d,M1,?_,f1,s1⟩;have em:(!([]:List Tie).isEmpty)=false:=rfl;rw[em]at ne;simp![bX,FK,fX,if_pos z0,ne,e1]
 |cons t0 us'=>
  have l0:0<(aO us).length:=by rw[cO,hu];exact Nat.succ_pos _
  have l1:(aO us).length<1000:=by rw[cO];have:=ok.2.2;omega
  obtain⟨d0,M0,e0,hd0,n0⟩:=yI (ds:=aO us) h l0 l1;obtain⟨t,ht,rfl⟩:=List.mem_map.mp hd0;obtain⟨d,M1,e1,f1,s1⟩:=vT (ns:=ns) (n:=n) (x:=.d (.list (aO us))) (t:=t) (n0.stm h) (GG ok n40 t ht) (by omega) n40;have em:(!us.isEmpty)=true:=by rw[hu];rfl
  rw[em]at ne;rw[<- hu];refine⟨d,M1,?_,f1,s1⟩;simp![bX,FK,fX,if_pos z0,ne,e0,e1]
theorem qA{g:GF}{b:SF}(Inv:Ga->Sto->Prop):∀xs:List CD,(∀x∈xs,∀γ M,Inv γ M->∃γ1 M1 γ' M',g x γ M=some (γ1,M1)/\b γ1 M1=some (.nx γ',M')/\Inv γ' M')->∀γ M,Inv γ M->∃γ' M',iF g b xs γ M=some (.nx γ',M')/\Inv γ' M'
 |[]=>fun _ γ M h=>⟨γ,M,rfl,h⟩
 |x::xs=>fun hs γ M h=>by
  obtain⟨γ1,M1,γ2,M2,e1,e2,h2⟩:=hs x C2 γ M h;obtain⟨γ',M',e3,h3⟩:=qA Inv xs (fun y hy=>hs y (B7 _ hy)) γ2 M2 h2;refine⟨γ',M',?_,h3⟩;unfold iF;rw[e1,A2];dsimp only;rw[e2,A2];exact e3
theorem KM{n:Nat}(h:x∈jC lo n):∃j:Nat,j<n/\x=I (lo+j):=by
 unfold jC at h;obtain⟨j,hj,rfl⟩:=List.mem_map.mp h;exact⟨j,List.mem_range.mp hj,rfl⟩
theorem nV:∀ds:List PyData,(bQ ds).length=ds.length
 |[]=>rfl
 |d::ds=>by unfold bQ;rw[C1,C1,nV ds]
noncomputable abbrev S(x:Str):CD:=.d (.str x)
structure Nc(d:PyData):Prop where
 fit:Fit 4000000 12 d
 few:∀l,aZ d=some l->l.length<=40
theorem zB{x:PyData}(f:Fit 4000000 12 x):mM [.d x] M=some (S x.shown,M):=by
 rw[KL];exact FH f
theorem JJ(h:Nc d):∃L,fE [I n,.d d] M=some (B true,M++L):=by
 obtain⟨L,e⟩:=AN (n:=n) (d:=d) (M:=M) fun l hl=>by have:=h.few l hl;omega
 refine⟨L,?_⟩;have ea:=WH (n:=n) (d:=d) (M:=M) fun l hl=>by have:=h.few l hl;omega
 have e:bS [I n,.d d] M=some (B (xC n d),M++L):=e;have r1:=zB (M:=M) h.fit;have r2:=zB (M:=M++L) h.fit;have a1:bW (aI mM (aB (aE 1) aH)) (hName 2) [some (I n),some (.d d),none,none] M=some (.nx [some (I n),some (.d d),some (S d.shown),none],M):=rP (cU (bE (show aE 1 [some (I n),some (.d d),none,none] M=some (.d d,M)from rfl) dZ) r1);have a2:bW (aI eN (aB (aE 0) (aB (aE 1) aH))) (hName 3) [some (I n),some (.d d),some (S d.shown),none] M=some (.nx [some (I n),some (.d d),some (S d.shown),some (B (xC n d))],M):=rP (cU (bE (show aE 0 [some (I n),some (.d d),some (S d.shown),none] M=some (I n,M)from rfl) (bE (show aE 1 [some (I n),some (.d d),some (S d.shown),none] M=some (.d d,M)from rfl) dZ)) ea);obtain⟨γ,hγ⟩:∃γ,[some (I n),some (.d d),some (S d.shown),some (B (xC n d))]=γ:=⟨_,rfl⟩;have v0:∀N,aE 0 γ N=some (I n,N):=fun N=>by rw[<- hγ];rfl
 have v1:∀N,aE 1 γ N=some (.d d,N):=fun N=>by rw[<- hγ];rfl
 have v2:∀N,aE 2 γ N=some (S d.shown,N):=fun N=>by rw[<- hγ];rfl
 have v3:∀N,aE 3 γ N=some (B (xC n d),N):=fun N=>by rw[<- hγ];rfl
 have q1:pQ "bool" (aE 3) γ M=some (B true,M):=by rw[<- hγ];rfl
 have q2:=vV (k:=eqX false) (v3 M) (cU (F:=bS) (bE (v0 M) (bE (v1 M) dZ)) e) (show eqX false (B (xC n d)) (B (xC n d)) (M++L)=some (B true,M++L)by rw[XD,E7])
 have q3:=vV (k:=eqX false) (cU (F:=mM) (bE (v1 (M++L)) dZ) r2) (v2 (M++L)) (show eqX false (S d.shown) (S d.shown) (M++L)=some (B true,M++L)by
  show some (CD.d (.bool (d.shown==d.shown)),M++L)=_;rw[E7])
 refine AD rfl ?_;show gU [some (I n),some (.d d),none,none] M=_;unfold gU;rw[iZ a1,iZ a2,hγ];simp only[bG,iG,q1,q2,q3,asB,Option.bind_some,if_true]
theorem zG{us:List Tie}(ok:Ok n us)(n40:n<=40)(l:us.length<=36):(∀d∈aO us,Fit 30000 4 d)/\Nc (.list (aO us)):=by
 have fr:∀d∈aO us,Fit 30000 4 d:=fun d hd=>by
  obtain⟨t,ht,rfl⟩:=List.mem_map.mp hd;exact PD (GG ok n40 t ht)
 refine⟨fr,(Fit.list (k:=38) fr (by rw[cO];omega)).mono (by decide) (by decide),fun l e=>?_⟩;cases e;rw[cO];omega
theorem yG{ds:List PyData}(h:∀d∈ds,Fit 30000 4 d)(l:ds.length<=38):Nc (.list ds)/\Nc (.tuple ds)/\Nc (cY (.tuple ds))/\∀M,bA 6 [.d (.tuple ds)] M=some (.d (cY (.tuple ds)),M):=by
 have F1:Fit 2000000 5 (.list ds):=(Fit.list (k:=38) h l).mono (by decide) (by decide);have F2:Fit 2000000 5 (.tuple ds):=(Fit.tuple (k:=38) h l).mono (by decide) (by decide);refine⟨⟨F1.mono (by decide) (by decide),fun l e=>by cases e;omega⟩,⟨F2.mono (by decide) (by decide),fun l e=>by cases e;omega⟩,⟨(Fit.lists F2).mono (by decide) (by decide),fun l e=>?_⟩,fun M=>?_⟩
 .have e:some (bQ ds)=some l:=e;cases e;rw[nV];omega
 .exact AH M 6 (.tuple ds) (Nat.lt_of_le_of_lt F2.dp (by decide)) (C7 F2.wt (by rw[I0];decide))
theorem DO(h:Stm M i)(n1:1<=n)(n9:n<=9):∃(ds:List PyData)(M':Sto),dG [.c i,Sc ns,I n] M=some (.d (.list ds),M')/\(∀d∈ds,Nc d)/\ds.length=6/\Stm M' i:=by
 obtain⟨us,M3,e3,s3,ok,lu⟩:=tF (n:=n) h n1 n9
 have ln:gF [.d (.list (aO us))] M3=some (I us.length,M3):=by
  unfold gF;dsimp only;rw[show aZ (.list (aO us))=some (aO us)from rfl,A2,cO]
 obtain⟨p,M4,e4,p0,p1,n4⟩:=cZ (m:=(us.length:Int)+1) s3 (by omega) (by
  have:(2:Int) ^ 200=1606938044258990275541962092341162602522202993782792835301376:=by decide
  omega)
 have s4:=n4.stm s3;obtain⟨p,rfl⟩:∃z:Nat,p=(z:Int):=⟨p.toNat,by omega⟩;have pl:p<=(aO us).length:=by rw[cO];omega
 have q1:=FY pl;have q2:=vN pl;obtain⟨b1,M5,e5,f5,s5⟩:=MR (ns:=ns) s4 ok (by omega) (by omega);obtain⟨b2,M6,e6,f6,s6⟩:=MR (ns:=ns) s5 ok (by omega) (by omega);have lt:((aO us).take p).length<=us.length:=by rw[D3,cO];omega
 have ld:((aO us).drop p).length<=us.length:=by rw[E2,cO];omega
 have lo:((aO us).take p++[b1]++(aO us).drop p).length=us.length+1:=by
  rw[A9,A9,D3,E2,cO,E1];have:p<=us.length:=by omega
  omega
 have a1:dQ (.d (.list ((aO us).take p))) (.d (.list [b1])) M5=some (.d (.list ((aO us).take p++[b1])),M5):=oH (sz (by rw[A9,E1];omega));have a2:dQ (.d (.list ((aO us).take p++[b1]))) (.d (.list ((aO us).drop p))) M5=some (.d (.list ((aO us).take p++[b1]++(aO us).drop p)),M5):=oH (sz (by rw[lo];omega));obtain⟨fr,_⟩:=zG ok (by omega) lu
 have fo:∀d∈(aO us).take p++[b1]++(aO us).drop p,Fit 30000 4 d:=by
  intro d hd;rcases List.mem_append.mp hd with hd|hd
  .rcases List.mem_append.mp hd with hd|hd
   .exact fr d (L0 hd)
   .rw[List.mem_singleton.mp hd];exact f5
  .exact fr d (L1 hd)
 generalize (aO us).take p++[b1]++(aO us).drop p=one at a2 lo fo;have lo2:(one++[b2]).length=us.length+2:=by rw[A9,lo];rfl
 have a3:dQ (.d (.list one)) (.d (.list [b2])) M6=some (.d (.list (one++[b2])),M6):=oH (sz (by rw[lo2];omega))
 have ft:∀d∈one++[b2],Fit 30000 4 d:=fun d hd=>by
  rcases List.mem_append.mp hd with hd|hd
  .exact fo d hd
  .rw[List.mem_singleton.mp hd];exact f6
 generalize one++[b2]=two at a3 lo2 ft;obtain⟨c1,_,_,_⟩:=yG fo (by omega);obtain⟨_,c2,c3,l2⟩:=yG ft (by omega);have t2:∀N:Sto,eZ [.d (.list two)] N=some (.d (.tuple two),N):=fun _=>rfl;obtain⟨w,M7,e7,f7,s7⟩:=DW (ns:=ns) 4 3 (by decide) s6;have e7:cT 4 [.c i,Sc ns,I 3] M6=some (.d w,M7):=e7;refine⟨[.list one,.tuple two,cY (.tuple two),w,.int 7,.none],M7,?_,fun x hx=>?_,rfl,s7⟩
 .simp![dG,iY,fSl,cP,fZ,e3,ln,kJ,e4,slL,xB,q1,q2,e5,if_pos z1,Nat.zero_add,a1,a2,e6,a3,t2,l2,e7,if_pos z6]
 .simp only[List.mem_cons,List.not_mem_nil,or_false]at hx;rcases hx with rfl|rfl|rfl|rfl|rfl|rfl
  .exact c1
  .exact c2
  .exact c3
  .exact⟨f7.1.mono (by decide) (by decide),fun l e=>C7 (f7.2 l e) (by decide)⟩
  .exact⟨(Fit.int (cH (by decide))).mono (by decide) (by decide),fun l e=>by cases e⟩
  .exact⟨⟨rfl,by decide,by decide⟩,fun l e=>by cases e⟩
noncomputable abbrev GL(g0 g1 g2 g3 g4 g5:Option CD):Ga:=[g0,g1,g2,g3,g4,g5]
theorem NQ{r:Int}(h0:0<=r)(h1:r<6)(M:Sto):∃n,ixF (.d (.list [(.int 1),(.int 2),(.int 3),(.int 5),(.int 9),(.int 40)])) (I r) M=some (I n,M)/\1<=n/\n<=40:=by
 have cs:r=0\/r=1\/r=2\/r=3\/r=4\/r=5:=by omega
 rcases cs with rfl|rfl|rfl|rfl|rfl|rfl<;>exact⟨_,rfl,by decide,by decide⟩
theorem turn{ns:List Int}{k:Int}{g2 g3 g4 g5:Option CD}{M:Sto}(k0:0<=k)(k1:k<5):
 ∃a2 a3 a4 a5 M',pT (GL (some (Sc ns)) (some (I k)) g2 g3 g4 g5) M=some (.nx (GL (some (Sc ns)) (some (I k)) a2 a3 a4 a5),M'):=by
 obtain⟨M1,e1,s1⟩:=FL (ns:=ns) (M:=M) k0 (by omega);obtain⟨i,hi⟩:∃i,M.length=i:=⟨_,rfl⟩;rw[hi]at e1 s1;obtain⟨c,M2,e2,c0,c1,n2⟩:=cZ (m:=6) s1 (by decide) (by decide);have s2:=n2.stm s1;obtain⟨n,xn,n1,n40⟩:=NQ c0 c1 M2;have mn:∀N,oC [I n,I 9] N=some (I (if 9<n then 9 else n),N):=fun N=>rfl;obtain⟨m,hm⟩:∃m:Int,(if 9<n then 9 else n)=m:=⟨_,rfl⟩;have m1:1<=m/\m<=9:=by rw[<- hm];split<;>omega
 rw[hm]at mn;obtain⟨us,M3,e3,s3,ok,lu⟩:=tF (n:=m) s2 m1.1 m1.2;obtain⟨fr,nr⟩:=zG ok (by omega) lu;obtain⟨_,_,nl,el⟩:=yG fr (by rw[cO];omega);obtain⟨ds,M4,e4,nd,dl,s4⟩:=DO (ns:=ns) (n:=m) s3 m1.1 m1.2;have a1:bW (aI cS (aB (aE 0) (aB (aE 1) aH))) (hName 2) (GL (some (Sc ns)) (some (I k)) g2 g3 g4 g5) M=some (.nx (GL (some (Sc ns)) (some (I k)) (some (.c i)) g3 g4 g5),M1):=rP (cU (bE (show aE 0 (GL (some (Sc ns)) (some (I k)) g2 g3 g4 g5) M=some (Sc ns,M)from rfl) (bE (show aE 1 (GL (some (Sc ns)) (some (I k)) g2 g3 g4 g5) M=some (I k,M)from rfl) dZ)) e1);have a2:bW (fOp ixF uP (aI aQ (aB (aE 2) (aB (fC (.int 6)) aH)))) (hName 3) (GL (some (Sc ns)) (some (I k)) (some (.c i)) g3 g4 g5) M1=some (.nx (GL (some (Sc ns)) (some (I k)) (some (.c i)) (some (I n)) g4 g5),M2):=rP (vV (k:=ixF) (DX _ M1) (cU (F:=aQ) (bE (show aE 2 (GL (some (Sc ns)) (some (I k)) (some (.c i)) g3 g4 g5) M1=some (.c i,M1)from rfl) (bE (UR (i:=6)) dZ)) e2) xn);have mc:∀g4 N,aI oC (aB (aE 3) (aB (fC (.int 9)) aH)) (GL (some (Sc ns)) (some (I k)) (some (.c i)) (some (I n)) g4 g5) N=some (I m,N):=fun g4 N=>cU (bE (show aE 3 (GL (some (Sc ns)) (some (I k)) (some (.c i)) (some (I n)) g4 g5) N=some (I n,N)from rfl) (bE (UR (i:=9)) dZ)) (mn N);have a3:bW (aI cV (aB (aE 2) (aB (aI oC (aB (aE 3) (aB (fC (.int 9)) aH))) aH))) (hName 4) (GL (some (Sc ns)) (some (I k)) (some (.c i)) (some (I n)) g4 g5) M2=some (.nx (GL (some (Sc ns)) (some (I k)) (some (.c i)) (some (I n)) (some (.d (.list (aO us)))) g5),M3):=rP (cU (bE (show aE 2 (GL (some (Sc ns)) (some (I k)) (some (.c i)) (some (I n)) g4 g5) M2=some (.c i,M2)from rfl) (bE (mc g4 M2) dZ)) e3);have v4:∀N,aE 4 (GL (some (Sc ns)) (some (I k)) (some (.c i)) (some (I n)) (some (.d (.list (aO us)))) g5) N=some (.d (.list (aO us)),N):=fun _=>rfl
 have l1:gJ (aB (aE 4) (aB (aI (bA 6) (aB (aI eZ (aB (aE 4) aH)) aH)) aH)) (GL (some (Sc ns)) (some (I k)) (some (.c i)) (some (I n)) (some (.d (.list (aO us)))) g5) M3=some (.d (.list [.list (aO us),cY (.tuple (aO us))]),M3):=by
  unfold gJ;rw[bE (v4 M3) (bE (cU (F:=bA 6) (bE (cU (F:=eZ) (bE (v4 M3) dZ) (show eZ [.d (.list (aO us))] M3=some (.d (.tuple (aO us)),M3)from rfl)) dZ) (el M3)) dZ),A2];show(some [PyData.list (aO us),cY (.tuple (aO us))]).bind _=_;rw[A2];exact A6 (sz (show(2:Nat)<=1000 by decide))
 have th:=cU (F:=dG) (bE (show aE 2 (GL (some (Sc ns)) (some (I k)) (some (.c i)) (some (I n)) (some (.d (.list (aO us)))) g5) M3=some (.c i,M3)from rfl) (bE (show aE 0 (GL (some (Sc ns)) (some (I k)) (some (.c i)) (some (I n)) (some (.d (.list (aO us)))) g5) M3=some (Sc ns,M3)from rfl) (bE (mc _ M3) dZ))) e4;have ad:=vV (k:=dQ) l1 th (oH (sz (by rw[A9,dl];show 2+6<=1000;decide)))
 have it:fJ (fOp dQ (gJ (aB (aE 4) (aB (aI (bA 6) (aB (aI eZ (aB (aE 4) aH)) aH)) aH))) (aI dG (aB (aE 2) (aB (aE 0) (aB (aI oC (aB (aE 3) (aB (fC (.int 9)) aH))) aH))))) (GL (some (Sc ns)) (some (I k)) (some (.c i)) (some (I n)) (some (.d (.list (aO us)))) g5) M3=some (([.list (aO us),cY (.tuple (aO us))]++ds).map .d,M4):=by
  unfold fJ;rw[ad,A2];rfl
 have nc:∀d∈[.list (aO us),cY (.tuple (aO us))]++ds,Nc d:=fun d hd=>by
  rcases List.mem_append.mp hd with z|z
  .simp only[List.mem_cons,List.not_mem_nil,or_false]at z;rcases z with rfl|rfl
   .exact nr
   .exact nl
  .exact nd d z
 obtain⟨γ',M5,e5,h5,rfl⟩:=qA (g:=hName 5) (b:=uL) (fun γ _=>∃h,γ=GL (some (Sc ns)) (some (I k)) (some (.c i)) (some (I n)) (some (.d (.list (aO us)))) h) (([.list (aO us),cY (.tuple (aO us))]++ds).map .d) (fun x hx γ N hI=>by
  obtain⟨h,rfl⟩:=hI;obtain⟨d,hd,rfl⟩:=List.mem_map.mp hx;obtain⟨L,e⟩:=JJ (n:=n) (M:=N) (nc d hd);refine⟨_,N,GL (some (Sc ns)) (some (I k)) (some (.c i)) (some (I n)) (some (.d (.list (aO us)))) (some (.d d)),N++L,rfl,?_,_,rfl⟩;unfold uL;refine(LS (M':=N++L) ?_).trans rfl;have t:=DP (cU (F:=fE) (bE (show aE 3 (GL (some (Sc ns)) (some (I k)) (some (.c i)) (some (I n)) (some (.d (.list (aO us)))) (some (.d d))) N=some (I n,N)from rfl) (bE (show aE 5 (GL (some (Sc ns)) (some (I k)) (some (.c i)) (some (I n)) (some (.d (.list (aO us)))) (some (.d d))) N=some (.d d,N)from rfl) dZ)) e);unfold iH;show((gB (aI fE (aB (aE 3) (aB (aE 5) aH))) (GL (some (Sc ns)) (some (I k)) (some (.c i)) (some (I n)) (some (.d (.list (aO us)))) (some (.d d))) N).bind _)=_;rw[t];rfl) (GL (some (Sc ns)) (some (I k)) (some (.c i)) (some (I n)) (some (.d (.list (aO us)))) g5) M4 ⟨_,rfl⟩
 refine⟨some (.c i),some (I n),some (.d (.list (aO us))),h5,M5,?_⟩;unfold pT;rw[iZ a1,iZ a2,iZ a3];exact tT it e5
theorem main(ns:List Int)(hl:ns.length<=63):∃M',F_law [.d (.list (ns.map .int))] []=some (.d (.bool true),M'):=by
 obtain⟨γ2,M2,e2,_⟩:=qA (g:=hName 1) (b:=pT) (fun γ _=>∃a1 a2 a3 a4 a5,γ=GL (some (Sc ns)) a1 a2 a3 a4 a5) (jC 0 5) (fun x hx γ N hI=>by
  obtain⟨a1,a2,a3,a4,a5,rfl⟩:=hI;obtain⟨j,hj,rfl⟩:=KM hx;obtain⟨b2,b3,b4,b5,M',e⟩:=turn (ns:=ns) (k:=0+(j:Int)) (g2:=a2) (g3:=a3) (g4:=a4) (g5:=a5) (M:=N) (by omega) (by omega);exact⟨_,N,_,M',rfl,e,_,_,_,_,_,rfl⟩) (GL (some (Sc ns)) none none none none none) [] ⟨_,_,_,_,_,rfl⟩
 have rg:kI (aB (fC (.int 5)) aH) (GL (some (Sc ns)) none none none none none) []=some (jC 0 5,[]):=rfl;refine⟨M2,AD rfl ?_⟩;show zX (GL (some (Sc ns)) none none none none none) []=_;unfold zX;rw[iZ (tT rg e2)];rfl
end Q63
end
end
open PySem PySem.W PyProof.Rows
set_option maxRecDepth 100000 in
set_option maxHeartbeats 0 in
theorem PySem.Challenge.cw_cutstree_k63_demands_told_holds : PySem.Challenge.rw_cutstree_k63_demands_told.Holds := by
 refine Q63.k_top ?_
 k_fill
 refine L2.law_walk (l:=PySem.Challenge.rw_cutstree_k63_demands_told) (F:=Q63.F_law) (k:=10) (p:="_law_script") (by decide +kernel) rfl rfl ⟨fun _=>rfl,by decide,by decide,rfl⟩ (fun w h Y=>PySem.W.kIn_of Y) ?T Q63.main
 case T=>
  intro w mg h KX G;refine Q63.fn_law (K:=_) (mg:=mg) ?TT
  refine' Q63.txt_mk KX G ?v0 ?v1 ?v2 ?v3 ?v4 ?v5 ?v6 ?v7 ?v8 ?v9 ?v10 ?v11 ?v12 ?v13 ?v14 ?v15 ?v16 ?v17 ?v18 ?v19 ?v20 ?v21 ?v22 ?v23 ?v24 ?v25 ?v26 ?v27 ?v28 ?v29 ?v30 ?v31 ?v32 ?v33 ?v34 ?v35 ?v36 ?v37 ?v38 ?v39 ?v40 ?v41 ?v42 ?v43
  (case v0|v1|v2|v3|v4|v5|v6|v7|v8|v9|v10|v11|v12|v13=>k_is)
  (case v14|v15|v16|v17|v18|v19|v20|v21|v22|v23|v24|v25|v26|v27|v28|v29|v30|v31|v32|v33|v34|v35|v36|v37|v38|v39|v40|v41|v42|v43=>exact L2.def_mk KX G (by k_is) (by k_is) (by k_is) (by k_is))