import PyProof.Rows.All
import OpenK.KLine
import OpenK.KWalk
import OpenK.KMore
import OpenK.KOwn
import OpenK.KRaise
import KE.KSortTup
import PyProof.EqAt
import PyProof.EqKinds
import PyProof.TupleCall
import PyProof.ReprLen
import KE.KIsAll
import PyProof.ExcArgsOwn
import PyProof.NsDelKeeps
import KE.KTryMore
import PyProof.InstStoreFacts
import PyProof.ExcInit
import PyProof.ExcClass2
import PyProof.Rows.ListMul
import PyProof.Draws
import PyProof.EnumMake
import PyProof.Rows.EnumRows
import KE.KItemsList
import PyProof.DictCompW
import PyProof.ListRange
import PyProof.ZipIter
import PyProof.AttrMissHeap
import KE.KDictOf
import KE.KUnpack
import PyProof.SetKind
import PyProof.Rows.SetFrom
import PySem.Challenge.RW_cutstree_k68_shown
set_option Elab.async false
section
set_option maxRecDepth 100000
set_option maxHeartbeats 0
namespace Q68
open PySem
noncomputable def qv:Program:={ PySem.Challenge.rw_cutstree_k68_shown.prog with main:={ PySem.Challenge.rw_cutstree_k68_shown.prog.main with body:=(((((((PySem.Challenge.rw_cutstree_k68_shown.prog.main.body.eraseIdx 32).eraseIdx 25).eraseIdx 23).eraseIdx 18).eraseIdx 11).eraseIdx 4).eraseIdx 0) } }
end Q68
open PySem PySem.W PyProof.Rows
local macro_rules | `(tactic| o_head $H) => `(tactic| (
 refine holds_open (r:=PySem.Challenge.rw_cutstree_k68_shown.row) (q:=Q68.qv) (loose:=[]) (Xt:=fun s=>xlAt Q68.qv [] s&&recOk (RowW.records (OpenRow.toRowW PySem.Challenge.rw_cutstree_k68_shown.row)) s) (XP:=XL Q68.qv []) (Yf:=Hook.obs $H) (Ya:=Hook.val $H) (YP:=Hook.says $H) (N:=6100) ?hl (Hook.of $H) (Hook.keeps $H) (fun s e=>xl_of s (Bool.and_eq_true_iff.mp e).1) XL.keeps (by rfl) (by rfl) (by rfl) (fun s e=>recFacts_of (Bool.and_eq_true_iff.mp e).2) (by rfl) (by first|assumption|decide +kernel) (by decide +kernel) ⟨rfl,rfl,rfl,rfl,rfl,by decide +kernel⟩ ?hw ?hc
 (case hl=>intro w;kernel_rfl)))
open_top Q68.k_top for PySem.Challenge.rw_cutstree_k68_shown
end
section
set_option linter.all false
set_option maxRecDepth 100000
set_option maxHeartbeats 4000000
noncomputable abbrev Fg:=PySem.W.Frag
noncomputable section
abbrev A0:=@PySem.wpAny_bind
abbrev A1:=@List.length_map
abbrev A2:=@Option.bind_some
abbrev A3:=@PySem.Heap.get?_push_of_some
abbrev A4:=@if_pos
abbrev A5:=@if_neg
abbrev A6:=@PySem.wpAny_pure
abbrev A7:=@Bool.false_ne_true
abbrev A8:=@PySem.Heap.lt_size
abbrev A9:=@Nat.le_refl
abbrev B0:=@Bool.and_eq_true
abbrev B1:=@List.mem_cons_of_mem
abbrev B2:=@PySem.Heap.get?_push_size
abbrev B3:=@List.mem_cons_self
abbrev B4:=@Nat.ne_of_lt
abbrev B5:=@Nat.lt_of_lt_of_le
abbrev B6:=@Int.emod_lt_of_pos
abbrev B7:=@List.size_toArray
abbrev B8:=@List.length_append
abbrev B9:=@List.getElem?_eq_getElem
abbrev C0:=@List.map_cons
abbrev C1:=@Int.emod_nonneg
abbrev C2:=@List.mem_append_right
abbrev C3:=@of_decide_eq_true
abbrev C4:=@Nat.le_trans
abbrev C5:=@List.length_cons
abbrev C6:=@decide_eq_false
abbrev C7:=@PySem.wpAny_newObj_type
abbrev C8:=@decide_eq_true
abbrev C9:=@List.lookup_cons
abbrev D0:=@Option.some.inj
abbrev D1:=@List.getD_eq_getElem?_getD
abbrev D2:=@List.getElem?_map
abbrev D3:=@PySem.W.mg_none_of
abbrev D4:=@Array.getD_eq_getD_getElem?
abbrev D5:=@List.map_map
abbrev D6:=@PySem.wpAny_mono
abbrev D7:=@List.getElem?_append_right
abbrev D8:=@of_decide_eq_false
abbrev D9:=@List.getElem?_set_self
abbrev E1:=@PySem.mem_of_lookup
abbrev E2:=@List.length_singleton
abbrev E3:=@PySem.wpAny_holding
abbrev E4:=@List.map_append
abbrev E5:=@Array.getElem?_toList
abbrev E6:=@Nat.lt_succ_self
abbrev E7:=@PySem.sizeLine_eq
abbrev E8:=@Nat.ne_of_gt
abbrev E9:=@PySem.Heap.get?_update_self
abbrev F0:=@PySem.wpAny_call_entry
abbrev F4:=@List.reverse_cons
abbrev F5:=@Ne.symm
abbrev F6:=@Nat.lt_trans
abbrev F7:=@Nat.lt_irrefl
abbrev F8:=@Nat.zero_le
abbrev F9:=@PySem.PassesOwn.never
abbrev I0:=@PySem.wpAny_field
abbrev J0:=@List.getElem?_set_ne
abbrev J1:=@List.filterMap_cons
abbrev J2:=@List.length_reverse
abbrev J3:=@PySem.wpAny_truthy_bool
abbrev J4:=@List.append_nil
abbrev J5:=@PySem.wpAny_callSpecial?_slot
abbrev J6:=@List.length_filter_le
abbrev J7:=@Int.toNat_natCast
abbrev J8:=@PySem.Heap.get?_update_other
abbrev J9:=@PySem.wpAny_setField_rec
abbrev L0:=@List.mem_append_left
abbrev L1:=@PySem.wpAny_passesOwn
abbrev L3:=@PySem.F.plain_extend_loop
abbrev L4:=@Array.length_toList
abbrev L5:=@congrArg
abbrev L6:=@PySem.Heap.size_push
abbrev L7:=@List.any_cons
abbrev L8:=@PySem.F.slot_tuple_iterator_next
abbrev L9:=@List.length_set
abbrev O0:=@PySem.Str.empty_append
abbrev O1:=@PySem.Heap.SameBut.update
abbrev O2:=@Nat.le_of_lt
abbrev O3:=@List.append_assoc
abbrev O4:=@Nat.sub_self
abbrev O5:=@PySem.wpAny_loadPart'
abbrev O6:=@PySem.wpAny_Call_Name_kw
abbrev O7:=@List.getElem?_eq_none
abbrev O8:=@List.getElem_mem
abbrev O9:=@Bool.eq_iff_iff
abbrev S0:=@PyProof.Rows.boot_tuple
abbrev S1:=@List.map_congr_left
abbrev S2:=@PyProof.Rows.callWith_type1
abbrev S3:=@PySem.wpAny_typeNameOfWhole_itemiter
abbrev S4:=@PySem.Paired.length
abbrev S5:=@PySem.wpAny_standAt
abbrev S6:=@PySem.PyData.eqvAll.eq_def
abbrev S7:=@PySem.wpAny_typeNameOfWhole_keyiter
abbrev S8:=@PySem.wpAny_pyIter_tuple
abbrev S9:=@PySem.wpAny_setField
abbrev U0:=@PySem.Obj.data_mapFields
abbrev U1:=@PyProof.Rows.boot_str
namespace L2
variable{H:Hp}{s:Shared}{A:Around}{σ:St}{K:Fg}{pos:Pos}
open PySem PySem.Spec PyProof.Rows
noncomputable abbrev Key:=Sum Int Str
noncomputable def uE:Key->Value->Bool
 |.inl k,v=>Value.isInt k v
 |.inr x,v=>Value.isStrOf x v
noncomputable def aDs(w:World):Key->Int
 |.inl k=>hashInt k
 |.inr x=>hashStr w x
theorem cC:∀{k:Key}{v:Value},uE k v=true->(∃i t,k=Sum.inl i/\v=Value.int i t)\/(∃x t,k=Sum.inr x/\v=Value.str x t)
 |.inl i,v=>fun h=>by
  obtain⟨t,e⟩:=Value.isInt_shape (k:=i) (v:=v) h;exact .inl ⟨i,t,rfl,e⟩
 |.inr x,v=>fun h=>by
  obtain⟨t,e⟩:=Value.isStrOf_shape (x:=x) (v:=v) h;exact .inr ⟨x,t,rfl,e⟩
theorem JI(i:Int)(t:Tok):uE (.inl i) (.int i t)=true:=by simp[uE,Value.isInt]
theorem IA(x:Str)(t:Tok):uE (.inr x) (.str x t)=true:=by simp[uE,Value.isStrOf]
theorem aAv(a b:Int):decide ((Sum.inl a:Key)=Sum.inl b)=(a==b):=by
 by_cases e:a=b
 .subst e;simp
 .have h:¬(Sum.inl a:Key)=Sum.inl b:=fun q=>e (Sum.inl.inj q);rw[C6 h];exact(beq_eq_false_iff_ne.mpr e).symm
theorem aAR(a b:Str):decide ((Sum.inr a:Key)=Sum.inr b)=decide (a=b):=by
 by_cases e:a=b
 .subst e;simp
 .have h:¬(Sum.inr a:Key)=Sum.inr b:=fun q=>e (Sum.inr.inj q);rw[C6 h,C6 e]
theorem aAK(a:Int)(b:Str):decide ((Sum.inl a:Key)=Sum.inr b)=false:=C6 (fun q=>nomatch q)
theorem aAq(a:Str)(b:Int):decide ((Sum.inr a:Key)=Sum.inl b)=false:=C6 (fun q=>nomatch q)
noncomputable def cV(prog:Program)(w:World):PySem.KeyKind prog w Key where
 is:=uE
 hash:=aDs w
 inj:=fun v a b ha hb=>by
  rcases cC ha with⟨i,t,rfl,rfl⟩|⟨x,t,rfl,rfl⟩
  .rcases cC hb with⟨j,u,rfl,e⟩|⟨y,u,rfl,e⟩
   .injection e with e1 _;rw[e1]
   .exact nomatch e
  .rcases cC hb with⟨j,u,rfl,e⟩|⟨y,u,rfl,e⟩
   .exact nomatch e
   .injection e with e1 _;rw[e1]
 byValue:=fun k v h=>by
  rcases cC h with⟨i,t,rfl,rfl⟩|⟨x,t,rfl,rfl⟩<;>rfl
 pyHash:=fun hv h=>by
  rcases cC hv with⟨i,t,rfl,rfl⟩|⟨x,t,rfl,rfl⟩
  .exact wpAny_pyHash_int h
  .exact wpAny_pyHash_str h
 eqBool:=fun hu hv h=>by
  rcases cC hu with⟨i,t,rfl,rfl⟩|⟨x,t,rfl,rfl⟩
  .rcases cC hv with⟨j,u,rfl,rfl⟩|⟨y,u,rfl,rfl⟩
   .rw[aAv]at h;exact wpAny_eqBool_int h
   .rw[aAK]at h;exact SeqAt.EqAt.int_str i t y u _ _ _ _ h
  .rcases cC hv with⟨j,u,rfl,rfl⟩|⟨y,u,rfl,rfl⟩
   .rw[aAq]at h;exact SeqAt.EqAt.str_int x t j u _ _ _ _ h
   .rw[aAR]at h;exact wpAny_eqBool_str h
 «strs»:=fun k x t v h=>by
  rcases cC h with⟨i,u,rfl,e⟩|⟨y,u,rfl,e⟩
  .exact nomatch e
  .injection e with e1 _
   subst e1;cases v<;>rfl
theorem CY(prog:Program)(w:World)(i:Int)(t:Tok):(cV prog w).is (.inl i) (.int i t)=true:=JI i t
theorem BU(prog:Program)(w:World)(x:Str)(t:Tok):(cV prog w).is (.inr x) (.str x t)=true:=IA x t
inductive V where
 |non|bl (b:Bool)|int (i:Int)|str (x:Str)|byt (b:Array UInt8)|flt (b:UInt64)|ref (a:Addr)|ty (n:String)
 deriving DecidableEq
noncomputable def RelV:V->Value->Prop
 |.non,u=>u=Value.none
 |.bl b,u=>u=Value.bool b
 |.int i,u=>∃t,u=Value.int i t
 |.str x,u=>∃t,u=Value.str x t
 |.byt b,u=>∃t,u=Value.bytes b t
 |.flt b,u=>∃t,u=Value.float b t
 |.ref a,u=>u=Value.ref a
 |.ty n,u=>u=Value.type n
noncomputable abbrev aZ:List V->List Value->Prop:=Paired RelV
theorem aZ.length{xs:List V}{us:List Value}(r:aZ xs us):xs.length=us.length:=S4 r
theorem aZ.get:∀{xs:List V}{us:List Value}{i:Nat}{x:V},aZ xs us->xs[i]?=some x->∃u,us[i]?=some u/\RelV x u
 |_,_,_,_,.nil=>fun e=>by simp at e
 |_,_,0,_,.cons r _=>fun e=>by simp at e;subst e;exact⟨_,rfl,r⟩
 |_,_,i+1,x,.cons _ t=>fun e=>by
  obtain⟨u,h1,h2⟩:=aZ.get (i:=i) (x:=x) t (by simpa using e);exact⟨u,by simpa using h1,h2⟩
theorem aZ.set{x:V}{u:Value}(r:RelV x u):∀{xs:List V}{us:List Value}(i:Nat),aZ xs us->aZ (xs.set i x) (us.set i u)
 |_,_,_,.nil=>.nil
 |_,_,0,.cons _ t=>.cons r t
 |_,_,i+1,.cons q t=>.cons q (aZ.set r i t)
theorem aZ.append:∀{xs ys:List V}{us ws:List Value},aZ xs us->aZ ys ws->aZ (xs++ys) (us++ws)
 |_,_,_,_,.nil=>fun s=>s
 |_,_,_,_,.cons r t=>fun s=>.cons r (aZ.append t s)
theorem aZ.take:∀{xs:List V}{us:List Value}(n:Nat),aZ xs us->aZ (xs.take n) (us.take n)
 |_,_,0,_=>.nil
 |_,_,_+1,.nil=>.nil
 |_,_,n+1,.cons r t=>.cons r (aZ.take n t)
theorem aZ.drop:∀{xs:List V}{us:List Value}(n:Nat),aZ xs us->aZ (xs.drop n) (us.drop n)
 |_,_,0,r=>r
 |_,_,_+1,.nil=>.nil
 |_,_,n+1,.cons _ t=>aZ.drop n t
noncomputable def sU:Option V->Option Value->Prop
 |some v,some u=>RelV v u
 |none,none=>True
 |_,_=>False
noncomputable def KV{κ:Type}:List (κ×V)->List (κ×Value)->Prop:=Paired fun(p:κ×V)(q:κ×Value)=>p.1=q.1/\RelV p.2 q.2
noncomputable def kV:Key->V
 |.inl i=>.int i
 |.inr x=>.str x
inductive HO where
 |lst (xs:List V)
 |tup (xs:List V)
 |dK (kvs:List (Key×V))|dT (kvs:List (List Key×V))
 |set (S:Int->Bool) (n:Nat)
 |ins (C dx:Addr) (fs:List (Str×V))
 |own (x:Addr)
 |xd (fs:List (Str×V))
 |met (f x:Addr)
 |rng (lo hi:Int)
 |frz (o:Obj) (u:HO)
 |tbl (ps:Array Value)
 |ext (φ:Heap->Prop)
noncomputable abbrev Hp:=Addr->Option HO
noncomputable def upd(H:Hp)(a:Addr)(o:HO):Hp:=fun b=>if b=a then some o else H b
theorem aU{a:Addr}{o:HO}:upd H a o a=some o:=by unfold upd;rw[A4 rfl]
theorem aM{a b:Addr}{o:HO}(h:b≠a):upd H a o b=H b:=by unfold upd;rw[A5 h]
theorem WK{a b:Addr}{o u:HO}(h:H a=some o)(h':H b=some u)(d:o≠u):a≠b:=by
 intro e;subst e;rw[h]at h';exact d (D0 h')
theorem aO{a b:Addr}{o:HO}(h:H a=some o)(h':H b=none):a≠b:=by
 intro e;subst e;rw[h]at h';cases h'
section
variable(P:Program)(w:World)
noncomputable def cE(H:Hp)(h:Heap)(a:Addr):HO->Prop
 |.lst xs=>xs.length<=sizeLine/\∃(its:List Value)(n:Nat),aZ xs its/\h.get? a=some { cls:=.type "list",data:=.seq its.toArray n }
 |.tup xs=>xs.length<=sizeLine/\∃its:List Value,aZ xs its/\IsTup h a its.toArray
 |.dK kvs=>kvs.length<=sizeLine/\(a==sysModules)=false/\∃vs,KV kvs vs/\h.DictOf (cV P w) a vs
 |.dT kvs=>kvs.length<=sizeLine/\(a==sysModules)=false/\∃xs:List (List Key×Addr×Value),
  Paired (fun(p:List Key×V)(q:List Key×Addr×Value)=>p.1=q.1/\H q.2.1=some (.tup (p.1.map kV))/\RelV p.2 q.2.2) kvs xs /\
  ∃o es ep,h.get? a=some o/\o.ExactDict/\o.data=.dict es ep/\es.toList=xs.map (entryOfKey (tupleKind (cV P w)))/\(xs.map (·.1)).Nodup
 |.set S n=>h.SetOf (intKind P w) a S n
 |.ins C dx fs=>H dx=some (.own a)/\fs.length<=1000/\dx≠a/\h.get? a=some (PySem.W.instObj C dx) /\
  ∃mA,h.Ns1 dx mA/\(∀f,sU (fs.lookup f) (mA f))/\PySem.Within mA (fs.map (·.1))
 |.own _=>∃o,h.get? a=some o
 |.xd fs=>∃mA,h.Ns1 a mA/\∀f,sU (fs.lookup f) (mA f)
 |.rng lo hi=>∃t u v,h.get? a=some { cls:=.type "range",data:=.fields #[.int lo t,.int hi u,.int 1 v] }
 |.frz o u=>h.get? a=some o/\cE H h a u
 |.tbl ps=>h.get? a=some { cls:=.none,data:=.fields ps }
 |.met f x=>h.get? a=some (PySem.W.methodObj (.ref f) (.ref x))
 |.ext φ=>φ h/\(∃o,h.get? a=some o)/\∀h1 h2:Heap,φ h1->(∀o,h1.get? a=some o->h2.get? a=some o)->φ h2
noncomputable def HOk(H:Hp)(h:Heap):Prop:=∀a o,H a=some o->cE P w H h a o
end
section
variable{P:Program}{w:World}{H H':Hp}{h h':Heap}{a:Addr}{o:HO}
theorem cE.lt(x:cE P w H h a o):a<h.objs.size:=by
 cases o with
 |lst xs=>obtain⟨_,_,_,_,e⟩:=x;exact A8 e
 |tup xs=>obtain⟨_,_,_,p⟩:=x;exact p.lt
 |dK kvs=>obtain⟨_,_,_,_,o,_,_,e,_⟩:=x;exact A8 e
 |dT kvs=>obtain⟨_,_,_,_,o,_,_,e,_⟩:=x;exact A8 e
 |set S n=>obtain⟨o,_,_,_,e,_⟩:=x;exact A8 e
 |ins C dx fs=>obtain⟨_,_,_,e,_⟩:=x;exact A8 e
 |own y=>obtain⟨_,e⟩:=x;exact A8 e
 |xd fs=>obtain⟨_,⟨_,_,_,e,_⟩,_⟩:=x;exact A8 e
 |rng lo hi=>obtain⟨_,_,_,e⟩:=x;exact A8 e
 |frz ob u=>obtain⟨e,_⟩:=x;exact A8 e
 |tbl ps=>exact A8 (show h.get? a=some _ from x)
 |met f y=>exact A8 (show h.get? a=some _ from x)
 |ext φ=>obtain⟨_,⟨_,e⟩,_⟩:=x;exact A8 e
theorem Paired.mapP{α β:Type}{F G:α->β->Prop}:∀{l₁:List α}{l₂:List β},Paired F l₁ l₂->(∀a b,F a b->G a b)->Paired G l₁ l₂
 |_,_,.nil=>fun _=>.nil
 |_,_,.cons r t=>fun f=>.cons (f _ _ r) (Paired.mapP t f)
theorem cE.stay(x:cE P w H h a o)(k:∀b u,(b=a\/H b=some (.own a))->h.get? b=some u->h'.get? b=some u)
 (ho:∀b,H b=some (.own a)->H' b=some (.own a)) (ht:∀b xs,H b=some (.tup xs)->H' b=some (.tup xs)):cE P w H' h' a o:=by
 induction o with
 |lst xs=>obtain⟨z,its,n,r,e⟩:=x;exact⟨z,its,n,r,k _ _ (.inl rfl) e⟩
 |tup xs=>obtain⟨z,its,r,ob,e,c⟩:=x;exact⟨z,its,r,ob,k _ _ (.inl rfl) e,c⟩
 |dK kvs=>obtain⟨z,y,vs,r,ob,es,ep,e,c⟩:=x;exact⟨z,y,vs,r,ob,es,ep,k _ _ (.inl rfl) e,c⟩
 |dT kvs=>
  obtain⟨z,y,xs,r,ob,es,ep,e,c⟩:=x;exact⟨z,y,xs,Paired.mapP r fun p q z=>⟨z.1,ht _ _ z.2.1,z.2.2⟩,ob,es,ep,k _ _ (.inl rfl) e,c⟩
 |set S n=>obtain⟨ob,es,ep,t,e,c⟩:=x;exact⟨ob,es,ep,t,k _ _ (.inl rfl) e,c⟩
 |ins C dx fs=>
  obtain⟨d,z,ne,e,mA,⟨od,es,ep,e2,c⟩,r⟩:=x;exact⟨ho _ d,z,ne,k _ _ (.inl rfl) e,mA,⟨od,es,ep,k _ _ (.inr d) e2,c⟩,r⟩
 |own y=>obtain⟨ob,e⟩:=x;exact⟨ob,k _ _ (.inl rfl) e⟩
 |xd fs=>obtain⟨mA,⟨od,es,ep,e,c⟩,r⟩:=x;exact⟨mA,⟨od,es,ep,k _ _ (.inl rfl) e,c⟩,r⟩
 |rng lo hi=>obtain⟨t,u,v,e⟩:=x;exact⟨t,u,v,k _ _ (.inl rfl) e⟩
 |frz ob u ih=>obtain⟨e,q⟩:=x;exact⟨k _ _ (.inl rfl) e,ih q⟩
 |tbl ps=>
  have e:h.get? a=some { cls:=.none,data:=.fields ps }:=x;show h'.get? a=some { cls:=.none,data:=.fields ps };exact k a _ (.inl rfl) e
 |met f y=>
  have e:h.get? a=some (PySem.W.methodObj (.ref f) (.ref y)):=x;show h'.get? a=some (PySem.W.methodObj (.ref f) (.ref y));exact k a _ (.inl rfl) e
 |ext φ=>obtain⟨p,⟨o,e⟩,st⟩:=x;exact⟨st _ _ p fun o q=>k _ _ (.inl rfl) q,⟨o,k _ _ (.inl rfl) e⟩,st⟩
theorem HOk.lt(x:HOk P w H h)(e:H a=some o):a<h.objs.size:=(x a o e).lt
theorem HOk.fresh(x:HOk P w H h)(e:h.objs.size<=a):H a=none:=by
 cases q:H a with
 |none=>rfl
 |some u=>exact absurd (B5 (x.lt q) e) (F7 _)
theorem HOk.kept(x:HOk P w H h)(k:∀b u,h.get? b=some u->h'.get? b=some u):HOk P w H h':=fun a o e=>
 (x a o e).stay (fun b u _ q=>k b u q) (fun _ q=>q) fun _ _ q=>q
theorem HOk.laid(x:HOk P w H h)(k:∀b u,h.get? b=some u->h'.get? b=some u)(hp:h.objs.size<=a)(new:cE P w (upd H a o) h' a o):HOk P w (upd H a o) h':=fun b u e=>by
 have hn:=x.fresh hp;by_cases hb:b=a
 .subst hb;rw[aU]at e;cases e;exact new
 .rw[aM hb]at e;exact(x b u e).stay (fun c v _ q=>k c v q) (fun c q=>by rw[aM (aO q hn)];exact q) fun c xs q=>by rw[aM (aO q hn)];exact q
end
noncomputable def Rd(H:Hp)(a:Addr)(u:HO):Prop:=H a=some u\/∃o,H a=some (.frz o u)
theorem Rd.ok{P:Program}{w:World}{h:Heap}{a:Addr}{u:HO}(r:Rd H a u)(x:HOk P w H h):cE P w H h a u:=by
 rcases r with r|⟨o,r⟩
 .exact x a u r
 .obtain⟨_,q⟩:=x a _ r;exact q
noncomputable def Mut:Option HO->Prop
 |some (.lst _)=>True
 |some (.dK _)=>True
 |some (.dT _)=>True
 |some (.set _ _)=>True
 |some (.ins _ _ _)=>True
 |some (.ext _)=>True
 |_=>False
section
variable{P:Program}{w:World}{H:Hp}{h h':Heap}{x e:Addr}{o':HO}
theorem HOk.write(ok:HOk P w H h)(mu:Mut (H x))(he:e=x\/H e=some (.own x))(k:∀b u,b≠e->h.get? b=some u->h'.get? b=some u)(heo:∃u,h'.get? e=some u)
 (new:cE P w (upd H x o') h' x o'):HOk P w (upd H x o') h':=fun b u q=>by
 have nown:∀c y,H c=some (.own y)->c≠x:=fun c y r z=>by subst z;rw[r]at mu;exact mu
 have ntup:∀c xs,H c=some (.tup xs)->c≠x:=fun c xs r z=>by subst z;rw[r]at mu;exact mu
 by_cases hb:b=x
 .subst hb;rw[aU]at q;cases q;exact new
 .rw[aM hb]at q;by_cases hbe:b=e
  .have q':H b=some (.own x):=by
    rcases he with z|z
    .exact absurd (hbe.trans z) hb
    .rw[hbe];exact z
   rw[q]at q';cases q';obtain⟨v,hv⟩:=heo;exact⟨v,by rw[hbe];exact hv⟩
  .refine(ok b u q).stay (fun c v hc r=>k c v ?_ r) (fun c r=>by rw[aM (nown c b r)];exact r) fun c xs r=>by rw[aM (ntup c xs r)];exact r
   rcases hc with rfl|hc
   .exact hbe
   .rintro rfl;rcases he with z|z
    .exact nown c b hc z
    .rw[hc]at z;cases z;exact hb rfl
end
structure Un(fs ex:List Addr)(H H':Hp)(h h':Heap):Prop where
 keep:∀b o,h.get? b=some o->H b=none->b∉fs->b∉ex->h'.get? b=some o
 slot:∀b o,h.get? b=some o->H b=none->b∈fs->b∉ex->∃sl,h'.get? b=some { o with slots:=sl }
 free:∀b o,h.get? b=some o->H b=none->b∉ex->H' b=none
 there:∀b o,h.get? b=some o->b∉ex->∃o',h'.get? b=some o'
 tups:∀b xs,H b=some (.tup xs)->H' b=some (.tup xs)
 frzs:∀b o u,H b=some (.frz o u)->H' b=some (.frz o u)
 tbls:∀b ps,H b=some (.tbl ps)->∃more,H' b=some (.tbl (ps++more))
section
variable{fs fs' ex ex':List Addr}{H H1 H2:Hp}{h h1 h2 h':Heap}{a x e:Addr}{o:HO}
theorem Un.any(u:Un fs ex H H1 h h1){b:Addr}{ob:Obj}(q:h.get? b=some ob)(n:H b=none)(hx:b∉ex):∃sl,h1.get? b=some { ob with slots:=sl }:=by
 by_cases hb:b∈fs
 .exact u.slot b ob q n hb hx
 .exact⟨ob.slots,u.keep b ob q n hb hx⟩
theorem Un.kept(k:∀b u,h.get? b=some u->h'.get? b=some u):Un fs ex H H h h':=
 ⟨fun b ob q _ _ _=>k b ob q,fun b ob q _ _ _=>⟨ob.slots,k b ob q⟩,fun _ _ _ n _=>n,fun b ob q _=>⟨ob,k b ob q⟩,fun _ _ q=>q,fun _ _ _ q=>q,fun _ ps q=>⟨#[],by rw[q];simp⟩⟩
theorem Un.refl:Un fs ex H H h h:=Un.kept fun _ _ q=>q
theorem Un.laid(k:∀b u,h.get? b=some u->h'.get? b=some u)(hp:h.objs.size<=a)(hn:H a=none):Un fs ex H (upd H a o) h h' where
 keep:=fun b u q _ _ _=>k b u q
 slot:=fun b u q _ _ _=>⟨u.slots,k b u q⟩
 free:=fun b u q n _=>by rw[aM (B4 (B5 (A8 q) hp))];exact n
 there:=fun b u q _=>⟨u,k b u q⟩
 tups:=fun b xs q=>by rw[aM (aO q hn)];exact q
 frzs:=fun b u xs q=>by rw[aM (aO q hn)];exact q
 tbls:=fun b ps q=>⟨#[],by rw[aM (aO q hn),q];simp⟩
theorem Un.write(mu:Mut (H x))(he:e=x\/H e=some (.own x))(k:∀b u,b≠e->h.get? b=some u->h'.get? b=some u)(heo:∃u,h'.get? e=some u):Un fs ex H (upd H x o) h h':=by
 have hx:∀b,H b=none->b≠x:=fun b n z=>by subst z;rw[n]at mu;exact mu
 have hb:∀b,H b=none->b≠e:=fun b n z=>by
  subst z;rcases he with r|r
  .exact hx b n r
  .rw[n]at r;cases r
 have hm:∀b u,H b=some u->¬Mut (some u)->b≠x:=fun b u q nm z=>by subst z;rw[q]at mu;exact nm mu
 refine⟨fun b u q n _ _=>k b u (hb b n) q,fun b u q n _ _=>⟨u.slots,k b u (hb b n) q⟩,fun b u q n _=>by rw[aM (hx b n)];exact n,fun b u q _=>?_,
  fun b xs q=>by rw[aM (hm b _ q fun z=>z)];exact q,fun b u xs q=>by rw[aM (hm b _ q fun z=>z)];exact q,fun b ps q=>⟨#[],by rw[aM (hm b _ q fun z=>z),q];simp⟩⟩
 by_cases hbe:b=e
 .subst hbe;exact heo
 .exact⟨u,k b u hbe q⟩
end
noncomputable def trk(h:Heap)(H:Hp):List Addr:=(List.range h.objs.size).filter fun a=>(H a).isSome
noncomputable def zI(h:Heap)(H:Hp):Heap:=PySem.W.hideAll h (trk h H)
theorem JA(h:Heap)(H:Hp):(zI h H).objs.size=h.objs.size:=PySem.W.hideAll_size _ _
theorem OT{h:Heap}{b:Addr}{o:Obj}(e:h.get? b=some o)(n:H b=none):(zI h H).get? b=some o:=
 PySem.W.hideAll_get _ e fun hm=>by
  have q:(H b).isSome=true:=(List.mem_filter.mp hm).2;rw[n]at q;simp at q
theorem QU{h:Heap}{b:Addr}{o:Obj}(e:(zI h H).get? b=some o):h.get? b=some o/\H b=none:=by
 have e':h.get? b=some o:=PySem.W.of_hideAll (trk h H) e;refine⟨e',?_⟩;cases q:H b with
 |none=>rfl
 |some x=>
  have hm:b∈trk h H:=List.mem_filter.mpr ⟨List.mem_range.mpr (A8 e'),by simp[q]⟩;have z:(zI h H).get? b=none:=PySem.W.hideAll_none (trk h H) hm;rw[z]at e;cases e
noncomputable def nK(g h:Heap)(L:Addr):List (Addr×Obj):=(List.range h.objs.size).filterMap fun a=>if a=L\/(g.get? a).isSome=true then none else(h.get? a).map fun o=>(a,o)
theorem rY{g h:Heap}{L a:Addr}{o:Obj}(h1:a≠L)(h2:g.get? a=none)(h3:h.get? a=some o):(a,o)∈nK g h L:=
 List.mem_filterMap.mpr ⟨a,List.mem_range.mpr (A8 h3),by simp[h1,h2,h3]⟩
theorem tO{g h:Heap}{L:Addr}{p:Addr×Obj}(hp:p∈nK g h L):p.1≠L/\g.get? p.1=none/\h.get? p.1=some p.2:=by
 obtain⟨b,_,e⟩:=List.mem_filterMap.mp hp;split at e
 .cases e
 .rename_i hn;cases q:h.get? b with
  |none=>rw[q]at e;simp at e
  |some u=>
   rw[q]at e;simp only[Option.map_some,Option.some.injEq]at e;subst e;refine⟨fun z=>hn (.inl z),?_,q⟩;show g.get? b=none;cases r:g.get? b with
   |none=>rfl
   |some v=>exact(hn (.inr (by simp[r]))).elim
noncomputable def rest(g h:Heap)(L d:Addr):List (Addr×Obj):=(nK g h L).filter fun p=>decide (p.1≠d)
theorem NV{g h:Heap}{L:Addr}:News g L h (nK g h L):=fun p hp=>let⟨a,b,c⟩:=tO hp;⟨c,a,b⟩
structure Mod(K:Fg)(mg:Str->Option Value)(base:Heap):Prop where
 kin:K.In base
 glob:base.Ns mainGlobals mg
 blt:∃mb,base.Ns builtinsNs mb/\∀x:Str,x≠"__name__"->mb x=bootBuiltins x
 nolimit:base.NoLimit
 sysm:∃o es ep,base.get? sysModules=some o/\o.data=.dict es ep
structure Cx where
 prog:Program
 w:World
 K:Fg
 mg:Str->Option Value
 base:Heap
 A:Around
 N:List Str
 s₀:Shared
 H₀:Hp
 env:Env
 outer:List Env
 stack:List Env
 ex:List Addr
 fn:Str->Bool
 calm:Bool
 pn:List (Addr×Obj)
 xe:Value->Shared->Prop
noncomputable def frs(l:List Env):List Addr:=l.filterMap (·.frame)
noncomputable abbrev Cx.fs(X:Cx):List Addr:=frs X.outer
noncomputable def Vis(sc:Scope)(x:Str):Prop:=sc.names.lookup x=some .local\/sc.names.lookup x=some .cell\/sc.names.lookup x=some .free
noncomputable def Loc(sc:Scope)(x:Str):Prop:=sc.names.lookup x=some .local\/sc.names.lookup x=some .cell
noncomputable def Look(env:Env)(h:Heap)(m:Str->Option Value)(x:Str)(u:Value):Prop:=
 (env.kindOf x=some .local/\m x=some u)\/((env.kindOf x=some .cell\/env.kindOf x=some .free)/\∃c,env.cells.lookup x=some c/\h.IsCell c (some u))
structure Cx.Ok(X:Cx):Prop where
 mod:Mod X.K X.mg X.base
 kind:X.env.scope.kind=.function
 glob:X.env.globals=mainGlobals
 blt:X.env.builtins=builtinsNs
 above:X.s₀.heap.objs.size<=X.env.locals
 inj:∀x y c,X.env.cells.lookup x=some c->X.env.cells.lookup y=some c->x=y
 has:∀x,(X.env.kindOf x=some .cell\/X.env.kindOf x=some .free)->∃c,X.env.cells.lookup x=some c
 cab:∀x c,X.fn x=true->X.env.cells.lookup x=some c->X.s₀.heap.objs.size<=c
 hd:X.calm=true->X.A.handled=none
 frames:X.A.frames=some X.stack
 stk:X.stack=X.outer\/(X.stack=X.env::X.outer/\X.env.frame=some X.env.locals)
 exf:∀b∈X.ex,b≠X.env.locals/\∀x c,X.env.cells.lookup x=some c->c≠b
 bs:∀b o,X.base.get? b=some o->X.s₀.heap.get? b=some o/\X.H₀ b=none
 bsz:X.base.objs.size<=X.s₀.heap.objs.size
 noex:∀b o,X.base.get? b=some o->b∉X.ex
 exfs:∀b∈X.ex,b∉X.fs
 funs:X.s₀.heap.FunFrames X.base X.outer
 frf:∀b∈X.fs,X.H₀ b=none
structure Inv(X:Cx)(pins:List (Addr×Obj))(σ:List (Option V))(H:Hp)(s:Shared):Prop where
 ok:X.Ok
 os:s.os=X.s₀.os
 bare:AllBare s.gens
 base:Un X.fs X.ex X.H₀ H X.s₀.heap s.heap
 loc:∃m,s.heap.Ns X.env.locals m/\∀(i:Nat)(x:Str)(v:V),X.N[i]?=some x->σ[i]?=some (some v)->Vis X.env.scope x->∃u,RelV v u/\Look X.env s.heap m x u
 cell:∀x c,X.env.cells.lookup x=some c->∃v,s.heap.IsCell c v
 free:H X.env.locals=none
 freeC:∀x c,X.env.cells.lookup x=some c->H c=none
 pin:∀p∈X.pn++pins,s.heap.get? p.1=some p.2/\H p.1=none/\p.1≠X.env.locals/\p.1∉X.fs/\∀v,p.2.data≠.cell v
 hok:HOk X.prog X.w H s.heap
 len:σ.length=X.N.length
section
variable{X:Cx}{pins:List (Addr×Obj)}{σ:List (Option V)}{H H':Hp}{s:Shared}{h':Heap}
theorem Cx.Ok.nofr(ok:X.Ok){b:Addr}{o:Obj}(e:X.base.get? b=some o):b∉X.fs:=fun hb=>by
 have:=(ok.funs.mem hb).1;rw[e]at this;cases this
theorem Inv.bs(I:Inv X pins σ H s):∀b o,X.base.get? b=some o->s.heap.get? b=some o/\H b=none:=fun b o e=>
 ⟨I.base.keep b o (I.ok.bs b o e).1 (I.ok.bs b o e).2 (I.ok.nofr e) (I.ok.noex b o e),I.base.free b o (I.ok.bs b o e).1 (I.ok.bs b o e).2 (I.ok.noex b o e)⟩
theorem Inv.bk(I:Inv X pins σ H s):∀b o,X.base.get? b=some o->s.heap.get? b=some o:=fun b o e=>(I.bs b o e).1
theorem Inv.mod(I:Inv X pins σ H s):Mod X.K X.mg X.base:=I.ok.mod
theorem Inv.kIn(I:Inv X pins σ H s):X.K.In s.heap:=I.ok.mod.kin.keeps I.bk
theorem Inv.fr(I:Inv X pins σ H s):∃m,Fr X.base X.env.locals s.heap m:=
 let⟨m,hn,_⟩:=I.loc
 ⟨m,hn,I.bk,C4 I.ok.bsz I.ok.above⟩
theorem Inv.lt(I:Inv X pins σ H s):X.env.locals<s.heap.objs.size:=let⟨_,hn,_⟩:=I.loc;hn.lt
theorem Inv.sz(I:Inv X pins σ H s):X.s₀.heap.objs.size<=s.heap.objs.size:=C4 I.ok.above (O2 I.lt)
theorem Inv.nofs(I:Inv X pins σ H s){a:Addr}(h:s.heap.objs.size<=a):a∉X.fs:=fun hb=>by
 obtain⟨_,o,ho,_⟩:=I.ok.funs.mem hb;exact absurd (B5 (A8 ho) (C4 I.sz h)) (F7 _)
theorem Inv.cne(I:Inv X pins σ H s):∀x c,X.env.cells.lookup x=some c->c≠X.env.locals:=fun x c e z=>by
 obtain⟨v,o,ho,hd⟩:=I.cell x c e;obtain⟨m,⟨o',es,ep,ho',hd',_⟩,_⟩:=I.loc;rw[z,ho']at ho;cases ho;rw[hd']at hd;cases hd
theorem Inv.funs(I:Inv X pins σ H s):s.heap.FunFrames X.base X.outer:=by
 have all:∀(l:List Env),(∀b∈frs l,b∈X.fs)->X.s₀.heap.FunFrames X.base l->s.heap.FunFrames X.base l:=by
  intro l
  induction l with
  |nil=>intro _ _;trivial
  |cons env r ih=>
   intro hs hl;obtain⟨hk,⟨L,o,hf,hn,ho,hd⟩,hr⟩:=hl;have hL:L∈X.fs:=hs L (by unfold frs;rw[J1,hf];exact B3);obtain⟨sl,e⟩:=I.base.slot L o ho (I.ok.frf L hL) hL fun z=>I.ok.exfs L z hL;exact⟨hk,⟨L,_,hf,hn,e,hd⟩,ih (fun b hb=>hs b (by unfold frs;rw[J1,hf];exact B1 _ hb)) hr⟩
 exact all X.outer (fun _ hb=>hb) I.ok.funs
theorem Inv.stack(I:Inv X pins σ H s):s.heap.FunFrames X.base X.stack:=by
 rcases I.ok.stk with e|⟨e,hf⟩
 .rw[e];exact I.funs
 .rw[e];obtain⟨m,hn,_⟩:=I.loc;refine .cons (by rw[I.ok.kind];decide) hf hn ?_ I.funs;exact Heap.get?_none_of_le (C4 I.ok.bsz I.ok.above)
theorem Inv.stkSub(I:Inv X pins σ H s):∀b∈frs X.stack,b∈X.env.locals::X.fs:=fun b hb=>by
 rcases I.ok.stk with e|⟨e,hf⟩
 .rw[e]at hb;exact B1 _ hb
 .rw[e]at hb;unfold frs at hb;rw[J1,hf]at hb;exact hb
theorem Inv.stkFree(I:Inv X pins σ H s):∀b∈frs X.stack,H b=none:=fun b hb=>by
 rcases List.mem_cons.mp (I.stkSub b hb)with e|hb
 .rw[e];exact I.free
 .obtain⟨_,o,ho,_⟩:=I.ok.funs.mem hb;exact I.base.free b o ho (I.ok.frf b hb) fun z=>I.ok.exfs b z hb
theorem Inv.step{g':Array GenState}{t':Nat}{d':Drawn}{ch:List Addr}(I:Inv X pins σ H s)
 (hch:∀b∈ch,(b∈X.ex\/X.s₀.heap.objs.size<=b)/\b≠X.env.locals/\(∀x c,X.env.cells.lookup x=some c->c≠b)/\∀p∈X.pn++pins,p.1≠b)
 (keep:∀b o,b≠X.env.locals->b∉X.fs->b∉ch->s.heap.get? b=some o->H b=none->h'.get? b=some o)
 (slot:∀b o,b≠X.env.locals->b∈X.fs->b∉ch->s.heap.get? b=some o->H b=none->∃sl,h'.get? b=some { o with slots:=sl }) (free:∀b o,b∉ch->s.heap.get? b=some o->H b=none->H' b=none)
 (there:∀b o,b∉ch->s.heap.get? b=some o->∃o',h'.get? b=some o')
 (tups:∀b xs,H b=some (.tup xs)->H' b=some (.tup xs)) (frzs:∀b o u,H b=some (.frz o u)->H' b=some (.frz o u)) (tbls:∀b ps,H b=some (.tbl ps)->∃more,H' b=some (.tbl (ps++more)))
 (ns:∀m,s.heap.Ns X.env.locals m->h'.Ns X.env.locals m) (hok:HOk X.prog X.w H' h') (hg:AllBare g'):
 Inv X pins σ H' { s with heap:=h',gens:=g',drawn:=d',toks:=t' }:=by
 have neL:∀b o,X.s₀.heap.get? b=some o->b≠X.env.locals:=fun b o e=>B4 (B5 (A8 e) I.ok.above)
 have neC:∀b o,X.s₀.heap.get? b=some o->b∉X.ex->b∉ch:=fun b o e hx hb=>by
  rcases (hch b hb).1 with z|z
  .exact hx z
  .exact absurd (B5 (A8 e) z) (F7 _)
 have cellK:∀x c,X.env.cells.lookup x=some c->∀v,s.heap.IsCell c v->h'.IsCell c v:=fun x c e v ⟨o,ho,hd⟩=>by
  have nch:c∉ch:=fun z=>(hch c z).2.2.1 x c e rfl;by_cases hc:c∈X.fs
  .obtain⟨sl,q⟩:=slot c o (I.cne x c e) hc nch ho (I.freeC x c e);exact⟨_,q,hd⟩
  .exact⟨o,keep c o (I.cne x c e) hc nch ho (I.freeC x c e),hd⟩
 refine⟨I.ok,I.os,hg,⟨fun b o e n hb hx=>?_,fun b o e n hb hx=>?_,fun b o e n hx=>?_,fun b o e hx=>?_,fun b xs e=>tups b xs (I.base.tups b xs e),fun b o xs e=>frzs b o xs (I.base.frzs b o xs e),fun b ps e=>?_⟩,?_,fun x c e=>?_,?_,fun x c e=>?_,fun p hp=>?_,hok,I.len⟩
 .exact keep b o (neL b o e) hb (neC b o e hx) (I.base.keep b o e n hb hx) (I.base.free b o e n hx)
 .obtain⟨sl,e1⟩:=I.base.slot b o e n hb hx;obtain⟨sl',e2⟩:=slot b _ (neL b o e) hb (neC b o e hx) e1 (I.base.free b o e n hx);exact⟨sl',e2⟩
 .obtain⟨o',e1⟩:=I.base.there b o e hx;exact free b o' (neC b o e hx) e1 (I.base.free b o e n hx)
 .obtain⟨o',e1⟩:=I.base.there b o e hx;exact there b o' (neC b o e hx) e1
 .obtain⟨m1,e1⟩:=I.base.tbls b ps e;obtain⟨m2,e2⟩:=tbls b _ e1;exact⟨m1++m2,by rw[e2,Array.append_assoc]⟩
 .obtain⟨m,hn,hl⟩:=I.loc;refine⟨m,ns m hn,fun i x v e1 e2 e3=>?_⟩;obtain⟨u,r,l⟩:=hl i x v e1 e2 e3;refine⟨u,r,?_⟩;rcases l with l|⟨k,c,e,z⟩
  .exact .inl l
  .exact .inr ⟨k,c,e,cellK x c e _ z⟩
 .obtain⟨v,z⟩:=I.cell x c e;exact⟨v,cellK x c e v z⟩
 .obtain⟨m,⟨o,_,_,ho,_⟩,_⟩:=I.loc;exact free _ o (fun z=>(hch _ z).2.1 rfl) ho I.free
 .obtain⟨v,o,ho,hd⟩:=I.cell x c e;exact free c o (fun z=>(hch c z).2.2.1 x c e rfl) ho (I.freeC x c e)
 .obtain⟨e,n,ne,nf,d⟩:=I.pin p hp;have nch:p.1∉ch:=fun z=>(hch p.1 z).2.2.2 p hp rfl;exact⟨keep p.1 p.2 ne nf nch e n,free p.1 p.2 nch e n,ne,nf,d⟩
theorem Inv.un{t':Nat}(I:Inv X pins σ H s)(u:Un X.fs [] H H' s.heap h')(hok:HOk X.prog X.w H' h'):Inv X pins σ H' { s with heap:=h',toks:=t' }:=by
 obtain⟨m,⟨o,es,ep,ho,r⟩,_⟩:=id I.loc;obtain⟨sl,hL⟩:=u.any ho I.free (by simp)
 exact I.step (g':=s.gens) (d':=s.drawn) (ch:=[]) (fun _ z=>nomatch z) (fun b o _ hb _ e n=>u.keep b o e n hb (by simp)) (fun b o _ hb _ e n=>u.slot b o e n hb (by simp)) (fun b o _ e n=>u.free b o e n (by simp)) (fun b o _ e=>u.there b o e (by simp)) u.tups u.frzs u.tbls (fun m' hm=>by
  obtain⟨o',es',ep',ho',r'⟩:=hm;rw[ho]at ho';cases ho';exact⟨_,es',ep',hL,r'⟩) hok I.bare
theorem Inv.call{g':Array GenState}{t':Nat}{d':Drawn}{ch:List Addr}(I:Inv X pins σ H s)(u:Un (frs X.stack) ch H H' s.heap h')(hok:HOk X.prog X.w H' h')(hg:AllBare g')
 (hch:∀b∈ch,(b∈X.ex\/X.s₀.heap.objs.size<=b)/\b≠X.env.locals/\(∀x c,X.env.cells.lookup x=some c->c≠b)/\∀p∈X.pn++pins,p.1≠b):
 Inv X pins σ H' { s with heap:=h',gens:=g',drawn:=d',toks:=t' }:=by
 obtain⟨m,⟨o,es,ep,ho,r⟩,_⟩:=id I.loc;obtain⟨sl,hL⟩:=u.any ho I.free fun z=>(hch _ z).2.1 rfl
 exact I.step (ch:=ch) hch (fun b o hL hb hc e n=>u.keep b o e n (fun z=>(List.mem_cons.mp (I.stkSub b z)).elim hL hb) hc) (fun b o _ _ hc e n=>u.any e n hc) (fun b o hc e n=>u.free b o e n hc) (fun b o hc e=>u.there b o e hc) u.tups u.frzs u.tbls (fun m' hm=>by
  obtain⟨o',es',ep',ho',r'⟩:=hm;rw[ho]at ho';cases ho';exact⟨_,es',ep',hL,r'⟩) hok hg
theorem Inv.turned{t':Nat}{it:Addr}(I:Inv X pins σ H s)(k:∀b o,b≠it->s.heap.get? b=some o->h'.get? b=some o)(hn:H it=none)(hL:it≠X.env.locals)
 (h1:it∈X.ex\/X.s₀.heap.objs.size<=it) (h2:∀x c,X.env.cells.lookup x=some c->c≠it) (h3:∀p∈X.pn++pins,p.1≠it):Inv X pins σ H { s with heap:=h',toks:=t' }:=by
 have nit:∀b u,H b=some u->b≠it:=fun b u e z=>by rw[z,hn]at e;cases e
 refine I.step (g':=s.gens) (d':=s.drawn) (ch:=[it]) (fun b hb=>?_) (fun b o _ _ hc e _=>k b o (fun z=>hc (by simp[z])) e) (fun b o _ _ hc e _=>⟨o.slots,k b o (fun z=>hc (by simp[z])) e⟩) (fun _ _ _ _ n=>n)
  (fun b o hc e=>⟨o,k b o (fun z=>hc (by simp[z])) e⟩) (fun _ _ e=>e) (fun _ _ _ e=>e) (fun b ps e=>⟨#[],by rw[e];simp⟩) (fun m hm=>?_) (fun b u e=>?_) I.bare
 .have e:b=it:=by simpa using hb
  subst e;exact⟨h1,hL,h2,h3⟩
 .obtain⟨o,es,ep,ho,r⟩:=hm;exact⟨o,es,ep,k _ o (F5 hL) ho,r⟩
 .refine(I.hok b u e).stay (fun c v hc q=>k c v ?_ q) (fun _ q=>q) fun _ _ q=>q;rcases hc with z|z
  .rw[z];exact nit b u e
  .exact nit c _ z
theorem Inv.tok(I:Inv X pins σ H s)(t:Nat):Inv X pins σ H { s with toks:=t }:=I.un (h':=s.heap) (t':=t) Un.refl I.hok
theorem Inv.kept{t':Nat}(I:Inv X pins σ H s)(k:∀b u,s.heap.get? b=some u->h'.get? b=some u):Inv X pins σ H { s with heap:=h',toks:=t' }:=I.un (Un.kept k) (I.hok.kept k)
theorem Inv.laid{a:Addr}{o:HO}{t':Nat}(I:Inv X pins σ H s)(k:∀b u,s.heap.get? b=some u->h'.get? b=some u)(hp:s.heap.objs.size<=a)(new:cE X.prog X.w (upd H a o) h' a o):
 Inv X pins σ (upd H a o) { s with heap:=h',toks:=t' }:=I.un (Un.laid k hp (I.hok.fresh hp)) (I.hok.laid k hp new)
theorem Inv.write{x e:Addr}{o:HO}{t':Nat}(I:Inv X pins σ H s)(mu:Mut (H x))(he:e=x\/H e=some (.own x))(k:∀b u,b≠e->s.heap.get? b=some u->h'.get? b=some u)(heo:∃u,h'.get? e=some u)
 (new:cE X.prog X.w (upd H x o) h' x o):Inv X pins σ (upd H x o) { s with heap:=h',toks:=t' }:=I.un (Un.write mu he k heo) (I.hok.write mu he k heo new)
theorem Inv.pins_of{pins':List (Addr×Obj)}(I:Inv X pins σ H s)(h:∀p∈pins',s.heap.get? p.1=some p.2/\H p.1=none/\p.1≠X.env.locals/\p.1∉X.fs/\∀v,p.2.data≠.cell v):Inv X pins' σ H s:=
 ⟨I.ok,I.os,I.bare,I.base,I.loc,I.cell,I.free,I.freeC,fun p hp=>(List.mem_append.mp hp).elim (fun z=>I.pin p (L0 _ z)) (h p),I.hok,I.len⟩
theorem DH{N:List Str}(hN:N.Nodup){i j:Nat}{x:Str}(a:N[i]?=some x)(b:N[j]?=some x):i=j:=by
 obtain⟨h1,e1⟩:=List.getElem?_eq_some_iff.mp a;obtain⟨h2,e2⟩:=List.getElem?_eq_some_iff.mp b;exact(List.getElem_inj hN).mp (e1.trans e2.symm)
theorem JP{M:Model}{A:Around}{E:Value->Shared->Prop}{i:Nat}{x:Str}{v:V}{u:Value}{Q:Unit->Shared->Prop}(I:Inv X pins σ H s)(hN:X.N.Nodup)(hi:X.N[i]?=some x)(hx:Loc X.env.scope x)(r:RelV v u)
 (h:∀s',Inv X pins (σ.set i (some v)) H s'->(∃a,Heap.SameBut a s.heap s'.heap/\(a=X.env.locals\/X.env.cells.lookup x=some a))->Q () s') (hf:X.fn x=true\/X.env.scope.names.lookup x=some .local:=by first|exact .inl rfl|exact .inr rfl|assumption):wpAny M A (storeName X.env x u) Q E s:=by
 obtain⟨m,hn,hl⟩:=id I.loc;have hcls:(X.env.scope.kind==.class || (X.env.scope.kind==.module&&X.env.locals != X.env.globals))=false:=by rw[I.ok.kind];rfl
 have hiσ:i<σ.length:=by rw[I.len];exact(List.getElem?_eq_some_iff.mp hi).1
 have cne:=I.cne
 have tracked:∀{a:Addr}{h':Heap},(∃o,s.heap.get? a=some o/\H a=none)->Heap.SameBut a s.heap h'->HOk X.prog X.w H h':=fun{a h'} ha hs b ob e=>by
  obtain⟨_,_,hfree⟩:=ha;refine(I.hok b ob e).stay (fun c w' hc q=>(hs.2 c ?_).trans q) (fun _ q=>q) fun _ _ q=>q;rintro rfl;rcases hc with rfl|hc
  .rw[hfree]at e;cases e
  .rw[hfree]at hc;cases hc
 rcases hx with hk|hk
 .refine wpAny_storeName_local hk hn (fun h' hn' hs=>?_) hcls;obtain⟨oL,_,_,hoL,_⟩:=id hn;refine h _ ⟨I.ok,I.os,I.bare,⟨fun b o e n hb hx=>?_,fun b o e n hb hx=>?_,I.base.free,fun b o e hx=>?_,I.base.tups,I.base.frzs,I.base.tbls⟩,⟨_,hn',fun j y v' e1 e2 e3=>?_⟩,fun y c e=>?_,I.free,I.freeC,fun p hp=>?_,tracked ⟨oL,hoL,I.free⟩ hs,by simpa using I.len⟩ ⟨_,hs,.inl rfl⟩
  .exact(hs.2 b (B4 (B5 (A8 e) I.ok.above))).trans (I.base.keep b o e n hb hx)
  .obtain⟨sl,e1⟩:=I.base.slot b o e n hb hx;exact⟨sl,(hs.2 b (B4 (B5 (A8 e) I.ok.above))).trans e1⟩
  .obtain⟨o',e1⟩:=I.base.there b o e hx;exact⟨o',(hs.2 b (B4 (B5 (A8 e) I.ok.above))).trans e1⟩
  .by_cases hj:j=i
   .subst hj;rw[hi]at e1;cases e1;rw[D9 hiσ]at e2;cases e2;exact⟨u,r,.inl ⟨hk,by simp⟩⟩
   .rw[J0 (F5 hj)]at e2;obtain⟨u',r',q⟩:=hl j y v' e1 e2 e3;refine⟨u',r',?_⟩;rcases q with⟨k,e⟩|⟨k,c,e,z⟩
    .refine .inl ⟨k,?_⟩;have:y≠x:=fun e=>hj (DH hN e1 (e▸hi));simp[this,e]
    .exact .inr ⟨k,c,e,z.sameBut hs (cne y c e)⟩
  .obtain⟨w',z⟩:=I.cell y c e;exact⟨w',z.sameBut hs (cne y c e)⟩
  .obtain⟨e,n,ne,nf,d⟩:=I.pin p hp;exact⟨(hs.2 p.1 ne).trans e,n,ne,nf,d⟩
 .have hfn:X.fn x=true:=by
   rcases hf with z|z
   .exact z
   .rw[z]at hk;cases hk
  obtain⟨c,hc⟩:=I.ok.has x (.inl hk);obtain⟨w',z⟩:=I.cell x c hc;refine wpAny_storeName_cell I.ok.kind hk hc z (fun h' hc' hs=>?_);obtain⟨oc,hoc,hocd⟩:=id z;refine h { s with heap:=h' } ⟨I.ok,I.os,I.bare,⟨fun b o e n hb hx=>?_,fun b o e n hb hx=>?_,I.base.free,fun b o e hx=>?_,I.base.tups,I.base.frzs,I.base.tbls⟩,⟨m,hn.sameBut hs (F5 (cne x c hc)),fun j y v' e1 e2 e3=>?_⟩,fun y c' e=>?_,I.free,I.freeC,fun p hp=>?_,tracked ⟨oc,hoc,I.freeC x c hc⟩ hs,by simpa using I.len⟩ ⟨c,hs,.inr hc⟩
  .exact(hs.2 b (B4 (B5 (A8 e) (I.ok.cab x c hfn hc)))).trans (I.base.keep b o e n hb hx)
  .obtain⟨sl,e1⟩:=I.base.slot b o e n hb hx;exact⟨sl,(hs.2 b (B4 (B5 (A8 e) (I.ok.cab x c hfn hc)))).trans e1⟩
  .obtain⟨o',e1⟩:=I.base.there b o e hx;exact⟨o',(hs.2 b (B4 (B5 (A8 e) (I.ok.cab x c hfn hc)))).trans e1⟩
  .by_cases hj:j=i
   .subst hj;rw[hi]at e1;cases e1;rw[D9 hiσ]at e2;cases e2;exact⟨u,r,.inr ⟨.inl hk,c,hc,hc'⟩⟩
   .rw[J0 (F5 hj)]at e2;obtain⟨u',r',q⟩:=hl j y v' e1 e2 e3;refine⟨u',r',?_⟩;rcases q with q|⟨k,c',e,z'⟩
    .exact .inl q
    .refine .inr ⟨k,c',e,z'.sameBut hs ?_⟩;rintro rfl;exact hj (DH hN e1 (I.ok.inj _ _ _ e hc▸hi))
  .by_cases hcc:c'=c
   .subst hcc;exact⟨_,hc'⟩
   .obtain⟨w2,z2⟩:=I.cell y c' e;exact⟨w2,z2.sameBut hs hcc⟩
  .obtain⟨e,n,ne,nf,d⟩:=I.pin p hp;refine⟨(hs.2 p.1 ?_).trans e,n,ne,nf,d⟩;intro q;rw[q,hoc]at e;have q':oc=p.2:=D0 e;exact d w' (by rw[<- q'];exact hocd)
theorem pM{M:Model}{A:Around}{E:Value->Shared->Prop}{i:Nat}{x:Str}{v:V}{u:Value}{Q:Unit->Shared->Prop}(I:Inv X pins σ H s)(hN:X.N.Nodup)(hi:X.N[i]?=some x)(hx:Loc X.env.scope x)(r:RelV v u)
 (h:∀s',Inv X pins (σ.set i (some v)) H s'->Q () s') (hf:X.fn x=true\/X.env.scope.names.lookup x=some .local:=by first|exact .inl rfl|exact .inr rfl|assumption):wpAny M A (storeName X.env x u) Q E s:=
 JP I hN hi hx r (fun s' I' _=>h s' I') hf
end
noncomputable abbrev XK:=Value->Option Addr->Hp->Prop
noncomputable abbrev St:=List (Option V)
noncomputable abbrev VK:=V->Hp->Prop
noncomputable abbrev TE:=St->Hp->VK->Prop
noncomputable abbrev TT:=St->Hp->(Bool->Hp->Prop)->Prop
noncomputable abbrev TA:=St->Hp->(List V->Hp->Prop)->Prop
structure Ends where
 nx:St->Hp->Prop
 rt:VK
 bk:St->Hp->Prop:=fun _ _=>False
 ct:St->Hp->Prop:=fun _ _=>False
noncomputable abbrev TS:=Ends->St->Hp->Prop
noncomputable def EP(X:Cx)(pins:List (Addr×Obj))(σ:St)(Q:VK)(u:Value)(s':Shared):Prop:=∃v H',Inv X pins σ H' s'/\RelV v u/\Q v H'
noncomputable def TP(X:Cx)(pins:List (Addr×Obj))(σ:St)(Q:Bool->Hp->Prop)(b:Bool)(s':Shared):Prop:=∃H',Inv X pins σ H' s'/\Q b H'
noncomputable def AP(X:Cx)(pins:List (Addr×Obj))(σ:St)(Q:List V->Hp->Prop)(us:List Value)(s':Shared):Prop:=∃vs H',Inv X pins σ H' s'/\aZ vs us/\Q vs H'
noncomputable def SP(X:Cx)(pins:List (Addr×Obj))(D:Ends)(f:Flow)(s':Shared):Prop:=
 match f with
 |.next=>∃σ' H',Inv X pins σ' H' s'/\D.nx σ' H'
 |.brk=>∃σ' H',Inv X pins σ' H' s'/\D.bk σ' H'
 |.cont=>∃σ' H',Inv X pins σ' H' s'/\D.ct σ' H'
 |.ret u=>∃v σ' H',Inv X pins σ' H' s'/\RelV v u/\D.rt v H'
noncomputable def PE(X:Cx)(e:Expr)(t:TE):Prop:=
 ∀(pins:List (Addr×Obj))(s:Shared)(σ:St)(H:Hp)(Q:VK),Inv X pins σ H s->t σ H Q->wpAny (model X.prog X.w) X.A (eval e X.env) (EP X pins σ Q) X.xe s
noncomputable def PT(X:Cx)(e:Expr)(t:TT):Prop:=
 ∀(pins:List (Addr×Obj))(s:Shared)(σ:St)(H:Hp)(Q:Bool->Hp->Prop),Inv X pins σ H s->t σ H Q->wpAny (model X.prog X.w) X.A (isTrue e X.env (eval e X.env)) (TP X pins σ Q) X.xe s
noncomputable def PW(X:Cx)(e:Expr)(t:TT):Prop:=
 ∀(whole:Sem Value)(pins:List (Addr×Obj))(s:Shared)(σ:St)(H:Hp)(Q:Bool->Hp->Prop),Inv X pins σ H s->t σ H Q->wpAny (model X.prog X.w) X.A (isTrue e X.env whole) (TP X pins σ Q) X.xe s
theorem PW.pt{X:Cx}{e:Expr}{t:TT}(h:PW X e t):PT X e t:=h _
noncomputable def PA(X:Cx)(es:List Expr)(t:TA):Prop:=
 ∀(pos:Pos)(pins:List (Addr×Obj))(s:Shared)(σ:St)(H:Hp)(Q:List V->Hp->Prop),Inv X pins σ H s->t σ H Q->wpAny (model X.prog X.w) X.A (spliced (backTo pos (starEach es X.env))) (AP X pins σ Q) X.xe s
noncomputable def PS(X:Cx)(st:Stmt)(t:TS):Prop:=
 ∀(pins:List (Addr×Obj))(s:Shared)(σ:St)(H:Hp)(D:Ends),Inv X pins σ H s->t D σ H->wpAny (model X.prog X.w) X.A (exec st X.env) (SP X pins D) X.xe s
noncomputable def PSs(X:Cx)(st:List Stmt)(t:TS):Prop:=
 ∀(pins:List (Addr×Obj))(s:Shared)(σ:St)(H:Hp)(D:Ends),Inv X pins σ H s->t D σ H->wpAny (model X.prog X.w) X.A (execs st X.env) (SP X pins D) X.xe s
theorem thn{α:Type}{t:Sem α}{Q Q':α->Shared->Prop}{M:Model}{E:Value->Shared->Prop}{s:Shared}(h:wpAny M A t Q E s)(hQ:∀a s,Q a s->Q' a s):wpAny M A t Q' E s:=D6 h hQ fun _ _ x=>x
section
variable{X:Cx}
theorem bin{a b:Expr}{ta tb:TE}(ha:PE X a ta)(hb:PE X b tb){pins:List (Addr×Obj)}{R:V->V->Hp->Prop}(I:Inv X pins σ H s)(h:ta σ H fun x H1=>tb σ H1 fun y H2=>R x y H2)
 {α:Type} {Q:α->Shared->Prop} {f:Value->Value->Sem α}
 (hf:∀v u s2 x y H2,Inv X pins σ H2 s2->RelV x v->RelV y u->R x y H2->wpAny (model X.prog X.w) X.A (f v u) Q X.xe s2):
 wpAny (model X.prog X.w) X.A (eval a X.env) (fun v s₁=>wpAny (model X.prog X.w) X.A (eval b X.env) (fun u s₂=>wpAny (model X.prog X.w) X.A (f v u) Q X.xe s₂) X.xe s₁) X.xe s:=by
 refine thn (ha pins s σ H _ I h) fun v s1 ⟨x,H1,I1,r1,q1⟩=>?_;refine thn (hb pins s1 σ H1 _ I1 q1) fun u s2 ⟨y,H2,I2,r2,q2⟩=>?_;exact hf v u s2 x y H2 I2 r1 r2 q2
noncomputable def aBW(i:Nat):TE:=fun σ H Q=>∃v,σ[i]?=some (some v)/\Q v H
noncomputable def tC(v:V):TE:=fun _ H Q=>Q v H
theorem ZR{i:Nat}{x:Str}(hN:X.N[i]?=some x)(hv:Vis X.env.scope x)(hd:(x==("__debug__":Str))=false:=by decide)(hcd:(x==("__classdict__":Str))=false:=by decide):PE X (.Name x pos) (aBW i):=by
 intro pins s σ H Q I h;obtain⟨v,e,h⟩:=h;obtain⟨m,hn,hl⟩:=I.loc;obtain⟨u,r,l⟩:=hl i x v hN e hv;have fin:EP X pins σ Q u s:=⟨v,H,I,r,h⟩;rcases l with⟨hk,hm⟩|⟨hk,c,hc,hcell⟩
 .exact wpAny_Name (wpAny_loadName_local I.ok.kind hk hn hm fin) hd
 .rcases hk with hk|hk
  .exact wpAny_Name (wpAny_loadName_cell I.ok.kind hk hc hcell fin) hd
  .exact wpAny_Name (wpAny_loadName_free I.ok.kind hk hc hcell fin hcd) hd
theorem aAO{i j pos}:PE X (.Constant (.int i) j pos) (tC (.int i)):=fun _ _ _ H _ I h=>wpAny_Constant_int ⟨.int i,H,I.tok _,⟨_,rfl⟩,h⟩
theorem aBV{b j pos}:PE X (.Constant (.bool b) j pos) (tC (.bl b)):=fun _ _ _ H _ I h=>Constant_bool ⟨.bl b,H,I,rfl,h⟩
theorem aAL{x j pos}:PE X (.Constant (.str x) j pos) (tC (.str x)):=fun _ _ _ H _ I h=>Calls.Constant_str ⟨.str x,H,I.tok _,⟨_,rfl⟩,h⟩
noncomputable def Gl(X:Cx)(x:Str):Prop:=X.env.kindOf x=some .globalImplicit
theorem yD{E:Value->Shared->Prop}{pins:List (Addr×Obj)}{x:Str}{u:Value}{pos:Pos}{Q:Value->Shared->Prop}(I:Inv X pins σ H s)(hg:Gl X x)(hm:X.mg x=some u)(h:Q u s)
 (hd:(x==("__debug__":Str))=false:=by decide):wpAny (model X.prog X.w) X.A (eval (.Name x pos) X.env) Q E s:=
 Calls.Name_function_global I.ok.kind hg (Calls.loadGlobal_global (by rw[I.ok.glob];exact I.mod.glob.keeps I.bk) hm h) hd
theorem rL{E:Value->Shared->Prop}{pins:List (Addr×Obj)}{x:Str}{u:Value}{pos:Pos}{Q:Value->Shared->Prop}(I:Inv X pins σ H s)(hg:Gl X x)(hm:X.mg x=none)(hv:bootBuiltins x=some u)(h:Q u s)
 (hn:x≠"__name__":=by decide) (hd:(x==("__debug__":Str))=false:=by decide):wpAny (model X.prog X.w) X.A (eval (.Name x pos) X.env) Q E s:=by
 obtain⟨mb,h1,h2⟩:=I.mod.blt;exact Calls.Name_function_global I.ok.kind hg (Calls.loadGlobal_builtin (by rw[I.ok.glob];exact I.mod.glob.keeps I.bk) hm (by rw[I.ok.blt];exact h1.keeps I.bk) ((h2 x hn).trans hv) h) hd
theorem SD{x:Str}{v:V}{u:Value}(hg:Gl X x)(hm:X.mg x=some u)(r:RelV v u)(hd:(x==("__debug__":Str))=false:=by decide):PE X (.Name x pos) (tC v):=
 fun _ _ _ H _ I h=>yD I hg hm ⟨v,H,I,r,h⟩ hd
theorem zU{x:Str}{v:V}{u:Value}(hg:Gl X x)(hm:X.mg x=none)(hv:bootBuiltins x=some u)(r:RelV v u)(hn:x≠"__name__":=by decide)(hd:(x==("__debug__":Str))=false:=by decide):PE X (.Name x pos) (tC v):=
 fun _ _ _ H _ I h=>rL I hg hm hv ⟨v,H,I,r,h⟩ hn hd
variable{a b:Expr}{ta tb:TE}{pos:Pos}
noncomputable def PC(X:Cx)(op:CmpOp)(a b:Expr)(t:TE):Prop:=
 ∀(pins:List (Addr×Obj))(s:Shared)(σ:St)(H:Hp)(Q:VK),Inv X pins σ H s->t σ H Q->
  wpAny (model X.prog X.w) X.A (eval a X.env) (fun v s₁=>wpAny (model X.prog X.w) X.A (eval b X.env) (fun u s₂=>wpAny (model X.prog X.w) X.A (compareOp op v u) (EP X pins σ Q) X.xe s₂) X.xe s₁) X.xe s
theorem MB(b:Expr){op:CmpOp}(h:op≠.In)(h2:op≠.NotIn):behindInMarks op b=false:=by
 have e1:(op==CmpOp.In)=false:=by cases op<;>first|rfl|exact absurd rfl h
 have e2:(op==CmpOp.NotIn)=false:=by cases op<;>first|rfl|exact absurd rfl h2
 cases b<;>simp[behindInMarks,e1,e2]
noncomputable def tB(t:TE):TT:=fun σ H Q=>t σ H fun x H1=>∃c,x=.bl c/\Q c H1
theorem YG{op:CmpOp}{t:TE}(h:PC X op a b t)(h1:behindInMarks op b=false:=by first|exact MB _ (by decide) (by decide)|rfl):PT X (.Compare a [op] [b] pos) (tB t):=by
 intro pins s σ H Q I hw;refine wpAny_isTrue_Compare1 (thn (h pins s σ H _ I hw) fun v s1 h1=>thn h1 fun u s2 h2=>thn h2 fun c s3 ⟨x,H1,I1,r1,q1⟩=>?_) h1;obtain⟨d,rfl,q⟩:=q1;cases r1;exact J3 ⟨H1,I1,q⟩
theorem aBc{e:Expr}{t:TE}(h:PE X e t)(he:∀whole,isTrue e X.env whole=(do let v <- whole;standAt e.pos;holding [v] (truthy v)):=by intro _;rfl):PT X e (tB t):=by
 intro pins s σ H Q I hw;refine isTrue_plain (thn (h pins s σ H _ I hw) fun v s1 ⟨x,H1,I1,r1,q1⟩=>?_) (he _);obtain⟨d,rfl,q⟩:=q1;cases r1;exact J3 ⟨H1,I1,q⟩
variable{tA tB':TT}{rest:List Expr}
noncomputable def tOr(t u:TT):TT:=fun σ H Q=>t σ H fun c H1=>if c=true then Q true H1 else u σ H1 Q
noncomputable def aCV(t:TT):TT:=fun σ H Q=>t σ H fun c H1=>Q (!c) H1
theorem ZF(ha:PT X a tA):PW X (.BoolOp .Or [a] pos) tA:=by
 intro wh pins s σ H Q I h;refine isTrue_or (thn (ha pins s σ H Q I h) fun c s1 e=>?_);cases c with
 |false=>exact isTrue_or_nil e
 |true=>exact e
theorem aBZ(ha:PT X a tA)(hb:PW X (.BoolOp .Or (b::rest) pos) tB'):PW X (.BoolOp .Or (a::b::rest) pos) (tOr tA tB'):=by
 intro wh pins s σ H Q I h;refine isTrue_or (thn (ha pins s σ H _ I h) fun c s1 ⟨H1,I1,q1⟩=>?_);cases c with
 |true=>exact⟨H1,I1,q1⟩
 |false=>exact hb wh pins s1 σ H1 Q I1 q1
theorem aAX(ha:PT X a tA):PT X (.UnaryOp .Not a pos) (aCV tA):=by
 intro pins s σ H Q I h;exact isTrue_not (ha pins s σ H (fun c H1=>Q (!c) H1) I h)
noncomputable def VV(ta tb:TE):TE:=fun σ H Q=>ta σ H fun x H1=>∃c,x=.bl c/\if c=true then tb σ H1 Q else Q (.bl false) H1
noncomputable def XC(ta:TE):TE:=fun σ H Q=>ta σ H fun x H1=>∃c,x=.bl c/\Q (.bl (!c)) H1
theorem YC{op}{t:TE}(h:PE X a t):PE X (.BoolOp op [a] pos) t:=fun pins s σ H Q I hw=>BoolOp_one (h pins s σ H Q I hw)
theorem XU(ha:PE X a ta)(hb:PE X (.BoolOp .And (b::rest) pos) tb):PE X (.BoolOp .And (a::b::rest) pos) (VV ta tb):=by
 intro pins s σ H Q I h;refine BoolOp_and (thn (ha pins s σ H _ I h) fun v s1 ⟨x,H1,I1,r1,q1⟩=>?_);obtain⟨c,rfl,q1⟩:=q1;cases r1;refine J3 ?_;cases c with
 |true=>exact hb pins s1 σ H1 Q I1 q1
 |false=>exact⟨.bl false,H1,I1,rfl,q1⟩
theorem XF(ha:PE X a ta):PE X (.UnaryOp .Not a pos) (XC ta):=by
 intro pins s σ H Q I h;refine UnaryOp_ (thn (ha pins s σ H _ I h) fun v s1 ⟨x,H1,I1,r1,q1⟩=>?_);obtain⟨c,rfl,q1⟩:=q1;cases r1;exact not_of (J3 ⟨.bl (!c),H1,I1,rfl,q1⟩)
noncomputable def tIf(t:TT)(ta tb:TE):TE:=fun σ H Q=>t σ H fun c H1=>if c=true then ta σ H1 Q else tb σ H1 Q
theorem NW{c:Expr}(hc:PT X c tA)(ha:PE X a ta)(hb:PE X b tb):PE X (.IfExp c a b pos) (tIf tA ta tb):=by
 intro pins s σ H Q I h;refine wpAny_IfExp (thn (hc pins s σ H _ I h) fun d s1 ⟨H1,I1,q1⟩=>?_);cases d with
 |true=>exact ha pins s1 σ H1 Q I1 q1
 |false=>exact hb pins s1 σ H1 Q I1 q1
end
noncomputable def SqL(K:Fg)(H:Hp)(a:Addr)(xs:List V):Prop:=
 Rd H a (.lst xs) \/
  ∃(o:Obj)(its:Array Value)(n:Nat),K.lookup a=some o/\o.cls=.type "list"/\o.dict=none/\o.data=.seq its n/\its.size<=sizeLine/\aZ xs its.toList
noncomputable def SqT(K:Fg)(H:Hp)(a:Addr)(xs:List V):Prop:=
 Rd H a (.tup xs) \/
  ∃(o:Obj)(its:Array Value)(n:Nat),K.lookup a=some o/\o.cls=.type "tuple"/\o.data=.seq its n/\its.size<=sizeLine/\aZ xs its.toList
noncomputable def aDt:Value->Option V
 |.none=>some .non
 |.bool b=>some (.bl b)
 |.int i _=>some (.int i)
 |.str x _=>some (.str x)
 |.bytes b _=>some (.byt b)
 |.float b _=>some (.flt b)
 |.ref a=>some (.ref a)
 |.type n=>some (.ty n)
 |_=>none
theorem RelV.abs{x:V}{u:Value}(r:RelV x u):aDt u=some x:=by
 cases x with
 |non=>cases r;rfl
 |bl _=>cases r;rfl
 |int _=>obtain⟨t,rfl⟩:=r;rfl
 |str _=>obtain⟨t,rfl⟩:=r;rfl
 |byt _=>obtain⟨t,rfl⟩:=r;rfl
 |flt _=>obtain⟨t,rfl⟩:=r;rfl
 |ref _=>cases r;rfl
 |ty _=>cases r;rfl
theorem RelV.inj{x y:V}{u:Value}(r:RelV x u)(q:RelV y u):x=y:=D0 (r.abs.symm.trans q.abs)
theorem aZ.inj:∀{xs ys:List V}{us:List Value},aZ xs us->aZ ys us->xs=ys
 |_,_,_,.nil,.nil=>rfl
 |_,_,_,.cons r t,.cons r' t'=>by rw[r.inj r',aZ.inj t t']
section
variable{X:Cx}{pins:List (Addr×Obj)}{σ:St}{H:Hp}{s:Shared}{a:Addr}{xs ys:List V}
theorem SqL.of(h:H a=some (.lst xs)):SqL K H a xs:=.inl (.inl h)
theorem SqT.of(h:H a=some (.tup xs)):SqT K H a xs:=.inl (.inl h)
theorem Inv.list(I:Inv X pins σ H s)(h:SqL X.K H a xs):∃its:List Value,aZ xs its/\PlainL s.heap a its.toArray/\xs.length<=sizeLine:=by
 rcases h with h|⟨o,its,n,hk,hc,hd,hs,hz,r⟩
 .obtain⟨z,its,n,r,e⟩:=h.ok I.hok;exact⟨its,r,⟨_,n,e,rfl,rfl,rfl⟩,z⟩
 .refine⟨its.toList,r,⟨o,n,I.kIn a o hk,hc,hd,by simpa using hs⟩,?_⟩;have e:=r.length;simp only[Array.length_toList]at e;omega
theorem Inv.tuple(I:Inv X pins σ H s)(h:SqT X.K H a xs):∃its:List Value,aZ xs its/\IsTup s.heap a its.toArray/\xs.length<=sizeLine:=by
 rcases h with h|⟨o,its,n,hk,hc,hs,hz,r⟩
 .obtain⟨z,its,r,p⟩:=h.ok I.hok;exact⟨its,r,p,z⟩
 .refine⟨its.toList,r,⟨o,I.kIn a o hk,hc,n,by simpa using hs⟩,?_⟩;have e:=r.length;simp only[Array.length_toList]at e;omega
theorem Inv.list_inj(I:Inv X pins σ H s)(h:SqL X.K H a xs)(h':SqL X.K H a ys):xs=ys:=by
 obtain⟨its,r,⟨o,n,e,_,_,d⟩,_⟩:=I.list h;obtain⟨its',r',⟨o',n',e',_,_,d'⟩,_⟩:=I.list h';rw[e]at e';cases e';rw[d]at d';injection d' with d1 _
 have:its=its':=by simpa using L5 Array.toList d1
 subst this;exact r.inj r'
theorem Inv.tuple_inj(I:Inv X pins σ H s)(h:SqT X.K H a xs)(h':SqT X.K H a ys):xs=ys:=by
 obtain⟨its,r,⟨o,e,_,n,d⟩,_⟩:=I.tuple h;obtain⟨its',r',⟨o',e',_,n',d'⟩,_⟩:=I.tuple h';rw[e]at e';cases e';rw[d]at d';injection d' with d1 _
 have:its=its':=by simpa using L5 Array.toList d1
 subst this;exact r.inj r'
end
noncomputable abbrev Cx.wish(X:Cx)(E:Value->Shared->Prop):Cx:={ X with xe:=E }
noncomputable abbrev Cx.nox(X:Cx):Cx:=X.wish fun _ _=>False
theorem Cx.Ok.wish{X:Cx}(ok:X.Ok)(E:Value->Shared->Prop):(X.wish E).Ok:=
 ⟨ok.mod,ok.kind,ok.glob,ok.blt,ok.above,ok.inj,ok.has,ok.cab,ok.hd,ok.frames,ok.stk,ok.exf,ok.bs,ok.bsz,ok.noex,ok.exfs,ok.funs,ok.frf⟩
theorem Cx.Ok.unwish{X:Cx}{E:Value->Shared->Prop}(ok:(X.wish E).Ok):X.Ok:=
 ⟨ok.mod,ok.kind,ok.glob,ok.blt,ok.above,ok.inj,ok.has,ok.cab,ok.hd,ok.frames,ok.stk,ok.exf,ok.bs,ok.bsz,ok.noex,ok.exfs,ok.funs,ok.frf⟩
section
variable{X:Cx}{pins:List (Addr×Obj)}{σ:St}{H:Hp}{s:Shared}{E:Value->Shared->Prop}
theorem Inv.wish(I:Inv X pins σ H s)(E:Value->Shared->Prop):Inv (X.wish E) pins σ H s:=⟨I.ok.wish E,I.os,I.bare,I.base,I.loc,I.cell,I.free,I.freeC,I.pin,I.hok,I.len⟩
theorem Inv.unwish(I:Inv (X.wish E) pins σ H s):Inv X pins σ H s:=⟨I.ok.unwish,I.os,I.bare,I.base,I.loc,I.cell,I.free,I.freeC,I.pin,I.hok,I.len⟩
theorem SP.unwish{D:Ends}{f:Flow}{s':Shared}(h:SP (X.wish E) pins D f s'):SP X pins D f s':=by
 cases f with
 |next=>obtain⟨σ',H',I,q⟩:=h;exact⟨σ',H',I.unwish,q⟩
 |brk=>obtain⟨σ',H',I,q⟩:=h;exact⟨σ',H',I.unwish,q⟩
 |cont=>obtain⟨σ',H',I,q⟩:=h;exact⟨σ',H',I.unwish,q⟩
 |ret u=>obtain⟨v,σ',H',I,r,q⟩:=h;exact⟨v,σ',H',I.unwish,r,q⟩
theorem PSs.nox{st:List Stmt}{t:TS}(h:PSs X.nox st t):PSs X st t:=fun pins s σ H D I hw=>
 D6 (h pins s σ H D (I.wish _) hw) (fun _ _ q=>q.unwish) fun _ _ z=>False.elim z
end
section
variable{X:Cx}{st:Stmt}{rest:List Stmt}{t u:TS}{e:Expr}{te:TE}{pos:Pos}
noncomputable def VY:TS:=fun D σ H=>D.nx σ H
noncomputable def aCJ(t u:TS):TS:=fun D σ H=>t { D with nx:=u D } σ H
theorem UT:PSs X [] VY:=fun _ _ σ H _ I h=>wpAny_execs_nil ⟨σ,H,I,h⟩
theorem NU(h1:PS X st t)(h2:PSs X rest u):PSs X (st::rest) (aCJ t u):=by
 intro pins s σ H D I h;refine wpAny_execs_cons (thn (h1 pins s σ H { D with nx:=u D } I h) fun f s1 q=>?_);cases f with
 |next=>
  obtain⟨σ',H',I',q⟩:=q;exact h2 pins s1 σ' H' D I' q
 |ret v=>exact q
 |brk=>exact q
 |cont=>exact q
theorem UU(h1:PS X st t):PSs X [st] t:=by
 intro pins s σ H D I h;refine wpAny_execs_cons (thn (h1 pins s σ H D I h) fun f s1 q=>?_);cases f with
 |next=>exact wpAny_execs_nil q
 |ret v=>exact q
 |brk=>exact q
 |cont=>exact q
theorem Inv.quiet{pins:List (Addr×Obj)}(I:Inv X pins σ H s):interactive X.env=false:=by simp[interactive,I.ok.kind]
noncomputable def VR(te:TE):TS:=fun D σ H=>te σ H fun _ H1=>D.nx σ H1
theorem VN(he:PE X e te)(hs:swapsWith e none pos.line X.env=pure false:=by rfl):PS X (.Expr e pos) (VR te):=by
 intro pins s σ H D I h;exact wpAny_Expr_any (thn (he pins s σ H _ I h) fun v s1 ⟨x,H1,I1,r1,q1⟩=>⟨σ,H1,I1,q1⟩) I.quiet hs
noncomputable def aBG(te:TE):TS:=fun D σ H=>te σ H D.rt
theorem aAN(he:PE X e te):PS X (.Return (some e) pos) (aBG te):=by
 intro pins s σ H D I h;exact wpAny_Return_some (thn (he pins s σ H _ I h) fun v s1 ⟨x,H1,I1,r1,q1⟩=>⟨x,σ,H1,I1,r1,q1⟩)
noncomputable def aCP(c:TT)(t u:TS):TS:=fun D σ H=>c σ H fun b H1=>if b=true then t D σ H1 else u D σ H1
theorem aCD{c:Expr}{a b:List Stmt}{tc:TT}(hc:PT X c tc)(ha:PSs X a t)(hb:PSs X b u):PS X (.If c a b pos) (aCP tc t u):=by
 intro pins s σ H D I h;refine wpAny_If (thn (hc pins s σ H _ I h) fun d s1 ⟨H1,I1,q1⟩=>?_);cases d with
 |true=>exact ha pins s1 σ H1 D I1 q1
 |false=>exact hb pins s1 σ H1 D I1 q1
noncomputable def LL:TS:=fun _ _ _=>False
theorem NO:PS X st LL:=fun _ _ _ _ _ _ h=>h.elim
end
noncomputable abbrev TG:=V->St->Hp->(St->Hp->Prop)->Prop
noncomputable abbrev TGs:=List V->St->Hp->(St->Hp->Prop)->Prop
noncomputable def PG(X:Cx)(target:Expr)(t:TG):Prop:=
 ∀(pins:List (Addr×Obj))(s:Shared)(σ:St)(H:Hp)(v:V)(u:Value)(Q:St->Hp->Prop),Inv X pins σ H s->RelV v u->t v σ H Q->
  wpAny (model X.prog X.w) X.A (assign target X.env u) (fun _ s'=>∃σ' H',Inv X pins σ' H' s'/\Q σ' H') X.xe s
noncomputable def PGs(X:Cx)(ts:List Expr)(t:TGs):Prop:=
 ∀(pins:List (Addr×Obj))(s:Shared)(σ:St)(H:Hp)(vs:List V)(us:List Value)(Q:St->Hp->Prop),Inv X pins σ H s->aZ vs us->t vs σ H Q->
  wpAny (model X.prog X.w) X.A (assignInOrder ((assignEach ts X.env).map (·.2)) us) (fun _ s'=>∃σ' H',Inv X pins σ' H' s'/\Q σ' H') X.xe s
noncomputable abbrev SR:=V->V->V->Hp->(Hp->Prop)->Prop
noncomputable def YR(X:Cx)(t:SR):Prop:=
 ∀(pins:List (Addr×Obj))(s:Shared)(σ:St)(H:Hp)(o i v:V)(ov iv u:Value)(Q:Hp->Prop),Inv X pins σ H s->RelV o ov->RelV i iv->RelV v u->t o i v H Q->
  wpAny (model X.prog X.w) X.A (setItem ov iv u) (fun _ s'=>∃H',Inv X pins σ H' s'/\Q H') X.xe s
section
variable{X:Cx}{pos:Pos}
noncomputable def KZ(i:Nat):TG:=fun v σ H Q=>Q (σ.set i (some v)) H
theorem RQ{i:Nat}{x:Str}(hN:X.N.Nodup)(hi:X.N[i]?=some x)(hx:Loc X.env.scope x)(hf:X.fn x=true\/X.env.scope.names.lookup x=some .local:=by first|exact .inl rfl|exact .inr rfl|assumption):PG X (.Name x pos) (KZ i):=by
 intro pins s σ H v u Q I r h;exact wpAny_assign_Name (pM I hN hi hx r (fun s' I'=>⟨_,H,I',h⟩) hf)
noncomputable def aCr:TGs:=fun vs σ H Q=>vs=[]/\Q σ H
noncomputable def XA(t:TG)(u:TGs):TGs:=fun vs σ H Q=>∃v r,vs=v::r/\t v σ H fun σ' H'=>u r σ' H' Q
theorem SC:PGs X [] aCr:=by
 intro pins s σ H vs us Q I r h;obtain⟨e,h⟩:=h;subst e;cases r;exact assignInOrder_nil ⟨σ,H,I,h⟩
theorem OO{e:Expr}{es:List Expr}{t:TG}{u:TGs}(h1:PG X e t)(h2:PGs X es u)
 (hs:(assignEach (e::es) X.env).map (·.2)=assign e X.env::(assignEach es X.env).map (·.2):=by rfl):PGs X (e::es) (XA t u):=by
 intro pins s σ H vs us Q I r h;obtain⟨v,vr,e1,h⟩:=h;subst e1;cases r with
 |cons r rr=>
  rw[hs];refine assignInOrder_cons (thn (h1 pins s σ H _ _ _ I r h) fun _ s1 ⟨σ1,H1,I1,q1⟩=>?_);exact h2 pins s1 σ1 H1 _ _ Q I1 rr q1
noncomputable def SN(K:Fg)(n:Nat)(t:TGs):TG:=fun v σ H Q=>∃a xs,v=.ref a/\SqT K H a xs/\xs.length=n/\t xs σ H Q
theorem aAA{es:List Expr}{k:Nat}{t:TGs}{n:Nat}(hc:X.calm=true)(h:PGs X es t)
 (hn:(assignEach es X.env).length=n:=by rfl) (hst:(assignEach es X.env).findIdx? (·.1)=none:=by rfl):PG X (.Tuple es k pos) (SN X.K n t):=by
 intro pins s σ H v u Q I r hw;obtain⟨a,xs,e1,hq,hl,hw⟩:=hw;subst e1;cases r;obtain⟨its,rv,ht,hz⟩:=I.tuple hq;refine assign_Tuple_tuple (I.ok.hd hc) ht (by simp[hn,<- hl,rv.length]) hst fun h' hx=>?_;have I1:Inv X pins σ H { s with heap:=h' }:=I.kept (t':=s.toks) fun b o e=>hx b o (B4 (A8 e)) e;exact h pins _ σ H xs _ Q I1 (by simpa using rv) hw
noncomputable def aCc(to ti:TE)(t:SR):TG:=fun v σ H Q=>to σ H fun o H1=>ti σ H1 fun i H2=>t o i v H2 fun H3=>Q σ H3
theorem aBf{o i:Expr}{to ti:TE}{t:SR}(ho:PE X o to)(hi:PE X i ti)(hs:YR X t)
 (ha:∀v,assign (.Subscript o i pos) X.env v=(do
  let ov <- holding [v] (eval o X.env);let iv <- holding [v,ov] (eval i X.env)
  standAt pos
  holding [v,ov,iv] (setItem ov iv v)
  release [v,ov,iv] []):=by intro _;rfl):PG X (.Subscript o i pos) (aCc to ti t):=by
 intro pins s σ H v u Q I r h;rw[ha];refine A0 (E3 (thn (ho pins s σ H _ I h) fun ov s1 ⟨x,H1,I1,r1,q1⟩=>?_));refine A0 (E3 (thn (hi pins s1 σ H1 _ I1 q1) fun iv s2 ⟨y,H2,I2,r2,q2⟩=>?_));refine A0 (S5 (A0 (E3 (thn (hs pins s2 σ H2 x y v ov iv u _ I2 r1 r2 r q2) fun _ s3 ⟨H3,I3,q3⟩=>?_))));exact wpAny_release ⟨σ,H3,I3,q3⟩
noncomputable def aAU(te:TE)(g:TG):TS:=fun D σ H=>te σ H fun x H1=>g x σ H1 D.nx
theorem aBd{tg e:Expr}{te:TE}{g:TG}(he:PE X e te)(hg:PG X tg g)(hs:swapsWithSole [tg] e pos.line X.env=pure false:=by rfl)(hw:swappedStores [tg] e X.env=pure none:=by rfl)
 (h1:(assignEach [tg] X.env).map (·.2)=[assign tg X.env]:=by rfl):PS X (.Assign [tg] e pos) (aAU te g):=by
 intro pins s σ H D I h;refine wpAny_Assign_stores (thn (he pins s σ H _ I h) fun v s1 ⟨x,H1,I1,r1,q1⟩=>?_) hs hw;rw[h1];exact thn (hg pins s1 σ H1 x v _ I1 r1 q1) fun _ s2 q=>q
theorem XW{i:Nat}{x:Str}{e:Expr}{te:TE}{pos':Pos}(hN:X.N.Nodup)(hi:X.N[i]?=some x)(hx:Loc X.env.scope x)(he:PE X e te)(hs:swapsWith e (some (.Name x pos')) pos.line X.env=pure false:=by rfl)(hf:X.fn x=true\/X.env.scope.names.lookup x=some .local:=by first|exact .inl rfl|exact .inr rfl|assumption):
 PS X (.Assign [.Name x pos'] e pos) (aAU te (KZ i)):=by
 intro pins s σ H D I h;refine wpAny_Assign_Name (thn (he pins s σ H _ I h) fun v s1 ⟨y,H1,I1,r1,q1⟩=>?_) hs;exact pM I1 hN hi hx r1 (fun s2 I2=>⟨_,H1,I2,q1⟩) hf
noncomputable def aCb(i j:Nat)(ta:TA):TS:=fun D σ H=>ta σ H fun vs H1=>∃v w,vs=[v,w]/\D.nx ((σ.set i (some v)).set j (some w)) H1
theorem aAE{i j:Nat}{x y:Str}{a b:Expr}{ta:TA}{px py pt:Pos}{kt k2 pt2}(hc:X.calm=true)(hN:X.N.Nodup)(hi:X.N[i]?=some x)(hj:X.N[j]?=some y)(hij:i≠j)
 (hx:X.env.scope.names.lookup x=some .local) (hy:X.env.scope.names.lookup y=some .local) (ha:PA X [a,b] ta)
 (hw:swappedStores [.Tuple [.Name x px,.Name y py] kt pt] (.Tuple [a,b] k2 pt2) X.env=pure (some [x,y]))
 (hs:swapsWithSole [.Tuple [.Name x px,.Name y py] kt pt] (.Tuple [a,b] k2 pt2) pos.line X.env=pure false:=by rfl):
 PS X (.Assign [.Tuple [.Name x px,.Name y py] kt pt] (.Tuple [a,b] k2 pt2) pos) (aCb i j ta):=by
 intro pins s σ H D I h;rw[exec_Assign_arm];refine A0 (S5 ?_);rw[hs];refine A0 (A6 ?_);rw[A5 (by decide)];refine A0 (Tuple_ (thn (ha _ pins s σ H _ I h) fun us s1 ⟨vs,H1,I1,r1,q1⟩=>?_));obtain⟨v,w,e1,q1⟩:=q1;subst e1
 obtain⟨u1,u2,rfl,rv,rw'⟩:∃u1 u2,us=[u1,u2]/\RelV v u1/\RelV w u2:=by
  cases r1 with
  |cons p q=>
   cases q with
   |cons p' q'=>
    cases q';exact⟨_,_,rfl,p,p'⟩
 refine C7 ?_ (by show 2<=sizeLine;decide);have I2:Inv X pins σ H1 { s1 with heap:=s1.heap.push { cls:=.type "tuple",data:=.seq [u1,u2].toArray } }:=I1.kept (t':=s1.toks) fun b o e=>A3 _ e;rw[hw];refine A0 (A6 ?_);show wpAny (model X.prog X.w) X.A (do rule "assign.swapped-stores";let items <- unpackItems (.ref s1.heap.objs.size) 2 none;assignInOrder [fun v=>bindName X.env y v,fun v=>bindName X.env x v] items.reverse;pure Flow.next) _ _ _;refine A0 (wpAny_rule (A0 (unpackItems_tuple (items:=#[u1,u2]) (I.ok.hd hc) (IsTup.new s1.heap _) fun h' hx'=>?_)));have I3:=I2.kept (h':=h') (t':=s1.toks) fun b o e=>hx' b o (B4 (A8 e)) e;show wpAny _ _ (assignInOrder [fun v=>bindName X.env y v,fun v=>bindName X.env x v] [u2,u1] >>= fun _=>pure Flow.next) _ _ _;refine A0 (assignInOrder_cons (wpAny_bindName (pM I3 hN hj (.inl hy) rw' (fun s2 I4=>?_) (.inr hy))));refine assignInOrder_cons (wpAny_bindName (pM I4 hN hi (.inl hx) rv (fun s3 I5=>assignInOrder_nil (A6 ?_)) (.inr hx)));rw[List.set_comm _ _ (F5 hij)]at I5;exact⟨_,H1,I5,q1⟩
end
section
variable{X:Cx}{pos:Pos}
noncomputable def OD(c:TT)(tb:TS):TS:=fun D σ H=>∃W:Nat->St->Hp->Prop,(∃m,W m σ H)/\∀m σ H,W m σ H->
 c σ H fun b H1=>if b=true then ∃N:St->Hp->Prop,(∀σ' H',N σ' H'->∃m',m'<m/\W m' σ' H')/\tb { D with nx:=N,ct:=N,bk:=D.nx } σ H1 else D.nx σ H1
theorem NC{c:Expr}{body:List Stmt}{tc:TT}{tb:TS}(hp:PassesOwn (model X.prog X.w) X.A X.env X.xe)(hc:PT X c tc)(hb:PSs X body tb):PS X (.While c body [] pos) (OD tc tb):=by
 intro pins s σ H D I h;obtain⟨W,⟨m0,w0⟩,turn⟩:=h;refine wpAny_While (codeAny_whileLoop (fun n s'=>∃σ' H',Inv X pins σ' H' s'/\W n σ' H') ?_ m0 ⟨σ,H,I,w0⟩);rintro n s1 ⟨σ1,H1,I1,w1⟩;refine L1 hp (thn (hc pins s1 σ1 H1 _ I1 (turn n σ1 H1 w1)) fun b s2 ⟨H2,I2,q2⟩=>?_);cases b with
 |true=>
  obtain⟨N,hN,q2⟩:=q2;rw[A4 rfl];refine L1 hp (thn (hb pins s2 σ1 H2 _ I2 q2) fun f s3 q3=>?_);cases f with
  |next=>
   obtain⟨σ3,H3,I3,n3⟩:=q3;obtain⟨m',hm,w3⟩:=hN σ3 H3 n3;exact⟨m',hm,σ3,H3,I3,w3⟩
  |cont=>
   obtain⟨σ3,H3,I3,n3⟩:=q3;obtain⟨m',hm,w3⟩:=hN σ3 H3 n3;exact⟨m',hm,σ3,H3,I3,w3⟩
  |brk=>exact q3
  |ret v=>exact q3
 |false=>
  rw[A5 A7];exact wpAny_execs_nil ⟨σ1,H2,I2,q2⟩
end
structure It where
 go:Nat->Hp->Prop
 yld:Nat->Hp->V->Hp->Prop
 stop:Nat->Hp->Prop
noncomputable def nQ(X:Cx)(pins:List (Addr×Obj))(H:Hp)(b:Addr):Prop:=
 H b=none/\b≠X.env.locals/\b∉X.fs/\(b∈X.ex\/X.s₀.heap.objs.size<=b)/\(∀x c,X.env.cells.lookup x=some c->c≠b)/\∀p∈X.pn++pins,p.1≠b
theorem Inv.fpOk{X:Cx}{pins:List (Addr×Obj)}{H':Hp}{b:Addr}(I:Inv X pins σ H s)(hb:s.heap.objs.size<=b)(hn:H' b=none):nQ X pins H' b:=by
 refine⟨hn,E8 (B5 I.lt hb),I.nofs hb,.inr (C4 I.sz hb),fun x c e z=>?_,fun p hp z=>?_⟩
 .obtain⟨v,q⟩:=I.cell x c e;exact absurd (B5 q.lt (by rw[z];exact hb)) (F7 _)
 .exact absurd (B5 (A8 (I.pin p hp).1) (by rw[z];exact hb)) (F7 _)
structure Turn(P:Program)(w:World)(K:Fg)(tg:Expr)(J:It)(fp:List Addr)(it:Addr)(tn:Nat->Heap->Prop):Prop where
 mem:it∈fp
 obj:∀i h,tn i h->∀b∈fp,∃o,h.get? b=some o/\∀v,o.data≠.cell v
 keep:∀i h h',tn i h->(∀b∈fp,∀o,h.get? b=some o->h'.get? b=some o)->tn i h'
 item:∀(X:Cx),X.prog=P->X.w=w->X.K=K->X.calm=true->∀(i:Nat)(pins:List (Addr×Obj))(s:Shared)(σ:St)(H:Hp)(E:Value->Shared->Prop),Inv X pins σ H s->(∀b∈fp,nQ X pins H b)->tn i s.heap->J.go i H->
  wpAny (model P w) X.A (pyNext (.ref it)) (fun r s1=>∃u,r=some u /\
   wpAny (model P w) X.A (letOwnedTupleGo tg (.ref it) u) (fun _ s2=>∃x H',Inv X pins σ H' s2/\RelV x u/\J.yld i H x H'/\tn (i+1) s2.heap/\∀b∈fp,H' b=none) E s1) E s
 done:∀(X:Cx),X.prog=P->X.w=w->X.K=K->X.calm=true->∀(i:Nat)(pins:List (Addr×Obj))(s:Shared)(σ:St)(H:Hp)(E:Value->Shared->Prop),Inv X pins σ H s->(∀b∈fp,nQ X pins H b)->tn i s.heap->J.stop i H->
  wpAny (model P w) X.A (pyNext (.ref it)) (fun r s1=>r=none/\Inv X pins σ H s1) E s
 self:∀(A:Around)(i:Nat)(s:Shared)(Q:Value->Shared->Prop)(E:Value->Shared->Prop),tn i s.heap->Q (.ref it) s->wpAny (model P w) A (pyIter (.ref it)) Q E s
noncomputable abbrev TI:=St->Hp->(It->Hp->Prop)->Prop
noncomputable def PIE(X:Cx)(pins:List (Addr×Obj))(σ:St)(tg:Expr)(R:It->Hp->Prop)(itv:Value)(s2:Shared):Prop:=
 ∃(it:Addr)(fp:List Addr)(tn:Nat->Heap->Prop)(J:It)(H':Hp),itv=.ref it/\Inv X pins σ H' s2/\Turn X.prog X.w X.K tg J fp it tn/\tn 0 s2.heap/\(∀b∈fp,nQ X pins H' b)/\R J H'
noncomputable def PI(X:Cx)(tg iter:Expr)(wi:TI):Prop:=
 ∀(pins:List (Addr×Obj))(s:Shared)(σ:St)(H:Hp)(R:It->Hp->Prop),Inv X pins σ H s->wi σ H R->
  wpAny (model X.prog X.w) X.A (eval iter X.env) (fun v s1=>wpAny (model X.prog X.w) X.A (pyIter v) (PIE X pins σ tg R) X.xe s1) X.xe s
theorem MM{M:Model}{A:Around}{E:Value->Shared->Prop}{tg:Expr}{it:Addr}{u:Value}{o:Obj}{n:String}{vs:Array Value}{Q:Unit->Shared->Prop}(ho:s.heap.get? it=some o)(hc:o.cls=.type n)(hd:o.data=.fields vs)
 (hn:["enumerate","zip","dict_itemiterator","dict_reverseitemiterator","odict_iterator","itertools.zip_longest","itertools.pairwise"].contains n=false) (hQ:Q () s):wpAny M A (letOwnedTupleGo tg (.ref it) u) Q E s:=by
 unfold letOwnedTupleGo
 cases tg<;>first
  |exact A6 hQ
  |(cases u<;>first
   |exact A6 hQ
   | (refine A0 (wpAny_load ho ?_)
      rw[hc,hd];show wpAny M A (if (["enumerate","zip","dict_itemiterator","dict_reverseitemiterator","odict_iterator","itertools.zip_longest","itertools.pairwise"].contains n&&vs[0]?==some (rawInt _))=true then _ else _) Q E s;rw[A5 (by intro h;rw[hn,Bool.false_and]at h;cases h)];exact A6 hQ))
noncomputable def Itl(K:Fg)(a:Addr):It:=
 ⟨fun i H=>∃xs x,SqL K H a xs/\xs[i]?=some x,fun i H x H'=>H'=H/\∀xs,SqL K H a xs->xs[i]?=some x,fun i H=>∃xs,SqL K H a xs/\xs.length<=i⟩
noncomputable def Itt(K:Fg)(a:Addr):It:=
 ⟨fun i H=>∃xs x,SqT K H a xs/\xs[i]?=some x,fun i H x H'=>H'=H/\∀xs,SqT K H a xs->xs[i]?=some x,fun i H=>∃xs,SqT K H a xs/\xs.length<=i⟩
noncomputable def Itr(lo:Int)(n:Nat):It:=⟨fun i _=>i<n,fun i H x H'=>H'=H/\x=.int (lo+i),fun i _=>n<=i⟩
theorem JE{P:Program}{w:World}{tg:Expr}(a it:Addr):Turn P w K tg (Itl K a) [it] it (fun i h=>h.IsListIter it a i) where
 mem:=by simp
 obj:=fun i h st b hb=>by
  have e:b=it:=by simpa using hb
  subst e;obtain⟨o,e,c,d⟩:=st;exact⟨o,e,fun v z=>by rw[d]at z;cases z⟩
 keep:=fun i h h' st k=>st.at fun o e=>k it (by simp) o e
 item:=by
  intro X hP hw hK hc i pins s σ H E I hf st hg;subst hP hw hK;obtain⟨xs,x,hq,hx⟩:=hg;obtain⟨its,rv,p,hz⟩:=I.list hq;obtain⟨u,hu,ru⟩:=rv.get hx;obtain⟨f0,f1,f2,f3,f4,f5⟩:=hf it (by simp);refine wpAny_pyNext_list_item st p.isList (x:=u) (by simpa using hu) fun h' st' sb=>?_;have I1:Inv X pins σ H { s with heap:=h' }:=I.turned (t':=s.toks) (fun b o hb e=>(sb.2 b hb).trans e) f0 f1 f3 f4 f5;obtain⟨o,e,c,d⟩:=id st';exact⟨u,rfl,MM (s:={ s with heap:=h' }) e c d (by decide) ⟨x,H,I1,ru,⟨rfl,fun ys hy=>by rw[I.list_inj hy hq];exact hx⟩,st',fun b hb=>(hf b hb).1⟩⟩
 done:=by
  intro X hP hw hK hc i pins s σ H E I hf st hg;subst hP hw hK;obtain⟨xs,hq,hx⟩:=hg;obtain⟨its,rv,p,hz⟩:=I.list hq;obtain⟨f0,f1,f2,f3,f4,f5⟩:=hf it (by simp);have hl:=rv.length;exact wpAny_pyNext_list_end (I.ok.hd hc) st p.isList (by simp;omega) fun h' eb=>⟨rfl,I.turned (t':=s.toks) (fun b o hb e=>eb b o hb e) f0 f1 f3 f4 f5⟩
 self:=fun _ _ _ _ _ st h=>wpAny_pyIter_listiter st h
theorem DY{P:Program}{w:World}{tg:Expr}(a it:Addr):Turn P w K tg (Itt K a) [it] it (fun i h=>h.IsTupleIter it a i) where
 mem:=by simp
 obj:=fun i h st b hb=>by
  have e:b=it:=by simpa using hb
  subst e;obtain⟨o,e,c,d⟩:=st;exact⟨o,e,fun v z=>by rw[d]at z;cases z⟩
 keep:=fun i h h' st k=>st.at fun o e=>k it (by simp) o e
 item:=by
  intro X hP hw hK hc i pins s σ H E I hf st hg;subst hP hw hK;obtain⟨xs,x,hq,hx⟩:=hg;obtain⟨its,rv,p,hz⟩:=I.tuple hq;obtain⟨u,hu,ru⟩:=rv.get hx;obtain⟨f0,f1,f2,f3,f4,f5⟩:=hf it (by simp);refine wpAny_pyNext_tuple_item st (show s.heap.IsTuple a its.toArray from p) (x:=u) (by simpa using hu) fun h' st' sb=>?_;have I1:Inv X pins σ H { s with heap:=h' }:=I.turned (t':=s.toks) (fun b o hb e=>(sb.2 b hb).trans e) f0 f1 f3 f4 f5;obtain⟨o,e,c,d⟩:=id st';exact⟨u,rfl,MM (s:={ s with heap:=h' }) e c d (by decide) ⟨x,H,I1,ru,⟨rfl,fun ys hy=>by rw[I.tuple_inj hy hq];exact hx⟩,st',fun b hb=>(hf b hb).1⟩⟩
 done:=by
  intro X hP hw hK hc i pins s σ H E I hf st hg;subst hP hw hK;obtain⟨xs,hq,hx⟩:=hg;obtain⟨its,rv,p,hz⟩:=I.tuple hq;obtain⟨f0,f1,f2,f3,f4,f5⟩:=hf it (by simp);have hl:=rv.length;exact wpAny_pyNext_tuple_end (I.ok.hd hc) st (show s.heap.IsTuple a its.toArray from p) (by simp;omega) fun h' eb=>⟨rfl,I.turned (t':=s.toks) (fun b o hb e=>eb b o hb e) f0 f1 f3 f4 f5⟩
 self:=fun _ _ _ _ _ st h=>wpAny_pyIter_tupleiter st h
theorem EL{P:Program}{w:World}{tg:Expr}(it:Addr)(lo:Int)(n:Nat):Turn P w K tg (Itr lo n) [it] it (fun i h=>IsRangeIter h it (lo+(i:Nat)*1) ((n:Int)-(i:Nat)) 1) where
 mem:=by simp
 obj:=fun i h st b hb=>by
  have e:b=it:=by simpa using hb
  subst e
  exact⟨_,st,fun v z=>by
   have z':Data.fields _=Data.cell v:=z;cases z'⟩
 keep:=fun i h h' st k=>k it (by simp) _ st
 item:=by
  intro X hP hw hK hc i pins s σ H E I hf st hg;subst hP hw hK;obtain⟨f0,f1,f2,f3,f4,f5⟩:=hf it (by simp);have W:=Walks.range (prog:=X.prog) (w:=X.w) (I.ok.hd hc) it lo 1 n;refine W.item i s _ _ hg st fun v h' tk hv st' kk=>?_;obtain⟨t,rfl⟩:=hv;have I1:Inv X pins σ H { s with heap:=h',toks:=tk }:=I.turned (fun b o hb e=>kk b o (by simpa using hb) e) f0 f1 f3 f4 f5;refine⟨_,rfl,MM (s:={ s with heap:=h',toks:=tk }) (n:="range_iterator") st' rfl rfl (by decide) ⟨.int (lo+i),H,I1,⟨t,?_⟩,⟨rfl,rfl⟩,st',fun b hb=>(hf b hb).1⟩⟩;rw[Int.mul_one]
 done:=by
  intro X hP hw hK hc i pins s σ H E I hf st hg;subst hP hw hK;obtain⟨f0,f1,f2,f3,f4,f5⟩:=hf it (by simp);exact wpAny_pyNext_range_end (I.ok.hd hc) st (by have:n<=i:=hg;omega) fun h' eb=>⟨rfl,I.turned (t':=s.toks) (fun b o hb e=>eb b o hb e) f0 f1 f3 f4 f5⟩
 self:=fun _ _ _ _ _ st h=>wpAny_pyIter_rangeiter st h
section
variable{X:Cx}{tg:Expr}
theorem OH{pins:List (Addr×Obj)}{R:It->Hp->Prop}{E:Value->Shared->Prop}{lo hi:Int}{t u v:Tok}{tk:Nat}(I:Inv X pins σ H s)(h1:-(2 ^ 62)<=lo)(h2:lo<2 ^ 62)(h3:-(2 ^ 62)<=hi)(h4:hi<2 ^ 62)
 (q:R (Itr lo (hi-lo).toNat) H):wpAny (model X.prog X.w) X.A (pyIter (.ref s.heap.objs.size)) (PIE X pins σ tg R) E { s with heap:=s.heap.push { cls:=.type "range",data:=.fields #[.int lo t,.int hi u,.int 1 v] },toks:=tk }:=by
 refine wpAny_pyIter_range (IsRange.new ..) (small_one h1 h2 h3 h4) ?_;have I1:Inv X pins σ H { s with heap:=s.heap.push { cls:=.type "range",data:=.fields #[.int lo t,.int hi u,.int 1 v] },toks:=tk }:=I.kept fun b o e=>A3 _ e
 refine⟨(s.heap.push { cls:=.type "range",data:=.fields #[.int lo t,.int hi u,.int 1 v] }).objs.size,[(s.heap.push { cls:=.type "range",data:=.fields #[.int lo t,.int hi u,.int 1 v] }).objs.size],_,_,H,rfl,
  I1.kept (t':=tk) fun b o e=>A3 _ e,EL _ lo (hi-lo).toNat,?_,fun b hb=>?_,q⟩
 .have e1:lo+((0:Nat):Int)*1=lo:=by simp
  have e2:(((hi-lo).toNat:Nat):Int)-((0:Nat):Int)=Builtin.Range.rangeSize lo hi 1:=by rw[rangeSize_one];split<;>omega
  show IsRangeIter _ _ (lo+((0:Nat):Int)*1) ((((hi-lo).toNat:Nat):Int)-((0:Nat):Int)) 1;rw[e1,e2];exact B2 _ rfl
 .have e:b=(s.heap.push { cls:=.type "range",data:=.fields #[.int lo t,.int hi u,.int 1 v] }).objs.size:=by simpa using hb
  subst e;exact I1.fpOk (A9 _) (I1.hok.fresh (A9 _))
noncomputable def XB(ta:TA):TI:=fun σ H R=>ta σ H fun vs H1=>∃j:Int,vs=[.int j]/\-(2 ^ 62)<=j/\j<2 ^ 62/\R (Itr 0 j.toNat) H1
theorem JN{a:Expr}{ta:TA}{p:Pos}(hg:Gl X "range")(hm:X.mg "range"=none)(ha:PA X [a] ta)(hs:starEach [a] X.env=[(false,eval a X.env)]:=by rfl):PI X tg (.Call (.Name "range" p) [a] [] pos) (XB ta):=by
 intro pins s σ H R I h;refine Call_ (rL I hg hm boot_range (S2 (thn (ha pos pins s σ H _ I h) fun us s1 ⟨vs,H1,I1,r1,q1⟩=>?_) hs rfl));obtain⟨j,e,q1,q2,q⟩:=q1;subst e;cases r1 with
 |cons r rr=>
  cases rr;obtain⟨t,rfl⟩:=r;exact call_range_1 (OH I1 (by omega) (by omega) q1 q2 (by simpa using q))
noncomputable def aBM(wi:TI)(g:TG)(tb:TS):TS:=fun D σ H=>wi σ H fun J H1=>∃W:Nat->Nat->St->Hp->Prop,(∃m,W 0 m σ H1)/\∀i m σ H,W i m σ H->
 (J.stop i H/\D.nx σ H)\/(J.go i H/\∃N:St->Hp->Prop,(∀σ' H',N σ' H'->∃m',m'<m/\W (i+1) m' σ' H')/\∀x H',J.yld i H x H'->g x σ H' fun σ2 H2=>tb { D with nx:=N,ct:=N,bk:=D.nx } σ2 H2)
noncomputable def qR(fp:List Addr)(h:Heap):List (Addr×Obj):=fp.filterMap fun b=>(h.get? b).map fun o=>(b,o)
theorem fP{fp:List Addr}{h:Heap}{b:Addr}{o:Obj}(hb:b∈fp)(e:h.get? b=some o):(b,o)∈qR fp h:=List.mem_filterMap.mpr ⟨b,hb,by rw[e];rfl⟩
theorem JC{fp:List Addr}{h:Heap}{p:Addr×Obj}(hp:p∈qR fp h):p.1∈fp/\h.get? p.1=some p.2:=by
 obtain⟨b,hb,e⟩:=List.mem_filterMap.mp hp;cases q:h.get? b with
 |none=>rw[q]at e;cases e
 |some o=>
  rw[q]at e;have e':(b,o)=p:=D0 e;subst e';exact⟨hb,q⟩
theorem Inv.pinned{pins:List (Addr×Obj)}{fp:List Addr}(I:Inv X pins σ H s)(hf:∀b∈fp,nQ X pins H b)(ho:∀b∈fp,∃o,s.heap.get? b=some o/\∀v,o.data≠.cell v):Inv X (pins++qR fp s.heap) σ H s:=
 I.pins_of fun p hp=>(List.mem_append.mp hp).elim (fun z=>I.pin p (C2 _ z)) fun z=>by
  obtain⟨hb,e⟩:=JC z;obtain⟨f0,f1,f2,_⟩:=hf p.1 hb;obtain⟨o,e',d⟩:=ho p.1 hb;rw[e]at e';cases e';exact⟨e,f0,f1,f2,d⟩
theorem Inv.unpinned{pins pl:List (Addr×Obj)}(I:Inv X (pins++pl) σ H s):Inv X pins σ H s:=I.pins_of fun p hp=>I.pin p (C2 _ (L0 _ hp))
theorem XH{iter:Expr}{body:List Stmt}{wi:TI}{g:TG}{tb:TS}{pos:Pos}(hp:PassesOwn (model X.prog X.w) X.A X.env X.xe)(hc:X.calm=true)(hi:PI X tg iter wi)(hg:PG X tg g)(hb:PSs X body tb)
 (hs:∀x,foldedSetIterable iter X.env x=pure x:=by intro _;rfl):PS X (.For tg iter body [] pos) (aBM wi g tb):=by
 intro pins s σ H D I h;refine wpAny_For (thn (hi pins s σ H _ I h) fun v s1 h1=>thn h1 fun itv s2 h2=>?_) hs;obtain⟨it,fp,tn,J,H2,e,I2,T,st2,f2,W,⟨m0,w0⟩,turn⟩:=h2;subst e;have stat:∀{H':Hp},(∀b∈fp,H' b=none)->∀b∈fp,nQ X pins H' b:=fun hn b hb=>⟨hn b hb,(f2 b hb).2⟩;refine codeAny_forLoop_any (fun n s'=>∃i σ' H',Inv X pins σ' H' s'/\tn i s'.heap/\(∀b∈fp,H' b=none)/\W i n σ' H') ?_ m0 ⟨0,σ,H2,I2,st2,fun b hb=>(f2 b hb).1,w0⟩;rintro n s3 ⟨i,σ3,H3,I3,st3,fr3,w3⟩;rcases turn i n σ3 H3 w3 with⟨stop,qn⟩|⟨go,N,hN,step⟩
 .refine L1 hp (thn (T.done X rfl rfl rfl hc i pins s3 σ3 H3 X.xe I3 (stat fr3) st3 stop) fun r s4 ⟨hr,I4⟩=>?_);subst hr;exact wpAny_execs_nil ⟨σ3,H3,I4,qn⟩
 .refine L1 hp (thn (T.item X rfl rfl rfl hc i pins s3 σ3 H3 X.xe I3 (stat fr3) st3 go) fun r s4 ⟨u,hr,h4⟩=>?_);subst hr;refine L1 hp (thn h4 fun _ s5 ⟨x,H5,I5,r5,y5,st5,fr5⟩=>?_);have I5':=I5.pinned (stat fr5) (T.obj _ _ st5);refine L1 hp (thn (hg _ s5 σ3 H5 x u _ I5' r5 (step x H5 y5)) fun _ s6 ⟨σ6,H6,I6,q6⟩=>?_);refine L1 hp (thn (hb _ s6 σ6 H6 _ I6 q6) fun f s7 q7=>?_)
  have again:∀{σ7:St}{H7:Hp},Inv X (pins++qR fp s5.heap) σ7 H7 s7->N σ7 H7->∃m,m<n/\∃i σ' H',Inv X pins σ' H' s7/\tn i s7.heap/\(∀b∈fp,H' b=none)/\W i m σ' H':=fun{σ7 H7} I7 n7=>by
   obtain⟨m',hm,w7⟩:=hN σ7 H7 n7;refine⟨m',hm,i+1,σ7,H7,I7.unpinned,T.keep _ _ _ st5 fun b hb o e=>(I7.pin (b,o) (C2 _ (C2 _ (fP hb e)))).1,fun b hb=>?_,w7⟩;obtain⟨o,e,d⟩:=T.obj _ _ st5 b hb;exact(I7.pin (b,o) (C2 _ (C2 _ (fP hb e)))).2.1
  cases f with
  |next=>obtain⟨σ7,H7,I7,n7⟩:=q7;exact again I7 n7
  |cont=>obtain⟨σ7,H7,I7,n7⟩:=q7;exact again I7 n7
  |brk=>obtain⟨σ7,H7,I7,q7⟩:=q7;exact⟨σ7,H7,I7.unpinned,q7⟩
  |ret v=>obtain⟨x7,σ7,H7,I7,r7,q7⟩:=q7;exact⟨x7,σ7,H7,I7.unpinned,r7,q7⟩
end
noncomputable abbrev R2:=V->V->Hp->VK->Prop
noncomputable def OpR(X:Cx)(f:Value->Value->Sem Value)(r:R2):Prop:=
 ∀(pins:List (Addr×Obj))(s:Shared)(σ:St)(H:Hp)(x y:V)(v u:Value)(Q:VK),Inv X pins σ H s->RelV x v->RelV y u->r x y H Q->
  wpAny (model X.prog X.w) X.A (f v u) (EP X pins σ Q) X.xe s
noncomputable def UnR(X:Cx)(f:Value->Sem Value)(r:V->Hp->VK->Prop):Prop:=
 ∀(pins:List (Addr×Obj))(s:Shared)(σ:St)(H:Hp)(x:V)(v:Value)(Q:VK),Inv X pins σ H s->RelV x v->r x H Q->
  wpAny (model X.prog X.w) X.A (f v) (EP X pins σ Q) X.xe s
noncomputable def fM(X:Cx)(f:Value)(r:List V->Hp->VK->Prop):Prop:=
 ∀(pins:List (Addr×Obj))(s:Shared)(σ:St)(H:Hp)(xs:List V)(us:List Value)(Q:VK),Inv X pins σ H s->aZ xs us->r xs H Q->
  wpAny (model X.prog X.w) X.A (call f us) (EP X pins σ Q) X.xe s
noncomputable def aDg(X:Cx)(r:V->Hp->(Bool->Hp->Prop)->Prop):Prop:=
 ∀(pins:List (Addr×Obj))(s:Shared)(σ:St)(H:Hp)(x:V)(v:Value)(Q:Bool->Hp->Prop),Inv X pins σ H s->RelV x v->r x H Q->
  wpAny (model X.prog X.w) X.A (truthy v) (TP X pins σ Q) X.xe s
noncomputable def tOp(r:R2)(ta tb:TE):TE:=fun σ H Q=>ta σ H fun x H1=>tb σ H1 fun y H2=>r x y H2 Q
noncomputable def tUn(r:V->Hp->VK->Prop)(ta:TE):TE:=fun σ H Q=>ta σ H fun x H1=>r x H1 Q
noncomputable def rI(C:Int->Int->Prop)(g:Int->Int->V):R2:=fun x y H Q=>∃i j,x=.int i/\y=.int j/\C i j/\Q (g i j) H
noncomputable def rI0(g:Int->Int->V):R2:=fun x y H Q=>∃i j,x=.int i/\y=.int j/\Q (g i j) H
noncomputable def rU(g:Int->V):V->Hp->VK->Prop:=fun x H Q=>∃i,x=.int i/\Q (g i) H
section
variable{X:Cx}{a b c:Expr}{ta tb tc:TE}{pos:Pos}
theorem aAr(ha:PE X a ta)(hb:PE X b tb){pins:List (Addr×Obj)}{R:V->V->Hp->Prop}(I:Inv X pins σ H s)
 (h:ta σ H fun x H1=>tb σ H1 fun y H2=>R x y H2) {Q:Value->Shared->Prop} {f:Value->Value->Sem Value}
 (hf:∀v u s2 x y H2,Inv X pins σ H2 s2->RelV x v->RelV y u->R x y H2->wpAny (model X.prog X.w) X.A (f v u) Q X.xe s2):
 wpAny (model X.prog X.w) X.A (eval a X.env) (fun v s₁=>wpAny (model X.prog X.w) X.A (eval b X.env) (fun u s₂=>wpAny (model X.prog X.w) X.A (f v u) Q X.xe s₂) X.xe s₁) X.xe s:=by
 refine thn (ha pins s σ H _ I h) fun v s1 ⟨x,H1,I1,r1,q1⟩=>?_;refine thn (hb pins s1 σ H1 _ I1 q1) fun u s2 ⟨y,H2,I2,r2,q2⟩=>?_;exact hf v u s2 x y H2 I2 r1 r2 q2
theorem aBF{op:Operator}{r:R2}(ho:OpR X (binaryOp op) r)(ha:PE X a ta)(hb:PE X b tb):PE X (.BinOp a op b pos) (tOp r ta tb):=by
 intro pins s σ H Q I h;exact wpAny_BinOp (aAr ha hb I h fun v u s2 x y H2 I2 rx ry q=>ho pins s2 σ H2 x y v u Q I2 rx ry q)
theorem aBw{op:UnaryOp}{r:V->Hp->VK->Prop}(ho:UnR X (unaryOp op) r)(ha:PE X a ta):PE X (.UnaryOp op a pos) (tUn r ta):=by
 intro pins s σ H Q I h;exact UnaryOp_ (thn (ha pins s σ H _ I h) fun v s1 ⟨x,H1,I1,r1,q1⟩=>ho pins s1 σ H1 x v Q I1 r1 q1)
theorem opI{f:Value->Value->Sem Value}{C:Int->Int->Prop}{g:Int->Int->Int}
 (rule:∀(i j:Int)(t u:Tok)(s:Shared)(Q:Value->Shared->Prop)(E:Value->Shared->Prop),C i j->Q (.int (g i j) s.toks) { s with toks:=s.toks+1 }->wpAny (model X.prog X.w) X.A (f (.int i t) (.int j u)) Q E s):
 OpR X f (rI C fun i j=>.int (g i j)):=by
 intro pins s σ H x y v u Q I rx ry h;obtain⟨i,j,rfl,rfl,hc,q⟩:=h;obtain⟨t,rfl⟩:=rx;obtain⟨t',rfl⟩:=ry;exact rule i j t t' s _ _ hc ⟨.int (g i j),H,I.tok _,⟨_,rfl⟩,q⟩
theorem aBt{f:Value->Value->Sem Value}{g:Int->Int->Int}
 (rule:∀(i j:Int)(t u:Tok)(s:Shared)(Q:Value->Shared->Prop)(E:Value->Shared->Prop),Q (.int (g i j) s.toks) { s with toks:=s.toks+1 }->wpAny (model X.prog X.w) X.A (f (.int i t) (.int j u)) Q E s):
 OpR X f (rI0 fun i j=>.int (g i j)):=by
 intro pins s σ H x y v u Q I rx ry h;obtain⟨i,j,rfl,rfl,q⟩:=h;obtain⟨t,rfl⟩:=rx;obtain⟨t',rfl⟩:=ry;exact rule i j t t' s _ _ ⟨.int (g i j),H,I.tok _,⟨_,rfl⟩,q⟩
theorem VC{f:Value->Value->Sem Value}{g:Int->Int->Bool}
 (rule:∀(i j:Int)(t u:Tok)(s:Shared)(Q:Value->Shared->Prop)(E:Value->Shared->Prop),Q (.bool (g i j)) s->wpAny (model X.prog X.w) X.A (f (.int i t) (.int j u)) Q E s):
 OpR X f (rI0 fun i j=>.bl (g i j)):=by
 intro pins s σ H x y v u Q I rx ry h;obtain⟨i,j,rfl,rfl,q⟩:=h;obtain⟨t,rfl⟩:=rx;obtain⟨t',rfl⟩:=ry;exact rule i j t t' s _ _ ⟨.bl (g i j),H,I,rfl,q⟩
noncomputable def aCL(i j:Int):Prop:=0<=j/\j<=1000000/\i.natAbs<2 ^ 64
noncomputable def YY(i j:Int):Prop:=(-(2 ^ 64)<i/\i<2 ^ 64)\/(-(2 ^ 64)<j/\j<2 ^ 64)
theorem YY.ok{i j:Int}(h:YY i j):IntMulOk i j:=by
 rcases h with⟨h1,h2⟩|⟨h1,h2⟩
 .exact .of_left (intBits_le_64 h1 h2)
 .exact .of_right (intBits_le_64 h1 h2)
theorem op_add:OpR X (binaryOp .Add) (rI0 fun i j=>.int (i+j)):=aBt fun _ _ _ _ _ _ _ q=>add_int q
theorem aAa:OpR X (binaryOp .Sub) (rI0 fun i j=>.int (i-j)):=aBt fun _ _ _ _ _ _ _ q=>sub_int q
theorem aAl:OpR X (binaryOp .Mod) (rI (fun _ j=>0<j) fun i j=>.int (i % j)):=opI fun i j _ _ _ _ _ hc q=>by
 have h1:(0:Int)<j:=hc;exact mod_int' (by omega) (by rw[Int.fmod_eq_emod_of_nonneg i (by omega)];exact q)
theorem aBg:OpR X (binaryOp .Pow) (rI aCL fun i j=>.int (i ^ j.toNat)):=opI fun _ _ _ _ _ _ _ hc q=>pow_int_small hc.1 hc.2.1 hc.2.2 q
theorem unI{f:Value->Sem Value}{g:Int->Int}
 (rule:∀(i:Int)(t:Tok)(s:Shared)(Q:Value->Shared->Prop)(E:Value->Shared->Prop),Q (.int (g i) s.toks) { s with toks:=s.toks+1 }->wpAny (model X.prog X.w) X.A (f (.int i t)) Q E s):
 UnR X f (rU fun i=>.int (g i)):=by
 intro pins s σ H x v Q I rx h;obtain⟨i,rfl,q⟩:=h;obtain⟨t,rfl⟩:=rx;exact rule i t s _ _ ⟨.int (g i),H,I.tok _,⟨_,rfl⟩,q⟩
theorem aAF:UnR X (unaryOp .USub) (rU fun i=>.int (-i)):=unI fun _ _ _ _ _ q=>neg_int q
end
noncomputable def aBU:V->V->Bool
 |.non,.non=>true|.non,.int _=>true|.int _,.non=>true|.non,.bl _=>true|.bl _,.non=>true|.non,.str _=>true|.str _,.non=>true
 |.int _,.int _=>true|.bl _,.bl _=>true|.str _,.str _=>true|.byt _,.byt _=>true
 |.int _,.str _=>true|.str _,.int _=>true|.bl _,.str _=>true|.str _,.bl _=>true
 |_,_=>false
noncomputable def rEq:R2:=fun x y H Q=>aBU x y=true/\Q (.bl (decide (x=y))) H
noncomputable def rNe:R2:=fun x y H Q=>aBU x y=true/\Q (.bl (!decide (x=y))) H
theorem GK{i j:Int}:decide (V.int i=V.int j)=(i==j):=by
 rw[O9];simp
theorem KP{i j:Bool}:decide (V.bl i=V.bl j)=(i==j):=by
 rw[O9];simp
theorem GC{i j:Str}:decide (V.str i=V.str j)=(i==j):=by
 rw[O9];simp
theorem GO{i j:Array UInt8}:decide (V.byt i=V.byt j)=(i.toList==j.toList):=by
 rw[O9];cases i;cases j;simp
section
variable{X:Cx}{a b c:Expr}{ta tb tc:TE}{pos:Pos}
theorem bN{pins:List (Addr×Obj)}{Q:VK}{k k':Bool}(I:Inv X pins σ H s)(q:Q (.bl k) H)(e:k=k'):EP X pins σ Q (.bool k') s:=by
 subst e;exact⟨.bl k,H,I,rfl,q⟩
theorem op_eq:OpR X (compareOp .Eq) rEq:=by
 intro pins s σ H x y v u Q I rx ry h;obtain⟨hs,q⟩:=h;cases x with
 |non=>
  cases rx;cases y with
  |non=>cases ry;exact PySem.EqNone.eq_none_none (bN I q (by simp))
  |bl j=>cases ry;exact PySem.EqNone.eq_none_bool (bN I q (by simp))
  |int j=>obtain⟨t',rfl⟩:=ry;exact PySem.EqNone.eq_none_int (bN I q (by simp))
  |str j=>obtain⟨t',rfl⟩:=ry;exact PySem.EqNone.eq_none_str (bN I q (by simp))
  |_=>exact absurd (show false=true from hs) A7
 |bl i=>
  cases rx;cases y with
  |non=>cases ry;exact PySem.EqNone.eq_bool_none (bN I q (by simp))
  |bl j=>cases ry;exact eq_bool (bN I q KP)
  |str j=>obtain⟨t',rfl⟩:=ry;exact PySem.EqMixed.eq_bool_str (bN I q (by simp))
  |_=>exact absurd (show false=true from hs) A7
 |int i=>
  obtain⟨t,rfl⟩:=rx;cases y with
  |non=>cases ry;exact PySem.EqNone.eq_int_none (bN I q (by simp))
  |int j=>obtain⟨t',rfl⟩:=ry;exact eq_int (bN I q GK)
  |str j=>obtain⟨t',rfl⟩:=ry;exact PySem.EqMixed.eq_int_str (bN I q (by simp))
  |_=>exact absurd (show false=true from hs) A7
 |str i=>
  obtain⟨t,rfl⟩:=rx;cases y with
  |non=>cases ry;exact PySem.EqNone.eq_str_none (bN I q (by simp))
  |bl j=>cases ry;exact PySem.EqMixed.eq_str_bool (bN I q (by simp))
  |int j=>obtain⟨t',rfl⟩:=ry;exact PySem.EqMixed.eq_str_int (bN I q (by simp))
  |str j=>obtain⟨t',rfl⟩:=ry;exact eq_str (bN I q GC)
  |_=>exact absurd (show false=true from hs) A7
 |byt i=>
  obtain⟨t,rfl⟩:=rx;cases y with
  |byt j=>obtain⟨t',rfl⟩:=ry;exact PySem.W.eq_bytes (bN I q GO)
  |_=>exact absurd (show false=true from hs) A7
 |_=>cases y<;>exact absurd (show false=true from hs) A7
theorem op_ne:OpR X (compareOp .NotEq) rNe:=by
 intro pins s σ H x y v u Q I rx ry h;obtain⟨hs,q⟩:=h;cases x with
 |non=>
  cases rx;cases y with
  |non=>cases ry;exact PySem.EqNone.ne_none_none (bN I q (by simp))
  |bl j=>cases ry;exact PySem.EqNone.ne_none_bool (bN I q (by simp))
  |int j=>obtain⟨t',rfl⟩:=ry;exact PySem.EqNone.ne_none_int (bN I q (by simp))
  |str j=>obtain⟨t',rfl⟩:=ry;exact PySem.EqNone.ne_none_str (bN I q (by simp))
  |_=>exact absurd (show false=true from hs) A7
 |bl i=>
  cases rx;cases y with
  |non=>cases ry;exact PySem.EqNone.ne_bool_none (bN I q (by simp))
  |bl j=>cases ry;exact ne_bool (bN I q (L5 not KP))
  |str j=>obtain⟨t',rfl⟩:=ry;exact PySem.EqMixed.ne_bool_str (bN I q (by simp))
  |_=>exact absurd (show false=true from hs) A7
 |int i=>
  obtain⟨t,rfl⟩:=rx;cases y with
  |non=>cases ry;exact PySem.EqNone.ne_int_none (bN I q (by simp))
  |int j=>obtain⟨t',rfl⟩:=ry;exact ne_int (bN I q (L5 not GK))
  |str j=>obtain⟨t',rfl⟩:=ry;exact PySem.EqMixed.ne_int_str (bN I q (by simp))
  |_=>exact absurd (show false=true from hs) A7
 |str i=>
  obtain⟨t,rfl⟩:=rx;cases y with
  |non=>cases ry;exact PySem.EqNone.ne_str_none (bN I q (by simp))
  |bl j=>cases ry;exact PySem.EqMixed.ne_str_bool (bN I q (by simp))
  |int j=>obtain⟨t',rfl⟩:=ry;exact PySem.EqMixed.ne_str_int (bN I q (by simp))
  |str j=>obtain⟨t',rfl⟩:=ry;exact ne_str (bN I q (L5 not GC))
  |_=>exact absurd (show false=true from hs) A7
 |byt i=>
  obtain⟨t,rfl⟩:=rx;cases y with
  |byt j=>obtain⟨t',rfl⟩:=ry;exact PySem.W.ne_bytes (bN I q (L5 not GO))
  |_=>exact absurd (show false=true from hs) A7
 |_=>cases y<;>exact absurd (show false=true from hs) A7
theorem aBE:OpR X (compareOp .Lt) (rI0 fun i j=>.bl (decide (i<j))):=VC fun _ _ _ _ _ _ _ q=>lt_int q
theorem aCx:OpR X (compareOp .LtE) (rI0 fun i j=>.bl (decide (i<=j))):=VC fun _ _ _ _ _ _ _ q=>le_int q
theorem aBP:OpR X (compareOp .Gt) (rI0 fun i j=>.bl (decide (j<i))):=VC fun _ _ _ _ _ _ _ q=>gt_int q
theorem aCF:OpR X (compareOp .GtE) (rI0 fun i j=>.bl (decide (j<=i))):=VC fun _ _ _ _ _ _ _ q=>ge_int q
theorem OpR.or{f:Value->Value->Sem Value}{r r':R2}(h:OpR X f r)(h':OpR X f r'):OpR X f (fun x y H Q=>r x y H Q\/r' x y H Q):=by
 intro pins s σ H x y v u Q I rx ry q;rcases q with q|q
 .exact h pins s σ H x y v u Q I rx ry q
 .exact h' pins s σ H x y v u Q I rx ry q
theorem RZ{op:CmpOp}{r:R2}(ho:OpR X (compareOp op) r)(ha:PE X a ta)(hb:PE X b tb)(hm:behindInMarks op b=false):PE X (.Compare a [op] [b] pos) (tOp r ta tb):=by
 intro pins s σ H Q I h;exact wpAny_Compare1 (aAr ha hb I h fun v u s2 x y H2 I2 rx ry q=>ho pins s2 σ H2 x y v u Q I2 rx ry q) hm
noncomputable def VP(t:TE):TT:=fun σ H Q=>t σ H fun x H'=>∃k,x=.bl k/\Q k H'
theorem UJ{op:CmpOp}{r:R2}(ho:OpR X (compareOp op) r)(ha:PE X a ta)(hb:PE X b tb)(hm:behindInMarks op b=false):PT X (.Compare a [op] [b] pos) (VP (tOp r ta tb)):=by
 intro pins s σ H Q I h
 refine wpAny_isTrue_Compare1 (thn (ha pins s σ H _ I h) fun v s1 ⟨x,H1,I1,r1,q1⟩=>thn (hb pins s1 σ H1 _ I1 q1) fun u s2 ⟨y,H2,I2,r2,q2⟩=>
  thn (ho pins s2 σ H2 x y v u _ I2 r1 r2 q2) fun c s3 ⟨z,H3,I3,r3,k,e,q3⟩=>?_) hm
 subst e;cases r3;exact J3 ⟨H3,I3,q3⟩
noncomputable def LK(r r':R2)(ta tb tc:TE):TE:=fun σ H Q=>ta σ H fun x H1=>tb σ H1 fun y H2=>r x y H2 fun z H3=>∃k,z=.bl k /\
 (if k=true then tc σ H3 fun w' H4=>r' y w' H4 Q else Q (.bl false) H3)
theorem MP{op op':CmpOp}{r r':R2}(ho:OpR X (compareOp op) r)(ho':OpR X (compareOp op') r')(ha:PE X a ta)(hb:PE X b tb)(hc:PE X c tc)
 (hm:lastMarks [op,op'] [b,c]=false:=by with_unfolding_all rfl):PE X (.Compare a [op,op'] [b,c] pos) (LK r r' ta tb tc):=by
 intro pins s σ H Q I h
 refine Compare_chain (thn (ha pins s σ H _ I h) fun v s1 ⟨x,H1,I1,r1,q1⟩=>chain_link (thn (hb pins s1 σ H1 _ I1 q1) fun u s2 ⟨y,H2,I2,r2,q2⟩=>
  thn (ho pins s2 σ H2 x y v u _ I2 r1 r2 q2) fun d s3 ⟨z,H3,I3,r3,k,e,q3⟩=>?_)) hm
 subst e;cases r3;refine J3 ?_;cases k with
 |false=>exact ite_ff ⟨.bl false,H3,I3,rfl,q3⟩
 |true=>exact ite_tt (chain_last (thn (hc pins s3 σ H3 _ I3 q3) fun w' s4 ⟨z',H4,I4,r4,q4⟩=>ho' pins s4 σ H4 y z' u w' Q I4 r2 r4 q4))
noncomputable def SU(K:Fg)(x:V)(H:Hp)(k:Bool):Prop:=
 match x with
 |.non=>k=false
 |.bl b=>k=b
 |.int i=>k=(i != 0)
 |.str y=>y.length<=sizeLine/\k=((y.length:Int) != 0)
 |.byt y=>y.size<=sizeLine/\k=((y.size:Int) != 0)
 |.ref p=>(∃xs,SqL K H p xs/\k=!xs.isEmpty)\/(∃xs,SqT K H p xs/\k=!xs.isEmpty)\/∃kvs,H p=some (.dK kvs)/\k=!kvs.isEmpty
 |_=>False
theorem EI{κ:Type}{kvs:List (κ×V)}{vs:List (κ×Value)}(r:KV kvs vs):(!vs.isEmpty)=!kvs.isEmpty:=by
 cases r<;>rfl
theorem uF{xs:List V}{its:List Value}(r:aZ xs its):(!its.toArray.isEmpty)=!xs.isEmpty:=by
 cases r<;>simp
theorem qN:(sizeLine:Nat)<2 ^ 63:=by rw[E7];decide
theorem XO:aDg X (fun x H Q=>∃k,SU X.K x H k/\Q k H):=by
 intro pins s σ H x v Q I rx h;obtain⟨k,e,q⟩:=h;have hl:=qN;have hs:sizeLine=16777216:=E7;cases x with
 |non=>
  cases rx;have e':k=false:=e;subst e';exact truthy_none ⟨H,I,q⟩
 |bl b=>
  cases rx;have e':k=b:=e;subst e';exact J3 ⟨H,I,q⟩
 |int i=>
  obtain⟨t,rfl⟩:=rx;have e':k=(i != 0):=e;subst e';exact PySem.P.truthy_int ⟨H,I,q⟩
 |str y=>
  obtain⟨t,rfl⟩:=rx;obtain⟨hy,e'⟩:y.length<=sizeLine/\k=((y.length:Int) != 0):=e;subst e';exact PySem.P.truthy_str (by omega) ⟨H,I.tok _,q⟩
 |byt y=>
  obtain⟨t,rfl⟩:=rx;obtain⟨hy,e'⟩:y.size<=sizeLine/\k=((y.size:Int) != 0):=e;subst e';exact PySem.W.truthy_bytes (by omega) ⟨H,I.tok _,q⟩
 |ref p=>
  cases rx;have e':(∃xs,SqL X.K H p xs/\k=!xs.isEmpty)\/(∃xs,SqT X.K H p xs/\k=!xs.isEmpty)\/∃kvs,H p=some (.dK kvs)/\k=!kvs.isEmpty:=e;rcases e' with⟨xs,hx,e'⟩|⟨xs,hx,e'⟩|⟨kvs,hx,e'⟩
  .subst e';obtain⟨its,r,pl,hz⟩:=I.list hx;have hlen:=r.length;exact wpAny_truthy_list pl.isList (by simp only[List.size_toArray];omega) ⟨H,I.tok _,by rw[uF r];exact q⟩
  .subst e';obtain⟨its,r,pl,hz⟩:=I.tuple hx;have hlen:=r.length;exact truthy_tuple pl (by simp only[List.size_toArray];omega) ⟨H,I.tok _,by rw[uF r];exact q⟩
  .subst e';obtain⟨hz,hS,vs,r,m⟩:kvs.length<=sizeLine/\(p==sysModules)=false/\∃vs,KV kvs vs/\s.heap.DictOf (cV X.prog X.w) p vs:=I.hok p _ hx;have hlen:kvs.length=vs.length:=S4 r;exact wpAny_truthy_dict hS m (by omega) ⟨H,I.tok _,by rw[EI r];exact q⟩
 |_=>exact(show False from e).elim
theorem NP(ha:PE X a ta)(he:∀whole,isTrue a X.env whole=(do let v <- whole;standAt a.pos;holding [v] (truthy v))):
 PT X a (fun σ H Q=>ta σ H fun x H'=>∃k,SU X.K x H' k/\Q k H'):=by
 intro pins s σ H Q I h;exact isTrue_plain (thn (ha pins s σ H _ I h) fun v s1 ⟨x,H1,I1,r1,q1⟩=>XO pins s1 σ H1 x v Q I1 r1 q1) (he _)
theorem FQ:OpR X (binaryOp .Add) (fun x y H Q=>∃i j,x=.str i/\y=.str j/\i.length+j.length<=sizeLine/\Q (.str (i++j)) H):=by
 intro pins s σ H x y v u Q I rx ry h;obtain⟨i,j,rfl,rfl,hz,q⟩:=h;obtain⟨t,rfl⟩:=rx;obtain⟨t',rfl⟩:=ry;exact add_str (fun t' tk=>⟨.str (i++j),H,I.tok _,⟨_,rfl⟩,q⟩) hz
theorem vals1{x:V}{us:List Value}(r:aZ [x] us):∃u,us=[u]/\RelV x u:=by
 cases r with
 |cons r1 r2=>cases r2;exact⟨_,rfl,r1⟩
theorem vals2{x y:V}{us:List Value}(r:aZ [x,y] us):∃u w',us=[u,w']/\RelV x u/\RelV y w':=by
 cases r with
 |cons r1 r2=>
  cases r2 with
  |cons r3 r4=>cases r4;exact⟨_,_,rfl,r1,r3⟩
theorem IV(hc:X.calm=true):fM X (.builtin "max") (fun xs H Q=>∃i j,xs=[.int i,.int j]/\Q (.int (if j > i then j else i)) H):=by
 intro pins s σ H xs us Q I r h;obtain⟨i,j,rfl,q⟩:=h;obtain⟨u,w',rfl,⟨t,rfl⟩,⟨t',rfl⟩⟩:=vals2 r;refine max_two_ints (I.ok.hd hc) fun h' tk k=>⟨_,H,I.kept k,?_,q⟩;by_cases hj:j > i
 .rw[A4 hj,A4 hj];exact⟨_,rfl⟩
 .rw[A5 hj,A5 hj];exact⟨_,rfl⟩
theorem JU(hc:X.calm=true):fM X (.builtin "min") (fun xs H Q=>∃i j,xs=[.int i,.int j]/\Q (.int (if j<i then j else i)) H):=by
 intro pins s σ H xs us Q I r h;obtain⟨i,j,rfl,q⟩:=h;obtain⟨u,w',rfl,⟨t,rfl⟩,⟨t',rfl⟩⟩:=vals2 r;refine min_two_ints (I.ok.hd hc) fun h' tk k=>⟨_,H,I.kept k,?_,q⟩;by_cases hj:j<i
 .rw[A4 hj,A4 hj];exact⟨_,rfl⟩
 .rw[A5 hj,A5 hj];exact⟨_,rfl⟩
theorem yG:fM X (.type "str") (fun xs H Q=>∃i,xs=[.int i]/\i.natAbs.log2<1920/\Q (.str (toString i)) H):=by
 intro pins s σ H xs us Q I r h;obtain⟨i,rfl,hz,q⟩:=h;obtain⟨u,rfl,t,rfl⟩:=vals1 r;exact PySem.P.str_of_int hz ⟨.str _,H,I.tok _,⟨_,rfl⟩,q⟩
end
structure IE(h:Heap)(x dx C:Addr)(mA:Str->Option Value):Prop where
 obj:h.get? x=some (PySem.W.instObj C dx)
 ns:h.Ns1 dx mA
 ne:dx≠x
theorem HV{h:Heap}{dx:Addr}{mA:Str->Option Value}(n:h.Ns1 dx mA):∃od,h.get? dx=some od/\∀name,PySem.W.lookIn name od=some (mA name):=by
 obtain⟨o,es,ep,ho,hd,hk,_,hm⟩:=n;refine⟨o,ho,fun name=>?_⟩;have e:=hm name;unfold nsFind findBy at e;rw[<- Array.find?_toList]at e;unfold PySem.W.lookIn;rw[hd];dsimp only;split
 .rename_i y q;rw[q]at e;exact L5 some e
 .rename_i q;rw[q]at e
  have a:es.toList.any (·.refKey)=false:=by
   rw[List.any_eq_false];intro y hy;obtain⟨z,t,hkey⟩:=hk y (Array.mem_toList_iff.mp hy);simp[DictEntry.refKey,hkey]
  have a':¬es.toList.any (·.refKey)=true:=by rw[a];exact A7
  rw[A5 a'];exact L5 some e
theorem IE.look{h:Heap}{x dx C:Addr}{mA:Str->Option Value}(I:IE h x dx C mA):∃od,PySem.W.InstAt h x (PySem.W.instObj C dx) C (some od)/\∀name,PySem.W.lookIn name od=some (mA name):=
 let⟨od,ho,hl⟩:=HV I.ns
 ⟨od,⟨I.obj,rfl,rfl,ho⟩,hl⟩
section
variable{prog:Program}{w:World}{A:Around}{E:Value->Shared->Prop}{s:Shared}{K:Fg}{x dx C f:Addr}{mA:Str->Option Value}{name:Str}{v:Value}
theorem get_map{expr:Bool}{Q:Value->Shared->Prop}(X:K.In s.heap)(I:IE s.heap x dx C mA)(hg:PySem.W.plainGet K C name=true)(hh:PySem.W.hasDictIn K C=true)
 (ha:PySem.W.findIn K (.ref C) name=some none) (hv:mA name=some v) (hv':PySem.W.handedIn v=true) (h:Q v { s with toks:=s.toks+1 }):
 wpAny (model prog w) A (getAttr (.ref x) name expr) Q E s:=by
 obtain⟨od,J,hl⟩:=I.look;exact PySem.W.get_value X J (PySem.W.plainGet_of hg).1 (PySem.W.findObj_own hh ha rfl (by rw[hl,hv])) hv' h
theorem TC{ns:List Str}{Q:Unit->Shared->Prop}(X:K.In s.heap)(I:IE s.heap x dx C mA)
 (hs:PySem.W.findIn K (.ref C) "__setattr__"=some (some (.builtin "object.__setattr__"))) (hp:PySem.W.plainOver K C=true) (ht:PySem.W.takerIn K C name=some none) (hh:PySem.W.hasDictIn K C=true)
 (hw:PySem.Within mA ns) (hsz:ns.length<=sizeLine)
 (h:∀h',IE h' x dx C (fun y=>if y=name then some v else mA y)->Heap.SameBut dx s.heap h'->Q () { s with heap:=h',toks:=s.toks+2 }):
 wpAny (model prog w) A (setAttr (.ref x) name v) Q E s:=by
 obtain⟨od,J,hl⟩:=I.look;refine PySem.W.set_plain X J hs (PySem.W.osa_open (s:={ s with toks:=s.toks+1 }) (r:=none) X J hp ht fun b=>?_);obtain⟨cd,hc,hd'⟩:=PySem.W.any_some hh;have hx:s.heap.get? x=some ⟨.ref C,some dx,.plain,#[]⟩:=I.obj;refine A0 (A6 (A0 (A0 (wpAny_loadPart hx (A0 (PySem.W.Looks.here (s:={ s with toks:=s.toks+1 }) (PySem.W.looks_clsIn X hc) ?_))))));rw[hd'];refine A6 (a:=some dx) (A0 (A6 (A0 ?_)));refine wpAny_nsSet1 (s:={ s with toks:=s.toks+1 }) I.ns fun h' hn2 hs2=>?_;obtain⟨oD,esD,epD,hoD,hdD,hcD⟩:=hn2.count (PySem.Within.cons name v hw);refine A0 (wpAny_lookBehind hoD (by rw[hdD];exact pastItsLine_dict (C4 hcD (by rw[C5];omega))) ?_);exact A6 (h _ ⟨(hs2.2 _ (F5 I.ne)).trans I.obj,hn2,I.ne⟩ hs2)
theorem OW{R:Result->Shared->Prop}{vs:List Value}{kw:List (Str×Value)}(X:K.In s.heap)(hm:PySem.W.makesIn K C=true)
 (hi:PySem.W.findIn K (.ref C) "__init__"=some (some (.ref f))) (hf:PySem.W.typeIn K (.ref f)=some (.type "function"))
 (h:codeAny (model prog w) (A.under (.builtin "type.__call__" ⟨.ref C::vs,kw⟩)) (.call (.ref f) ⟨.ref (s.heap.objs.size+1)::vs,kw⟩) (PySem.W.InitBack (s.heap.objs.size+1) R)
  { s with heap:=(s.heap.push PySem.W.emptyDict).push (PySem.W.instObj C s.heap.objs.size) }):
 codeAny (model prog w) A (.call (.ref C) ⟨vs,kw⟩) R s:=by
 obtain⟨hh,g,d,t,os⟩:=s;exact PySem.W.make_core (PySem.W.makes_of X hm) (PySem.W.looks_findIn X hi) (fun self=>PySem.W.bind_fn X self hf) (.inl rfl) h
end
noncomputable def kQ(f:Str)(v:V):List (Str×V)->List (Str×V)
 |[]=>[(f,v)]
 |(g,x)::r=>if g=f then(g,v)::r else(g,x)::kQ f v r
theorem sE(f g:Str)(v:V):∀fs:List (Str×V),(kQ f v fs).lookup g=if g=f then some v else fs.lookup g
 |[]=>by
  show List.lookup g [(f,v)]=_;by_cases h:g=f
  .have hb:(g==f)=true:=beq_iff_eq.mpr h;simp only[List.lookup,hb,if_pos h]
  .have hb:(g==f)=false:=beq_eq_false_iff_ne.mpr h;simp only[List.lookup,hb,if_neg h]
 |(k,x)::r=>by
  have ih:=sE f g v r;rw[show kQ f v ((k,x)::r)=(if k=f then(k,v)::r else(k,x)::kQ f v r)from rfl];by_cases hk:k=f
  .rw[A4 hk];by_cases h:g=k
   .have hb:(g==k)=true:=beq_iff_eq.mpr h;simp only[List.lookup,hb,if_pos (h.trans hk)]
   .have hb:(g==k)=false:=beq_eq_false_iff_ne.mpr h;simp only[List.lookup,hb,if_neg (fun e:g=f=>h (e.trans hk.symm))]
  .rw[A5 hk];by_cases h:g=k
   .have hb:(g==k)=true:=beq_iff_eq.mpr h;simp only[List.lookup,hb,if_neg (fun e:g=f=>hk (h.symm.trans e))]
   .have hb:(g==k)=false:=beq_eq_false_iff_ne.mpr h;simp only[List.lookup,hb];exact ih
theorem rB(f:Str)(v:V):∀fs:List (Str×V),f∈(kQ f v fs).map (·.1)/\∀g,g∈fs.map (·.1)->g∈(kQ f v fs).map (·.1)
 |[]=>⟨by simp[kQ],fun g h=>by simp at h⟩
 |(k,x)::r=>by
  obtain⟨i1,i2⟩:=rB f v r;rw[show kQ f v ((k,x)::r)=(if k=f then(k,v)::r else(k,x)::kQ f v r)from rfl];by_cases hk:k=f
  .rw[A4 hk];subst hk;exact⟨by simp,fun g h=>by simpa using h⟩
  .rw[A5 hk];refine⟨?_,fun g h=>?_⟩
   .rw[C0];exact B1 _ i1
   .rw[C0]at h ⊢;rcases List.mem_cons.mp h with e|e
    .exact List.mem_cons.mpr (.inl e)
    .exact B1 _ (i2 g e)
theorem rW(f:Str)(v:V):∀fs:List (Str×V),(kQ f v fs).length<=fs.length+1
 |[]=>by simp[kQ]
 |(k,x)::r=>by
  have ih:=rW f v r;rw[show kQ f v ((k,x)::r)=(if k=f then(k,v)::r else(k,x)::kQ f v r)from rfl];by_cases hk:k=f
  .rw[A4 hk,C5,C5];omega
  .rw[A5 hk,C5,C5];omega
theorem sU.some_of{v:V}{o:Option Value}(r:sU (some v) o):∃u,o=some u/\RelV v u:=by
 cases o with
 |none=>exact(show False from r).elim
 |some u=>exact⟨u,rfl,r⟩
theorem IZ{v:V}{u:Value}(r:RelV v u):PySem.W.handedIn u=true:=by
 cases v with
 |non=>cases (show u=Value.none from r);rfl
 |bl b=>cases (show u=Value.bool b from r);rfl
 |int i=>obtain⟨t,e⟩:=(show ∃t,u=Value.int i t from r);cases e;rfl
 |str x=>obtain⟨t,e⟩:=(show ∃t,u=Value.str x t from r);cases e;rfl
 |byt b=>obtain⟨t,e⟩:=(show ∃t,u=Value.bytes b t from r);cases e;rfl
 |flt b=>obtain⟨t,e⟩:=(show ∃t,u=Value.float b t from r);cases e;rfl
 |ref a=>cases (show u=Value.ref a from r);rfl
 |ty n=>cases (show u=Value.type n from r);rfl
section
variable{P:Program}{w:World}{H H':Hp}{h h':Heap}{a C dx:Addr}{fs fs':List (Str×V)}
theorem HC(hok:HOk P w H h)(e:H a=some (.ins C dx fs)):∃mA,IE h a dx C mA/\(∀f,sU (fs.lookup f) (mA f))/\PySem.Within mA (fs.map (·.1))/\fs.length<=1000/\H dx=some (.own a):=by
 obtain⟨d,z,ne,ob,mA,n,r,q⟩:=(show cE P w H h a (.ins C dx fs)from hok a _ e);exact⟨mA,⟨ob,n,ne⟩,r,q,z,d⟩
end
structure Cls(K:Fg)(C:Addr):Prop where
 pg:PySem.W.plainGet K C Str.empty=true
 hd:PySem.W.hasDictIn K C=true
 po:PySem.W.plainOver K C=true
 sa:PySem.W.findIn K (.ref C) "__setattr__"=some (some (.builtin "object.__setattr__"))
theorem Cls.get{C:Addr}(c:Cls K C)(f:Str):PySem.W.plainGet K C f=true:=c.pg
noncomputable def fR(K:Fg)(C:Addr)(f:Str):Prop:=PySem.W.findIn K (.ref C) f=some none
theorem fR.taker{C:Addr}{f:Str}(n:fR K C f):PySem.W.takerIn K C f=some none:=by
 unfold PySem.W.takerIn;rw[show PySem.W.findIn K (.ref C) f=some none from n];rfl
section
variable{X:Cx}{pins:List (Addr×Obj)}{σ:St}{H:Hp}{s:Shared}{a C dx:Addr}{fs:List (Str×V)}{f:Str}{v:V}{A:Around}{E:Value->Shared->Prop}
theorem EY{b:Bool}{Q:Value->Shared->Prop}(I:Inv X pins σ H s)(e:H a=some (.ins C dx fs))(c:Cls X.K C)(n:fR X.K C f)(l:fs.lookup f=some v)
 (h:∀u s',Inv X pins σ H s'->RelV v u->Q u s'):wpAny (model X.prog X.w) A (getAttr (.ref a) f b) Q E s:=by
 obtain⟨mA,O,r,_,_,_⟩:=HC I.hok e;obtain⟨u,hu,ru⟩:=sU.some_of (v:=v) (o:=mA f) (by rw[<- l];exact r f);exact get_map I.kIn O (c.get f) c.hd n hu (IZ ru) (h u _ (I.tok _) ru)
theorem EM{y:V}{u:Value}{Q:Unit->Shared->Prop}(I:Inv X pins σ H s)(e:H a=some (.ins C dx fs))(c:Cls X.K C)(n:fR X.K C f)(hl:fs.length<1000)(ry:RelV y u)
 (h:∀s',Inv X pins σ (upd H a (.ins C dx (kQ f y fs))) s'->Q () s'):wpAny (model X.prog X.w) A (setAttr (.ref a) f u) Q E s:=by
 obtain⟨mA,O,r,wi,_,ho⟩:=HC I.hok e;have hz:(fs.map (·.1)).length<=sizeLine:=by rw[A1,E7];omega
 refine TC I.kIn O c.sa c.po n.taker c.hd wi hz fun h' O' sb=>h _ ?_;have hd:∃o,h'.get? dx=some o:=let⟨o,_,_,e',_⟩:=O'.ns;⟨o,e'⟩;refine I.write (x:=a) (e:=dx) (by rw[e];exact True.intro) (.inr ho) (fun b q hb z=>(sb.2 b hb).trans z) hd ?_;refine⟨by rw[aM O.ne];exact ho,?_,O.ne,O'.obj,_,O'.ns,fun g=>?_,fun g hg=>?_⟩
 .have:=rW f y fs;omega
 .show sU ((kQ f y fs).lookup g) (if g=f then some u else mA g);rw[sE];by_cases q:g=f
  .rw[A4 q,A4 q];exact ry
  .rw[A5 q,A5 q];exact r g
 .by_cases q:g=f
  .rw[q];exact(rB f y fs).1
  .refine(rB f y fs).2 g (wi g fun z=>hg ?_);show(if g=f then some u else mA g)=none;rw[A5 q];exact z
theorem Inv.made(I:Inv X pins σ H s):Inv X pins σ (upd (upd H s.heap.objs.size (.own (s.heap.objs.size+1))) (s.heap.objs.size+1) (.ins C s.heap.objs.size []))
 { s with heap:=(s.heap.push PySem.W.emptyDict).push (PySem.W.instObj C s.heap.objs.size) }:=by
 have e1:(s.heap.push PySem.W.emptyDict).get? s.heap.objs.size=some PySem.W.emptyDict:=B2 s.heap rfl
 have e2:((s.heap.push PySem.W.emptyDict).push (PySem.W.instObj C s.heap.objs.size)).get? (s.heap.objs.size+1)=some (PySem.W.instObj C s.heap.objs.size):=by
  have:=B2 (s.heap.push PySem.W.emptyDict) (o:=PySem.W.instObj C s.heap.objs.size) rfl
  rwa [L6]at this
 have e3:(s.heap.push PySem.W.emptyDict).Ns s.heap.objs.size (fun _=>none):=⟨PySem.W.emptyDict,#[],_,e1,rfl,(fun e he=>absurd he (by simp)),fun _=>rfl⟩;have I1:=I.laid (a:=s.heap.objs.size) (o:=.own (s.heap.objs.size+1)) (h':=s.heap.push PySem.W.emptyDict) (t':=s.toks) (fun b u q=>A3 _ q) (A9 _) ⟨_,e1⟩;refine I1.laid (a:=s.heap.objs.size+1) (o:=.ins C s.heap.objs.size []) (t':=s.toks) (fun b u q=>A3 _ q) (Nat.le_of_eq (L6 _ _)) ?_;have ne:s.heap.objs.size≠s.heap.objs.size+1:=B4 (E6 _);refine⟨by rw[aM ne,aU],F8 _,ne,e2,fun _=>none,(Heap.Ns1.of_empty e3).at fun o q=>A3 _ q,fun _=>True.intro,fun y hy=>absurd rfl hy⟩
theorem SX{prog:Program}{w:World}{env:Env}{e:Expr}{f:Str}{pos:Pos}{s:Shared}{Q:Value->Shared->Prop}(hb:attributeBase e f env (eval e env)=eval e env)
 (h:wpAny (model prog w) A (eval e env) (fun o s₁=>wpAny (model prog w) A (getAttr o f true) Q E s₁) E s):wpAny (model prog w) A (eval (.Attribute e f pos) env) Q E s:=
 Attribute_any_ h (by rw[arm_eval_Attribute,hb])
end
noncomputable def aBr(K:Fg)(ta:TE)(f:Str):TE:=fun σ H Q=>ta σ H fun x H1=>∃a C dx fs v,x=.ref a/\H1 a=some (.ins C dx fs)/\Cls K C/\fR K C f/\fs.lookup f=some v/\Q v H1
noncomputable def aCt(K:Fg)(ta tv:TE)(f:Str):TS:=fun D σ H=>tv σ H fun y H1=>ta σ H1 fun x H2=>∃a C dx fs,x=.ref a/\H2 a=some (.ins C dx fs)/\Cls K C/\fR K C f/\fs.length<1000 /\
 D.nx σ (upd H2 a (.ins C dx (kQ f y fs)))
section
variable{X:Cx}{o e value:Expr}{f:Str}{pos pos' tpos:Pos}{ta tv:TE}
theorem XI(he:PE X e ta)(hb:attributeBase e f X.env (eval e X.env)=eval e X.env):PE X (.Attribute e f pos) (aBr X.K ta f):=by
 intro pins s σ H Q I h;refine SX hb (thn (he pins s σ H _ I h) fun u s1 ⟨x,H1,I1,rx,a,C,dx,fs,v,ex,ea,c,n,l,q⟩=>?_);subst ex;obtain rfl:u=Value.ref a:=rx;exact EY I1 ea c n l fun u' s2 I2 ru=>⟨v,H1,I2,ru,q⟩
theorem ZG(ha:PE X o ta)(hv:PE X value tv)(hs:swapsWith value (some (.Attribute o f pos')) pos.line X.env=pure false):PS X (.Assign [.Attribute o f pos'] value pos) (aCt X.K ta tv f):=by
 intro pins s σ H D I h;refine plainObj_wpAny_Assign_Attribute (thn (hv pins s σ H _ I h) fun u s1 ⟨y,H1,I1,ry,q⟩=>thn (ha pins s1 σ H1 _ I1 q) fun ov s2 ⟨x,H2,I2,rx,a,C,dx,fs,ex,ea,c,n,l,q2⟩=>?_) hs;subst ex;obtain rfl:ov=Value.ref a:=rx;exact EM I2 ea c n l ry fun s3 I3=>⟨σ,_,I3,q2⟩
end
structure cM(k:Nat)(A:Around)(q:Bool:=true):Prop where
 hd:q=true->A.handled=none
 dp:A.depth+3*k+5<recursionLimit
 un:A.units+16*k+200<cLine
 gd:A.guards=some []
theorem cM.mono{j k:Nat}{q:Bool}(r:cM k A q)(h:j<=k):cM j A q:=⟨r.hd,by have:=r.dp;omega,by have:=r.un;omega,r.gd⟩
theorem cM.deeper{k:Nat}{q:Bool}(r:cM (k+1) A q)(env:Env):cM k (A.deeper env) q:=
 ⟨r.hd,by have:=r.dp;show A.depth+1+3*k+5<_;omega,by have:=r.un;show A.units+3+16*k+200<_;omega,r.gd⟩
theorem ED{C:Addr}{us:List Value}{kw:List (Str×Value)}:(A.under (.builtin "type.__call__" ⟨.ref C::us,kw⟩)).depth=A.depth+1:=by
 first|rfl|simp[Around.under,Code.weight,Code.isCreation,Code.isGuard,Code.isCaller,Code.frames,Code.isFrame,guardIds]
theorem EJ{C:Addr}{us:List Value}{kw:List (Str×Value)}:(A.under (.builtin "type.__call__" ⟨.ref C::us,kw⟩)).units=A.units+1:=by
 first|rfl|simp[Around.under,Code.cUnits,Code.frames,Code.isFrame]
theorem BJ{C:Addr}{us:List Value}{kw:List (Str×Value)}:(A.under (.builtin "type.__call__" ⟨.ref C::us,kw⟩)).guards=A.guards:=by
 first|rfl|simp[Around.under,Code.guards,pushGuards,Code.isGuard,guardIds]|(unfold Around.under;cases A.guards<;>rfl)
theorem cM.make{k:Nat}{q:Bool}(r:cM (k+1) A q)(C:Addr)(us:List Value)(kw:List (Str×Value)):cM k (A.under (.builtin "type.__call__" ⟨.ref C::us,kw⟩)) q:=
 ⟨r.hd,by have:=r.dp;rw[ED];omega,by have:=r.un;rw[EJ];omega,by rw[BJ];exact r.gd⟩
theorem cM.depth{k:Nat}{q:Bool}(r:cM k A q):A.depth<recursionLimit:=by have:=r.dp;omega
theorem cM.units{k:Nat}{q:Bool}(r:cM k A q):A.units+64<cLine:=by have:=r.un;omega
noncomputable def QF:TA:=fun _ H Q=>Q [] H
noncomputable def rX(ta:TE)(tr:TA):TA:=fun σ H Q=>ta σ H fun x H1=>tr σ H1 fun xs H2=>Q (x::xs) H2
section
variable{X:Cx}{e:Expr}{es:List Expr}{te:TE}{t:TA}{pos:Pos}
theorem zS:PA X [] QF:=fun _ _ _ _ H Q I h=>Calls.spliced_nil ⟨[],H,I,.nil,h⟩
theorem lK(ha:PE X e te)(hr:PA X es t)(hs:starEach (e::es) X.env=(false,eval e X.env)::starEach es X.env:=by rfl):PA X (e::es) (rX te t):=by
 intro pos pins s σ H Q I h;rw[hs];show wpAny _ _ (spliced ((false,eval e X.env)::backTo pos (starEach es X.env))) _ _ s;refine Calls.spliced_cons (thn (ha pins s σ H _ I h) fun u s1 ⟨x,H1,I1,r1,q1⟩=>?_);exact thn (hr pos pins s1 σ H1 _ I1 q1) fun us s2 ⟨xs,H2,I2,r2,q2⟩=>⟨x::xs,H2,I2,.cons r1 r2,q2⟩
noncomputable def UM(t:TA):TE:=fun σ H Q=>t σ H fun xs H1=>xs.length<=sizeLine/\∀p,H1 p=none->Q (.ref p) (upd H1 p (.tup xs))
noncomputable def YE(t:TA):TE:=fun σ H Q=>t σ H fun xs H1=>xs.length<=sizeLine/\∀p,H1 p=none->Q (.ref p) (upd H1 p (.lst xs))
theorem DR{x1}(h:PA X es t):PE X (.Tuple es x1 pos) (UM t):=by
 intro pins s σ H Q I hq;refine wpAny_Tuple_spliced (thn (h pos pins s σ H _ I hq) fun us s1 ⟨xs,H1,I1,r,z,q⟩=>⟨by rw[<- r.length];exact z,?_⟩);have hf:H1 s1.heap.objs.size=none:=I1.hok.fresh (A9 _);refine⟨.ref s1.heap.objs.size,upd H1 s1.heap.objs.size (.tup xs),I1.laid (t':=s1.toks) (fun b u e=>A3 _ e) (A9 _) ?_,rfl,q _ hf⟩;exact⟨z,us,r,⟨_,B2 _ rfl,rfl,_,rfl⟩⟩
theorem NM(h:PA X es t):PE X (.List es pos) (YE t):=by
 intro pins s σ H Q I hq;refine wpAny_List_spliced (thn (h pos pins s σ H _ I hq) fun us s1 ⟨xs,H1,I1,r,z,q⟩=>⟨by rw[<- r.length];exact z,?_⟩);have hf:H1 s1.heap.objs.size=none:=I1.hok.fresh (A9 _);refine⟨.ref s1.heap.objs.size,upd H1 s1.heap.objs.size (.lst xs),I1.laid (t':=s1.toks) (fun b u e=>A3 _ e) (A9 _) ?_,rfl,q _ hf⟩;exact⟨z,us,0,r,B2 _ rfl⟩
end
noncomputable abbrev Sp:=List V->Hp->VK->XK->Prop
noncomputable abbrev CXT:=List Env->Hp->Shared->XK->Value->Shared->Prop
structure FC(P:Program)(w:World)(K:Fg)(mg:Str->Option Value)(base:Heap)(A:Around)(outer:List Env)(s:Shared)(H:Hp):Prop where
 frames:A.frames=some outer
 mod:Mod K mg base
 bs:∀b o,base.get? b=some o->s.heap.get? b=some o/\H b=none
 bsz:base.objs.size<=s.heap.objs.size
 funs:s.heap.FunFrames base outer
 frf:∀b∈frs outer,H b=none
 hok:HOk P w H s.heap
 bare:AllBare s.gens
noncomputable def CE(outer:List Env)(P:Program)(w:World)(H:Hp)(s:Shared)(Q:VK)(u:Value)(s':Shared):Prop:=
 ∃v H',s'.os=s.os/\AllBare s'.gens/\Un (frs outer) [] H H' s.heap s'.heap/\HOk P w H' s'.heap/\RelV v u/\Q v H'
noncomputable def CR(CX:CXT)(outer:List Env)(P:Program)(w:World)(H:Hp)(s:Shared)(Q:VK)(E:XK)(r:Result)(s':Shared):Prop:=
 match r with
 |.ok (.ret u)=>CE outer P w H s Q u s'
 |.ok _=>False
 |.error e=>CX outer H s E e s'
structure lB(P:Program)(w:World)(K:Fg)(mg:Str->Option Value)(base:Heap)(CX:CXT)(k:Nat)(f:Addr)(fd:FuncData)(ps:List Str)(sp:Sp)(q:Bool:=true):Prop where
 len:∀vs H Q E,sp vs H Q E->vs.length=ps.length
 run:∀(A:Around)(outer:List Env)(s:Shared)(H:Hp)(args:Args)(us:List Value)(vs:List V)(Q:VK)(E:XK),cM k A q->FC P w K mg base A outer s H->BindsTo s fd args (ps.zip us)->aZ vs us->sp vs H Q E->
  codeAny (model P w) A (.call (.ref f) args) (CR CX outer P w H s Q E) s
theorem lB.mono{P:Program}{w:World}{mg:Str->Option Value}{base:Heap}{CX:CXT}{j k:Nat}{f:Addr}{fd:FuncData}{ps:List Str}{sp:Sp}{q:Bool}(F:lB P w K mg base CX j f fd ps sp q)(h:j<=k):
 lB P w K mg base CX k f fd ps sp q:=⟨F.len,fun A outer s H args us vs Q E hr=>F.run A outer s H args us vs Q E (hr.mono h)⟩
theorem FC.make{P:Program}{w:World}{mg:Str->Option Value}{base:Heap}{outer:List Env}(e:FC P w K mg base A outer s H)(C:Addr)(us:List Value)(kw:List (Str×Value)):
 FC P w K mg base (A.under (.builtin "type.__call__" ⟨.ref C::us,kw⟩)) outer s H:=⟨by first|exact e.frames|(simpa[Around.under,Code.envs,Code.isFrame,pushEnvs]using e.frames),e.mod,e.bs,e.bsz,e.funs,e.frf,e.hok,e.bare⟩
section
variable{X:Cx}{pins:List (Addr×Obj)}{σ:St}{H:Hp}{s s':Shared}
theorem Inv.env0(I:Inv X pins σ H s):FC X.prog X.w X.K X.mg X.base X.A X.stack s H:=
 ⟨I.ok.frames,I.ok.mod,I.bs,C4 I.ok.bsz I.sz,I.stack,I.stkFree,I.hok,I.bare⟩
theorem Inv.after{Q:VK}{u:Value}(I:Inv X pins σ H s)(h:CE X.stack X.prog X.w H s Q u s'):EP X pins σ Q u s':=by
 obtain⟨v,H',os,bare,un,hok,r,q⟩:=h;obtain⟨hh,g,d,t,os'⟩:=s';obtain rfl:os'=s.os:=os;exact⟨v,H',I.call (h':=hh) (g':=g) (d':=d) (t':=t) (ch:=[]) un hok bare (fun b z=>absurd z (by simp)),r,q⟩
end
noncomputable def LA(sp:Sp)(dvs:List V)(E:XK)(t:TA):TE:=fun σ H Q=>t σ H fun vs H1=>sp (vs++dvs) H1 Q E
noncomputable def WG(C:Addr)(sp:Sp)(dvs:List V)(E:XK)(t:TA):TE:=fun σ H Q=>t σ H fun vs H1=>∀x dx,H1 x=none->H1 dx=none->dx≠x->
 sp (.ref x::(vs++dvs)) (upd (upd H1 dx (.own x)) x (.ins C dx [])) (fun v H2=>v=.non/\Q (.ref x) H2) E
noncomputable def Binds(K:Fg)(fd:FuncData)(ps:List Str)(ds:List Value):Prop:=
 ∀(s:Shared)(us:List Value),K.In s.heap->(us++ds).length=ps.length->BindsTo s fd ⟨us,[]⟩ (ps.zip (us++ds))
theorem Binds.all{fd:FuncData}{ps:List Str}(h:∀us:List Value,us.length=ps.length->bindArgs fd ⟨us,[]⟩=pure (ps.zip us)):Binds K fd ps []:=fun s us _ hl=>by
 rw[J4]at hl ⊢;exact .of_eq (h us hl)
noncomputable def yP(CX:CXT)(X:Cx)(E:XK):Prop:=∀(pins:List (Addr×Obj))(σ:St)(H:Hp)(s:Shared)(e:Value)(s':Shared),Inv X pins σ H s->CX X.stack H s E e s'->X.xe e s'
section
variable{X:Cx}{CX:CXT}{k:Nat}{f C:Addr}{fd:FuncData}{ps:List Str}{sp:Sp}{dvs:List V}{ds:List Value}{E:XK}{x m:Str}{p pos apos:Pos}{e o:Expr}{es:List Expr}{ta:TE}{t:TA}
theorem aAk{pins:List (Addr×Obj)}{σ:St}{H:Hp}{s:Shared}{Q:VK}{us:List Value}{vs:List V}{q:Bool}(F:lB X.prog X.w X.K X.mg X.base CX k f fd ps sp q)(hr:cM k X.A q)(hb:Binds X.K fd ps ds)(hd:aZ dvs ds)(hx:yP CX X E)
 (I:Inv X pins σ H s) (r:aZ vs us) (h:sp (vs++dvs) H Q E):wpAny (model X.prog X.w) X.A (call (.ref f) us) (EP X pins σ Q) X.xe s:=by
 have r2:aZ (vs++dvs) (us++ds):=r.append hd;have hl:(us++ds).length=ps.length:=by rw[<- r2.length];exact F.len _ _ _ _ h
 refine wpAny_call (codeAny_mono (F.run X.A X.stack s H ⟨us,[]⟩ (us++ds) (vs++dvs) Q E hr I.env0 (hb s us I.kIn hl) r2 h) fun r s' hq=>?_);cases r with
 |error e=>exact hx pins σ H s e s' I hq
 |ok fl=>
  cases fl with
  |ret u=>exact I.after hq
  |next=>exact False.elim hq
  |brk=>exact False.elim hq
  |cont=>exact False.elim hq
theorem SQ{q:Bool}(F:lB X.prog X.w X.K X.mg X.base CX k f fd ps sp q)(hr:cM k X.A q)(hg:Gl X x)(hm:X.mg x=some (.ref f))(hk:PySem.W.keepIn X.K (.ref f)=true)(hb:Binds X.K fd ps ds)(hd:aZ dvs ds)(hx:yP CX X E)
 (ha:PA X (e::es) t) (hdb:(x==("__debug__":Str))=false:=by decide) (he:starEach (e::es) X.env=(false,eval e X.env)::starEach es X.env:=by rfl) (hpl:(backTo pos (starEach es X.env)).any (·.1)=false:=by rfl):
 PE X (.Call (.Name x p) (e::es) [] pos) (LA sp dvs E t):=by
 intro pins s σ H Q I h;refine O6 (yD I hg hm ?_ hdb);refine PySem.W.callWith_K (h₀:=X.base) I.ok.mod.kin hk (thn (ha pos pins s σ H _ I h) fun us s1 ⟨vs,H1,I1,r,q⟩=>⟨I1.kIn,?_⟩) he hpl;exact aAk F hr hb hd hx I1 r q
structure Mk(K:Fg)(C f:Addr):Prop where
 makes:PySem.W.makesIn K C=true
 init:PySem.W.findIn K (.ref C) "__init__"=some (some (.ref f))
 fn:PySem.W.isFn K (.ref f)=true
 kp:PySem.W.keepIn K (.ref C)=true
theorem LD{pins:List (Addr×Obj)}{σ:St}{H:Hp}{s:Shared}{Q:VK}{us:List Value}{vs:List V}(M:Mk X.K C f)(F:lB X.prog X.w X.K X.mg X.base CX k f fd ps sp)(hr:cM (k+1) X.A)(hb:Binds X.K fd ps ds)(hd:aZ dvs ds)
 (hx:∀H s e s',Inv X pins σ H s->CX X.stack H s E e s'->X.xe e s') (I:Inv X pins σ H s) (r:aZ vs us)
 (h:∀x dx,H x=none->H dx=none->dx≠x->sp (.ref x::(vs++dvs)) (upd (upd H dx (.own x)) x (.ins C dx [])) (fun v H2=>v=.non/\Q (.ref x) H2) E):
 wpAny (model X.prog X.w) X.A (call (.ref C) us) (EP X pins σ Q) X.xe s:=by
 have hq:=h (s.heap.objs.size+1) s.heap.objs.size (I.hok.fresh (Nat.le_succ _)) (I.hok.fresh (A9 _)) (B4 (E6 _));have I2:=Inv.made (C:=C) I;have r2:aZ (V.ref (s.heap.objs.size+1)::(vs++dvs)) (Value.ref (s.heap.objs.size+1)::(us++ds)):=.cons rfl (r.append hd)
 have hl:(Value.ref (s.heap.objs.size+1)::us++ds).length=ps.length:=by
  have e:=r2.length;rw[F.len _ _ _ _ hq]at e;exact e.symm
 refine wpAny_call (OW (f:=f) I.kIn M.makes M.init (beq_iff_eq.mp M.fn) (codeAny_mono (F.run _ X.stack _ _ ⟨Value.ref (s.heap.objs.size+1)::us,[]⟩ (Value.ref (s.heap.objs.size+1)::(us++ds)) _ _ E (hr.make C us [])
  (I2.env0.make C us []) (hb _ (Value.ref (s.heap.objs.size+1)::us) I2.kIn hl) r2 hq) fun r s' hq'=>?_))
 cases r with
 |error e=>exact hx _ _ e s' I2 hq'
 |ok fl=>
  cases fl with
  |ret u=>
   obtain⟨v,H',I3,rv,ev,q3⟩:=I2.after hq';subst ev;exact⟨rv,⟨V.ref (s.heap.objs.size+1),H',I3,rfl,q3⟩⟩
  |next=>exact False.elim hq'
  |brk=>exact False.elim hq'
  |cont=>exact False.elim hq'
theorem RR(M:Mk X.K C f)(F:lB X.prog X.w X.K X.mg X.base CX k f fd ps sp)(hr:cM (k+1) X.A)(hg:Gl X x)(hm:X.mg x=some (.ref C))(hb:Binds X.K fd ps ds)(hd:aZ dvs ds)(hx:yP CX X E)
 (ha:PA X (e::es) t) (hdb:(x==("__debug__":Str))=false:=by decide) (he:starEach (e::es) X.env=(false,eval e X.env)::starEach es X.env:=by rfl) (hpl:(backTo pos (starEach es X.env)).any (·.1)=false:=by rfl):
 PE X (.Call (.Name x p) (e::es) [] pos) (WG C sp dvs E t):=by
 intro pins s σ H Q I h;refine O6 (yD I hg hm ?_ hdb);refine PySem.W.callWith_K (h₀:=X.base) I.ok.mod.kin M.kp (thn (ha pos pins s σ H _ I h) fun us s1 ⟨vs,H1,I1,r,q⟩=>⟨I1.kIn,?_⟩) he hpl;exact LD M F hr hb hd (hx pins σ) I1 r q
end
structure aT(N P:List Str)(sc:Scope):Prop where
 kind:sc.kind=.function
 co:sc.isCoroutine=false
 gen:sc.isGenerator=false
 nd:N.Nodup
 pre:N.take P.length=P
 par:∀x∈P,sc.names.lookup x=some .local\/sc.names.lookup x=some .cell
 nofree:∀y∈sc.names,y.2≠.free
theorem wO{kindOf:Str->Option NameKind}{x:Str}:∀{binds:List (Str×Value)}{m:Str->Option Value},(∀v,(x,v)∉binds)->bindL kindOf binds m x=m x
 |[],_=>fun _=>rfl
 |(n,v)::r,m=>fun h=>by
  unfold bindL;rw[wO fun w hw=>h w (B1 _ hw)];split
  .have:x≠n:=by rintro rfl;exact h v B3
   simp[this]
  .rfl
theorem xK{kindOf:Str->Option NameKind}{x:Str}:∀{binds:List (Str×Value)}{m:Str->Option Value},(∀v,(x,v)∉binds)->bindC kindOf binds m x=m x
 |[],_=>fun _=>rfl
 |(n,v)::r,m=>fun h=>by
  unfold bindC;rw[xK fun w hw=>h w (B1 _ hw)];split
  .rfl
  .have:x≠n:=by rintro rfl;exact h v B3
   simp[this]
theorem xV{kindOf:Str->Option NameKind}{x:Str}{v:Value}:∀{P:List Str}{vs:List Value}{i:Nat}{m:Str->Option Value},P.Nodup->P[i]?=some x->vs[i]?=some v->kindOf x=some .local->
 bindL kindOf (P.zip vs) m x=some v
 |[],_,_,_=>fun _ h _ _=>by simp at h
 |_::_,[],_,_=>fun _ _ h _=>by simp at h
 |p::P,w::vs,0,m=>fun nd h1 h2 hk=>by
  simp at h1 h2;subst h1;subst h2;show bindL kindOf ((p,w)::P.zip vs) m p=_;unfold bindL;rw[wO fun v hv=>(List.nodup_cons.mp nd).1 (List.of_mem_zip hv).1,A4 hk];simp
 |p::P,w::vs,i+1,m=>fun nd h1 h2 hk=>by
  show bindL kindOf ((p,w)::P.zip vs) m x=_;unfold bindL;exact xV (i:=i) (List.nodup_cons.mp nd).2 (by simpa using h1) (by simpa using h2) hk
theorem wR{kindOf:Str->Option NameKind}{x:Str}{v:Value}:∀{P:List Str}{vs:List Value}{i:Nat}{m:Str->Option Value},P.Nodup->P[i]?=some x->vs[i]?=some v->kindOf x≠some .local->
 bindC kindOf (P.zip vs) m x=some v
 |[],_,_,_=>fun _ h _ _=>by simp at h
 |_::_,[],_,_=>fun _ _ h _=>by simp at h
 |p::P,w::vs,0,m=>fun nd h1 h2 hk=>by
  simp at h1 h2;subst h1;subst h2;show bindC kindOf ((p,w)::P.zip vs) m p=_;unfold bindC;rw[xK fun v hv=>(List.nodup_cons.mp nd).1 (List.of_mem_zip hv).1,A5 hk];simp
 |p::P,w::vs,i+1,m=>fun nd h1 h2 hk=>by
  show bindC kindOf ((p,w)::P.zip vs) m x=_;unfold bindC;exact wR (i:=i) (List.nodup_cons.mp nd).2 (by simpa using h1) (by simpa using h2) hk
noncomputable def start(N:List Str)(vs:List V):St:=vs.map some++List.replicate (N.length-vs.length) none
noncomputable def pP(CX:CXT)(P:Program)(w:World)(K:Fg)(mg:Str->Option Value)(base:Heap)(N:List Str)(qual:Str)(scope:Scope)(f:Addr)(cd:Value)(A:Around)(outer:List Env)(s:Shared)(H:Hp)(E:XK)(q:Bool:=true):Cx where
 prog:=P
 w:=w
 K:=K
 mg:=mg
 base:=base
 A:=A.deeper (envOfC qual scope s.heap.objs.size f cd)
 N:=N
 s₀:=s
 H₀:=H
 env:=envOfC qual scope s.heap.objs.size f cd
 outer:=outer
 stack:=envOfC qual scope s.heap.objs.size f cd::outer
 ex:=[]
 calm:=q
 fn:=fun _=>true
 pn:=[]
 xe:=fun e s'=>wpAny (model P w) (A.deeper (envOfC qual scope s.heap.objs.size f cd)) (leaving (envOfC qual scope s.heap.objs.size f cd) e) (fun _ s''=>CX outer H s E e s'') (fun e' s''=>CX outer H s E e' s'') s'
theorem CJ{sc:Scope}{n:Nat}{x:Str}(h:sc.names.lookup x=some .cell):∃c,(cellsFrom n sc.names []).lookup x=some c:=by
 have q:=PySem.W.cellsFrom_some sc.names n [] (.inl h);exact Option.isSome_iff_exists.mp q
theorem ID{CX:CXT}{P:Program}{w:World}{K:Fg}{mg:Str->Option Value}{base:Heap}{N ps:List Str}{qual:Str}{scope:Scope}{f:Addr}{cd:Value}{A:Around}{outer:List Env}{s s1:Shared}{H:Hp}{E:XK}{us:List Value}{vs:List V}{q:Bool}
 (S:aT N ps scope) (hd:q=true->A.handled=none) (e0:FC P w K mg base A outer s H) (hl:vs.length=ps.length) (r:aZ vs us)
 (x:InCallC s s.heap.objs.size (bindL (envOfC qual scope s.heap.objs.size f cd).kindOf (ps.zip us) fun _=>none) (cellsFrom (s.heap.objs.size+1) scope.names []) (bindC (envOfC qual scope s.heap.objs.size f cd).kindOf (ps.zip us) fun _=>none) s1):
 Inv (pP CX P w K mg base N qual scope f cd A outer s H E q) [] (start N vs) H s1:=by
 have hpl:ps.length<=N.length:=by have:=L5 List.length S.pre;rw[List.length_take]at this;omega
 obtain⟨h1,tk,rfl,hk⟩:=x.done;have noA:∀b:Addr,b∉(pP CX P w K mg base N qual scope f cd A outer s H E q).ex:=fun b z=>absurd (show b∈([]:List Addr)from z) (by simp)
 refine⟨⟨e0.mod,S.kind,rfl,rfl,A9 _,fun y z c h1 h2=>?_,fun y hy=>?_,fun y c _ h=>?_,hd,Around.frames_deeper e0.frames,.inr ⟨rfl,rfl⟩,fun b z=>absurd z (noA b),e0.bs,e0.bsz,fun b _ _=>noA b,fun b z=>absurd z (noA b),e0.funs,e0.frf⟩,
  rfl,e0.bare,Un.kept hk,⟨_,x.toInCall.ns,fun i y v h1 h2 h3=>?_⟩,fun y c h=>⟨_,x.cell y c h⟩,e0.hok.fresh (A9 _),fun y c h=>?_,fun p hp=>absurd (show p∈([]:List (Addr×Obj))from hp) (by simp),e0.hok.kept hk,?_⟩
 .exact name_of_addr x.apart (E1 h1) (E1 h2)
 .have hy:scope.names.lookup y=some .cell\/scope.names.lookup y=some .free:=hy;rcases hy with hy|hy
  .exact CJ hy
  .exact absurd rfl (S.nofree _ (E1 hy))
 .exact O2 (x.above y c (E1 h))
 .have hi:i<vs.length:=by
   unfold start at h2;by_cases hi:i<vs.length
   .exact hi
   .rw[D7 (by simpa using hi)]at h2;rw[List.getElem?_replicate]at h2;split at h2<;>cases h2
  have ha:vs[i]?=some v:=by
   unfold start at h2;rw[List.getElem?_append_left (by simpa using hi),D2]at h2;cases e:vs[i]? with
   |none=>rw[e]at h2;cases h2
   |some a=>rw[e]at h2;cases h2;rfl
  obtain⟨u,hu,rv⟩:=r.get ha
  have hp:ps[i]?=some y:=by
   rw[<- S.pre,List.getElem?_take_of_lt (by omega)];exact h1
  have ndP:ps.Nodup:=by rw[<- S.pre];exact S.nd.sublist (List.take_sublist _ _)
  refine⟨u,rv,?_⟩;rcases S.par y (List.mem_of_getElem? hp)with k|k
  .exact .inl ⟨k,xV ndP hp hu k⟩
  .obtain⟨c,e⟩:=CJ (n:=s.heap.objs.size+1) k;refine .inr ⟨.inl k,c,e,?_⟩;have q:=x.cell y c e;rw[wR ndP hp hu (by show scope.names.lookup y≠_;rw[k];decide)]at q;exact q
 .exact e0.hok.fresh (O2 (x.above y c (E1 h)))
 .unfold start;show _=N.length;rw[B8,A1,List.length_replicate];omega
theorem aBA{CX:CXT}{P:Program}{w:World}{K:Fg}{mg:Str->Option Value}{base:Heap}{k:Nat}{f:Addr}{name qual:Str}{params:Arguments}{body:List Stmt}{scope:Scope}{dV kV doc pm cdv ct oc:Value}{an od:Option Addr}
 {osl:Array (Option Value)} {N ps:List Str} {sp:Sp} {q:Bool} (lk:K.lookup f=some ⟨oc,od,.func (PySem.W.fnOf name qual params body scope dV kV doc pm an cdv ct),osl⟩) (hcd:PySem.W.codeIn K cdv qual=true) (S:aT N ps scope)
 (len:∀vs H Q E,sp vs H Q E->vs.length=ps.length)
 (hbody:∀(A:Around)(outer:List Env)(s:Shared)(H:Hp)(vs:List V)(Q:VK)(E:XK),cM k (A.deeper (envOfC qual scope s.heap.objs.size f cdv)) q->sp vs H Q E->
  ∃t,PSs (pP CX P w K mg base N qual scope f cdv A outer s H E q) body t/\t { nx:=fun _ H'=>Q .non H',rt:=Q } (start N vs) H):
 lB P w K mg base CX (k+1) f (PySem.W.fnOf name qual params body scope dV kV doc pm an cdv ct) ps sp q:=by
 refine⟨len,fun A outer s H args us vs Q E hr e0 hb r hsp=>?_⟩;have hl:=len _ _ _ _ hsp;have KX:K.In s.heap:=e0.mod.kin.keeps fun b o e=>(e0.bs b o e).1;have lim:s.heap.NoLimit:=e0.mod.nolimit.keeps fun b o e=>(e0.bs b o e).1
 have hkind:∀y∈ps.zip us,scope.names.lookup y.1=some .local\/(scope.names.lookup y.1=some .cell/\((cellsFrom (s.heap.objs.size+1) scope.names []).lookup y.1).isSome=true):=fun⟨n,v⟩ hy=>by
  rcases S.par n (List.of_mem_zip hy).1 with q|q
  .exact .inl q
  .exact .inr ⟨q,PySem.W.cellsFrom_some _ _ _ (.inl q)⟩
 refine codeAny_call_function hr.depth (KX _ _ lk) rfl S.co S.gen rfl (PySem.W.codeRec_of KX hcd) (hb _ _ _ _ ?_);refine wpAny_newFunctionEnv_cells S.kind hkind fun env he s1 x=>?_;subst he;refine⟨lim.keeps x.toInCall.keep,codeAny_func ?_⟩;obtain⟨t,ht,hq⟩:=hbody A outer s H vs Q E (hr.deeper _) hsp;have I:Inv (pP CX P w K mg base N qual scope f cdv A outer s H E q) [] (start N vs) H s1:=ID S hr.hd e0 hl r x;refine D6 (ht [] s1 (start N vs) H _ I hq) (fun fl s' hs=>?_) fun e s' hs=>hs
 have fin:∀{σ':St}{H':Hp}{v:V}{u:Value},Inv (pP CX P w K mg base N qual scope f cdv A outer s H E q) [] σ' H' s'->RelV v u->Q v H'->CE outer P w H s Q u s':=
  fun{σ' H' v u} J rv q=>⟨v,H',J.os,J.bare,J.base,J.hok,rv,q⟩
 cases fl with
 |ret u=>
  obtain⟨v,σ',H',J,rv,q⟩:=hs;exact fin J rv q
 |next=>
  obtain⟨σ',H',J,q⟩:=hs;exact fin (v:=V.non) (u:=Value.none) J rfl q
 |brk=>
  obtain⟨_,_,_,q⟩:=hs;exact False.elim q
 |cont=>
  obtain⟨_,_,_,q⟩:=hs;exact False.elim q
section
variable{X:Cx}{x:Str}{p pos:Pos}{e:Expr}{es:List Expr}{t:TA}{id T:String}{r:List V->Hp->VK->Prop}
noncomputable def tCB(r:List V->Hp->VK->Prop)(t:TA):TE:=fun σ H Q=>t σ H fun vs H1=>r vs H1 Q
theorem tU(hc:fM X (.builtin id) r)(hg:Gl X x)(hm:X.mg x=none)(hv:bootBuiltins x=some (.builtin id))(ha:PA X (e::es) t)(hn:x≠"__name__":=by decide)(hdb:(x==("__debug__":Str))=false:=by decide)
 (he:starEach (e::es) X.env=(false,eval e X.env)::starEach es X.env:=by rfl) (hpl:(backTo pos (starEach es X.env)).any (·.1)=false:=by rfl):PE X (.Call (.Name x p) (e::es) [] pos) (tCB r t):=by
 intro pins s σ H Q I h;refine O6 (rL I hg hm hv ?_ hn hdb);exact PyProof.Rows.callWith_builtin1 (thn (ha pos pins s σ H _ I h) fun us s1 ⟨vs,H1,I1,r1,q1⟩=>hc pins s1 σ H1 vs us Q I1 r1 q1) he hpl
theorem KC(hc:fM X (.type T) r)(hg:Gl X x)(hm:X.mg x=none)(hv:bootBuiltins x=some (.type T))(ha:PA X (e::es) t)(hn:x≠"__name__":=by decide)(hdb:(x==("__debug__":Str))=false:=by decide)
 (he:starEach (e::es) X.env=(false,eval e X.env)::starEach es X.env:=by rfl) (hpl:(backTo pos (starEach es X.env)).any (·.1)=false:=by rfl):PE X (.Call (.Name x p) (e::es) [] pos) (tCB r t):=by
 intro pins s σ H Q I h;refine O6 (rL I hg hm hv ?_ hn hdb);exact S2 (thn (ha pos pins s σ H _ I h) fun us s1 ⟨vs,H1,I1,r1,q1⟩=>hc pins s1 σ H1 vs us Q I1 r1 q1) he hpl
end
end L2
namespace HT
open PySem PyProof.Rows
noncomputable def lexLt:List Int->List Int->Bool
 |[],[]=>false
 |[],_::_=>true
 |_::_,[]=>false
 |x::xs,y::ys=>if x=y then lexLt xs ys else decide (x<y)
theorem lexLt_cons(x y:Int)(xs ys:List Int):lexLt (x::xs) (y::ys)=if x=y then lexLt xs ys else decide (x<y):=rfl
theorem wD:lexLt [] []=false:=rfl
theorem vQ(y:Int)(ys:List Int):lexLt [] (y::ys)=true:=rfl
theorem vG(x:Int)(xs:List Int):lexLt (x::xs) []=false:=rfl
theorem PB(A:Around)(s:Shared)(a:Int)(t:Tok)(c:Int)(u:Tok):∃e,SeqAt.EqAt A s (.int a t) (.int c u) e/\(e=true↔a=c):=
 ⟨(a==c),SeqAt.EqAt.int_int a t c u,by simp⟩
theorem KO(A:Around)(s:Shared)(a:Int)(t:Tok)(c:Int)(u:Tok)(prog:Program)(w:World)(E:Value->Shared->Prop)(Q:Value->Shared->Prop)(h:Q (.bool (decide (a<c))) s):
 wpAny (model prog w) A (richCompare .Lt (.int a t) (.int c u)) Q E s:=
 (PyProof.Rows.lt_int h:wpAny (model prog w) A (compareOp .Lt (.int a t) (.int c u)) Q E s)
section
open PySem.SeqAt
open PySem.AutoSeq1 (wpAny_loadPart')
open PySem.MeetsSeq PySem.MeetsSeq2 PySem.MeetsSeq3
theorem vZ(l b:Addr)(items items2:Array Value)(n n2:Nat)(dd dd2:Option Addr)(sl sl2:Array (Option Value))(ns ms:List Int)(hi:IntsAre items.toList ns)(hj:IntsAre items2.toList ms):
 Meets (Builtin.«tuple.__lt__» ⟨[.ref l,.ref b],[]⟩)
  (fun _ R s=>s.heap.get? l=some { cls:=.type "tuple",dict:=dd,data:=.seq items n,slots:=sl }/\s.heap.get? b=some { cls:=.type "tuple",dict:=dd2,data:=.seq items2 n2,slots:=sl2 } /\
   R (.ok (.ret (.bool (lexLt ns ms)))) s):=
 .of_wp fun prog w A R s h=>by
  obtain⟨hp,g,d,tk,os⟩:=s;obtain⟨hl,hb,h⟩:=h;have f2:=AutoSeq1.sub_tuple_tuple;have z1:items.size=ns.length:=by rw[<- hi.length];simp
  have z2:items2.size=ms.length:=by rw[<- hj.length];simp
  wp_walk using O5 hl,O5 hb,wpAny_forIn_list _ (fun rest b s'=>b.1=none/\s'=⟨hp,g,d,tk,os⟩/\∃(vs ws:List Value)(ns' ms':List Int),rest=vs.zip ws /\
   IntsAre vs ns'/\IntsAre ws ms'/\ns'.length+items2.size=ms'.length+items.size/\R (.ok (.ret (.bool (lexLt ns' ms')))) ⟨hp,g,d,tk,os⟩) _
  case turn=>
   rintro⟨y,x⟩ rest b s' ⟨hb',rfl,vs,ws,ns',ms',hz,hvi,hwi,hlen,hR⟩;cases hvi with
   |nil=>rw[List.zip_nil_left]at hz;cases hz
   |cons a t hvi'=>
    cases hwi with
    |nil=>rw[List.zip_nil_right]at hz;cases hz
    |cons c u hwi'=>
     rw[List.zip_cons_cons]at hz;injection hz with hyx hrest
     injection hyx with hy hx
     subst hy hx;rw[lexLt_cons]at hR;simp only[List.length_cons]at hlen;obtain⟨e,he,hiff⟩:=PB A.in1 ⟨hp,g,d,tk,os⟩ a t c u;refine A0 (he prog w _ _ ?_);cases e with
     |true=>
      rw[A4 (hiff.mp rfl)]at hR
      wp_walk
      exact⟨rfl,rfl,_,_,_,_,hrest,hvi',hwi',by omega,hR⟩
     |false=>
      rw[A5 (fun q=>absurd (hiff.mpr q) A7)]at hR;have hri:=KO A.in1 ⟨hp,g,d,tk,os⟩ a t c u prog w
      wp_walk using hri
      exact⟨_,rfl,by simpa using hR⟩
  case fin=>
   rintro⟨b1,b2⟩ s' ⟨hb',rfl,vs,ws,ns',ms',hz,hvi,hwi,hlen,hR⟩;simp only at hb';subst hb'
   have hv:lexLt ns' ms'=decide (items.size<items2.size):=by
    cases hvi with
    |nil=>
     cases hwi with
     |nil=>
      simp only[List.length_nil]at hlen;rw[wD];exact(C6 (by omega)).symm
     |cons c u hw=>
      simp only[List.length_nil,List.length_cons]at hlen;rw[vQ];exact(C8 (by omega)).symm
    |cons a t hv=>
     cases hwi with
     |nil=>
      simp only[List.length_nil,List.length_cons]at hlen;rw[vG];exact(C6 (by omega)).symm
     |cons c u hw=>
      rw[List.zip_cons_cons]at hz;cases hz
   rw[hv]at hR
   wp_walk
   exact⟨_,rfl,by simpa[Builtin.Tuple.tupleCompareSizes]using hR⟩
  case h=>
   exact⟨rfl,rfl,items.toList,items2.toList,ns,ms,rfl,hi,hj,by omega,h⟩
end
section
variable{prog:Program}{w:World}{A:Around}{E:Value->Shared->Prop}{s:Shared}
theorem lt_tupInts{l b:Addr}{items items2:Array Value}{ns ms:List Int}{Q:Value->Shared->Prop}(hl:IsTup s.heap l items)(hb:IsTup s.heap b items2)(hi:IntsAre items.toList ns)(hj:IntsAre items2.toList ms)
 (hu:A.units<cLine) (h:Q (.bool (lexLt ns ms)) s):wpAny (model prog w) A (compareOp .Lt (.ref l) (.ref b)) Q E s:=by
 obtain⟨⟨cls,dd,data,sl⟩,ho,hc,n,hd⟩:=id hl;obtain⟨⟨cls2,dd2,data2,sl2⟩,ho2,hc2,n2,hd2⟩:=id hb;simp only at hc hd hc2 hd2;subst hc hd hc2 hd2
 exact richCompare_meets_room (op:=.Lt) ⟨_,ho,rfl⟩ ⟨_,ho2,rfl⟩ PySem.F.slot_tuple_lt PySem.F.entry_tuple_lt (PySem.F.args_tuple_lt_2 _ _) (vZ l b items items2 n n2 dd dd2 sl sl2 ns ms hi hj)
  ⟨ho,ho2,show Value.bool (lexLt ns ms)≠Value.notImplemented/\Q (.bool (lexLt ns ms)) s from⟨(fun x=>nomatch x),h⟩⟩ hu
theorem cat_tup{t b:Addr}{vs ws:List Value}{Q:Value->Shared->Prop}(ht:IsTup s.heap t vs.toArray)(hb:IsTup s.heap b ws.toArray)(hv:vs≠[])
 (h1:ws=[]->Q (.ref t) s) (h2:ws≠[]->Q (.ref s.heap.objs.size) { s with heap:=s.heap.push { cls:=.type "tuple",data:=.seq (vs++ws).toArray } })
 (hsz:vs.length+ws.length<=sizeLine):wpAny (model prog w) A (binaryOp .Add (.ref t) (.ref b)) Q E s:=by
 obtain⟨⟨cls,dd,data,sl⟩,ho,hc,n,hd⟩:=id ht;obtain⟨⟨cls2,dd2,data2,sl2⟩,ho2,hc2,n2,hd2⟩:=id hb;simp only at hc hd hc2 hd2;subst hc hd hc2 hd2;have e:vs.toArray++ws.toArray=(vs++ws).toArray:=by simp
 by_cases hw:ws=[]
 .exact concat_meets ⟨_,ho,rfl⟩ ⟨_,ho2,rfl⟩ noFill_tuple_add seq_tuple_add PySem.F.slot_tuple_add PySem.F.entry_tuple_add (PySem.F.args_tuple_add_2 _ _)
   (tuple_addW1 t b vs.toArray ws.toArray n n2 dd dd2 sl sl2 (by simpa using hv) (by simp[hw])) ⟨ho,ho2,h1 hw⟩
 .refine concat_meets ⟨_,ho,rfl⟩ ⟨_,ho2,rfl⟩ noFill_tuple_add seq_tuple_add PySem.F.slot_tuple_add PySem.F.entry_tuple_add (PySem.F.args_tuple_add_2 _ _)
   (tuple_addW2 t b vs.toArray ws.toArray n n2 dd dd2 sl sl2 (by simpa using hv) (by simpa using hw) (by rw[B7,B7];exact hsz)) ⟨ho,ho2,?_⟩
  rw[e];exact h2 hw
noncomputable def sIx(n d:Nat):Option Int->Nat
 |none=>d
 |some v=>if v<0 then(v+(n:Int)).toNat else min v.toNat n
theorem EA{v:Value}{o:Option Int}{Q:Option Int->Shared->Prop}(p:IsPart v o)(h:Q o s):wpAny (model prog w) A (Builtin.Slice.slicePartIndex v) Q E s:=by
 cases p with
 |none=>exact slicePart_none h
 |int i t=>exact slicePart_int h
end
end HT
namespace L2
variable{H:Hp}{σ:St}{s:Shared}
open PySem PySem.Spec PyProof.Rows
noncomputable abbrev TO:=St->Hp->(Option Int->Hp->Prop)->Prop
noncomputable def PO(X:Cx)(e:Option Expr)(t:TO):Prop:=
 ∀(pins:List (Addr×Obj))(s:Shared)(σ:St)(H:Hp)(Q:Option Int->Hp->Prop),Inv X pins σ H s->t σ H Q->
  wpAny (model X.prog X.w) X.A (evalPart e X.env) (fun u s'=>∃o H',Inv X pins σ H' s'/\IsPart u o/\Q o H') X.xe s
noncomputable def VX(t:TE):TO:=fun σ H Q=>t σ H fun x H1=>∃i,x=.int i/\Q (some i) H1
section
variable{X:Cx}{e:Expr}{te:TE}{lo hi:Option Expr}{tl th:TO}{pos p2:Pos}
theorem UV(h:PE X e te):PO X (some e) (VX te):=by
 intro pins s σ H Q I hw;rw[evalPart_some];refine thn (h pins s σ H _ I hw) fun u s1 ⟨x,H1,I1,r1,q1⟩=>?_;obtain⟨i,rfl,q⟩:=q1;obtain⟨t,rfl⟩:=r1;exact⟨some i,H1,I1,.int i t,q⟩
noncomputable def SlR(X:Cx)(r:V->Option Int->Option Int->Hp->VK->Prop):Prop:=
 ∀(pins:List (Addr×Obj))(s:Shared)(σ:St)(H:Hp)(x:V)(v vl vu:Value)(lo hi:Option Int)(sl:Addr)(Q:VK),Inv X pins σ H s->RelV x v->s.heap.IsSliceOf sl vl vu .none->IsPart vl lo->IsPart vu hi->r x lo hi H Q->
  ∃T id,typeLookup (.type T) "__getitem__"=pure (some (.builtin id))/\s.TypeIs v T/\wpAny (model X.prog X.w) X.A (getItem v (.ref sl)) (EP X pins σ Q) X.xe s
noncomputable def UR(xs:List V)(lo hi:Option Int):List V:=(xs.drop (HT.sIx xs.length 0 lo)).take (HT.sIx xs.length xs.length hi-HT.sIx xs.length 0 lo)
theorem AV(xs:List V)(lo hi:Option Int):(UR xs lo hi).length<=xs.length:=by
 unfold UR;rw[List.length_take,List.length_drop];omega
noncomputable def QJ(K:Fg):R2:=fun x y H Q=>∃a b xs ys,x=.ref a/\y=.ref b/\SqT K H a xs/\SqT K H b ys/\xs≠[]/\xs.length+ys.length<=sizeLine /\
 (ys=[]->Q (.ref a) H)/\(ys≠[]->∀p,H p=none->Q (.ref p) (upd H p (.tup (xs++ys))))
theorem aZ.nil_iff{xs:List V}{us:List Value}(r:aZ xs us):us=[]↔xs=[]:=by
 cases r with
 |nil=>simp
 |cons _ _=>simp
theorem UP:OpR X (binaryOp .Add) (QJ X.K):=by
 intro pins s σ H x y v u Q I rx ry h;obtain⟨a,b,xs,ys,rfl,rfl,ha,hb,hx,hz,q1,q2⟩:=h;cases rx;cases ry;obtain⟨its,r1,p1,_⟩:=I.tuple ha;obtain⟨its2,r2,p2,_⟩:=I.tuple hb;refine HT.cat_tup p1 p2 (fun z=>hx (r1.nil_iff.mp z)) (fun z=>⟨.ref a,H,I,rfl,q1 (r2.nil_iff.mp z)⟩) (fun z=>?_) (by rw[<- r1.length,<- r2.length];exact hz);refine⟨.ref s.heap.objs.size,_,I.laid (t':=s.toks) (o:=.tup (xs++ys)) (fun b ob q=>A3 _ q) (A9 _) ?_,rfl,q2 (fun w=>z (r2.nil_iff.mpr w)) _ (I.hok.fresh (A9 _))⟩;exact⟨by rw[B8];exact hz,_,r1.append r2,IsTup.new _ _⟩
end
noncomputable def ixN(n:Nat)(i:Int):Option Nat:=if 0<=i then(if i<n then some i.toNat else none)else if -(n:Int)<=i then some (i+n).toNat else none
noncomputable def atI{α:Type}(xs:List α)(i:Int):Option α:=(ixN xs.length i).bind fun j=>xs[j]?
theorem GG{n:Nat}{i:Int}{j:Nat}(h:ixN n i=some j):seqIndex? i n=some j/\j<n/\-(n:Int)<=i/\i<n:=by
 unfold ixN at h;by_cases h0:0<=i
 .rw[A4 h0]at h;by_cases h1:i<n
  .rw[A4 h1]at h;have e:i.toNat=j:=D0 h;exact⟨by rw[seqIndex_of h0 h1,e],by omega,by omega,h1⟩
  .rw[A5 h1]at h;cases h
 .rw[A5 h0]at h;by_cases h1:-(n:Int)<=i
  .rw[A4 h1]at h;have e:(i+n).toNat=j:=D0 h;exact⟨by rw[seqIndex_neg (by omega) h1,e],by omega,h1,by omega⟩
  .rw[A5 h1]at h;cases h
theorem AC{α:Type}{xs:List α}{i:Int}{v:α}(h:atI xs i=some v):∃j,seqIndex? i xs.length=some j/\xs[j]?=some v/\j<xs.length/\-(xs.length:Int)<=i/\i<xs.length:=by
 unfold atI at h;cases e:ixN xs.length i with
 |none=>rw[e]at h;cases h
 |some j=>
  rw[e]at h;obtain⟨h1,h2,h3,h4⟩:=GG e;exact⟨j,h1,h,h2,h3,h4⟩
theorem yM{α:Type}{xs:List α}{j:Nat}{v:α}(h:xs[j]?=some v):atI xs (j:Int)=some v:=by
 have hj:j<xs.length:=(List.getElem?_eq_some_iff.mp h).1
 have e:ixN xs.length (j:Int)=some j:=by
  unfold ixN;rw[A4 (by omega),A4 (by omega)];simp
 unfold atI;rw[e];exact h
noncomputable def GY(b:Expr):Prop:=∀o i,subscripted b false o i=operate [o,i] (getItem o i)
noncomputable def IxR(X:Cx)(r:R2):Prop:=
 ∀(value slice:Expr)(pins:List (Addr×Obj))(s:Shared)(σ:St)(H:Hp)(x y:V)(v u:Value)(Q:VK),Inv X pins σ H s->RelV x v->RelV y u->r x y H Q->
  subscripted slice false v u=operate [v,u] (getItem v u)->wpAny (model X.prog X.w) X.A (subscriptTail value slice v u) (EP X pins σ Q) X.xe s
noncomputable def MtR(X:Cx)(id:String)(r:V->List V->Hp->VK->Prop):Prop:=
 ∀(pins:List (Addr×Obj))(s:Shared)(σ:St)(H:Hp)(x:V)(xs:List V)(v:Value)(us:List Value)(Q:VK),Inv X pins σ H s->RelV x v->aZ xs us->r x xs H Q->
  wpAny (model X.prog X.w) X.A (call (.builtin id) (v::us)) (EP X pins σ Q) X.xe s
section
variable{X:Cx}{a b:Expr}{ta tb:TE}{pos:Pos}
theorem IxR.or{r r':R2}(h:IxR X r)(h':IxR X r'):IxR X (fun x y H Q=>r x y H Q\/r' x y H Q):=by
 intro value slice pins s σ H x y v u Q I rx ry q hs;rcases q with q|q
 .exact h value slice pins s σ H x y v u Q I rx ry q hs
 .exact h' value slice pins s σ H x y v u Q I rx ry q hs
theorem aBv{r:R2}(hr:IxR X r)(ha:PE X a ta)(hb:PE X b tb)(hs:GY b):PE X (.Subscript a b pos) (tOp r ta tb):=by
 intro pins s σ H Q I h;exact Subscript_ (aAr ha hb I h fun v u s2 x y H2 I2 rx ry q=>hr a b pins s2 σ H2 x y v u Q I2 rx ry q (hs _ _))
noncomputable def aBO(K:Fg):R2:=fun x y H Q=>∃p xs i v,x=.ref p/\y=.int i/\SqL K H p xs/\atI xs i=some v/\Q v H
noncomputable def aCe(K:Fg):R2:=fun x y H Q=>∃p xs i v,x=.ref p/\y=.int i/\SqT K H p xs/\atI xs i=some v/\Q v H
noncomputable def aBs:R2:=fun x y H Q=>∃z i c,x=.str z/\y=.int i/\z.length<=sizeLine/\atI z.cps.toList i=some c/\Q (.str ⟨#[c]⟩) H
theorem ix_list:IxR X (aBO X.K):=by
 intro value slice pins s σ H x y v u Q I rx ry h hs;obtain⟨p,xs,i,z,rfl,rfl,hq,he,q⟩:=h;cases rx;obtain⟨t,rfl⟩:=ry;obtain⟨its,r,pl,hz⟩:=I.list hq;obtain⟨j,h1,h2,h3,h4,h5⟩:=AC he;obtain⟨w,ew,rw'⟩:=r.get h2;have hl:=r.length;have hn:=qN;have fin:EP X pins σ Q w s:=⟨z,H,I,rw',q⟩;by_cases h0:0<=i
 .have hj:i.toNat=j:=by
   rw[seqIndex_of h0 h5]at h1;exact D0 h1
  exact item_listR pl.isList h0 (by omega) (by rw[hj];simpa using ew) fin hs
 .have hj:(i+(its.toArray.size:Int)).toNat=j:=by
   rw[seqIndex_neg (by omega) h4]at h1;rw[B7,<- hl];exact D0 h1
  exact subscriptTail_builtinR (x:=w) pl.isList.typeIs slot_list_getitem.lookup
   (wpAny_getItem_list_neg (Q:=fun r s'=>r=w/\EP X pins σ Q r s') pl.isList (by omega) (by rw[B7]<;>omega) (by omega) (by rw[hj];simpa using ew) ⟨rfl,fin⟩) hs
theorem ix_tup:IxR X (aCe X.K):=by
 intro value slice pins s σ H x y v u Q I rx ry h hs;obtain⟨p,xs,i,z,rfl,rfl,hq,he,q⟩:=h;cases rx;obtain⟨t,rfl⟩:=ry;obtain⟨its,r,pl,hz⟩:=I.tuple hq;obtain⟨j,h1,h2,h3,h4,h5⟩:=AC he;obtain⟨w,ew,rw'⟩:=r.get h2;have hl:=r.length;have hn:=qN;have fin:EP X pins σ Q w s:=⟨z,H,I,rw',q⟩
 exact subscriptTail_builtinR (x:=w) pl.typeIs slot_tuple_getitem.lookup
  (getItem_tuple (j:=j) (Q:=fun r s'=>r=w/\EP X pins σ Q r s') pl (by omega) (by omega) (by rw[B7,<- hl];exact h1) (by simpa using ew) ⟨rfl,fin⟩) hs
theorem aAV:IxR X aBs:=by
 intro value slice pins s σ H x y v u Q I rx ry h hs;obtain⟨z,i,c,rfl,rfl,hz,he,q⟩:=h;obtain⟨t,rfl⟩:=rx;obtain⟨t',rfl⟩:=ry;obtain⟨j,h1,h2,h3,h4,h5⟩:=AC he;have hl:z.cps.toList.length=z.length:=by simp[Str.length]
 rw[hl]at h1 h4 h5;have hn:=qN
 exact tail_any (typeIs_str s z t) slot_str_getitem.lookup (getItem_str (c:=c) (by
  have e1:decide (i < -(2 ^ 63:Int))=false:=C6 (by omega);have e2:decide (i>=2 ^ 63)=false:=C6 (by omega);rw[e1,e2,Bool.or_false]) (by rw[h1];simpa using h2) ⟨.str ⟨#[c]⟩,H,I.tok _,⟨_,rfl⟩,q⟩) hs
noncomputable def rIx(K:Fg):R2:=fun x y H Q=>aBO K x y H Q\/aCe K x y H Q\/aBs x y H Q
theorem aAI:IxR X (rIx X.K):=ix_list.or (ix_tup.or aAV)
theorem EG(its:List Value)(n j:Nat)(u:Value):Obj.mapSeq (·.setIfInBounds j u) { cls:=.type "list",data:=.seq its.toArray n }={ cls:=.type "list",data:=.seq (its.set j u).toArray n }:=by
 simp[Obj.mapSeq]
theorem Inv.lst{pins:List (Addr×Obj)}{p:Addr}{xs:List V}(I:Inv X pins σ H s)(h:H p=some (.lst xs)):
 ∃(its:List Value)(n:Nat),aZ xs its/\s.heap.get? p=some { cls:=.type "list",data:=.seq its.toArray n }/\xs.length<=sizeLine:=by
 obtain⟨z,its,n,r,e⟩:=I.hok p _ h;exact⟨its,n,r,e,z⟩
theorem Inv.lstUpd{pins:List (Addr×Obj)}{p:Addr}{xs ys:List V}{its its':List Value}{n n':Nat}{f:Obj->Obj}(I:Inv X pins σ H s)(h:H p=some (.lst xs))
 (ho:s.heap.get? p=some { cls:=.type "list",data:=.seq its.toArray n }) (hf:f { cls:=.type "list",data:=.seq its.toArray n }={ cls:=.type "list",data:=.seq its'.toArray n' }) (r:aZ ys its') (hz:ys.length<=sizeLine) (t:Nat):
 Inv X pins σ (upd H p (.lst ys)) { s with heap:=s.heap.update p f,toks:=t }:=by
 have e:(s.heap.update p f).get? p=some { cls:=.type "list",data:=.seq its'.toArray n' }:=by
  rw[E9 f ho (by rw[hf]<;>rfl),hf]
 refine I.write (x:=p) (e:=p) (by rw[h];trivial) (.inl rfl) (fun b u hb q=>(J8 _ _ (F5 hb)).trans q) ⟨_,e⟩ ?_;exact⟨hz,its',n',r,e⟩
noncomputable def VU:V->V->V->Hp->(Hp->Prop)->Prop:=fun o i v H Q=>∃p xs k j,o=.ref p/\i=.int k/\H p=some (.lst xs)/\ixN xs.length k=some j/\Q (upd H p (.lst (xs.set j v)))
theorem set_list:YR X VU:=by
 intro pins s σ H o i v ov iv u Q I ro ri rv h;obtain⟨p,xs,k,j,rfl,rfl,hp,hj,q⟩:=h;cases ro;obtain⟨t,rfl⟩:=ri;obtain⟨its,n,r,ho,hz⟩:=I.lst hp;obtain⟨h1,h2,h3,h4⟩:=GG hj;have hl:=r.length;have hn:=qN
 have I':Inv X pins σ (upd H p (.lst (xs.set j v))) { s with heap:=s.heap.update p (Obj.mapSeq (·.setIfInBounds j u)) }:=
  I.lstUpd hp ho (EG its n j u) (r.set rv j) (by rw[L9];exact hz) s.toks
 by_cases h0:0<=k
 .have hk:k.toNat=j:=by
   rw[seqIndex_of h0 h4]at h1;exact D0 h1
  exact PySem.W.ki_setAt ho h0 (by omega) (by rw[B7,<- hl];exact h4) (by rw[hk];exact⟨_,I',q⟩)
 .have hk:(k+(its.toArray.size:Int)).toNat=j:=by
   rw[seqIndex_neg (by omega) h3]at h1;rw[B7,<- hl];exact D0 h1
  exact PySem.W.ki_setBack ho (by omega) (by rw[B7,<- hl];exact h3) (by omega) (by rw[hk];exact⟨_,I',q⟩)
theorem zH(lo hi:Option Int)(n:Nat):(sliceBounds lo hi none n).1=((HT.sIx n 0 lo:Nat):Int)/\(sliceBounds lo hi none n).2.1=((HT.sIx n n hi:Nat):Int)/\(sliceBounds lo hi none n).2.2=1:=by
 refine⟨?_,?_,rfl⟩
 .cases lo with
  |none=>simp[sliceBounds,HT.sIx]
  |some i=>
   simp only[sliceBounds,HT.sIx,Option.getD_none,show(1:Int) > 0 by decide,if_true];by_cases h:i<0
   .simp only[h,if_true]<;>omega
   .simp only[h,if_false]<;>omega
 .cases hi with
  |none=>simp[sliceBounds,HT.sIx]
  |some i=>
   simp only[sliceBounds,HT.sIx,Option.getD_none,show(1:Int) > 0 by decide,if_true];by_cases h:i<0
   .simp only[h,if_true]<;>omega
   .simp only[h,if_false]<;>omega
theorem wC(its:List Value)(lo hi:Option Int):slicePick its.toArray lo hi none=((its.drop (HT.sIx its.length 0 lo)).take (HT.sIx its.length its.length hi-HT.sIx its.length 0 lo)).toArray:=by
 obtain⟨h1,h2,h3⟩:=zH lo hi its.toArray.size;unfold slicePick;rw[h1,h2,h3];simp only[sliceRange_one,pick_run,List.size_toArray]<;>rfl
noncomputable def aDa(K:Fg):V->Option Int->Option Int->Hp->VK->Prop:=fun x lo hi H Q=>∃a xs,x=.ref a/\SqL K H a xs/\∀p,H p=none->Q (.ref p) (upd H p (.lst (UR xs lo hi)))
theorem sl_list:SlR X (aDa X.K):=by
 intro pins s σ H x v vl vu lo hi sl Q I rx hs pl pu h;obtain⟨a,xs,rfl,hx,q⟩:=h;cases rx;obtain⟨its,r,ht,hz⟩:=I.list hx;have hlen:=r.length;refine⟨"list",_,slot_list_getitem.lookup,ht.isList.typeIs,?_⟩;refine wpAny_getItem_list_slice ht.isList hs pl pu .none (by simp) ?_ (by rw[B7]<;>omega);rw[wC,<- hlen];refine⟨.ref s.heap.objs.size,_,I.laid (t':=s.toks) (o:=.lst (UR xs lo hi)) (fun b ob q=>A3 _ q) (A9 _) ?_,rfl,q _ (I.hok.fresh (A9 _))⟩;exact⟨C4 (AV xs lo hi) hz,_,0,(r.drop (HT.sIx xs.length 0 lo)).take (HT.sIx xs.length xs.length hi-HT.sIx xs.length 0 lo),B2 _ rfl⟩
theorem yL:fM X (.builtin "len") (fun xs H Q=>∃p ys,xs=[.ref p]/\(SqL X.K H p ys\/SqT X.K H p ys)/\Q (.int ys.length) H):=by
 intro pins s σ H xs us Q I r h;obtain⟨p,ys,rfl,hq,q⟩:=h;obtain⟨u,rfl,rx⟩:=vals1 r;cases rx;have hn:=qN;rcases hq with hq|hq
 .obtain⟨its,r',pl,hz⟩:=I.list hq;have hlen:=r'.length;exact Calls.call_len_list pl.isList (by simp only[List.size_toArray]<;>omega) ⟨.int ys.length,H,I.tok _,⟨s.toks+1,by rw[B7,hlen]⟩,q⟩
 .obtain⟨its,r',pl,hz⟩:=I.tuple hq;have hlen:=r'.length;exact len_tuple pl (by simp only[List.size_toArray]<;>omega) ⟨.int ys.length,H,I.tok _,⟨s.toks+1,by rw[B7,hlen]⟩,q⟩
theorem yE:fM X (.type "list") (fun xs H Q=>∃p ys,xs=[.ref p]/\(SqL X.K H p ys\/SqT X.K H p ys)/\∀l,H l=none->Q (.ref l) (upd H l (.lst ys))):=by
 intro pins s σ H xs us Q I r h;obtain⟨p,ys,rfl,hq,q⟩:=h;obtain⟨u,rfl,rx⟩:=vals1 r;cases rx
 have fin:∀(its:List Value),aZ ys its->ys.length<=sizeLine->∀(h':Heap)(c':Nat),(∀b o',s.heap.get? b=some o'->h'.get? b=some o')->
  h'.get? s.heap.objs.size=some { cls:=.type "list",dict:=none,data:=.seq its.toArray c',slots:=#[] }->EP X pins σ Q (.ref s.heap.objs.size) { s with heap:=h' }:=fun its r' hz h' c' kp e=>
  ⟨.ref s.heap.objs.size,_,I.laid (t':=s.toks) kp (A9 _) (show cE X.prog X.w _ h' _ (.lst ys)from⟨hz,its,c',r',e⟩),rfl,q _ (I.hok.fresh (A9 _))⟩
 rcases hq with hq|hq
 .obtain⟨its,r',pl,hz⟩:=I.list hq;have hlen:=r'.length;obtain⟨o,ho,hc,n,hd⟩:=pl.isList;exact call_list_seq p (.inl rfl) ho hc hd (fun h' c' kp e=>fin its r' hz h' c' kp e) (by simp only[List.size_toArray]<;>omega)
 .obtain⟨its,r',pl,hz⟩:=I.tuple hq;have hlen:=r'.length;obtain⟨o,ho,hc,n,hd⟩:=pl;exact call_list_seq p (.inr rfl) ho hc hd (fun h' c' kp e=>fin its r' hz h' c' kp e) (by simp only[List.size_toArray]<;>omega)
theorem wI:fM X (.type "tuple") (fun xs H Q=>∃p ys,xs=[.ref p]/\((SqL X.K H p ys/\∀l,H l=none->Q (.ref l) (upd H l (.tup ys)))\/(SqT X.K H p ys/\Q (.ref p) H))):=by
 intro pins s σ H xs us Q I r h;obtain⟨p,ys,rfl,h⟩:=h;obtain⟨u,rfl,rx⟩:=vals1 r;cases rx;rcases h with⟨hq,q⟩|⟨hq,q⟩
 .obtain⟨its,r',pl,hz⟩:=I.list hq;have hlen:=r'.length;refine call_tuple_list pl.isList (fun h' kp=>?_) (by simp only[List.size_toArray]<;>omega);have I1:Inv X pins σ H { s with heap:=h' }:=I.kept (t':=s.toks) kp
  have I2:Inv X pins σ (upd H h'.objs.size (.tup ys)) { s with heap:=h'.push { cls:=.type "tuple",data:=.seq its.toArray } }:=
   I1.laid (t':=s.toks) (fun b o e=>A3 _ e) (A9 _) (show cE X.prog X.w _ _ _ (.tup ys)from⟨hz,its,r',IsTup.new _ _⟩)
  exact⟨.ref h'.objs.size,_,I2,rfl,q _ (I1.hok.fresh (A9 _))⟩
 .obtain⟨its,r',pl,hz⟩:=I.tuple hq;exact call_tuple_same pl ⟨.ref p,H,I,rfl,q⟩
noncomputable def tyV(K:Fg)(T:String)(x:V)(H:Hp):Prop:=match x with
 |.str _=>T="str"
 |.int _=>T="int"
 |.ref p=>(T="list"/\∃xs,SqL K H p xs)\/(T="tuple"/\∃o,K.lookup p=some o/\o.cls=.type "tuple"/\o.dict=none) \/
  (T="dict"/\((∃kvs,H p=some (.dK kvs))\/∃kvs,H p=some (.dT kvs)))\/(T="set"/\∃S n,H p=some (.set S n))
 |_=>False
theorem OI{pins:List (Addr×Obj)}{T:String}{x:V}{v:Value}(I:Inv X pins σ H s)(r:RelV x v)(ty:tyV X.K T x H):
 s.TypeIs v T/\∀a,v=.ref a->∃ob,s.heap.get? a=some ob/\ob.dict=none:=by
 cases x with
 |str z=>
  obtain⟨t,rfl⟩:=r;cases (show T="str" from ty);exact⟨typeIs_str s z t,fun _ e=>nomatch e⟩
 |int i=>
  obtain⟨t,rfl⟩:=r;cases (show T="int" from ty);exact⟨typeIs_int s i t,fun _ e=>nomatch e⟩
 |ref p=>
  cases r;rcases ty with⟨rfl,xs,hq⟩|⟨rfl,o,hk,hc,hd⟩|⟨rfl,hk⟩|⟨rfl,S,n,hk⟩
  .obtain⟨its,_,pl,_⟩:=I.list hq;refine⟨pl.isList.typeIs,fun a e=>?_⟩;cases e;obtain⟨o,n,e,c,hd,_⟩:=pl;exact⟨o,e,hd⟩
  .refine⟨⟨o,I.kIn p o hk,hc⟩,fun a e=>?_⟩;cases e;exact⟨o,I.kIn _ o hk,hd⟩
  .have z:∃o,s.heap.get? p=some o/\o.ExactDict:=by
    rcases hk with⟨kvs,hk⟩|⟨kvs,hk⟩
    .obtain⟨_,_,_,_,o,_,_,e,ex,_⟩:=I.hok p _ hk;exact⟨o,e,ex⟩
    .obtain⟨_,_,_,_,o,_,_,e,ex,_⟩:=I.hok p _ hk;exact⟨o,e,ex⟩
   obtain⟨o,e,ex⟩:=z;refine⟨⟨o,e,ex.1⟩,fun a e2=>?_⟩;cases e2;exact⟨o,e,ex.2.1⟩
  .obtain⟨o,_,_,_,e,ex,_⟩:=I.hok p _ hk;refine⟨⟨o,e,ex.1⟩,fun a e2=>?_⟩;cases e2;exact⟨o,e,ex.2.1⟩
 |_=>exact False.elim ty
noncomputable def aCf(K:Fg)(T:String)(r:V->List V->Hp->VK->Prop)(to:TE):TE:=fun σ H Q=>to σ H fun x H1=>tyV K T x H1/\r x [] H1 Q
noncomputable def tBM(K:Fg)(T:String)(r:V->List V->Hp->VK->Prop)(to:TE)(t:TA):TE:=fun σ H Q=>to σ H fun x H1=>tyV K T x H1/\t σ H1 fun xs H2=>r x xs H2 Q
variable{o e:Expr}{es:List Expr}{to:TE}{t:TA}{name:Str}{apos cpos:Pos}{T id:String}{r:V->List V->Hp->VK->Prop}
theorem NH(pa:PlainAttrs T)(slot:Slot T name id)(hty:typeOf (.builtin id)=pure (.type "method_descriptor"))(hm:MtR X id r)(ho:PE X o to)
 (hbase:attributeBase o name X.env (eval o X.env)=eval o X.env:=by rfl) (hline:(apos.endLine==cpos.line)=true:=by rfl):PE X (.Call (.Attribute o name apos) [] [] cpos) (aCf X.K T r to):=by
 intro pins s σ H Q I h;refine wpAny_Call_method0_late hbase hline (thn (ho pins s σ H _ I h) fun v s1 ⟨x,H1,I1,r1,ty,q1⟩=>?_);obtain⟨h1,h2⟩:=OI I1 r1 ty;exact⟨T,id,pa,slot,hty,h1,h2,Calls.callWith_builtin rfl (PySem.evalArgs_none (hm pins s1 σ H1 x [] v [] Q I1 r1 .nil q1))⟩
theorem WO(pa:PlainAttrs T)(slot:Slot T name id)(hty:typeOf (.builtin id)=pure (.type "method_descriptor"))(hm:MtR X id r)(ho:PE X o to)(ha:PA X (e::es) t)
 (hbase:attributeBase o name X.env (eval o X.env)=eval o X.env:=by rfl)
 (hfew:((backTo cpos (starEach (e::es) X.env)).all (fun x=>!x.1)&&(backToKw cpos (keywordEach [] X.env)).all (fun x=>x.1.isSome)
  && decide ((e::es).length+([]:List Keyword).length+(if ([]:List Keyword).isEmpty then 0 else 1)<30))=true:=by rfl)
 (hline:(apos.endLine==cpos.line)=true:=by rfl) (hs:starEach (e::es) X.env=(false,eval e X.env)::starEach es X.env:=by rfl) (hplain:(backTo cpos (starEach es X.env)).any (·.1)=false:=by rfl):
 PE X (.Call (.Attribute o name apos) (e::es) [] cpos) (tBM X.K T r to t):=by
 intro pins s σ H Q I h;refine wpAny_Call_method_late hbase hfew hline rfl (thn (ho pins s σ H _ I h) fun v s1 ⟨x,H1,I1,r1,ty,q1⟩=>?_);obtain⟨h1,h2⟩:=OI I1 r1 ty;refine⟨T,id,pa,slot,hty,h1,h2,?_⟩;have hA:=ha cpos pins s1 σ H1 _ I1 q1;rw[hs]at hA ⊢;refine Calls.callWith_builtin (by show(false || (backTo cpos (starEach es X.env)).any (·.1))=false;rw[hplain]<;>rfl) (Calls.evalArgs_plain ?_);exact thn hA fun us s2 ⟨vs,H2,I2,r2,q2⟩=>hm pins s2 σ H2 x vs v us Q I2 r1 r2 q2
end
noncomputable def MtM(X:Cx)(id:String)(r:V->List V->Hp->VK->Prop):Prop:=
 ∀(pins:List (Addr×Obj))(s:Shared)(σ:St)(H:Hp)(x:V)(xs:List V)(v:Value)(us:List Value)(Q:VK),Inv X pins σ H s->RelV x v->aZ xs us->r x xs H Q->
  wpAny (model X.prog X.w) X.A (call (.builtin id) (v::us)) (EP X pins σ Q) X.xe s
theorem aZ.one:∀{x:V}{us:List Value},aZ [x] us->∃u,us=[u]/\RelV x u
 |_,_,.cons r .nil=>⟨_,rfl,r⟩
theorem aZ.zero:∀{us:List Value},aZ [] us->us=[]
 |_,.nil=>rfl
theorem aZ.dropLast{xs:List V}{us:List Value}(h:aZ xs us):aZ xs.dropLast us.dropLast:=by
 induction h with
 |nil=>exact .nil
 |cons r t ih=>
  cases t with
  |nil=>exact .nil
  |cons q t'=>exact .cons r ih
theorem aZ.reverse{xs:List V}{us:List Value}(h:aZ xs us):aZ xs.reverse us.reverse:=by
 induction h with
 |nil=>exact .nil
 |cons r t ih=>rw[F4,F4];exact aZ.append ih (.cons r .nil)
theorem DP{α:Type}(l:List α):l.eraseIdx (l.length-1)=l.dropLast:=by
 induction l with
 |nil=>rfl
 |cons a r ih=>
  cases r with
  |nil=>rfl
  |cons b r=>
   have e:(a::b::r).length-1=((b::r).length-1)+1:=by
    have h1:(a::b::r).length=r.length+2:=rfl;have h2:(b::r).length=r.length+1:=rfl;omega
   rw[e,List.eraseIdx_cons_succ,ih]
   all_goals rfl
section
variable{X:Cx}{pins:List (Addr×Obj)}{σ:St}{H:Hp}{s:Shared}{l b:Addr}{xs ys zs:List V}
theorem Inv.lset{its its':List Value}{n:Nat}{f:Array Value->Array Value}{t':Nat}(I:Inv X pins σ H s)(hH:H l=some (.lst xs))
 (e:s.heap.get? l=some { cls:=.type "list",data:=.seq its.toArray n }) (hf:f its.toArray=its'.toArray) (hv:aZ ys its') (hz:ys.length<=sizeLine):
 Inv X pins σ (upd H l (.lst ys)) { s with heap:=s.heap.update l (Obj.mapSeq f),toks:=t' }:=by
 have q:=PySem.IsL.update e f;rw[hf]at q;refine I.write (x:=l) (e:=l) (by rw[hH];exact trivial) (.inl rfl) (fun b' u hb hu=>(J8 s.heap (Obj.mapSeq f) (F5 hb)).trans hu) ⟨_,q⟩ ?_;exact⟨hz,its',_,hv,q⟩
theorem Inv.lnew{its:List Value}{t':Nat}(I:Inv X pins σ H s)(hv:aZ ys its)(hz:ys.length<=sizeLine):
 Inv X pins σ (upd H s.heap.objs.size (.lst ys)) { s with heap:=s.heap.push { cls:=.type "list",data:=.seq its.toArray },toks:=t' }:=
 I.laid (fun _ _ q=>A3 _ q) (A9 _) ⟨hz,its,0,hv,B2 _ rfl⟩
theorem Inv.fresh(I:Inv X pins σ H s):H s.heap.objs.size=none:=I.hok.fresh (A9 _)
theorem Inv.lstM(I:Inv X pins σ H s)(hH:H l=some (.lst xs)):xs.length<=sizeLine/\∃(its:List Value)(n:Nat),aZ xs its/\xs.length=its.length/\s.heap.get? l=some { cls:=.type "list",data:=.seq its.toArray n }:=by
 obtain⟨z,its,n,r,e⟩:=I.hok l _ hH;exact⟨z,its,n,r,r.length,e⟩
end
section
variable{X:Cx}
noncomputable def HD:V->List V->Hp->VK->Prop:=fun x vs H Q=>∃l xs y,x=.ref l/\vs=[y]/\H l=some (.lst xs)/\xs.length<sizeLine/\Q .non (upd H l (.lst (xs++[y])))
theorem IW:MtM X "list.append" HD:=by
 intro pins s σ H x vs v us Q I rx rv h;obtain⟨l,xs,y,rfl,rfl,hH,hz,q⟩:=h;cases rx;obtain⟨u,rfl,ru⟩:=rv.one;obtain⟨z,its,n,r,hl,e⟩:=I.lstM hH;refine call_meets F.slot_list_append ⟨_,e,rfl⟩ F.entry_list_append (F.args_list_append_2 _ _) (PySem.list_append l its.toArray n u (by rw[B7];omega)) ⟨e,?_⟩;refine⟨.non,_,I.lset (its':=its++[u]) hH e (by simp) (r.append (.cons ru .nil)) ?_,rfl,q⟩;rw[B8,E2];omega
noncomputable def aCu:V->List V->Hp->VK->Prop:=fun x vs H Q=>∃l xs y,x=.ref l/\vs=[]/\H l=some (.lst xs)/\xs[xs.length-1]?=some y/\Q y (upd H l (.lst xs.dropLast))
theorem aAm:MtM X "list.pop" aCu:=by
 intro pins s σ H x vs v us Q I rx rv h;obtain⟨l,xs,y,rfl,rfl,hH,hy,q⟩:=h;cases rx;have hus:=rv.zero;subst hus;obtain⟨z,its,n,r,hl,e⟩:=I.lstM hH;obtain⟨u,hu,ru⟩:=r.get hy
 have hy':its.toArray[its.toArray.size-1]?=some u:=by
  show its.toArray[its.length-1]?=some u;rw[<- E5,<- hl];exact hu
 refine call_meets F.slot_list_pop ⟨_,e,rfl⟩ F.entry_list_pop (F.args_list_pop_1 _) (MeetsSeq.list_pop_last l its.toArray n u hy' (by rw[B7];omega)) ⟨e,?_⟩;refine⟨y,_,I.lset (its':=its.dropLast) hH e ?_ r.dropLast ?_,ru,q⟩
 .show its.toArray.eraseIdxIfInBounds (its.toArray.size-1)=its.dropLast.toArray;rw[B7,List.eraseIdxIfInBounds_toArray,DP]
 .rw[List.length_dropLast];omega
noncomputable def CL:V->List V->Hp->VK->Prop:=fun x vs H Q=>∃l xs,x=.ref l/\vs=[]/\H l=some (.lst xs)/\Q .non (upd H l (.lst xs.reverse))
theorem EZ:MtM X "list.reverse" CL:=by
 intro pins s σ H x vs v us Q I rx rv h;obtain⟨l,xs,rfl,rfl,hH,q⟩:=h;cases rx;have hus:=rv.zero;subst hus;obtain⟨z,its,n,r,hl,e⟩:=I.lstM hH;refine call_meets F.slot_list_reverse ⟨_,e,rfl⟩ F.entry_list_reverse (F.args_list_reverse_1 _) (AutoSeq1.list_reverse_list_0 l its.toArray n (by rw[B7];omega)) ⟨e,?_⟩;refine⟨.non,_,I.lset (its':=its.reverse) hH e (by simp) r.reverse ?_,rfl,q⟩;rw[J2];omega
end
section
variable{κ:Type}[DecidableEq κ]
noncomputable def fO(kvs:List (κ×V))(k:κ):Option V:=(kvs.find? fun kv=>decide (kv.1=k)).map (·.2)
noncomputable def putK(kvs:List (κ×V))(k:κ)(v:V):List (κ×V):=
 if (kvs.any fun kv=>decide (kv.1=k))=true then kvs.map (fun kv=>if kv.1=k then(kv.1,v)else kv)else kvs++[(k,v)]
theorem tN{p:κ×V}{r:List (κ×V)}{k:κ}(e:p.1=k):fO (p::r) k=some p.2:=by simp[fO,List.find?_cons,e]
theorem tQ{p:κ×V}{r:List (κ×V)}{k:κ}(e:¬p.1=k):fO (p::r) k=fO r k:=by simp[fO,List.find?_cons,e]
theorem BG(k:κ):∀kvs:List (κ×V),(kvs.any fun kv=>decide (kv.1=k))=(fO kvs k).isSome
 |[]=>rfl
 |p::r=>by
  rw[L7];by_cases e:p.1=k
  .simp only[tN e,decide_eq_true e,Bool.true_or,Option.isSome_some]
  .rw[tQ e,C6 e,Bool.false_or];exact BG k r
theorem iX(kvs:List (κ×V))(k:κ)(v:V):(putK kvs k v).length<=kvs.length+1:=by
 unfold putK;split
 .rw[A1];omega
 .rw[B8,C5,List.length_nil];omega
theorem sU.isSome_eq{o:Option V}{u:Option Value}(r:sU o u):o.isSome=u.isSome:=by
 cases o with
 |none=>cases u with
  |none=>rfl
  |some _=>exact(show False from r).elim
 |some _=>cases u with
  |none=>exact(show False from r).elim
  |some _=>rfl
theorem KV.val{kvs:List (κ×V)}{vs:List (κ×Value)}(r:KV kvs vs)(k:κ):sU (fO kvs k) (valueAt vs k):=by
 unfold KV at r
 induction r with
 |nil=>exact True.intro
 |@cons p q ps qs h t ih=>
  obtain⟨h1,h2⟩:=h;by_cases e:p.1=k
  .have e':q.1=k:=h1.symm.trans e;have b:valueAt (q::qs) k=some q.2:=by simp[valueAt,List.find?_cons,e']
   rw[tN e,b];exact h2
  .have e':¬q.1=k:=fun z=>e (h1.trans z);have b:valueAt (q::qs) k=valueAt qs k:=by simp[valueAt,List.find?_cons,e']
   rw[tQ e,b];exact ih
theorem KV.any{kvs:List (κ×V)}{vs:List (κ×Value)}(r:KV kvs vs)(k:κ):(kvs.any fun kv=>decide (kv.1=k))=vs.any fun kv=>decide (kv.1=k):=by
 unfold KV at r
 induction r with
 |nil=>rfl
 |cons h t ih=>rw[L7,L7,ih,h.1]
theorem KV.repl{kvs:List (κ×V)}{vs:List (κ×Value)}(r:KV kvs vs)(k:κ){y:V}{u:Value}(ry:RelV y u):
 KV (kvs.map fun kv=>if kv.1=k then(kv.1,y)else kv) (vs.map fun kv=>if kv.1=k then(kv.1,u)else kv):=by
 unfold KV at r ⊢
 induction r with
 |nil=>exact .nil
 |@cons p q ps qs h t ih=>
  rw[C0,C0];refine .cons ?_ ih;obtain⟨h1,h2⟩:=h;by_cases e:p.1=k
  .rw[A4 e,A4 (h1.symm.trans e)];exact⟨h1,ry⟩
  .rw[A5 e,A5 (fun z=>e (h1.trans z))];exact⟨h1,h2⟩
theorem KV.put{kvs:List (κ×V)}{vs:List (κ×Value)}(r:KV kvs vs)(k:κ){y:V}{u:Value}(ry:RelV y u):KV (putK kvs k y) (stored vs k u):=by
 unfold putK stored;rw[r.any k];by_cases e:(vs.any fun kv=>decide (kv.1=k))=true
 .rw[A4 e,A4 e];exact r.repl k ry
 .rw[A5 e,A5 e];exact Paired.snoc r ⟨rfl,ry⟩
theorem KV.length{kvs:List (κ×V)}{vs:List (κ×Value)}(r:KV kvs vs):kvs.length=vs.length:=S4 r
end
theorem FZ{P:Program}{w:World}{k:Key}{u:Value}(r:RelV (kV k) u):(cV P w).is k u=true:=by
 cases k with
 |inl i=>obtain⟨t,e⟩:=(show ∃t,u=Value.int i t from r);subst e;exact CY P w i t
 |inr x=>obtain⟨t,e⟩:=(show ∃t,u=Value.str x t from r);subst e;exact BU P w x t
theorem qY{P:Program}{w:World}:∀{ks:List Key}{us:List Value},aZ (ks.map kV) us->ItemsAre (cV P w) ks us
 |[],_=>fun r=>by rw[List.map_nil]at r;cases r;exact .nil
 |k::ks,_=>fun r=>by
  rw[C0]at r;cases r with
  |cons h t=>exact .cons (FZ h) (qY t)
noncomputable abbrev KT(H:Hp):List (List Key×V)->List (List Key×Addr×Value)->Prop:=Paired fun p q=>p.1=q.1/\H q.2.1=some (.tup (p.1.map kV))/\RelV p.2 q.2.2
theorem KT.val{kvs:List (List Key×V)}{xs:List (List Key×Addr×Value)}(r:KT H kvs xs)(k:List Key):sU (fO kvs k) ((atKey xs k).map (·.2)):=by
 induction r with
 |nil=>exact True.intro
 |@cons p q ps qs h t ih=>
  obtain⟨h1,_,h2⟩:=h;by_cases e:p.1=k
  .have e':q.1=k:=h1.symm.trans e;have b:atKey (q::qs) k=some q.2:=by simp[atKey,List.find?_cons,e']
   rw[tN e,b];exact h2
  .have e':¬q.1=k:=fun z=>e (h1.trans z);have b:atKey (q::qs) k=atKey qs k:=by simp[atKey,List.find?_cons,e']
   rw[tQ e,b];exact ih
theorem KT.repl{kvs:List (List Key×V)}{xs:List (List Key×Addr×Value)}(r:KT H kvs xs)(k:List Key){y:V}{u:Value}(ry:RelV y u):
 KT H (kvs.map fun kv=>if kv.1=k then(kv.1,y)else kv) (xs.map (putAt k u)):=by
 induction r with
 |nil=>exact .nil
 |@cons p q ps qs h t ih=>
  rw[C0,C0];refine .cons ?_ ih;obtain⟨h1,h2,h3⟩:=h;unfold putAt;by_cases e:p.1=k
  .rw[A4 e,A4 (h1.symm.trans e)];exact⟨h1,h2,ry⟩
  .rw[A5 e,A5 (fun z=>e (h1.trans z))];exact⟨h1,h2,h3⟩
theorem KT.put{kvs:List (List Key×V)}{xs:List (List Key×Addr×Value)}(r:KT H kvs xs)(k:List Key){b:Addr}{y:V}{u:Value}(hb:H b=some (.tup (k.map kV)))(ry:RelV y u):
 KT H (putK kvs k y) (storedH xs k b u):=by
 have e:(kvs.any fun kv=>decide (kv.1=k))=(atKey xs k).isSome:=by
  rw[BG,(r.val k).isSome_eq,Option.isSome_map]
 unfold putK storedH;rw[e];by_cases q:(atKey xs k).isSome=true
 .rw[A4 q,A4 q];exact r.repl k ry
 .rw[A5 q,A5 q];exact Paired.snoc r ⟨rfl,hb,ry⟩
theorem KT.keeps{H':Hp}{kvs:List (List Key×V)}{xs:List (List Key×Addr×Value)}(r:KT H kvs xs)(ht:∀b ys,H b=some (.tup ys)->H' b=some (.tup ys)):KT H' kvs xs:=
 Paired.mapP r fun _ _ z=>⟨z.1,ht _ _ z.2.1,z.2.2⟩
section
variable{P:Program}{w:World}{H:Hp}{h:Heap}{a:Addr}
theorem WJ{u:HO}(ok:HOk P w H h)(e:Rd H a u):cE P w H h a u:=e.ok ok
theorem WE{kvs:List (Key×V)}(ok:HOk P w H h)(e:Rd H a (.dK kvs)):kvs.length<=sizeLine/\(a==sysModules)=false/\∃vs,KV kvs vs/\h.DictOf (cV P w) a vs:=
 show cE P w H h a (.dK kvs)from WJ ok e
theorem WU{kvs:List (Key×V)}(ok:HOk P w H h)(e:H a=some (.dK kvs)):kvs.length<=sizeLine/\(a==sysModules)=false/\∃vs,KV kvs vs/\h.DictOf (cV P w) a vs:=WE ok (.inl e)
theorem zC{ks:List Key}(ok:HOk P w H h)(e:H a=some (.tup (ks.map kV))):(tupleKind (cV P w)).is h ks a:=by
 obtain⟨_,its,r,o,h1,h2,n,h3⟩:=(show cE P w H h a (.tup (ks.map kV))from ok a _ e);exact⟨o,its.toArray,n,h1,h2,h3,by simpa using qY r⟩
theorem NJ{kvs:List (List Key×V)}(ok:HOk P w H h)(e:Rd H a (.dT kvs)):kvs.length<=sizeLine/\(a==sysModules)=false /\
 ∃xs,KT H kvs xs/\h.DictOfH (tupleKind (cV P w)) a xs:=by
 obtain⟨z,y,xs,r,o,es,ep,h1,h2,h3,h4,h5⟩:=(show cE P w H h a (.dT kvs)from WJ ok e);refine⟨z,y,xs,r,o,es,ep,h1,h2,h3,h4,fun x hx=>?_,h5⟩
 have all:∀{l:List (List Key×V)}{m:List (List Key×Addr×Value)},KT H l m->∀x∈m,(tupleKind (cV P w)).is h x.1 x.2.1:=by
  intro l m q
  induction q with
  |nil=>intro x hx;exact nomatch hx
  |@cons p q ps qs hq t ih=>
   intro x hx;rcases List.mem_cons.mp hx with e|hx
   .subst e;exact zC ok (by rw[<- hq.1];exact hq.2.1)
   .exact ih x hx
 exact all r x hx
theorem VQ{kvs:List (List Key×V)}(ok:HOk P w H h)(e:H a=some (.dT kvs)):kvs.length<=sizeLine/\(a==sysModules)=false /\
 ∃xs,KT H kvs xs/\h.DictOfH (tupleKind (cV P w)) a xs:=NJ ok (.inl e)
end
noncomputable def zM(H:Hp)(a:Addr)(y:V)(r:Option V):Prop:=
 (∃kvs k,Rd H a (.dK kvs)/\y=kV k/\r=fO kvs k)\/∃kvs k b,Rd H a (.dT kvs)/\y=.ref b/\H b=some (.tup (k.map kV))/\r=fO kvs k
noncomputable def tZ(H:Hp)(a:Addr)(y v:V)(H':Hp):Prop:=
 (∃kvs k,H a=some (.dK kvs)/\y=kV k/\kvs.length<sizeLine/\H'=upd H a (.dK (putK kvs k v))) \/
 ∃kvs k b,H a=some (.dT kvs)/\y=.ref b/\H b=some (.tup (k.map kV))/\kvs.length<sizeLine/\H'=upd H a (.dT (putK kvs k v))
theorem zM.k{a:Addr}{kvs:List (Key×V)}{k:Key}(e:H a=some (.dK kvs)):zM H a (kV k) (fO kvs k):=.inl ⟨kvs,k,.inl e,rfl,rfl⟩
theorem zM.t{a b:Addr}{kvs:List (List Key×V)}{k:List Key}(e:H a=some (.dT kvs))(eb:H b=some (.tup (k.map kV))):zM H a (.ref b) (fO kvs k):=.inr ⟨kvs,k,b,.inl e,rfl,eb,rfl⟩
theorem tZ.k{a:Addr}{kvs:List (Key×V)}{k:Key}{v:V}(e:H a=some (.dK kvs))(hl:kvs.length<sizeLine):tZ H a (kV k) v (upd H a (.dK (putK kvs k v))):=.inl ⟨kvs,k,e,rfl,hl,rfl⟩
theorem tZ.t{a b:Addr}{kvs:List (List Key×V)}{k:List Key}{v:V}(e:H a=some (.dT kvs))(eb:H b=some (.tup (k.map kV)))(hl:kvs.length<sizeLine):
 tZ H a (.ref b) v (upd H a (.dT (putK kvs k v))):=.inr ⟨kvs,k,b,e,rfl,eb,hl,rfl⟩
section
variable{X:Cx}{pins:List (Addr×Obj)}{σ:St}{H:Hp}{s:Shared}{a:Addr}{y v:V}{u r:Value}{o:Option V}{A:Around}{E:Value->Shared->Prop}
theorem Inv.big(I:Inv X pins σ H s):sysModules<s.heap.objs.size:=by
 have h:mainGlobals<s.heap.objs.size:=(I.mod.glob.keeps I.bk).lt;exact F6 (by decide) h
theorem aDv{Q:Value->Shared->Prop}(hu:A.units+1<cLine)(I:Inv X pins σ H s)(g:zM H a y o)(ry:RelV y u)(h:∀s',Inv X pins σ H s'->Q (.bool o.isSome) s'):
 wpAny (model X.prog X.w) A (compareOp .In u (.ref a)) Q E s:=by
 rcases g with⟨kvs,k,e,ey,l⟩|⟨kvs,k,b,e,ey,eb,l⟩
 .subst ey;obtain⟨z,hd,vs,rel,dd⟩:=WE I.hok e;refine wpAny_in_of (FZ ry) hd dd.mapOf ?_;rw[<- (rel.val k).isSome_eq,<- l];exact h _ (I.tok _)
 .subst ey;cases (show u=Value.ref b from ry);obtain⟨z,hd,xs,rel,dd⟩:=NJ I.hok e;refine wpAny_in_heap (tupleKind_room_in1 hu) (zC I.hok eb) hd dd ?_;have q:=(rel.val k).isSome_eq;rw[Option.isSome_map]at q;rw[<- q,<- l];exact h _ (I.tok _)
theorem tF{h':Heap}{t':Nat}{ob:HO}(I:Inv X pins σ H s)(mu:Mut (H a))(hs:Heap.SameBut a s.heap h')(he:∃q,h'.get? a=some q)(new:cE X.prog X.w (upd H a ob) h' a ob):
 Inv X pins σ (upd H a ob) { s with heap:=h',toks:=t' }:=
 I.write (x:=a) (e:=a) mu (.inl rfl) (fun b q hb z=>(hs.2 b hb).trans z) he new
theorem QC{P:Program}{w:World}{H':Hp}{h':Heap}{kvs:List (Key×V)}{vs:List (Key×Value)}(z:kvs.length<=sizeLine)(hd:(a==sysModules)=false)(rel:KV kvs vs)(dd:h'.DictOf (cV P w) a vs):
 cE P w H' h' a (.dK kvs):=⟨z,hd,vs,rel,dd⟩
theorem JM{H':Hp}{Q:Unit->Shared->Prop}(hu:A.units+1<cLine)(I:Inv X pins σ H s)(g:tZ H a y v H')(ry:RelV y u)(rv:RelV v r)(h:∀s',Inv X pins σ H' s'->Q () s'):
 wpAny (model X.prog X.w) A (setItem (.ref a) u r) Q E s:=by
 rcases g with⟨kvs,k,e,ey,l,eH⟩|⟨kvs,k,b,e,ey,eb,l,eH⟩
 .subst ey eH;obtain⟨z,hd,vs,rel,dd⟩:=WU I.hok e;have hz:vs.length<=sizeLine:=by rw[<- rel.length];exact z
  have hl:(putK kvs k v).length<=sizeLine:=by have:=iX kvs k v;omega
  refine wpAny_setItem_pairs (hsz:=hz) (FZ ry) dd fun h' dd' hs=>h _ ?_;have he:∃q,h'.get? a=some q:=let⟨q,_,_,hq,_⟩:=dd';⟨q,hq⟩;exact tF I (by rw[e];exact True.intro) hs he (QC hl hd (rel.put k rv) dd')
 .subst ey eH;cases (show u=Value.ref b from ry);obtain⟨z,hd,xs,rel,dd⟩:=VQ I.hok e;have hz:xs.length<=sizeLine:=by rw[<- S4 rel];exact z
  have hl:(putK kvs k v).length<=sizeLine:=by have:=iX kvs k v;omega
  refine wpAny_setItem_heap (hsz:=hz) (tupleKind_room_in1 hu) (zC I.hok eb) dd fun h' dd' hs=>h _ ?_;obtain⟨q,es,ep,hq,h2,h3,h4,_,h5⟩:=dd';refine tF I (by rw[e];exact True.intro) hs ⟨q,hq⟩ ⟨hl,hd,_,(rel.put k eb rv).keeps fun c ys ec=>?_,q,es,ep,hq,h2,h3,h4,h5⟩;rw[aM (WK ec e (fun z=>nomatch z))];exact ec
end
noncomputable def UN(i:Expr):Prop:=∀ov iv,subscripted i false ov iv=operate [ov,iv] (getItem ov iv)
theorem QZ{prog:Program}{w:World}{A:Around}{E:Value->Shared->Prop}{s:Shared}{env:Env}{value slice:Expr}{pos:Pos}{T id:String}{Q:Value->Shared->Prop}
 (hl:typeLookup (.type T) "__getitem__"=pure (some (.builtin id))) (hs:UN slice)
 (h:wpAny (model prog w) A (eval value env) (fun o s₁=>wpAny (model prog w) A (eval slice env) (fun i s₂=>s₂.TypeIs o T/\wpAny (model prog w) A (getItem o i) Q E s₂) E s₁) E s):
 wpAny (model prog w) A (eval (.Subscript value slice pos) env) Q E s:=by
 refine Subscript_ (D6 h (fun o s₁ h₁=>D6 h₁ (fun i s₂ h₂=>?_) fun _ _ x=>x) fun _ _ x=>x);obtain⟨hT,h₂⟩:=h₂;unfold subscriptTail;refine A0 ?_;rw[getitemInPython_of_ne hT.not_modules];refine A0 (wpAny_specialOf hT hl ?_)
 have fin:wpAny (model prog w) A (subscripted slice false o i) (fun r s₃=>wpAny (model prog w) A (letTemporaryGo value o r >>= fun _=>pure r) Q E s₃) E s₂:=by
  rw[hs o i];exact wpAny_operating (D6 h₂ (fun r s₃ h₃=>A0 (wpAny_letTemporaryGo (A6 h₃))) fun _ _ x=>x)
 first
  |exact A6 (A0 fin)
  |exact A0 (A6 (A0 fin))
  |exact A0 fin
noncomputable def aCA(ty td:TE):TE:=fun σ H Q=>ty σ H fun y H1=>td σ H1 fun x H2=>∃a o,x=.ref a/\zM H2 a y o/\Q (.bl o.isSome) H2
noncomputable def VW(td ty tv:TE):TS:=fun D σ H=>tv σ H fun v H1=>td σ H1 fun x H2=>ty σ H2 fun y H3=>∃a H4,x=.ref a/\tZ H3 a y v H4/\D.nx σ H4
section
variable{X:Cx}{o i e value:Expr}{pos pos' tpos:Pos}{td ty tv:TE}
theorem XS(hu:X.A.units+1<cLine)(hi:PE X i ty)(ho:PE X o td):PC X .In i o (aCA ty td):=by
 intro pins s σ H Q I h;refine thn (hi pins s σ H _ I h) fun iv s1 ⟨y,H1,I1,ry,q1⟩=>thn (ho pins s1 σ H1 _ I1 q1) fun u s2 ⟨x,H2,I2,rx,a,ov,ex,g,q2⟩=>?_;subst ex;obtain rfl:u=Value.ref a:=rx;exact aDv hu I2 g ry fun s3 I3=>⟨.bl ov.isSome,H2,I3,rfl,q2⟩
theorem TH(hu:X.A.units+1<cLine)(ho:PE X o td)(hi:PE X i ty)(hv:PE X value tv)(hs:swapsWith value (some (.Subscript o i pos')) pos.line X.env=pure false):
 PS X (.Assign [.Subscript o i pos'] value pos) (VW td ty tv):=by
 intro pins s σ H D I h;refine wpAny_Assign_Subscript (thn (hv pins s σ H _ I h) fun r s1 ⟨v,H1,I1,rv,q1⟩=>thn (ho pins s1 σ H1 _ I1 q1) fun u s2 ⟨x,H2,I2,rx,q2⟩=>thn (hi pins s2 σ H2 _ I2 q2) fun iv s3 ⟨y,H3,I3,ry,a,H4,ex,g,q3⟩=>?_) hs;subst ex;obtain rfl:u=Value.ref a:=rx;exact JM hu I3 g ry rv fun s4 I4=>⟨σ,H4,I4,q3⟩
end
theorem MU{P:Program}{w:World}(h:Heap)(hb:sysModules<h.objs.size):cE P w H (h.push { cls:=.type "dict",data:=.dict #[] }) h.objs.size (.dK []):=
 ⟨F8 _,beq_eq_false_iff_ne.mpr (F5 (B4 hb)),[],.nil,Heap.DictOf.new h⟩
theorem DA{P:Program}{w:World}(h:Heap)(hb:sysModules<h.objs.size):cE P w H (h.push { cls:=.type "dict",data:=.dict #[] }) h.objs.size (.dT []):=
 ⟨F8 _,beq_eq_false_iff_ne.mpr (F5 (B4 hb)),[],.nil,_,#[],0,B2 _ rfl,⟨rfl,rfl,rfl⟩,rfl,rfl,List.nodup_nil⟩
noncomputable def NG:TE:=fun _ H Q=>∀p,H p=none->Q (.ref p) (upd H p (.dT []))
section
variable{X:Cx}{pos:Pos}
theorem LN:PE X (.Dict [] [] pos) NG:=fun pins s σ H Q I h=>
 wpAny_Dict_empty ⟨.ref s.heap.objs.size,_,I.laid (a:=s.heap.objs.size) (o:=.dT []) (t':=s.toks) (fun _ _ q=>A3 _ q) (A9 _) (DA s.heap I.big),rfl,h _ (I.hok.fresh (A9 _))⟩
end
structure M1(X:Cx)(o:Expr)(m:Str)(apos:Pos)(e:Expr)(cpos:Pos):Prop where
 base:attributeBase o m X.env (eval o X.env)=eval o X.env
 few:((backTo cpos (starEach [e] X.env)).all (fun x=>!x.1)&&(backToKw cpos (keywordEach [] X.env)).all (fun x=>x.1.isSome)
  && decide (([e]:List Expr).length+([]:List Keyword).length+(if ([]:List Keyword).isEmpty then 0 else 1)<30))=true
 line:(apos.endLine==cpos.line)=true
 trees:backTo cpos (starEach [e] X.env)=[(false,eval e X.env)]
structure M2(X:Cx)(o:Expr)(m:Str)(apos:Pos)(e f:Expr)(cpos:Pos):Prop where
 base:attributeBase o m X.env (eval o X.env)=eval o X.env
 few:((backTo cpos (starEach [e,f] X.env)).all (fun x=>!x.1)&&(backToKw cpos (keywordEach [] X.env)).all (fun x=>x.1.isSome)
  && decide (([e,f]:List Expr).length+([]:List Keyword).length+(if ([]:List Keyword).isEmpty then 0 else 1)<30))=true
 line:(apos.endLine==cpos.line)=true
 trees:backTo cpos (starEach [e,f] X.env)=[(false,eval e X.env),(false,eval f X.env)]
end L2
namespace Att
open PySem PySem.W PySem.Calls PyProof.Rows
theorem sN{P:Params}{h:Heap}:∀(ns:List Int)(vs:List Value),WellAll P h vs (ns.map WData.int)->IntsAre vs ns:=by
 intro ns
 induction ns with
 |nil=>
  intro vs w;rw[List.map_nil]at w;cases w;exact .nil
 |cons n ns ih=>
  intro vs w;rw[C0]at w;cases w with
  |cons a b=>
   cases a;exact .cons _ _ (ih _ b)
theorem IT{l:OpenLaw}{n:Nat}(hn:l.most=some n){P:Params}{h:Heap}{args:List WData}{vals:List Value}
 (hpre:l.row.toRowW.claim.pre args=true) (hwl:WellAll P h vals args):
 ∃a vs ns,vals=[Value.ref a]/\args=[WData.list (ns.map WData.int)]/\h.get? a=some { cls:=.type "list",data:=.seq vs.toArray }/\IntsAre vs ns/\ns.length<=n:=by
 have hsh:WShape.hasAll [] args [.list .int]=true:=(pre_splitW hpre).1;have hc:l.pre.holds [] { args:=args }=true:=(pre_splitW hpre).2;obtain⟨d,r,rfl,h1,h2⟩:=hasAllW_cons hsh;obtain rfl:=hasAllW_nil h2;obtain⟨xs,rfl,h3⟩:=hasW_list h1;obtain⟨ns,rfl⟩:=items_int h3
 have hlen:ns.length<=n:=by
  unfold OpenLaw.pre at hc
  have h4:(WTm.not (.lt (.lit (.int (n:Int))) (.len (.arg 0)))).holds [] { args:=[.list (ns.map .int)] }=true:=by
   have h4:=(holds_andW hc).1;rw[hn]at h4;exact h4
  have h5:=condW_of h4 (w_not (w_lt w_lit (w_len_list (w_arg rfl))));rw[A1]at h5;refine Nat.le_of_not_lt fun q=>?_;have q':(n:Int)<((ns.length:Nat):Int):=by omega
  first
   |(rw[C8 q']at h5;exact absurd h5 (by decide))
   |(simp at h5;omega)
 cases hwl with
 |cons w1 w2=>
  cases w2;cases w1 with
  |list ho hall=>exact⟨_,_,ns,rfl,rfl,ho,sN ns _ hall,hlen⟩
theorem JZ(l:OpenLaw)(args:List WData):l.row.toRowW.claim.post args (.bool true) args=true:=
 postW_of (r:=l.row.toRowW) (X:=(true==true))
  (show WShape.has [] (.bool true) .bool=true by first|rfl|decide|simp[WShape.has,WShape.arms,WShape.armsAll])
  (show(WTm.eq .res (.lit (.bool true))).value [] { args:=args,res:=some (.bool true),after:=args }=some (.bool (true==true))from w_eq_bool (w_res rfl) w_lit) rfl
theorem attach_call{l:OpenLaw}{n:Nat}{q:Program}{loose:List Str}{XP:(Str->Option Value)->Heap->Prop}{YP:World->Heap->Prop}{d:DefRec}
 (hn:l.most=some n) (hdf:d.params.defaults=[])
 (call:∀(w:World)(s₀ s₁:Shared)(mg mb:Str->Option Value)(fa:Addr)(o:Obj)(pm cd doc:Value)(a:Addr)(vs:List Value)(ns:List Int),
  Ground q loose [] XP w s₀ mg mb s₁.heap->YP w s₁.heap->
  s₁.heap.get? fa=some o->o.data=.func (docDef d.name d.params d.body d.scope pm cd doc)->s₁.heap.CodeRec cd d.name->mg d.name=some (.ref fa)->
  s₁.heap.get? a=some { cls:=.type "list",data:=.seq vs.toArray }->IntsAre vs ns->ns.length<=n->s₁.gens=#[]->
  codeAny (model l.prog w) callerA (.call (.ref fa) ⟨[.ref a],[]⟩) (fun r s'=>r=.ok (.ret (.bool true))/\OldK s₁.heap s'.heap/\s'.os=s₁.os/\AllBare s'.gens) s₁):
 WalkO q loose XP YP l.row.toRowW d [] (fun f vs=>PySem.call f vs):=by
 intro w s₀ s₁ mg mb G Y fa o pm cd doc dV kV ho hd hcd hD hmg hg args vals as hpre hlay hrd hwl hlo;obtain rfl:dV=.none:=Dflts.none hD hdf;obtain rfl:kV=.none:=Dflts.noKw hD;obtain⟨a,vs,ns,rfl,rfl,hobj,hints,hlen⟩:=IT hn hpre hwl;refine enter_call (codeAny_mono (call w s₀ s₁ mg mb fa o pm cd doc a vs ns G Y ho (fd_plain hd) hcd hmg hobj hints hlen hg) fun r s' hq=>?_);obtain⟨rfl,h2,h3,h4⟩:=hq;exact⟨.inl ⟨.bool true,.bool true,[],rfl,fun _=>rfl,.bool true,JZ l _,fun _=>⟨List.Pairwise.nil,fun _ hm=>(nomatch hm)⟩⟩,h2,h3,h4⟩
section
variable{prog:Program}{w:World}{A:Around}{E:Value->Shared->Prop}{s:Shared}{K:Frag}
end
end Att
namespace L2
open PySem PySem.Spec PyProof.Rows
theorem wM:∀{vs:List Value}{ns:List Int},IntsAre vs ns->aZ (ns.map V.int) vs
 |_,_,.nil=>.nil
 |_,_,.cons n t h=>.cons ⟨t,rfl⟩ (wM h)
noncomputable def XG(H:Hp):Prop:=∀b,H b=none\/∃o xs,H b=some (.frz o (.lst xs))
theorem QK{P:Program}{w:World}{K:Fg}{mg mb:Str->Option Value}{CX:CXT}{k:Nat}{fa a:Addr}{fd:FuncData}{x:Str}{sp:Sp}{s₁:Shared}{vs:List Value}{ns:List Int}
 (KX:K.In s₁.heap) (hns:s₁.heap.Ns mainGlobals mg) (hb:s₁.heap.Ns builtinsNs mb) (hbb:∀x:Str,x≠"__name__"->mb x=bootBuiltins x) (hlim:s₁.heap.NoLimit) (hsm:∃mm,s₁.heap.Ns sysModules mm) (hg:s₁.gens=#[])
 (ha:s₁.heap.get? a=some { cls:=.type "list",data:=.seq vs.toArray }) (hi:IntsAre vs ns) (hl:ns.length<=sizeLine) (hr:cM k callerA)
 (F:∀base:Heap,K.In base->base.Ns mainGlobals mg->lB P w K mg base CX k fa fd [x] sp) (hbind:∀(s:Shared)(u:Value),BindsTo s fd ⟨[u],[]⟩ [(x,u)])
 (hsp:∀H:Hp,XG H->SqL K H a (ns.map V.int)->sp [.ref a] H (fun v _=>v=.bl true) fun _ _ _=>False)
 (hCX:∀H e s',CX [] H s₁ (fun _ _ _=>False) e s'->False):
 codeAny (model P w) callerA (.call (.ref fa) ⟨[.ref a],[]⟩) (fun r s'=>r=.ok (.ret (.bool true))/\OldK s₁.heap s'.heap/\s'.os=s₁.os/\AllBare s'.gens) s₁:=by
 have rv:=wM hi;have lenV:=hi.length
 have core:∀H:Hp,XG H->SqL K H a (ns.map V.int)->HOk P w H s₁.heap->(∀b,H b≠none->b=a)->(H a≠none->K.lookup a=none)->
  codeAny (model P w) callerA (.call (.ref fa) ⟨[.ref a],[]⟩) (fun r s'=>r=.ok (.ret (.bool true))/\OldK s₁.heap s'.heap/\s'.os=s₁.os/\AllBare s'.gens) s₁:=by
  intro H hO hS hok hA hK;have base_of:∀{b:Addr}{o:Obj},s₁.heap.get? b=some o->H b=none->(zI s₁.heap H).get? b=some o:=fun e n=>OT e n
  have noA:∀{b:Addr}{o:Obj}{es:Array DictEntry}{ep:Nat},s₁.heap.get? b=some o->o.data=.dict es ep->H b=none:=fun{b o es ep} e d=>by
   cases q:H b with
   |none=>rfl
   |some u=>
    have e':b=a:=hA b (by rw[q];simp);subst e';rw[ha]at e;cases e;have d':Data.seq vs.toArray _=Data.dict es ep:=d;cases d'
  have nsK:∀{b:Addr}{m:Str->Option Value},s₁.heap.Ns b m->(zI s₁.heap H).Ns b m:=fun{b m} ⟨o,es,ep,e,d,r⟩=>⟨o,es,ep,base_of e (noA e d),d,r⟩
  have hKb:K.In (zI s₁.heap H):=fun b o e=>base_of (KX b o e) (by
   cases q:H b with
   |none=>rfl
   |some u=>
    have e':b=a:=hA b (by rw[q];simp);subst e';rw[hK (by rw[q];simp)]at e;cases e)
  have hM:Mod K mg (zI s₁.heap H):=⟨hKb,nsK hns,⟨mb,nsK hb,hbb⟩,(let⟨mc,h1,h2⟩:=hlim;⟨mc,nsK h1,h2⟩),(let⟨mm,hmm⟩:=hsm;let⟨o,es,ep,h1,h2,_⟩:=nsK hmm;⟨o,es,ep,h1,h2⟩)⟩;have e0:FC P w K mg (zI s₁.heap H) callerA [] s₁ H:=⟨rfl,hM,fun b o e=>QU e,Nat.le_of_eq (JA _ _),trivial,fun b hb=>absurd (show b∈([]:List Addr)from hb) (by simp),hok,.of_eq hg⟩;refine codeAny_mono ((F _ hKb (nsK hns)).run callerA [] s₁ H ⟨[.ref a],[]⟩ [.ref a] [.ref a] _ _ hr e0 (hbind s₁ (.ref a)) (.cons rfl .nil) (hsp H hO hS)) fun r s' h=>?_;cases r with
  |error e=>exact(hCX H e s' h).elim
  |ok fl=>
   cases fl with
   |next=>exact False.elim h
   |brk=>exact False.elim h
   |cont=>exact False.elim h
   |ret u=>
    obtain⟨v,H',os,bare,un,hok',r',q⟩:=h;have q':v=.bl true:=q;subst q';obtain rfl:u=Value.bool true:=r';refine⟨rfl,OldK.of_keep fun b o e=>?_,os,bare⟩;cases q:H b with
    |none=>exact un.keep b o e q (by intro z;exact absurd (show b∈([]:List Addr)from z) (by simp)) (by simp)
    |some u=>
     rcases hO b with z|⟨ob,xs,z⟩
     .rw[q]at z;cases z
     .have z2:=un.frzs b ob _ z;obtain⟨e1,_⟩:=hok b _ z;obtain⟨e2,_⟩:=hok' b _ z2;rw[e]at e1;cases e1;exact e2
 cases hk:K.lookup a with
 |some o=>
  have e:=KX a o hk;rw[ha]at e;cases e;refine core (fun _=>none) (fun _=>.inl rfl) (.inr ⟨_,vs.toArray,_,hk,rfl,rfl,rfl,by rw[B7,lenV];exact hl,by simpa using rv⟩) (fun b u z=>by have z':(none:Option HO)=some u:=z;cases z') (fun b z=>absurd rfl z) fun z=>absurd rfl z
 |none=>
  refine core (fun b=>if b=a then some (.frz { cls:=.type "list",data:=.seq vs.toArray } (.lst (ns.map V.int)))else none) (fun b=>?_) (.inl (.inr ⟨{ cls:=.type "list",data:=.seq vs.toArray },A4 rfl⟩)) (fun b u z=>?_) (fun b z=>?_) fun _=>hk
  .by_cases hb:b=a
   .exact .inr ⟨_,_,A4 hb⟩
   .exact .inl (A5 hb)
  .by_cases hb:b=a
   .have z':=(A4 hb).symm.trans z;cases z';subst hb;exact⟨ha,by rw[A1];exact hl,vs,_,rv,ha⟩
   .have z':=(A5 hb).symm.trans z;cases z'
  .by_cases hb:b=a
   .exact hb
   .exact absurd (A5 hb) z
noncomputable abbrev KOf{K:Fg}{h:Heap}(_:K.In h):Fg:=K
theorem walk_of{l:PySem.W.OpenLaw}{n k:Nat}{q:Program}(hq:PyProof.Rows.importsNone q=true){loose:List Str}{XP:(Str->Option Value)->Heap->Prop}{YP:World->Heap->Prop}{d:DefRec}{K:Params->Fg}{CX:World->CXT}{sp:World->Sp}{x:Str}
 (hn:l.most=some n) (hn2:n<=sizeLine) (hdf:d.params.defaults=[]) (hr:cM k callerA)
 (hY:∀(w:World)(h:Heap),YP w h->(K w.params).In h)
 (F:∀(w:World)(mg:Str->Option Value)(fa:Addr)(h:Heap),(K w.params).In h->h.Ns mainGlobals mg->mg d.name=some (.ref fa)->
  ∃fd:FuncData,(∀(s:Shared)(u:Value),BindsTo s fd ⟨[u],[]⟩ [(x,u)]) /\
   ∀base:Heap,(K w.params).In base->base.Ns mainGlobals mg->lB l.prog w (K w.params) mg base (CX w) k fa fd [x] (sp w))
 (hsp:∀(w:World)(H:Hp)(a:Addr)(ns:List Int),ns.length<=n->XG H->SqL (K w.params) H a (ns.map V.int)->sp w [.ref a] H (fun v _=>v=.bl true) fun _ _ _=>False)
 (hCX:∀(w:World)(H:Hp)(s:Shared)(e:Value)(s':Shared),CX w [] H s (fun _ _ _=>False) e s'->False):
 PySem.W.WalkO q loose XP YP l.row.toRowW d [] (fun f vs=>PySem.call f vs):=by
 refine Att.attach_call hn hdf fun w s₀ s₁ mg mb fa o pm cd doc a vs ns G Y ho hd hcd hmg hobj hints hlen hg=>?_;have KX:=hY w _ Y;obtain⟨fd,hb,hF⟩:=F w mg fa _ KX G.T.g hmg;exact QK KX G.T.g G.T.b G.T.builtins G.T.nolimit (let⟨mm,hmm,_⟩:=(G.T.seer hq).mods;⟨mm,hmm⟩) hg hobj hints (C4 hlen hn2) hr hF hb (fun H hO hS=>hsp w H a ns hlen hO hS) fun H e s'=>hCX w H s₁ e s'
end L2
namespace L2
variable{H H':Hp}{W:Wd}{M:Sto}{K:Fg}{γ:Ga}
open PySem PySem.Spec PyProof.Rows
noncomputable def inClass(s:Stmt)(j:Nat):Stmt:=match s with
 |.ClassDef _ _ _ body _ _ _ _ _ _ _=>body.getD j (.Pass ⟨0,0,0,0⟩)
 |_=>.Pass ⟨0,0,0,0⟩
noncomputable def dJ(s:Stmt):Arguments:=match s with
 |.FunctionDef _ a _ _ _ _ _ _ _ _=>a
 |_=>{ posonlyargs:=[],args:=[],vararg:=none,kwonlyargs:=[],kw_defaults:=[],kwarg:=none,defaults:=[] }
noncomputable def bO(s:Stmt):List Stmt:=match s with
 |.FunctionDef _ _ b _ _ _ _ _ _ _=>b
 |_=>[]
noncomputable def aG(s:Stmt):Scope:=match s with
 |.FunctionDef _ _ _ _ _ _ sc _ _ _=>sc
 |_=>{ kind:=.function,names:=[],isGenerator:=false,isCoroutine:=false }
noncomputable abbrev CX0:CXT:=fun _ _ _ _ _ _=>False
noncomputable abbrev E0:XK:=fun _ _ _=>False
theorem WT{X:Cx}:yP CX0 X E0:=fun _ _ _ _ _ _ _ h=>h.elim
structure Fun(K:Fg)(x qual:Str)(st:Stmt)(f:Addr)(fd:FuncData):Prop where
 ex:∃(oc:Value)(od:Option Addr)(kV doc pm:Value)(an:Option Addr)(cdv ct:Value)(osl:Array (Option Value)),
  fd=PySem.W.fnOf x qual (dJ st) (bO st) (aG st) .none kV doc pm an cdv ct/\K.lookup f=some ⟨oc,od,.func fd,osl⟩/\PySem.W.codeIn K cdv qual=true
 kp:PySem.W.keepIn K (.ref f)=true
section
variable{P:Program}{w:World}{K:Fg}{mg:Str->Option Value}{base:Heap}
theorem Fun.ok{x qual:Str}{st:Stmt}{f:Addr}{fd:FuncData}{N ps:List Str}{k:Nat}{sp:Sp}{q:Bool}(F:Fun K x qual st f fd)(S:aT N ps (aG st))(len:∀vs H Q E,sp vs H Q E->vs.length=ps.length)
 (hbody:∀(cdv:Value)(A:Around)(outer:List Env)(s:Shared)(H:Hp)(vs:List V)(Q:VK)(E:XK),cM k (A.deeper (envOfC qual (aG st) s.heap.objs.size f cdv)) q->sp vs H Q E->
  ∃t,PSs (pP CX0 P w K mg base N qual (aG st) f cdv A outer s H E q).nox (bO st) t/\t { nx:=fun _ H'=>Q .non H',rt:=Q } (start N vs) H):lB P w K mg base CX0 (k+1) f fd ps sp q:=by
 obtain⟨oc,od,kV,doc,pm,an,cdv,ct,osl,rfl,lk,hcd⟩:=F.ex;refine aBA lk hcd S len fun A outer s H vs Q E hr hsp=>?_;obtain⟨t,h,z⟩:=hbody cdv A outer s H vs Q E hr hsp;exact⟨t,h.nox,z⟩
theorem Fun.binds{x qual:Str}{st:Stmt}{f:Addr}{fd:FuncData}{ps:List Str}(F:Fun K x qual st f fd)
 (h:∀(kV doc pm:Value)(an:Option Addr)(cdv ct:Value)(us:List Value),us.length=ps.length->bindArgs (PySem.W.fnOf x qual (dJ st) (bO st) (aG st) .none kV doc pm an cdv ct) ⟨us,[]⟩=pure (ps.zip us)):Binds K fd ps []:=by
 obtain⟨oc,od,kV,doc,pm,an,cdv,ct,osl,rfl,lk,hcd⟩:=F.ex;exact .all (h kV doc pm an cdv ct)
theorem LC{x qual:Str}{st:Stmt}{f:Addr}{oc:Value}{od an:Option Addr}{osl:Array (Option Value)}{kV doc pm cdv ct:Value}(l:K.lookup f=some ⟨oc,od,.func (PySem.W.fnOf x qual (dJ st) (bO st) (aG st) .none kV doc pm an cdv ct),osl⟩)
 (c:PySem.W.codeIn K cdv qual=true) (k:PySem.W.keepIn K (.ref f)=true):Fun K x qual st f (PySem.W.fnOf x qual (dJ st) (bO st) (aG st) .none kV doc pm an cdv ct):=⟨⟨oc,od,kV,doc,pm,an,cdv,ct,osl,rfl,l,c⟩,k⟩
end
noncomputable def gR(H H':Hp):Prop:=∀b o,H b=some o->H' b=some o
theorem gR.refl(H:Hp):gR H H:=fun _ _ h=>h
theorem gR.trans{H1 H2:Hp}(a:gR H H1)(b:gR H1 H2):gR H H2:=fun c o h=>b c o (a c o h)
theorem gR.free(e:gR H H'){l:Addr}(h:H' l=Option.none):H l=Option.none:=by
 cases q:H l with
 |none=>rfl
 |some o=>
  rw[e l o q]at h;cases h
theorem gR.seq{a:Addr}{xs:List V}(e:gR H H')(h:SqL K H a xs):SqL K H' a xs:=by
 rcases h with(h|⟨o,h⟩)|h
 .exact .inl (.inl (e _ _ h))
 .exact .inl (.inr ⟨o,e _ _ h⟩)
 .exact .inr h
noncomputable def dH(env:Env):List (Str×NameKind)->List (Str×Addr)->List (Str×Addr)
 |[],cs=>cs
 |y::r,cs=>dH env r (if (y.2==NameKind.free)=true then(y.1,(env.cells.lookup y.1).getD 0)::cs else cs)
theorem oS{env:Env}:∀(l:List (Str×NameKind))(cs:List (Str×Addr)),(∀y∈l,y.2=.free->∃c,env.cells.lookup y.1=some c)->
 (forIn l cs fun(x:Str×NameKind)(r:List (Str×Addr))=>if (x.2==NameKind.free)=true then(do
  let a <- cellOf env x.1
  pure (ForInStep.yield ((x.1,a)::r)))else pure (ForInStep.yield r))=(pure (dH env l cs):Sem (List (Str×Addr)))
 |[]=>fun cs _=>rfl
 |y::l=>fun cs h=>by
  rw[List.forIn_cons];by_cases hk:(y.2==NameKind.free)=true
  .obtain⟨c,hc⟩:=h y B3 (by simpa using hk);have e1:cellOf env y.1=pure c:=by unfold cellOf;rw[hc]
   rw[A4 hk,e1];show(forIn l ((y.1,c)::cs) _:Sem _)=_;rw[oS l _ fun z hz=>h z (B1 _ hz)]
   conv=>rhs;unfold dH
   rw[A4 hk,hc];rfl
  .rw[A5 hk];show(forIn l cs _:Sem _)=_;rw[oS l _ fun z hz=>h z (B1 _ hz)]
   conv=>rhs;unfold dH
   rw[A5 hk]
theorem uU{scope:Scope}{env:Env}(h:∀y∈scope.names,y.2=.free->∃c,env.cells.lookup y.1=some c):closureFor scope env=pure (dH env scope.names []):=by
 have e:=oS (env:=env) scope.names [] h;unfold closureFor
 show((forIn scope.names ([]:List (Str×Addr)) fun(x:Str×NameKind)(r:List (Str×Addr))=>if (x.2==NameKind.free)=true then(do
  let a <- cellOf env x.1
  pure (ForInStep.yield ((x.1,a)::r)))else pure (ForInStep.yield r)) >>= fun z=>pure z:Sem (List (Str×Addr)))=_
 rw[e];rfl
theorem xY{env:Env}:∀(l:List (Str×NameKind))(cs:List (Str×Addr)),(∀y∈l,y.2=.free->∃c,env.cells.lookup y.1=some c)->(∀x c,cs.lookup x=some c->env.cells.lookup x=some c)->
 ∀x c,(dH env l cs).lookup x=some c->env.cells.lookup x=some c
 |[]=>fun cs _ h x c e=>h x c e
 |y::l=>fun cs hf h x c e=>by
  unfold dH at e;refine xY l _ (fun z hz=>hf z (B1 _ hz)) ?_ x c e;intro z d ez;by_cases hk:(y.2==NameKind.free)=true
  .rw[A4 hk]at ez;obtain⟨c',hc'⟩:=hf y B3 (by simpa using hk);rw[hc']at ez;rw[C9]at ez;by_cases hz:(z==y.1)=true
   .rw[hz]at ez;have hz':z=y.1:=by simpa using hz
    rw[hz',hc'];exact ez
   .have hz':(z==y.1)=false:=by simpa using hz
    rw[hz']at ez;exact h z d ez
  .rw[A5 hk]at ez;exact h z d ez
theorem qT{env:Env}:∀(l:List (Str×NameKind))(cs:List (Str×Addr))(x:Str),((x,NameKind.free)∈l\/∃c,cs.lookup x=some c)->∃c,(dH env l cs).lookup x=some c
 |[]=>fun cs x h=>by
  rcases h with h|h
  .exact absurd h (by simp)
  .exact h
 |y::l=>fun cs x h=>by
  unfold dH;refine qT l _ x ?_;rcases h with h|⟨c,hc⟩
  .rcases List.mem_cons.mp h with e|e
   .subst e;refine .inr ?_;rw[A4 (by rfl)];exact⟨(env.cells.lookup x).getD 0,by rw[C9];simp⟩
   .exact .inl e
  .refine .inr ?_;by_cases hk:(y.2==NameKind.free)=true
   .rw[A4 hk,C9];by_cases hz:(x==y.1)=true
    .rw[hz];exact⟨_,rfl⟩
    .have hz':(x==y.1)=false:=by simpa using hz
     rw[hz'];exact⟨c,hc⟩
   .rw[A5 hk];exact⟨c,hc⟩
theorem oJ{env:Env}:∀{names:List (Str×NameKind)}{x:Str}{k:NameKind},
 (names.map fun(y:Str×NameKind)=>if (y.2==NameKind.free&&env.scope.kind==.function&&env.kindOf y.1==some .cell)=true then(y.1,NameKind.cell)else(y.1,y.2)).lookup x=some k->
 (names.lookup x=some k)\/(names.lookup x=some .free/\k=.cell)
 |[],x,k=>fun h=>by simp at h
 |y::r,x,k=>fun h=>by
  rw[C0]at h;by_cases hx:(x==y.1)=true
  .by_cases hc:(y.2==NameKind.free&&env.scope.kind==.function&&env.kindOf y.1==some .cell)=true
   .rw[A4 hc,C9,hx]at h;rw[C9,hx];have:y.2=.free:=by simp at hc;exact hc.1.1
    refine .inr ⟨by rw[this],?_⟩;cases h;rfl
   .rw[A5 hc,C9,hx]at h;rw[C9,hx];exact .inl h
  .have hx':(x==y.1)=false:=by simpa using hx
   have h':(r.map fun(y:Str×NameKind)=>if (y.2==NameKind.free&&env.scope.kind==.function&&env.kindOf y.1==some .cell)=true then(y.1,NameKind.cell)else(y.1,y.2)).lookup x=some k:=by
    by_cases hc:(y.2==NameKind.free&&env.scope.kind==.function&&env.kindOf y.1==some .cell)=true
    .rw[A4 hc,C9,hx']at h;exact h
    .rw[A5 hc,C9,hx']at h;exact h
   rw[C9,hx'];exact oJ h'
theorem vO{env:Env}:∀{names:List (Str×NameKind)}{x:Str},names.lookup x=some .free->
 (names.map fun(y:Str×NameKind)=>if (y.2==NameKind.free&&env.scope.kind==.function&&env.kindOf y.1==some .cell)=true then(y.1,NameKind.cell)else(y.1,y.2)).lookup x=some .cell \/
 (names.map fun(y:Str×NameKind)=>if (y.2==NameKind.free&&env.scope.kind==.function&&env.kindOf y.1==some .cell)=true then(y.1,NameKind.cell)else(y.1,y.2)).lookup x=some .free
 |[],x=>fun h=>by simp at h
 |y::r,x=>fun h=>by
  rw[C0];by_cases hx:(x==y.1)=true
  .rw[C9,hx]at h;have hy:y.2=.free:=D0 h;by_cases hc:(y.2==NameKind.free&&env.scope.kind==.function&&env.kindOf y.1==some .cell)=true
   .rw[A4 hc,C9,hx];exact .inl rfl
   .rw[A5 hc,C9,hx];exact .inr (by rw[hy])
  .have hx':(x==y.1)=false:=by simpa using hx
   rw[C9,hx']at h;have ih:=vO (env:=env) h;by_cases hc:(y.2==NameKind.free&&env.scope.kind==.function&&env.kindOf y.1==some .cell)=true
   .rw[A4 hc,C9,hx'];exact ih
   .rw[A5 hc,C9,hx'];exact ih
noncomputable def ER(X:Cx)(ifs:List Expr)(t:TT):Prop:=
 ∀(pins:List (Addr×Obj))(s:Shared)(σ:St)(H:Hp)(Q:Bool->Hp->Prop),Inv X pins σ H s->t σ H Q->
  wpAny (model X.prog X.w) X.A (forIn ifs true fun c r=>if r=true then(do
   let ok <- isTrue c X.env (eval c X.env)
   pure (ForInStep.yield ok))else pure (ForInStep.yield r)) (TP X pins σ Q) X.xe s
noncomputable def aBy:TT:=fun _ H Q=>Q true H
theorem LI{X:Cx}:ER X [] aBy:=fun _ _ _ H _ I h=>wpAny_tests_nil ⟨H,I,h⟩
theorem OR{X:Cx}{c:Expr}{t:TT}(h:PT X c t):ER X [c] t:=fun pins s σ H Q I hq=>wpAny_tests_one (h pins s σ H Q I hq)
section
variable{prog:Program}{w:World}{A:Around}{R:Result->Shared->Prop}{s:Shared}
theorem VG{elt target iter:Expr}{ifs:List Expr}{scope:Scope}{pos:Pos}{it acc:Value}{env:Env}(I:Nat->Shared->Prop)
 (turn:∀n s,I n s->wpAny (model prog w) A (pyNext it) (fun r s1=>(r=none/\R (.ok .next) s1)\/∃v,r=some v /\
  wpAny (model prog w) A (letOwnedTupleGo target it v) (fun _ s2=>wpAny (model prog w) A (assign target env v) (fun _ s3=>
   wpAny (model prog w) A (forIn ifs true fun c r=>if r=true then(do
    let ok <- isTrue c env (eval c env)
    pure (ForInStep.yield ok))else pure (ForInStep.yield r)) (fun ok s4=>
     (ok=true/\wpAny (model prog w) A (eval elt env) (fun x s5=>wpAny (model prog w) A (call (.builtin "list.append") [acc,x]) (fun _ s6=>∃m,m<n/\I m s6) (fun _ _=>False) s5) (fun _ _=>False) s4) \/
     (ok=false/\∃m,m<n/\I m s4)) (fun _ _=>False) s3) (fun _ _=>False) s2) (fun _ _=>False) s1) (fun _ _=>False) s)
 (n:Nat) (h:I n s):codeAny (model prog w) A (.compLoop (.ListComp elt [⟨target,iter,ifs,0⟩] scope pos) 0 it acc env) R s:=by
 refine codeAny_loop rfl I (fun n s hI=>?_) n h
 show wpAny _ A ((compTurn (.ListComp elt [⟨target,iter,ifs,0⟩] scope pos) 0 it acc env).onRaise fun x=>do
  noteFrame x env
  theTreesLotGoes x) _ _ s
 refine wpAny_noted ?_;rw[compTurn_list];refine A0 (S5 (A0 (D6 (turn n s hI) (fun r s1 h1=>?_) fun _ _ f=>f.elim)));rcases h1 with⟨rfl,h1⟩|⟨v,rfl,h1⟩
 .exact A6 h1
 .refine A0 (D6 h1 (fun _ s2 h2=>?_) fun _ _ f=>f.elim);refine A0 (D6 h2 (fun _ s3 h3=>?_) fun _ _ f=>f.elim);refine A0 (D6 h3 (fun ok s4 h4=>?_) fun _ _ f=>f.elim);rcases h4 with⟨rfl,h4⟩|⟨rfl,h4⟩
  .refine A0 (A0 (D6 h4 (fun x s5 h5=>?_) fun _ _ f=>f.elim));exact A0 (D6 h5 (fun _ s6 h6=>A6 (A6 ⟨rfl,h6⟩)) fun _ _ f=>f.elim)
  .exact A6 ⟨rfl,h4⟩
end
noncomputable def eP(X:Cx)(N':List Str)(scope:Scope)(C:Addr)(s2:Shared)(H2:Hp)(fp:List Addr)(pn:List (Addr×Obj)):Cx:=
 { X with N:=N',s₀:=s2,H₀:=H2,env:=compEnvC scope (dH X.env scope.names []) C X.env,outer:=X.stack,stack:=X.stack,ex:=fp,fn:=fun _=>false,pn:=X.pn++pn,xe:=fun _ _=>False }
noncomputable def sP(cap:List (Option Nat))(σ:St):St:=cap.map fun o=>o.bind fun j=>(σ[j]?).join
structure nT(X:Cx)(N':List Str)(cap:List (Option Nat))(scope:Scope):Prop where
 nocell:∀y∈scope.names,y.2≠.cell
 kind:scope.kind=.function
 names:∀y∈scope.names,y.2=.local->scope.names.lookup y.1=some .local
 frees:∀y∈scope.names,y.2=.free->X.env.kindOf y.1=some .cell\/X.env.kindOf y.1=some .free
 len:cap.length=N'.length
 cap:∀(i j:Nat),cap[i]?=some (some j)->∃x,N'[i]?=some x/\X.N[j]?=some x/\scope.names.lookup x=some .free
section
variable{X:Cx}{N':List Str}{cap:List (Option Nat)}{scope:Scope}{pins:List (Addr×Obj)}{σ:St}{H:Hp}{s:Shared}
theorem nT.cells(S:nT X N' cap scope)(ok:X.Ok):∀y∈scope.names,y.2=.free->∃c,X.env.cells.lookup y.1=some c:=fun y hy hk=>ok.has y.1 (S.frees y hy hk)
theorem nT.sub(S:nT X N' cap scope)(ok:X.Ok):∀x c,(dH X.env scope.names []).lookup x=some c->X.env.cells.lookup x=some c:=
 xY scope.names [] (S.cells ok) fun x c e=>by simp at e
theorem nT.kinds(S:nT X N' cap scope){C:Addr}{cl:List (Str×Addr)}{x:Str}(h:(compEnvC scope cl C X.env).kindOf x=some .cell\/(compEnvC scope cl C X.env).kindOf x=some .free):scope.names.lookup x=some .free:=by
 rcases h with h|h
 .rcases oJ (names:=scope.names) h with q|⟨q,_⟩
  .exact absurd rfl (S.nocell _ (E1 q))
  .exact q
 .rcases oJ (names:=scope.names) h with q|⟨q,_⟩
  .exact q
  .exact q
theorem Inv.stkAll(I:Inv X pins σ H s){b:Addr}(h1:b≠X.env.locals)(h2:b∉X.fs):b∉frs X.stack:=fun hb=>(List.mem_cons.mp (I.stkSub b hb)).elim h1 h2
theorem DI(S:nT X N' cap scope)(I:Inv X pins σ H s){fp:List Addr}{h4:Heap}{C:Addr}{tk:Nat}(hf:∀b∈fp,nQ X pins H b)(hlt:∀b∈fp,b<s.heap.objs.size)
 (hC:s.heap.objs.size<=C) (hn:h4.Ns C fun _=>none) (hk:∀b o,s.heap.get? b=some o->h4.get? b=some o):
 Inv (eP X N' scope C s H fp pins) [] (sP cap σ) H { s with heap:=h4,toks:=tk }:=by
 have cellLt:∀x c,X.env.cells.lookup x=some c->c<s.heap.objs.size:=fun x c e=>by
  obtain⟨v,q⟩:=I.cell x c e;exact q.lt
 have fresh:H C=none:=I.hok.fresh hC
 have ok:(eP X N' scope C s H fp pins).Ok:=by
  refine⟨I.ok.mod,S.kind,I.ok.glob,I.ok.blt,hC,fun x y c h1 h2=>?_,fun x hx=>?_,fun x c hx _=>?_,I.ok.hd,I.ok.frames,.inl rfl,fun b hb=>⟨?_,fun x c e=>?_⟩,I.bs,C4 I.ok.bsz I.sz,fun b o e hb=>?_,fun b hb=>?_,I.stack,I.stkFree⟩
  .exact I.ok.inj x y c (S.sub I.ok x c h1) (S.sub I.ok y c h2)
  .exact qT scope.names [] x (.inl (E1 (S.kinds hx)))
  .exact absurd hx (by show ¬(false=true);decide)
  .exact B4 (B5 (hlt b hb) hC)
  .exact(hf b hb).2.2.2.2.1 x c (S.sub I.ok x c e)
  .rcases (hf b hb).2.2.2.1 with z|z
   .exact I.ok.noex b o e z
   .exact absurd (B5 (A8 (I.ok.bs b o e).1) z) (F7 _)
  .exact I.stkAll (hf b hb).2.1 (hf b hb).2.2.1
 refine⟨ok,rfl,I.bare,Un.kept hk,⟨_,hn,fun i x v h1 h2 h3=>?_⟩,fun x c e=>?_,fresh,fun x c e=>I.freeC x c (S.sub I.ok x c e),fun p hp=>?_,I.hok.kept hk,?_⟩
 .-- a name that is caught
  have h2':(cap[i]?).map (fun o=>o.bind fun j=>(σ[j]?).join)=some (some v):=by
   have:(sP cap σ)[i]?=some (some v):=h2;unfold sP at this;rw[D2]at this;exact this
  cases e:cap[i]? with
  |none=>rw[e]at h2';simp at h2'
  |some o=>
   cases o with
   |none=>rw[e]at h2';simp at h2'
   |some j=>
    rw[e]at h2';obtain⟨x',a1,a2,a3⟩:=S.cap i j e
    have ex:x'=x:=by
     have:N'[i]?=some x:=h1;rw[a1]at this;exact D0 this
    subst ex
    have sv:σ[j]?=some (some v):=by
     have q:(σ[j]?).join=some v:=D0 h2';cases f:σ[j]? with
     |none=>rw[f]at q;simp at q
     |some o=>rw[f]at q;cases o with
      |none=>simp at q
      |some v'=>simp at q;rw[q]
    have hv:X.env.kindOf x'=some .cell\/X.env.kindOf x'=some .free:=S.frees _ (E1 a3) rfl;obtain⟨m,hm,hl⟩:=I.loc;obtain⟨u,r,l⟩:=hl j x' v a2 sv (hv.elim (fun z=>.inr (.inl z)) fun z=>.inr (.inr z));refine⟨u,r,.inr ⟨?_,?_⟩⟩
    .exact vO (env:=X.env) (names:=scope.names) a3
    .rcases l with⟨hk',_⟩|⟨_,c,hc,o,ho,hd⟩
     .rcases hv with z|z<;>rw[z]at hk'<;>cases hk'
     .obtain⟨c',hc'⟩:=qT (env:=X.env) scope.names [] x' (.inl (E1 a3));have:=S.sub I.ok x' c' hc';rw[hc]at this;cases this;exact⟨c,hc',o,hk c o ho,hd⟩
 .obtain⟨v,o,ho,hd⟩:=I.cell x c (S.sub I.ok x c e);exact⟨v,o,hk c o ho,hd⟩
 .have hp':p∈X.pn++pins:=by
   rcases List.mem_append.mp hp with z|z
   .exact z
   .exact absurd z (by simp)
  obtain⟨e,n,ne,nf,d⟩:=I.pin p hp';exact⟨hk _ _ e,n,B4 (B5 (A8 e) hC),I.stkAll ne nf,d⟩
 .show(sP cap σ).length=N'.length;unfold sP;rw[A1];exact S.len
end
noncomputable def tLc(cap:List (Option Nat))(wi:TI)(g:TG)(tc:TT)(te:TE):TE:=fun σ H Q=>wi σ H fun J H1=>∃W:Nat->Nat->List V->St->Hp->Prop,(∃m,W 0 m [] (sP cap σ) H1)/\∀i m acc σ' H',W i m acc σ' H'->
 (J.stop i H'/\∀p,H' p=none->Q (.ref p) (upd H' p (.lst acc))) \/
 (J.go i H'/\acc.length<sizeLine/\∃N:List V->St->Hp->Prop,(∀acc' σ2 H2,N acc' σ2 H2->∃m',m'<m/\W (i+1) m' acc' σ2 H2)/\∀x H2,J.yld i H' x H2->g x σ' H2 fun σ2 H3=>tc σ2 H3 fun b H4=>(b=true/\te σ2 H4 fun v H5=>N (acc++[v]) σ2 H5)\/(b=false/\N acc σ2 H4))
section
variable{X:Cx}{N':List Str}{cap:List (Option Nat)}{scope:Scope}
theorem YU{elt tg iter:Expr}{ifs:List Expr}{pos:Pos}{wi:TI}{g:TG}{tc:TT}{te:TE}(hc:X.calm=true)(S:nT X N' cap scope)(hi:PI X tg iter wi)
 (hg:∀C s H fp pn,PG (eP X N' scope C s H fp pn) tg g) (hif:∀C s H fp pn,ER (eP X N' scope C s H fp pn) ifs tc) (he:∀C s H fp pn,PE (eP X N' scope C s H fp pn) elt te)
 (hs:∀x,foldedSetIterable iter X.env x=pure x) {pins:List (Addr×Obj)} {s:Shared} {σ:St} {H:Hp} {Q:VK} (I:Inv X pins σ H s) (h:tLc cap wi g tc te σ H Q)
 {use:Option (Value->Sem Unit)} {QQ:Value->Shared->Prop}
 (post:∀(D C:Addr)(H':Hp)(acc:List V)(s':Shared),D≠C->(∃m,s'.heap.Ns C m)->(∀h',Heap.SameBut C s'.heap h'->Inv X pins σ (upd H' D (.lst acc)) { s' with heap:=h' })->nQ X pins (upd H' D (.lst acc)) C->Q (.ref D) (upd H' D (.lst acc))->compPost (model X.prog X.w) X.A X.xe use QQ (.ref D) C (.ok .next) s'):
 wpAny (model X.prog X.w) X.A (comprehension (.ListComp elt [⟨tg,iter,ifs,0⟩] scope pos) scope X.env (firstIterPos [⟨tg,iter,ifs,0⟩] pos) (newList []) false (firstIter [⟨tg,iter,ifs,0⟩] X.env) use) QQ X.xe s:=by
 refine wpAny_comprehension_free (e:=.ListComp elt [⟨tg,iter,ifs,0⟩] scope pos) (g:=⟨tg,iter,ifs,0⟩) (gs:=[]) rfl hs (uU (S.cells I.ok)) S.kind S.names ?_;refine thn (hi pins s σ H _ I h) fun v s1 h1=>thn h1 fun itv s2 h2=>?_;obtain⟨it,fp,tn,J,H2,e,I2,T,st2,f2,W,⟨m0,w0⟩,turn⟩:=h2;subst e
 have fplt:∀b∈fp,b<s2.heap.objs.size:=fun b hb=>by
  obtain⟨o,e,_⟩:=T.obj _ _ st2 b hb;exact A8 e
 refine C7 (wpAny_newFunctionEnv S.nocell (fun y hy=>by simp at hy) (fun h1' hns hsb=>?_) S.kind);dsimp only at hns hsb ⊢;generalize hP:s2.heap.push { cls:=.type "list",dict:=none,data:=.seq ([]:List Value).toArray }=P2 at hns hsb ⊢;have hsz:P2.objs.size=s2.heap.objs.size+1:=by rw[<- hP,L6]
 have hDC:s2.heap.objs.size≠P2.objs.size:=by rw[hsz];exact B4 (E6 _)
 have hC:s2.heap.objs.size<=P2.objs.size:=by rw[hsz];exact Nat.le_succ _
 have keepP:∀b o,P2.get? b=some o->b≠P2.objs.size->h1'.get? b=some o:=fun b o e hb=>hsb.extBut b o hb (A3 _ e);have old:∀b o,s2.heap.get? b=some o->h1'.get? b=some o:=fun b o e=>keepP b o (by rw[<- hP];exact A3 _ e) (B4 (B5 (A8 e) hC));have hD0:h1'.get? s2.heap.objs.size=some { cls:=.type "list",data:=.seq #[] 0 }:=keepP _ _ (by rw[<- hP];exact B2 _ rfl) hDC
 have I4:Inv (eP X N' scope P2.objs.size s2 H2 fp pins) [] (sP cap σ) H2 { s2 with heap:=h1',toks:=s2.toks+([]:List (Str×Value)).length }:=
  DI S I2 f2 fplt hC (by simpa using hns) old
 have loop:∀s4:Shared,s4={ s2 with heap:=h1',toks:=s2.toks+([]:List (Str×Value)).length }->
  codeAny (model X.prog X.w) X.A (.compLoop (.ListComp elt [⟨tg,iter,ifs,0⟩] scope pos) 0 (.ref it) (.ref s2.heap.objs.size) (compEnvC scope (dH X.env scope.names []) P2.objs.size X.env)) (compPost (model X.prog X.w) X.A X.xe use QQ (.ref s2.heap.objs.size) P2.objs.size) s4:=by
  rintro s4 rfl
  have hfrD:s2.heap.objs.size∉frs X.stack:=fun hb=>by
   obtain⟨_,o,ho,_⟩:=I2.stack.mem hb;exact absurd (A8 ho) (F7 _)
  have cne:∀x c,(dH X.env scope.names []).lookup x=some c->c<s2.heap.objs.size:=fun x c e=>by
   obtain⟨v,q⟩:=I2.cell x c (S.sub I2.ok x c e);exact q.lt
  have stat:∀{Hx:Hp}{ob:Obj},(∀b∈fp,Hx b=none)->∀b∈fp,nQ (eP X N' scope P2.objs.size s2 H2 fp pins) [(s2.heap.objs.size,ob)] Hx b:=fun{Hx ob} hn b hb=>by
   refine⟨hn b hb,B4 (B5 (fplt b hb) hC),I2.stkAll (f2 b hb).2.1 (f2 b hb).2.2.1,.inl hb,fun x c e=>(f2 b hb).2.2.2.2.1 x c (S.sub I2.ok x c e),fun p hp=>?_⟩;rcases List.mem_append.mp hp with z|z
   .exact(f2 b hb).2.2.2.2.2 p z
   .rw[List.mem_singleton.mp z];exact E8 (fplt b hb)
  refine VG (fun n s'=>∃(i:Nat)(σ':St)(H':Hp)(acc:List V)(its:List Value)(nn:Nat),Inv (eP X N' scope P2.objs.size s2 H2 fp pins) [] σ' H' s'/\tn i s'.heap/\(∀b∈fp,H' b=none)/\H' s2.heap.objs.size=none /\
   s'.heap.get? s2.heap.objs.size=some { cls:=.type "list",data:=.seq its.toArray nn }/\aZ acc its/\acc.length<=sizeLine/\W i n acc σ' H') ?_ m0
   ⟨0,sP cap σ,H2,[],[],0,I4,T.keep _ _ _ st2 fun b _ o e=>old b o e,fun b hb=>(f2 b hb).1,I2.hok.fresh (A9 _),hD0,.nil,F8 _,w0⟩
  rintro n s5 ⟨i,σ',H',acc,its,nn,I5,t5,fr5,d5,g5,va,la,w5⟩
  have I5p:Inv (eP X N' scope P2.objs.size s2 H2 fp pins) [(s2.heap.objs.size,{ cls:=.type "list",data:=.seq its.toArray nn })] σ' H' s5:=I5.pins_of fun p hp=>by
   rw[List.mem_singleton.mp hp];exact⟨g5,d5,hDC,hfrD,fun v z=>by cases z⟩
  rcases turn i n acc σ' H' w5 with⟨stop,q⟩|⟨go,lt,N,hN,step⟩
  .refine thn (T.done (eP X N' scope P2.objs.size s2 H2 fp pins) rfl rfl rfl hc i _ s5 σ' H' _ I5p (stat fr5) t5 stop) fun r s6 ⟨hr,I6⟩=>.inl ⟨hr,?_⟩;have d6:=(I6.pin (s2.heap.objs.size,{ cls:=.type "list",data:=.seq its.toArray nn }) (by simp)).1;have nC:H' P2.objs.size=none:=I6.free;refine post _ _ H' acc s6 hDC (let⟨m,hn,_⟩:=I6.loc;⟨m,hn⟩) (fun h' hs'=>?_) (I2.fpOk hC (by rw[aM hDC.symm];exact nC)) (q _ d5);have up:∀b o,b≠P2.objs.size->s6.heap.get? b=some o->h'.get? b=some o:=fun b o hb e=>hs'.extBut b o hb e;have ltC:∀b o,s2.heap.get? b=some o->b≠P2.objs.size/\b≠s2.heap.objs.size:=fun b o e=>⟨B4 (B5 (A8 e) hC),B4 (A8 e)⟩;have u6:Un (frs X.stack) fp H2 H' s2.heap s6.heap:=I6.base
   have u7:Un (frs X.stack) fp H2 (upd H' s2.heap.objs.size (.lst acc)) s2.heap h':=by
    refine⟨fun b o e n hb hx=>up b o (ltC b o e).1 (u6.keep b o e n hb hx),fun b o e n hb hx=>?_,fun b o e n hx=>?_,fun b o e hx=>?_,fun b xs e=>?_,fun b o u e=>?_,fun b ps e=>?_⟩
    .obtain⟨sl,q⟩:=u6.slot b o e n hb hx;exact⟨sl,up b _ (ltC b o e).1 q⟩
    .rw[aM (ltC b o e).2];exact u6.free b o e n hx
    .obtain⟨o',q⟩:=u6.there b o e hx;exact⟨o',up b o' (ltC b o e).1 q⟩
    .have z:=u6.tups b xs e;rw[aM (aO z d5)];exact z
    .have z:=u6.frzs b o u e;rw[aM (aO z d5)];exact z
    .obtain⟨more,z⟩:=u6.tbls b ps e;exact⟨more,by rw[aM (aO z d5)];exact z⟩
   have ok7:HOk X.prog X.w (upd H' s2.heap.objs.size (.lst acc)) h':=fun b u e=>by
    by_cases hb:b=s2.heap.objs.size
    .subst hb;rw[aU]at e;cases e;exact⟨la,its,nn,va,up _ _ hDC d6⟩
    .rw[aM hb]at e;refine(I6.hok b u e).stay (fun c v hc' z=>up c v ?_ z) (fun c z=>by rw[aM (aO z d5)];exact z) fun c xs z=>by rw[aM (aO z d5)];exact z
     rcases hc' with rfl|z
     .exact aO e nC
     .exact aO z nC
   have os6:s6.os=s2.os:=I6.os;have ba6:=I6.bare;obtain⟨hh,gg,dd,tt,oo⟩:=s6;subst os6;have z7:=I2.call (s:=s2) (h':=h') (g':=gg) (d':=dd) (t':=tt) (ch:=fp) u7 ok7 ba6 fun b hb=>⟨(f2 b hb).2.2.2.1,(f2 b hb).2.1,(f2 b hb).2.2.2.2.1,(f2 b hb).2.2.2.2.2⟩;exact z7
  .refine thn (T.item (eP X N' scope P2.objs.size s2 H2 fp pins) rfl rfl rfl hc i _ s5 σ' H' _ I5p (stat fr5) t5 go) fun r s6 ⟨u,hr,h6⟩=>.inr ⟨u,hr,?_⟩;refine thn h6 fun _ s7 ⟨x,H7,I7,r7,y7,t7,fr7⟩=>?_;have I7':=I7.pinned (stat fr7) (T.obj _ _ t7)
   have back:∀{σx:St}{Hx:Hp}{sx:Shared},Inv (eP X N' scope P2.objs.size s2 H2 fp pins) ([(s2.heap.objs.size,{ cls:=.type "list",data:=.seq its.toArray nn })]++qR fp s7.heap) σx Hx sx->
    (∀b∈fp,∀o,s7.heap.get? b=some o->sx.heap.get? b=some o)/\(∀b∈fp,Hx b=none)/\sx.heap.get? s2.heap.objs.size=some { cls:=.type "list",data:=.seq its.toArray nn }/\Hx s2.heap.objs.size=none:=fun{σx Hx sx} Ix=>by
    refine⟨fun b hb o e=>(Ix.pin (b,o) (C2 _ (C2 _ (fP hb e)))).1,fun b hb=>?_,?_,?_⟩
    .obtain⟨o,e,_⟩:=T.obj _ _ t7 b hb;exact(Ix.pin (b,o) (C2 _ (C2 _ (fP hb e)))).2.1
    .exact(Ix.pin (s2.heap.objs.size,_) (C2 _ (L0 _ (List.mem_singleton.mpr rfl)))).1
    .exact(Ix.pin (s2.heap.objs.size,{ cls:=.type "list",data:=.seq its.toArray nn }) (C2 _ (L0 _ (List.mem_singleton.mpr rfl)))).2.1
   refine thn (hg _ _ _ _ _ _ s7 σ' H7 x u _ I7' r7 (step x H7 y7)) fun _ s8 ⟨σ8,H8,I8,q8⟩=>?_;refine thn (hif _ _ _ _ _ _ s8 σ8 H8 _ I8 q8) fun b s9 ⟨H9,I9,q9⟩=>?_;rcases q9 with⟨rfl,q9⟩|⟨rfl,n9⟩
   .refine .inl ⟨rfl,thn (he _ _ _ _ _ _ s9 σ8 H9 _ I9 q9) fun uv s10 ⟨v,H10,I10,rv,n10⟩=>?_⟩;obtain⟨m',hm,w10⟩:=hN _ _ _ n10;obtain⟨b1,b2,b3,b4⟩:=back I10;refine wpAny_list_append_plain ⟨nn,b3⟩ (fun h' hp hs'=>?_) (by rw[B7,<- va.length];exact la);obtain⟨n2,e2⟩:=hp;have up:∀b o,b≠s2.heap.objs.size->s10.heap.get? b=some o->h'.get? b=some o:=fun b o hb e=>hs'.extBut b o hb e;have I10':Inv (eP X N' scope P2.objs.size s2 H2 fp pins) [] σ8 H10 s10:=I10.pins_of fun p hp=>absurd hp (by simp);refine⟨m',hm,i+1,σ8,H10,acc++[v],its++[uv],n2,I10'.turned (t':=s10.toks) up b4 hDC (.inr (A9 _)) (fun x c e=>B4 (cne x c e)) (fun p hp=>?_),T.keep _ _ _ t7 fun b hb o e=>up b o (B4 (fplt b hb)) (b1 b hb o e),b2,b4,?_,va.append (.cons rv .nil),?_,w10⟩
    .have hp':p∈X.pn++pins:=by
      rcases List.mem_append.mp hp with z|z
      .exact z
      .exact absurd z (by simp)
     exact B4 (A8 (I2.pin p hp').1)
    .rw[e2];simp
    .rw[B8,E2];exact lt
   .obtain⟨m',hm,w9⟩:=hN _ _ _ n9;obtain⟨b1,b2,b3,b4⟩:=back I9;exact .inr ⟨rfl,m',hm,i+1,σ8,H9,acc,its,nn,I9.pins_of fun p hp=>absurd hp (by simp),T.keep _ _ _ t7 b1,b2,b4,b3,va,la,w9⟩
 exact codeAny_compStart_list (loop _ rfl) (T.self _ 0 _ _ _ (T.keep _ _ _ st2 fun b _ o e=>old b o e) (loop _ rfl))
theorem aCn{elt tg iter:Expr}{ifs:List Expr}{pos:Pos}{wi:TI}{g:TG}{tc:TT}{te:TE}(hc:X.calm=true)(S:nT X N' cap scope)(hi:PI X tg iter wi)
 (hg:∀C s H fp pn,PG (eP X N' scope C s H fp pn) tg g) (hif:∀C s H fp pn,ER (eP X N' scope C s H fp pn) ifs tc) (he:∀C s H fp pn,PE (eP X N' scope C s H fp pn) elt te)
 (hs:∀x,foldedSetIterable iter X.env x=pure x:=by intro _;rfl):PE X (.ListComp elt [⟨tg,iter,ifs,0⟩] scope pos) (tLc cap wi g tc te):=by
 intro pins s σ H Q I h;rw[eval_ListComp];refine YU (use:=none) (Q:=Q) hc S hi hg hif he hs I h fun D C H' acc s' hDC ⟨m,hn⟩ hI _ hq=>⟨m,hn,fun h' hs'=>?_⟩;exact⟨.ref D,_,hI h' hs',rfl,hq⟩
end
noncomputable def sO:Key->PyData
 |.inl i=>.int i
 |.inr x=>.str x
mutual
noncomputable def Rep(K:Fg)(H:Hp):PyData->V->Prop
 |.none,v=>v=.non
 |.bool b,v=>v=.bl b
 |.int i,v=>v=.int i
 |.str x,v=>v=.str x
 |.list xs,v=>∃a vs,v=.ref a/\SqL K H a vs/\aJ K H xs vs
 |.tuple xs,v=>∃a vs,v=.ref a/\SqT K H a vs/\aJ K H xs vs
 |.dict kvs,v=>∃a ks,v=.ref a/\H a=some (.dK ks)/\lO K H kvs ks
noncomputable def aJ(K:Fg)(H:Hp):List PyData->List V->Prop
 |[],vs=>vs=[]
 |d::ds,vs=>∃v r,vs=v::r/\Rep K H d v/\aJ K H ds r
noncomputable def lO(K:Fg)(H:Hp):List (PyData×PyData)->List (Key×V)->Prop
 |[],ks=>ks=[]
 |(k,d)::kvs,ks=>∃k' v r,ks=(k',v)::r/\k=sO k'/\Rep K H d v/\lO K H kvs r
end
theorem gR.seqT{a:Addr}{xs:List V}(e:gR H H')(h:SqT K H a xs):SqT K H' a xs:=by
 rcases h with h|h
 .refine .inl ?_;rcases h with h|⟨o,h⟩
  .exact .inl (e _ _ h)
  .exact .inr ⟨o,e _ _ h⟩
 .exact .inr h
mutual
theorem Rep.same{K:Fg}{H H':Hp}(e:gR H H'):∀(d:PyData)(v:V),Rep K H d v->Rep K H' d v
 |.none=>fun v h=>h
 |.bool b=>fun v h=>h
 |.int i=>fun v h=>h
 |.str x=>fun v h=>h
 |.list xs=>fun v h=>by
  obtain⟨a,vs,h1,h2,h3⟩:=h;exact⟨a,vs,h1,e.seq h2,aJ.same e xs vs h3⟩
 |.tuple xs=>fun v h=>by
  obtain⟨a,vs,h1,h2,h3⟩:=h;exact⟨a,vs,h1,e.seqT h2,aJ.same e xs vs h3⟩
 |.dict kvs=>fun v h=>by
  obtain⟨a,ks,h1,h2,h3⟩:=h;exact⟨a,ks,h1,e _ _ h2,lO.same e kvs ks h3⟩
theorem aJ.same{K:Fg}{H H':Hp}(e:gR H H'):∀(ds:List PyData)(vs:List V),aJ K H ds vs->aJ K H' ds vs
 |[]=>fun vs h=>h
 |d::ds=>fun vs h=>by
  obtain⟨v,r,h1,h2,h3⟩:=h;exact⟨v,r,h1,Rep.same e d v h2,aJ.same e ds r h3⟩
theorem lO.same{K:Fg}{H H':Hp}(e:gR H H'):∀(kvs:List (PyData×PyData))(ks:List (Key×V)),lO K H kvs ks->lO K H' kvs ks
 |[]=>fun ks h=>h
 |(k,d)::kvs=>fun ks h=>by
  obtain⟨k',v,r,h1,h2,h3,h4⟩:=h;exact⟨k',v,r,h1,h2,Rep.same e d v h3,lO.same e kvs r h4⟩
end
theorem aJ.length{K:Fg}{H:Hp}:∀{ds:List PyData}{vs:List V},aJ K H ds vs->ds.length=vs.length
 |[],vs=>fun h=>by rw[show vs=[]from h];rfl
 |d::ds,vs=>fun h=>by
  obtain⟨v,r,h1,_,h3⟩:=h;rw[h1,C5,C5,aJ.length h3]
theorem aJ.get{K:Fg}{H:Hp}:∀{ds:List PyData}{vs:List V}{i:Nat}{v:V},aJ K H ds vs->vs[i]?=some v->∃d,ds[i]?=some d/\Rep K H d v
 |[],vs,i,v=>fun h e=>by rw[show vs=[]from h]at e;simp at e
 |d::ds,vs,0,v=>fun h e=>by
  obtain⟨w,r,h1,h2,h3⟩:=h;rw[h1]at e;simp at e;subst e;exact⟨d,rfl,h2⟩
 |d::ds,vs,i+1,v=>fun h e=>by
  obtain⟨w,r,h1,h2,h3⟩:=h;rw[h1]at e;exact aJ.get (i:=i) h3 (by simpa using e)
theorem aJ.app{K:Fg}{H:Hp}:∀{ds es:List PyData}{vs ws:List V},aJ K H ds vs->aJ K H es ws->aJ K H (ds++es) (vs++ws)
 |[],es,vs,ws=>fun h k=>by rw[show vs=[]from h];exact k
 |d::ds,es,vs,ws=>fun h k=>by
  obtain⟨v,r,h1,h2,h3⟩:=h;exact⟨v,r++ws,by rw[h1];rfl,h2,aJ.app h3 k⟩
section
variable{X:Cx}{pins:List (Addr×Obj)}{σ:St}{H:Hp}{s:Shared}
theorem Inv.sysN(I:Inv X pins σ H s):H sysModules=none:=by
 obtain⟨o,es,ep,h,_⟩:=I.mod.sysm;exact(I.bs _ _ h).2
theorem Inv.sysL(I:Inv X pins σ H s){a:Addr}{xs:List V}(h:SqL X.K H a xs):sysModules≠a:=by
 intro e;subst e;have hn:=I.sysN;rcases h with(h|⟨o,h⟩)|⟨o,its,n,hk,_,_,hd,_⟩
 .rw[hn]at h;cases h
 .rw[hn]at h;cases h
 .obtain⟨o',es,ep,h',hd'⟩:=I.mod.sysm;have:=I.mod.kin _ _ hk;rw[h']at this;cases this;rw[hd]at hd';cases hd'
mutual
theorem Rep.reads'(I:Inv X pins σ H s):∀(d:PyData)(v:V)(u:Value),Rep X.K H d v->RelV v u->∃as,Reads s.heap u d as/\sysModules∉as
 |.none=>fun v u r q=>by
  rw[show v=.non from r]at q;rw[show u=Value.none from q];exact⟨_,.none,by simp⟩
 |.bool b=>fun v u r q=>by
  rw[show v=.bl b from r]at q;rw[show u=Value.bool b from q];exact⟨_,.bool b,by simp⟩
 |.int i=>fun v u r q=>by
  rw[show v=.int i from r]at q;obtain⟨t,rfl⟩:=(show ∃t,u=Value.int i t from q);exact⟨_,.int i t,by simp⟩
 |.str x=>fun v u r q=>by
  rw[show v=.str x from r]at q;obtain⟨t,rfl⟩:=(show ∃t,u=Value.str x t from q);exact⟨_,.str x t,by simp⟩
 |.list xs=>fun v u r q=>by
  obtain⟨a,vs,rfl,h2,h3⟩:=r;rw[show u=Value.ref a from q];obtain⟨its,hv,⟨o,n,hg,hc,_,hd⟩,_⟩:=I.list h2;obtain⟨as,ha,hs⟩:=aJ.reads' I xs vs its h3 hv;exact⟨_,.list hg hc hd (by simpa using ha),fun z=>(List.mem_cons.mp z).elim (I.sysL h2) hs⟩
 |.tuple xs=>fun v u r q=>by
  obtain⟨a,vs,rfl,h2,h3⟩:=r;rw[show u=Value.ref a from q];obtain⟨its,hv,⟨o,hg,hc,n,hd⟩,_⟩:=I.tuple h2;obtain⟨as,ha,hs⟩:=aJ.reads' I xs vs its h3 hv;exact⟨_,.tuple hg hc hd (by simpa using ha),hs⟩
 |.dict kvs=>fun v u r q=>by
  obtain⟨a,ks,rfl,h2,h3⟩:=r;rw[show u=Value.ref a from q];obtain⟨_,hS,vs,hkv,o,es,ep,hg,hex,hd,_,hp,_⟩:=(show cE X.prog X.w H s.heap a (.dK ks)from I.hok a _ h2);obtain⟨as,bs,h4,h5,n1,n2⟩:=lO.reads' I kvs ks vs es.toList h3 hkv hp;refine⟨_,.dict hg hex.1 hd h4 h5,fun z=>?_⟩;rcases List.mem_append.mp z with z|z
  .rcases List.mem_cons.mp z with z|z
   .rw[z]at hS;simp at hS
   .exact n1 z
  .exact n2 z
theorem aJ.reads'(I:Inv X pins σ H s):∀(ds:List PyData)(vs:List V)(us:List Value),aJ X.K H ds vs->aZ vs us->∃as,ReadsAll s.heap us ds as/\sysModules∉as
 |[]=>fun vs us r q=>by
  rw[show vs=[]from r]at q;cases q;exact⟨_,.nil,by simp⟩
 |d::ds=>fun vs us r q=>by
  obtain⟨v,t,rfl,h2,h3⟩:=r;cases q with
  |cons q1 q2=>
   obtain⟨as,ha,n1⟩:=Rep.reads' I d v _ h2 q1;obtain⟨bs,hb,n2⟩:=aJ.reads' I ds t _ h3 q2;exact⟨_,.cons ha hb,fun z=>(List.mem_append.mp z).elim n1 n2⟩
theorem lO.reads'(I:Inv X pins σ H s):∀(kvs:List (PyData×PyData))(ks:List (Key×V))(vs:List (Key×Value))(es:List DictEntry),lO X.K H kvs ks->KV ks vs->Pairs (cV X.prog X.w) es vs->
 ∃as bs,ReadsAll s.heap (es.map (·.key)) (kvs.map (·.1)) as/\ReadsAll s.heap (es.map (·.val)) (kvs.map (·.2)) bs/\sysModules∉as/\sysModules∉bs
 |[]=>fun ks vs es r q p=>by
  rw[show ks=[]from r]at q;cases q;cases p;exact⟨_,_,.nil,.nil,by simp,by simp⟩
 |(k,d)::kvs=>fun ks vs es r q p=>by
  obtain⟨k',v,t,rfl,h1,h2,h3⟩:=r;cases q with
  |@cons _ kv _ vs' q1 q2=>
   cases p with
   |@cons e _ es' _ p1 p2 p3=>
    obtain⟨as,bs,ha,hb,n1,n2⟩:=lO.reads' I kvs t _ _ h3 q2 p3;obtain⟨cs,hc,n3⟩:=Rep.reads' I d v _ h2 q1.2
    have hkey:Reads s.heap e.key k []:=by
     rw[h1];have p1':uE kv.1 e.key=true:=p1;rw[<- show k'=kv.1 from q1.1]at p1';rcases cC p1' with⟨i,t',rfl,he⟩|⟨x,t',rfl,he⟩
     .rw[he];exact .int i t'
     .rw[he];exact .str x t'
    refine⟨_,_,.cons hkey ha,.cons (show Reads s.heap e.val d cs by rw[p2];exact hc) hb,by simpa using n1,fun z=>(List.mem_append.mp z).elim n3 n2⟩
end
theorem Rep.reads(I:Inv X pins σ H s)(d:PyData)(v:V)(u:Value)(r:Rep X.K H d v)(q:RelV v u):∃as,Reads s.heap u d as:=let⟨as,h,_⟩:=Rep.reads' I d v u r q;⟨as,h⟩
theorem aJ.reads(I:Inv X pins σ H s)(ds:List PyData)(vs:List V)(us:List Value)(r:aJ X.K H ds vs)(q:aZ vs us):∃as,ReadsAll s.heap us ds as:=let⟨as,h,_⟩:=aJ.reads' I ds vs us r q;⟨as,h⟩
end
section
variable{X:Cx}
noncomputable def FF(K:Fg)(neg:Bool):R2:=fun x y H Q=>∃dx dy,Rep K H dx x/\Rep K H dy y/\SeqAt.shaped dx=true/\SeqAt.shaped dy=true/\Q (.bl (if neg then !PyData.eqv dx dy else PyData.eqv dx dy)) H
theorem NN(hu:X.A.units+64<cLine):OpR X (compareOp .Eq) (FF X.K false):=by
 intro pins s σ H x y v u Q I rx ry h;obtain⟨dx,dy,hx,hy,sx,sy,q⟩:=h;obtain⟨as,ha⟩:=Rep.reads I dx x v hx rx;obtain⟨bs,hb⟩:=Rep.reads I dy y u hy ry;exact eq_dataH ha hb sx sy hu ⟨.bl _,H,I,rfl,q⟩
theorem YJ(hu:X.A.units+64<cLine):OpR X (compareOp .NotEq) (FF X.K true):=by
 intro pins s σ H x y v u Q I rx ry h;obtain⟨dx,dy,hx,hy,sx,sy,q⟩:=h;obtain⟨as,ha⟩:=Rep.reads I dx x v hx rx;obtain⟨bs,hb⟩:=Rep.reads I dy y u hy ry;exact ne_dataH ha hb sx sy hu ⟨.bl _,H,I,rfl,q⟩
theorem aZ.types:∀{Ts:List String}{its:List Value},aZ (Ts.map V.ty) its->its=Ts.map Value.type
 |[],_=>fun h=>by cases h;rfl
 |t::Ts,its=>fun h=>by
  cases h with
  |cons r1 r2=>rw[show _=Value.type t from r1,aZ.types r2];rfl
noncomputable def sF:Nat:=2 ^ 8000
noncomputable def LU(i:Int):Prop:=i.natAbs<sF
theorem AM{j:Int}(h:LU j):j.natAbs.log2<9000:=by
 by_cases h0:j.natAbs=0
 .rw[h0];decide +kernel
 .exact F6 ((Nat.log2_lt h0).mpr h) (by decide)
noncomputable def aCo(i j:Int):Prop:=LU i/\LU j
theorem yC{j:Int}(h:LU j):Builtin.Int.intBits j<=2 ^ 20:=by
 unfold Builtin.Int.intBits;by_cases h0:(j==0)=true
 .rw[A4 h0];exact F8 _
 .rw[A5 h0];have:=AM h;omega
end
structure Callee(P:Program)(w:World)(K:Fg)(mg:Str->Option Value)(base:Heap)(k:Nat)(x:Str)(ps:List Str)(sp:Sp)(q:Bool:=true):Prop where
 ex:∃f fd,lB P w K mg base CX0 k f fd ps sp q/\mg x=some (.ref f)/\PySem.W.keepIn K (.ref f)=true/\Binds K fd ps []
structure Def(K:Fg)(mg:Str->Option Value)(x:Str)(st:Stmt):Prop where
 ex:∃f fd,Fun K x x st f fd/\mg x=some (.ref f)
section
variable{P:Program}{w:World}{K:Fg}{mg:Str->Option Value}{base:Heap}{X:Cx}
theorem Def.ok{x:Str}{st:Stmt}{N ps:List Str}{k:Nat}{sp:Sp}{q:Bool}(D:Def K mg x st)(S:aT N ps (aG st))
 (hb:∀(kV doc pm:Value)(an:Option Addr)(cdv ct:Value)(us:List Value),us.length=ps.length->bindArgs (PySem.W.fnOf x x (dJ st) (bO st) (aG st) .none kV doc pm an cdv ct) ⟨us,[]⟩=pure (ps.zip us))
 (len:∀vs H Q E,sp vs H Q E->vs.length=ps.length)
 (hbody:∀(f:Addr)(cdv:Value)(A:Around)(outer:List Env)(s:Shared)(H:Hp)(vs:List V)(Q:VK)(E:XK),cM k (A.deeper (envOfC x (aG st) s.heap.objs.size f cdv)) q->sp vs H Q E->
  ∃t,PSs (pP CX0 P w K mg base N x (aG st) f cdv A outer s H E q).nox (bO st) t/\t { nx:=fun _ H'=>Q .non H',rt:=Q } (start N vs) H):Callee P w K mg base (k+1) x ps sp q:=by
 obtain⟨f,fd,F,m⟩:=D.ex;exact⟨f,fd,F.ok S len fun cdv A outer s H vs Q E hr h=>hbody f cdv A outer s H vs Q E hr h,m,F.kp,F.binds hb⟩
theorem Callee.mono{j k:Nat}{x:Str}{ps:List Str}{sp:Sp}(C:Callee P w K mg base j x ps sp)(h:j<=k):Callee P w K mg base k x ps sp:=by
 obtain⟨f,fd,F,r⟩:=C.ex;exact⟨f,fd,F.mono h,r⟩
theorem def_mk{x:Str}{st:Stmt}{h:Heap}{f:Addr}{oc:Value}{od an:Option Addr}{osl:Array (Option Value)}{kV doc pm cdv ct:Value}(X:K.In h)(G:h.Ns mainGlobals mg)(a:PySem.W.nsIn K mainGlobals x=some (some (.ref f)))
 (l:K.lookup f=some ⟨oc,od,.func (PySem.W.fnOf x x (dJ st) (bO st) (aG st) .none kV doc pm an cdv ct),osl⟩) (c:PySem.W.codeIn K cdv x=true) (k:PySem.W.keepIn K (.ref f)=true):Def K mg x st:=
 ⟨f,_,LC l c k,PySem.W.mg_of X G a⟩
theorem aAz{k:Nat}{x:Str}{ps:List Str}{sp:Sp}{p pos:Pos}{e:Expr}{es:List Expr}{t:TA}{q:Bool}(C:Callee X.prog X.w X.K X.mg X.base k x ps sp q)(hr:cM k X.A q)(ha:PA X (e::es) t)(hg:Gl X x:=by rfl)
 (hdb:(x==("__debug__":Str))=false:=by decide) (he:starEach (e::es) X.env=(false,eval e X.env)::starEach es X.env:=by rfl) (hpl:(backTo pos (starEach es X.env)).any (·.1)=false:=by rfl):
 PE X (.Call (.Name x p) (e::es) [] pos) (LA sp [] E0 t):=by
 obtain⟨f,fd,F,m,kp,b⟩:=C.ex;exact SQ F hr hg m kp b .nil WT ha hdb he hpl
noncomputable def IB(mg:Str->Option Value)(xs:List Str):Prop:=∀x∈xs,mg x=none
theorem IB.of{xs:List Str}(h:IB mg xs)(x:Str)(hx:x∈xs:=by decide +kernel):mg x=none:=h x hx
theorem MR:IB mg []:=fun _ h=>absurd h (by simp)
theorem cG{x:Str}{xs:List Str}(h:mg x=none)(hr:IB mg xs):IB mg (x::xs):=fun y hy=>(List.mem_cons.mp hy).elim (fun e=>e▸h) (hr y)
noncomputable def BY(i j:Int):Prop:=YY i j\/aCo i j
theorem BY.ok{i j:Int}(h:BY i j):IntMulOk i j:=by
 rcases h with h|h
 .exact h.ok
 .exact IntMulOk.of_bits (yC h.1) (yC h.2)
theorem US:OpR X (binaryOp .Mult) (rI BY fun i j=>.int (i*j)):=opI fun _ _ _ _ _ _ _ hc q=>mul_int q hc.ok
noncomputable def WM(_ j:Int):Prop:=0<j/\LU j
theorem OL:OpR X (binaryOp .FloorDiv) (rI WM fun i j=>.int (i / j)):=opI fun i j _ _ _ _ _ hc q=>by
 refine floordiv_int (Int.ne_of_gt hc.1) ?_ (.inl (PyProof.noPylong_of_log2 (AM hc.2)));rw[Int.fdiv_eq_ediv_of_nonneg _ (Int.le_of_lt hc.1)];exact q
end
noncomputable def PU(sc0:Scope)(N N':List Str)(cap:List (Option Nat))(scope:Scope):Bool:=
 scope.names.all (fun y=>y.2 != .cell)&&(scope.kind==.function)&&scope.names.all (fun y=>y.2 != .local || scope.names.lookup y.1==some .local) &&
 scope.names.all (fun y=>y.2 != .free || (sc0.names.lookup y.1==some .cell || sc0.names.lookup y.1==some .free))&&(cap.length==N'.length) &&
 (List.range cap.length).all fun i=>match cap[i]? with
  |some (some j)=>(match N'[i]?,N[j]? with
   |some x,some y=>x==y&&scope.names.lookup x==some .free
   |_,_=>false)
  |_=>true
theorem cS{X:Cx}{sc0 scope:Scope}{N N':List Str}{cap:List (Option Nat)}(h1:X.env.scope=sc0)(h2:X.N=N)(h:PU sc0 N N' cap scope=true):nT X N' cap scope:=by
 unfold PU at h;simp only[Bool.and_eq_true,List.all_eq_true,beq_iff_eq,bne_iff_ne,ne_eq,Bool.or_eq_true,List.mem_range]at h;obtain⟨⟨⟨⟨⟨a,b⟩,c⟩,d⟩,e⟩,f⟩:=h;refine⟨a,b,fun y hy hk=>?_,fun y hy hk=>?_,e,fun i j hij=>?_⟩
 .rcases c y hy with z|z
  .exact absurd hk z
  .exact z
 .show X.env.scope.names.lookup y.1=_\/X.env.scope.names.lookup y.1=_;rw[h1];rcases d y hy with z|z
  .exact absurd hk z
  .exact z
 .have hi:i<cap.length:=(List.getElem?_eq_some_iff.mp hij).1;have g:=f i hi;rw[hij]at g;dsimp only at g;rw[h2];split at g
  .rename_i x y ex ey;rw[B0,beq_iff_eq,beq_iff_eq]at g;exact⟨x,ex,by rw[ey,g.1],g.2⟩
  .cases g
noncomputable def tyName:PyData->String
 |.none=>"NoneType"
 |.bool _=>"bool"
 |.int _=>"int"
 |.str _=>"str"
 |.list _=>"list"
 |.tuple _=>"tuple"
 |.dict _=>"dict"
noncomputable def asked:List String:=["int","bool","str","list","tuple","dict"]
noncomputable def isT(T S:String):Bool:=T==S || (T=="int"&&S=="bool")
noncomputable def uZ(T:String)(d:PyData):Bool:=isT T (tyName d)
noncomputable def aCl(S T:String):Option Bool:=if (Value.type S==Value.type T)=true then some true else if PySem.W.kitMeta T=true then(PySem.fastBuiltinMro S).map (·.contains (Value.type T))else none
theorem OA:(["NoneType","bool","int","str","list","tuple","dict"].all fun S=>asked.all fun T=>aCl S T==some (isT T S))=true:=by decide +kernel
theorem LO{T:String}{d:PyData}(h:T∈asked):PySem.W.kitOne K (.type (tyName d)) (.type T)=some (uZ T d):=by
 have e:PySem.W.kitOne K (.type (tyName d)) (.type T)=aCl (tyName d) T:=rfl;rw[e];have hk:=OA;rw[List.all_eq_true]at hk;have h1:=hk (tyName d) (by cases d<;>simp[tyName]);rw[List.all_eq_true]at h1;exact eq_of_beq (h1 T h)
theorem GJ{K:Fg}{d:PyData}:∀{Ts:List String},(∀T∈Ts,T∈asked)->PySem.W.kitAny K (.type (tyName d)) (Ts.map Value.type)=some (Ts.any fun T=>uZ T d)
 |[]=>fun _=>rfl
 |T::Ts=>fun h=>by
  rw[C0];unfold PySem.W.kitAny;rw[LO (h T B3),L7];cases uZ T d with
  |true=>rfl
  |false=>rw[Bool.false_or];exact GJ fun U hU=>h U (B1 _ hU)
section
variable{X:Cx}
theorem HM{pins:List (Addr×Obj)}{σ:St}{H:Hp}{s:Shared}(I:Inv X pins σ H s):∀{d:PyData}{v:V}{u:Value},Rep X.K H d v->RelV v u->∃Hc:Heap->Prop,PySem.W.KitX X.K u (.type (tyName d)) Hc/\Hc s.heap/\u≠.builtin "__main__.__loader__#opaque"
 |.none,v,u=>fun h r=>by
  rw[show v=.non from h]at r;cases (show u=Value.none from r);exact⟨_,PySem.W.kitx_none,True.intro,fun z=>nomatch z⟩
 |.bool b,v,u=>fun h r=>by
  rw[show v=.bl b from h]at r;cases (show u=Value.bool b from r);exact⟨_,PySem.W.kitx_bool,True.intro,fun z=>nomatch z⟩
 |.int i,v,u=>fun h r=>by
  rw[show v=.int i from h]at r;obtain⟨t,q⟩:=(show ∃t,u=Value.int i t from r);cases q;exact⟨_,PySem.W.kitx_int,True.intro,fun z=>nomatch z⟩
 |.str x,v,u=>fun h r=>by
  rw[show v=.str x from h]at r;obtain⟨t,q⟩:=(show ∃t,u=Value.str x t from r);cases q;exact⟨_,PySem.W.kitx_str,True.intro,fun z=>nomatch z⟩
 |.list xs,v,u=>fun h r=>by
  obtain⟨a,vs,rfl,h2,_⟩:=h;cases (show u=Value.ref a from r);obtain⟨its,hv,⟨o,n,hg,hc,_,hd⟩,_⟩:=I.list h2;exact⟨_,PySem.W.kitx_list,⟨o,hg,hc⟩,fun z=>nomatch z⟩
 |.tuple xs,v,u=>fun h r=>by
  obtain⟨a,vs,rfl,h2,_⟩:=h;cases (show u=Value.ref a from r);obtain⟨its,hv,⟨o,hg,hc,n,hd⟩,_⟩:=I.tuple h2;exact⟨_,PySem.W.kitx_tuple,⟨o,hg,hc⟩,fun z=>nomatch z⟩
 |.dict kvs,v,u=>fun h r=>by
  obtain⟨a,ks,rfl,h2,_⟩:=h;cases (show u=Value.ref a from r);obtain⟨_,_,vs,_,o,es,ep,h1,hx,_⟩:=(show cE X.prog X.w H s.heap a (.dK ks)from I.hok a _ h2);exact⟨_,PySem.W.kitx_dict,⟨o,h1,hx.1⟩,fun z=>nomatch z⟩
noncomputable def ZT(K:Fg):List V->Hp->VK->Prop:=fun xs H Q=>∃x T d,xs=[x,.ty T]/\T∈asked/\Rep K H d x/\Q (.bl (uZ T d)) H
theorem HZ:fM X (.builtin "isinstance") (ZT X.K):=by
 intro pins s σ H xs us Q I r h;obtain⟨x,T,d,rfl,hT,hd,q⟩:=h;obtain⟨u,u',rfl,ru,ru'⟩:=vals2 r;cases (show u'=Value.type T from ru');obtain⟨Hc,Z,hh,hne⟩:=HM I hd ru;exact PySem.W.kia_one Z I.kIn hh (LO hT) hne fun tk=>⟨.bl _,H,I.tok tk,rfl,q⟩
noncomputable def NI(K:Fg):List V->Hp->VK->Prop:=fun xs H Q=>∃(x:V)(p:Addr)(Ts:List String)(d:PyData),xs=[x,.ref p]/\H p=some (.tup (Ts.map V.ty))/\(∀T∈Ts,T∈asked)/\Rep K H d x/\Q (.bl (Ts.any fun T=>uZ T d)) H
theorem FO:fM X (.builtin "isinstance") (NI X.K):=by
 intro pins s σ H xs us Q I r h;obtain⟨x,p,Ts,d,rfl,hp,hT,hd,q⟩:=h;obtain⟨u,u',rfl,ru,ru'⟩:=vals2 r;cases (show u'=Value.ref p from ru');obtain⟨_,its,rv,o,hg,hcl,n,hd'⟩:=(show cE X.prog X.w H s.heap p (.tup (Ts.map V.ty))from I.hok p _ hp);have hits:its=Ts.map Value.type:=aZ.types rv;subst hits;obtain⟨oc,od,odt,osl⟩:=o;dsimp only at hcl hd';subst hcl hd';obtain⟨Hc,Z,hh,hne⟩:=HM I hd ru;exact PySem.W.kia_tup Z I.kIn hh hg (GJ hT) hne fun tk=>⟨.bl _,H,I.tok tk,rfl,q⟩
end
theorem gR.upd{p:Addr}{o:HO}(h:H p=none):gR H (upd H p o):=fun b u e=>by rw[aM (aO e h)];exact e
noncomputable def bG:PyData->Option (List PyData)
 |.list xs=>some xs
 |.tuple xs=>some xs
 |_=>none
theorem nG{K:Fg}{H:Hp}:∀{d:PyData}{v:V}{ds:List PyData},Rep K H d v->bG d=some ds->∃a vs,v=.ref a/\(SqL K H a vs\/SqT K H a vs)/\aJ K H ds vs
 |.list xs,v,ds=>fun h e=>by
  obtain⟨a,vs,h1,h2,h3⟩:=h;cases e;exact⟨a,vs,h1,.inl h2,h3⟩
 |.tuple xs,v,ds=>fun h e=>by
  obtain⟨a,vs,h1,h2,h3⟩:=h;cases e;exact⟨a,vs,h1,.inr h2,h3⟩
 |.none,_,_=>fun _ e=>by cases e
 |.bool _,_,_=>fun _ e=>by cases e
 |.int _,_,_=>fun _ e=>by cases e
 |.str _,_,_=>fun _ e=>by cases e
 |.dict _,_,_=>fun _ e=>by cases e
section
variable{X:Cx}{tg:Expr}
noncomputable def ZP(K:Fg)(tl:TE):TI:=fun σ H R=>tl σ H fun x H1=>∃a,x=.ref a/\((∃xs,SqL K H1 a xs/\R (Itl K a) H1)\/(∃xs,SqT K H1 a xs/\R (Itt K a) H1))
theorem YL{l:Expr}{tl:TE}(hl:PE X l tl):PI X tg l (ZP X.K tl):=by
 intro pins s σ H R I h;refine thn (hl pins s σ H _ I h) fun v s1 hz=>?_;obtain⟨x,H1,I1,r1,a,e,q1⟩:=hz;subst e;cases r1
 have fp:∀b∈[s1.heap.objs.size],nQ X pins H1 b:=fun b hb=>by
  have e:b=s1.heap.objs.size:=List.mem_singleton.mp hb;subst e;exact I1.fpOk (A9 _) (I1.hok.fresh (A9 _))
 rcases q1 with⟨xs,hq,q⟩|⟨xs,hq,q⟩
 .obtain⟨its,rv,p,hz⟩:=I1.list hq;refine wpAny_pyIter_list p.isList ?_;exact⟨s1.heap.objs.size,[s1.heap.objs.size],_,_,H1,rfl,I1.kept (t':=s1.toks) fun b o e=>A3 _ e,JE a _,⟨_,B2 _ rfl,rfl,rfl⟩,fp,q⟩
 .obtain⟨its,rv,p,hz⟩:=I1.tuple hq;refine S8 (show s1.heap.IsTuple a its.toArray from p) ?_;exact⟨s1.heap.objs.size,[s1.heap.objs.size],_,_,H1,rfl,I1.kept (t':=s1.toks) fun b o e=>A3 _ e,DY a _,⟨_,B2 _ rfl,rfl,rfl⟩,fp,q⟩
end
inductive CD where
 |d (x:PyData)
 |c (n:Nat)
 |t (xs:List (PyData ⊕ Nat))
 |f (kvs:List (List Key×PyData))
 |g (nm:Str)
inductive Cell where
 |lst (xs:List CD)
 |dk (kvs:List (Key×CD))
 |dt (kvs:List (List Key×CD))
 |obj (nm:Str) (fs:List (Str×CD))
 |exc (fr:Bool) (nm:Str) (fs:List (Str×CD))
 |dead
structure Wd where
 F:Hp
 α:Nat->Addr
 n:Nat
structure Wd.Ext(W W':Wd):Prop where
 ff:gR W.F W'.F
 ln:W.n<=W'.n
 al:∀i,i<W.n->W'.α i=W.α i
theorem Wd.Ext.refl(W:Wd):W.Ext W:=⟨gR.refl _,A9 _,fun _ _=>rfl⟩
theorem Wd.Ext.trans{W1 W2:Wd}(a:W.Ext W1)(b:W1.Ext W2):W.Ext W2:=⟨a.ff.trans b.ff,C4 a.ln b.ln,fun i h=>(b.al i (B5 h a.ln)).trans (a.al i h)⟩
noncomputable def KB(K:Fg)(W:Wd):PyData ⊕ Nat->V->Prop
 |.inl x,v=>Rep K W.F x v
 |.inr i,v=>i<W.n/\v=.ref (W.α i)
noncomputable def cdA:PyData ⊕ Nat->CD
 |.inl x=>.d x
 |.inr i=>.c i
noncomputable def eR(K:Fg)(nm:Str):Addr:=match PySem.W.nsIn K mainGlobals nm with
 |some (some (.ref C))=>C
 |_=>0
noncomputable def bU(K:Fg)(W:Wd):CD->V->Prop
 |.d x,v=>Rep K W.F x v
 |.c i,v=>i<W.n/\v=.ref (W.α i)
 |.t xs,v=>∃a vs,v=.ref a/\W.F a=some (.tup vs)/\Paired (KB K W) xs vs
 |.f kvs,v=>∃a o us,v=.ref a/\W.F a=some (.frz o (.dT us))/\Paired (fun p q=>p.1=q.1/\Rep K W.F p.2 q.2) kvs us
 |.g nm,v=>v=.ref (eR K nm)
noncomputable abbrev bW(K:Fg)(W:Wd):List CD->List V->Prop:=Paired (bU K W)
noncomputable def CI(K:Fg)(W:Wd):Option CD->Option V->Prop
 |none,none=>True
 |some x,some v=>bU K W x v
 |_,_=>False
noncomputable abbrev cT(K:Fg)(W:Wd):List (Option CD)->St->Prop:=Paired (CI K W)
noncomputable def aDf(a:Addr)(c:Value)(dx:Option Addr)(fr:Bool)(h:Heap):Prop:=∃o vs,h.get? a=some o/\o.cls=c/\o.dict=dx/\o.data=.fields vs/\(fr=true->1<vs.size/\vs[1]?=some .none)
noncomputable def OB(K:Fg)(W:Wd)(dx:Option Addr)(fs:List (Str×CD)):Prop:=match dx with
 |none=>fs=[]
 |some d=>fs≠[]/\∃us,W.F d=some (.xd us)/\Paired (fun p q=>p.1=q.1/\bU K W p.2 q.2) fs us
noncomputable def JQ(K:Fg)(W:Wd)(a:Addr):Cell->HO->Prop
 |.lst xs,.lst vs=>bW K W xs vs
 |.dk kvs,.dK us=>Paired (fun p q=>p.1=q.1/\bU K W p.2 q.2) kvs us
 |.dt kvs,.dT us=>Paired (fun p q=>p.1=q.1/\bU K W p.2 q.2) kvs us
 |.obj nm fs,.ins C _ us=>C=eR K nm/\Paired (fun p q=>p.1=q.1/\bU K W p.2 q.2) fs us
 |.exc fr nm fs,.ext φ=>∃dx,φ=aDf a (.ref (eR K nm)) dx fr/\OB K W dx fs
 |_,_=>False
structure Good(K:Fg)(W:Wd)(M:List Cell)(H:Hp):Prop where
 fh:gR W.F H
 n:W.n=M.length
 cs:∀i c,M[i]?=some c->c≠.dead->W.F (W.α i)=none/\∃o,H (W.α i)=some o/\JQ K W (W.α i) c o
 inj:∀i j c c',M[i]?=some c->M[j]?=some c'->c≠.dead->c'≠.dead->W.α i=W.α j->i=j
section
variable{K:Fg}{W W':Wd}{M M':List Cell}{H H':Hp}
theorem KB.up{x:PyData ⊕ Nat}{v:V}(h:KB K W x v)(e:W.Ext W'):KB K W' x v:=by
 cases x with
 |inl x=>exact Rep.same e.ff _ _ h
 |inr i=>exact⟨B5 h.1 e.ln,by rw[e.al i h.1];exact h.2⟩
theorem bU.up{x:CD}{v:V}(h:bU K W x v)(e:W.Ext W'):bU K W' x v:=by
 cases x with
 |d x=>exact Rep.same e.ff _ _ h
 |c i=>exact⟨B5 h.1 e.ln,by rw[e.al i h.1];exact h.2⟩
 |t xs=>
  obtain⟨a,vs,h1,h2,h3⟩:=h;exact⟨a,vs,h1,e.ff _ _ h2,Paired.mapP h3 fun _ _ r=>KB.up r e⟩
 |f kvs=>
  obtain⟨a,o,us,h1,h2,h3⟩:=h;exact⟨a,o,us,h1,e.ff _ _ h2,Paired.mapP h3 fun _ _ r=>⟨r.1,Rep.same e.ff _ _ r.2⟩⟩
 |g nm=>exact h
theorem bW.up{xs:List CD}{vs:List V}(h:bW K W xs vs)(e:W.Ext W'):bW K W' xs vs:=Paired.mapP h fun _ _ r=>bU.up r e
theorem cT.up{γ:List (Option CD)}{σ:St}(h:cT K W γ σ)(e:W.Ext W'):cT K W' γ σ:=Paired.mapP h fun a b r=>by
 cases a<;>cases b
 .exact True.intro
 .exact False.elim r
 .exact False.elim r
 .exact bU.up r e
theorem OB.up{dx:Option Addr}{fs:List (Str×CD)}(h:OB K W dx fs)(e:W.Ext W'):OB K W' dx fs:=by
 cases dx with
 |none=>exact h
 |some d=>
  obtain⟨h0,us,h1,h2⟩:=h;exact⟨h0,us,e.ff _ _ h1,Paired.mapP h2 fun _ _ r=>⟨r.1,bU.up r.2 e⟩⟩
theorem JQ.up{a:Addr}{c:Cell}{o:HO}(h:JQ K W a c o)(e:W.Ext W'):JQ K W' a c o:=by
 cases c<;>cases o<;>first|exact(let⟨dx,h1,h2⟩:=h;⟨dx,h1,h2.up e⟩)|exact False.elim h|exact bW.up h e|exact Paired.mapP h fun _ _ r=>⟨r.1,bU.up r.2 e⟩|exact⟨h.1,Paired.mapP h.2 fun _ _ r=>⟨r.1,bU.up r.2 e⟩⟩
theorem Good.lay(g:Good K W M H){p:Addr}{o:HO}(hp:H p=none):W.Ext { W with F:=upd W.F p o }/\Good K { W with F:=upd W.F p o } M (upd H p o):=by
 have fp:W.F p=none:=g.fh.free hp;have e:W.Ext { W with F:=upd W.F p o }:=⟨gR.upd fp,A9 _,fun _ _=>rfl⟩;refine⟨e,?_,g.n,fun i c hi hc=>?_,g.inj⟩
 .intro b u hb;have hb:upd W.F p o b=some u:=hb;by_cases q:b=p
  .subst q;rw[aU]at hb;rw[aU];exact hb
  .rw[aM q]at hb;rw[aM q];exact g.fh b u hb
 .obtain⟨h1,o',h2,h3⟩:=g.cs i c hi hc;have ne:W.α i≠p:=aO h2 hp;exact⟨by show upd W.F p o (W.α i)=none;rw[aM ne];exact h1,o',by rw[aM ne];exact h2,h3.up e⟩
noncomputable def Wd.more(W:Wd)(p:Addr):Wd:={ W with α:=fun i=>if i=W.n then p else W.α i,n:=W.n+1 }
theorem Wd.ext_more(W:Wd)(p:Addr):W.Ext (W.more p):=⟨gR.refl _,Nat.le_succ _,fun i h=>A5 (B4 h)⟩
theorem Good.new(g:Good K W M H){p:Addr}{c:Cell}{o:HO}(hp:H p=none)(r:JQ K W p c o):Good K (W.more p) (M++[c]) (upd H p o):=by
 have e:=W.ext_more p
 have at_:∀i c',(M++[c])[i]?=some c'->(i<M.length/\M[i]?=some c')\/(i=M.length/\c'=c):=fun i c' h=>by
  by_cases q:i<M.length
  .rw[List.getElem?_append_left q]at h;exact .inl ⟨q,h⟩
  .rw[D7 (Nat.le_of_not_lt q)]at h
   have h':i-M.length=0:=by
    cases k:i-M.length with
    |zero=>rfl
    |succ m=>rw[k]at h;simp at h
   rw[h']at h;refine .inr ⟨by omega,?_⟩;simpa using h.symm
 have al:∀i,i<M.length->(W.more p).α i=W.α i:=fun i h=>e.al i (by rw[g.n];exact h);have an:(W.more p).α M.length=p:=by show(if M.length=W.n then p else _)=p;rw[A4 g.n.symm]
 have nep:∀i c',M[i]?=some c'->c'≠.dead->W.α i≠p:=fun i c' h hc=>by
  obtain⟨_,o',h2,_⟩:=g.cs i c' h hc;exact aO h2 hp
 refine⟨?_,?_,fun i c' hi hc=>?_,fun i j c1 c2 hi hj d1 d2 he=>?_⟩
 .intro b u hb;have:=g.fh b u hb;rw[aM (aO this hp)];exact this
 .show W.n+1=_;rw[g.n,B8];rfl
 .rcases at_ i c' hi with⟨q,h⟩|⟨rfl,rfl⟩
  .obtain⟨h1,o',h2,h3⟩:=g.cs i c' h hc;rw[al i q];exact⟨h1,o',by rw[aM (nep i c' h hc)];exact h2,h3.up e⟩
  .rw[an];exact⟨g.fh.free hp,o,aU,r.up e⟩
 .rcases at_ i c1 hi with⟨q,h⟩|⟨rfl,rfl⟩
  .rcases at_ j c2 hj with⟨q',h'⟩|⟨rfl,rfl⟩
   .rw[al i q,al j q']at he;exact g.inj i j c1 c2 h h' d1 d2 he
   .rw[al i q,an]at he;exact absurd he (nep i c1 h d1)
  .rcases at_ j c2 hj with⟨q',h'⟩|⟨rfl,rfl⟩
   .rw[an,al j q']at he;exact absurd he.symm (nep j c2 h' d2)
   .rfl
theorem Good.set(g:Good K W M H){i:Nat}{c c':Cell}{o':HO}(hi:M[i]?=some c)(hc:c≠.dead)(r:JQ K W (W.α i) c' o'):Good K W (M.set i c') (upd H (W.α i) o'):=by
 obtain⟨h1,o,h2,h3⟩:=g.cs i c hi hc;have lt:i<M.length:=(List.getElem?_eq_some_iff.mp hi).1
 have at_:∀j d,(M.set i c')[j]?=some d->(j=i/\d=c')\/(j≠i/\M[j]?=some d):=fun j d h=>by
  by_cases q:i=j
  .subst q;rw[D9 lt]at h;exact .inl ⟨rfl,(D0 h).symm⟩
  .rw[J0 q]at h;exact .inr ⟨fun z=>q z.symm,h⟩
 refine⟨?_,by rw[g.n,L9],fun j d hj hd=>?_,fun j k d1 d2 hj hk e1 e2 he=>?_⟩
 .intro b u hb;rw[aM (aO hb h1)];exact g.fh b u hb
 .rcases at_ j d hj with⟨rfl,rfl⟩|⟨q,h⟩
  .exact⟨h1,o',aU,r⟩
  .obtain⟨k1,u,k2,k3⟩:=g.cs j d h hd;have ne:W.α j≠W.α i:=fun z=>q (g.inj j i d c h hi hd hc z);exact⟨k1,u,by rw[aM ne];exact k2,k3⟩
 .rcases at_ j d1 hj with⟨rfl,rfl⟩|⟨q,h⟩<;>rcases at_ k d2 hk with⟨rfl,rfl⟩|⟨q',h'⟩
  .rfl
  .exact g.inj _ k c d2 hi h' hc e2 he
  .exact g.inj j _ d1 c h hi e1 hc he
  .exact g.inj j k d1 d2 h h' e1 e2 he
end
noncomputable abbrev Ga:=List (Option CD)
noncomputable abbrev Sto:=List Cell
noncomputable abbrev EF:=Ga->Sto->Option (CD×Sto)
noncomputable abbrev TF:=Ga->Sto->Option (Bool×Sto)
noncomputable abbrev AF:=Ga->Sto->Option (List CD×Sto)
inductive Out where
 |nx (γ:Ga)|bk (γ:Ga)|ct (γ:Ga)|rt (x:CD)
noncomputable abbrev SF:=Ga->Sto->Option (Out×Sto)
noncomputable abbrev GF:=CD->Ga->Sto->Option (Ga×Sto)
noncomputable abbrev GsF:=List CD->Ga->Sto->Option (Ga×Sto)
noncomputable abbrev F1:=CD->Sto->Option (CD×Sto)
noncomputable abbrev F2:=CD->CD->Sto->Option (CD×Sto)
noncomputable abbrev FN:=List CD->Sto->Option (CD×Sto)
section
variable(K:Fg)
noncomputable def SE(t:TE)(f:EF):Prop:=∀γ M x M',f γ M=some (x,M')->∀(W:Wd)(H:Hp)(σ:St)(Q:VK),Good K W M H->cT K W γ σ->(∀v W' H',W.Ext W'->Good K W' M' H'->bU K W' x v->Q v H')->t σ H Q
noncomputable def STt(t:TT)(f:TF):Prop:=∀γ M b M',f γ M=some (b,M')->∀(W:Wd)(H:Hp)(σ:St)(Q:Bool->Hp->Prop),Good K W M H->cT K W γ σ->(∀W' H',W.Ext W'->Good K W' M' H'->Q b H')->t σ H Q
noncomputable def SA(t:TA)(f:AF):Prop:=∀γ M xs M',f γ M=some (xs,M')->∀(W:Wd)(H:Hp)(σ:St)(Q:List V->Hp->Prop),Good K W M H->cT K W γ σ->(∀vs W' H',W.Ext W'->Good K W' M' H'->bW K W' xs vs->Q vs H')->t σ H Q
noncomputable def WI(D:Ends)(W:Wd)(H:Hp):Out->Prop
 |.nx γ=>∀σ,cT K W γ σ->D.nx σ H
 |.bk γ=>∀σ,cT K W γ σ->D.bk σ H
 |.ct γ=>∀σ,cT K W γ σ->D.ct σ H
 |.rt x=>∀v,bU K W x v->D.rt v H
noncomputable def SS(t:TS)(f:SF):Prop:=∀γ M o M',f γ M=some (o,M')->∀(W:Wd)(H:Hp)(σ:St)(D:Ends),Good K W M H->cT K W γ σ->(∀W' H',W.Ext W'->Good K W' M' H'->WI K D W' H' o)->t D σ H
noncomputable def SG(t:TG)(f:GF):Prop:=∀x γ M γ' M',f x γ M=some (γ',M')->∀(W:Wd)(H:Hp)(σ:St)(v:V)(Q:St->Hp->Prop),Good K W M H->cT K W γ σ->bU K W x v->(∀σ' W' H',W.Ext W'->Good K W' M' H'->cT K W' γ' σ'->Q σ' H')->t v σ H Q
noncomputable def SGs(t:TGs)(f:GsF):Prop:=∀xs γ M γ' M',f xs γ M=some (γ',M')->∀(W:Wd)(H:Hp)(σ:St)(vs:List V)(Q:St->Hp->Prop),Good K W M H->cT K W γ σ->bW K W xs vs->(∀σ' W' H',W.Ext W'->Good K W' M' H'->cT K W' γ' σ'->Q σ' H')->t vs σ H Q
noncomputable def P2(r:R2)(f:F2):Prop:=∀x y M z M',f x y M=some (z,M')->∀(W:Wd)(H:Hp)(v u:V)(Q:VK),Good K W M H->bU K W x v->bU K W y u->(∀w W' H',W.Ext W'->Good K W' M' H'->bU K W' z w->Q w H')->r v u H Q
noncomputable def P1(r:V->Hp->VK->Prop)(f:F1):Prop:=∀x M z M',f x M=some (z,M')->∀(W:Wd)(H:Hp)(v:V)(Q:VK),Good K W M H->bU K W x v->(∀w W' H',W.Ext W'->Good K W' M' H'->bU K W' z w->Q w H')->r v H Q
noncomputable def PN(r:List V->Hp->VK->Prop)(f:FN):Prop:=∀xs M z M',f xs M=some (z,M')->∀(W:Wd)(H:Hp)(vs:List V)(Q:VK),Good K W M H->bW K W xs vs->(∀w W' H',W.Ext W'->Good K W' M' H'->bU K W' z w->Q w H')->r vs H Q
noncomputable def spM(f:FN):Sp:=fun vs H Q _=>∃xs M W y M',Good K W M H/\bW K W xs vs/\f xs M=some (y,M')/\∀v W' H',W.Ext W'->Good K W' M' H'->bU K W' y v->Q v H'
end
noncomputable def aD(i:Nat):EF:=fun γ M=>match γ[i]? with
 |some (some x)=>some (x,M)
 |_=>none
noncomputable def fC(x:PyData):EF:=fun _ M=>some (.d x,M)
noncomputable def fOp(h:F2)(f g:EF):EF:=fun γ M=>(f γ M).bind fun r=>(g γ r.2).bind fun q=>h r.1 q.1 q.2
noncomputable def fUn(h:F1)(f:EF):EF:=fun γ M=>(f γ M).bind fun r=>h r.1 r.2
noncomputable def asB:CD->Option Bool
 |.d (.bool b)=>some b
 |_=>none
noncomputable def kU(f g:EF):EF:=fun γ M=>(f γ M).bind fun r=>(asB r.1).bind fun b=>if b=true then g γ r.2 else some (.d (.bool false),r.2)
noncomputable def fOr(f g:EF):EF:=fun γ M=>(f γ M).bind fun r=>(asB r.1).bind fun b=>if b=true then some (.d (.bool true),r.2)else g γ r.2
noncomputable def RN(f:EF):EF:=fun γ M=>(f γ M).bind fun r=>(asB r.1).bind fun b=>some (.d (.bool (!b)),r.2)
noncomputable def fIf(t:TF)(f g:EF):EF:=fun γ M=>(t γ M).bind fun r=>if r.1=true then f γ r.2 else g γ r.2
noncomputable def aDb(f g:TF):TF:=fun γ M=>(f γ M).bind fun r=>if r.1=true then g γ r.2 else some (false,r.2)
noncomputable def gOr(f g:TF):TF:=fun γ M=>(f γ M).bind fun r=>if r.1=true then some (true,r.2)else g γ r.2
noncomputable def sR(f:TF):TF:=fun γ M=>(f γ M).bind fun r=>some (!r.1,r.2)
noncomputable def gB(f:EF):TF:=fun γ M=>(f γ M).bind fun r=>(asB r.1).bind fun b=>some (b,r.2)
noncomputable def zV(h h':F2)(f g e:EF):EF:=fun γ M=>(f γ M).bind fun r=>(g γ r.2).bind fun q=>(h r.1 q.1 q.2).bind fun z=>(asB z.1).bind fun b=>if b=true then(e γ z.2).bind fun w=>h' q.1 w.1 w.2 else some (.d (.bool false),z.2)
noncomputable def aH:AF:=fun _ M=>some ([],M)
noncomputable def aB(f:EF)(g:AF):AF:=fun γ M=>(f γ M).bind fun r=>(g γ r.2).bind fun q=>some (r.1::q.1,q.2)
noncomputable def iS:List CD->Option (List PyData)
 |[]=>some []
 |.d x::r=>(iS r).map (x::·)
 |.c _::_=>none
 |.t _::_=>none
 |.f _::_=>none
 |.g _::_=>none
noncomputable def gG(f:AF):EF:=fun γ M=>(f γ M).bind fun r=>(iS r.1).bind fun ds=>if ds.length<=sizeLine then some (.d (.tuple ds),r.2)else none
noncomputable def cK(f:AF):EF:=fun γ M=>(f γ M).bind fun r=>(iS r.1).bind fun ds=>if ds.length<=sizeLine then some (.d (.list ds),r.2)else none
noncomputable def qP(f:AF):EF:=fun γ M=>(f γ M).bind fun r=>if r.1.length<=sizeLine then some (.c r.2.length,r.2++[.lst r.1])else none
noncomputable def aK(h:FN)(f:AF):EF:=fun γ M=>(f γ M).bind fun r=>h r.1 r.2
noncomputable def eK:SF:=fun γ M=>some (.nx γ,M)
noncomputable def bB(f g:SF):SF:=fun γ M=>(f γ M).bind fun r=>match r.1 with
 |.nx γ'=>g γ' r.2
 |o=>some (o,r.2)
noncomputable def oF(f:EF):SF:=fun γ M=>(f γ M).bind fun r=>some (.nx γ,r.2)
noncomputable def cL(f:EF):SF:=fun γ M=>(f γ M).bind fun r=>some (.rt r.1,r.2)
noncomputable def aBS:SF:=fun _ M=>some (.rt (.d .none),M)
noncomputable def sIf(c:TF)(f g:SF):SF:=fun γ M=>(c γ M).bind fun r=>if r.1=true then f γ r.2 else g γ r.2
noncomputable def bI(f:EF)(g:GF):SF:=fun γ M=>(f γ M).bind fun r=>(g r.1 γ r.2).bind fun q=>some (.nx q.1,q.2)
noncomputable def hName(i:Nat):GF:=fun x γ M=>some (γ.set i (some x),M)
noncomputable def nR:GsF:=fun xs γ M=>match xs with
 |[]=>some (γ,M)
 |_=>none
noncomputable def bY(f:GF)(g:GsF):GsF:=fun xs γ M=>match xs with
 |x::r=>(f x γ M).bind fun q=>g r q.1 q.2
 |[]=>none
noncomputable def rG(n:Nat)(g:GsF):GF:=fun x γ M=>match x with
 |.d (.tuple ds)=>if ds.length=n then g (ds.map .d) γ M else none
 |.t xs=>if xs.length=n then g (xs.map cdA) γ M else none
 |_=>none
noncomputable abbrev F3:=CD->CD->CD->Sto->Option Sto
noncomputable def hSub(fo fi:EF)(s:F3):GF:=fun x γ M=>(fo γ M).bind fun r=>(fi γ r.2).bind fun q=>(s r.1 q.1 x q.2).bind fun M'=>some (γ,M')
noncomputable def vY(i j:Nat)(f:AF):SF:=fun γ M=>(f γ M).bind fun r=>match r.1 with
 |[x,y]=>some (.nx ((γ.set i (some x)).set j (some y)),r.2)
 |_=>none
noncomputable def jR(g:GF)(b:SF):List CD->Ga->Sto->Option (Out×Sto)
 |[],γ,M=>some (.nx γ,M)
 |x::xs,γ,M=>(g x γ M).bind fun r=>(b r.1 r.2).bind fun q=>match q.1 with
  |.nx γ'=>jR g b xs γ' q.2
  |.ct γ'=>jR g b xs γ' q.2
  |.bk γ'=>some (.nx γ',q.2)
  |.rt x=>some (.rt x,q.2)
noncomputable def qO(f:AF)(g:GF)(b:SF):SF:=fun γ M=>(f γ M).bind fun r=>jR g b r.1 γ r.2
noncomputable def eF(c:TF)(b:SF):Nat->Ga->Sto->Option (Out×Sto)
 |0,_,_=>none
 |n+1,γ,M=>(c γ M).bind fun r=>if r.1=true then(b γ r.2).bind fun q=>match q.1 with
  |.nx γ'=>eF c b n γ' q.2
  |.ct γ'=>eF c b n γ' q.2
  |.bk γ'=>some (.nx γ',q.2)
  |.rt x=>some (.rt x,q.2)else some (.nx γ,r.2)
open Classical in
noncomputable def pD(c:TF)(b:SF):SF:=fun γ M=>if h:∃n,(eF c b n γ M).isSome=true then eF c b h.choose γ M else none
noncomputable def lcF(g:GF)(c:TF)(e:EF):List CD->Ga->Sto->Option (List CD×Sto)
 |[],γ,M=>some ([],M)
 |x::xs,γ,M=>(g x γ M).bind fun a=>(c a.1 a.2).bind fun b=>if b.1=true then(e a.1 b.2).bind fun r=>(lcF g c e xs a.1 r.2).bind fun q=>some (r.1::q.1,q.2)else lcF g c e xs a.1 b.2
noncomputable def kH(cap:List (Option Nat))(γ:Ga):Ga:=cap.map fun o=>o.bind fun j=>(γ[j]?).join
noncomputable def fF:TF:=fun _ M=>some (true,M)
noncomputable def BA(cap:List (Option Nat))(f:AF)(g:GF)(c:TF)(e:EF):AF:=fun γ M=>(f γ M).bind fun r=>if r.1.length<=sizeLine then lcF g c e r.1 (kH cap γ) r.2 else none
noncomputable def fLc(cap:List (Option Nat))(f:AF)(g:GF)(c:TF)(e:EF):EF:=cK (BA cap f g c e)
noncomputable def fnF(ps N:Nat)(b:SF):FN:=fun xs M=>if xs.length=ps then(b (xs.map some++List.replicate (N-xs.length) none) M).bind fun r=>match r.1 with
 |.rt x=>some (x,r.2)
 |.nx _=>some (.d .none,r.2)
 |_=>none else none
theorem aI{α β:Type}{o:Option α}{k:α->Option β}{r:β}(h:o.bind k=some r):∃a,o=some a/\k a=some r:=by
 cases o with
 |none=>cases h
 |some a=>exact⟨a,rfl,h⟩
theorem Paired.get{α β:Type}{R:α->β->Prop}:∀{xs:List α}{ys:List β}{i:Nat}{x:α},Paired R xs ys->xs[i]?=some x->∃y,ys[i]?=some y/\R x y
 |_,_,_,_,.nil=>fun e=>by simp at e
 |_,_,0,_,.cons r _=>fun e=>by simp at e;subst e;exact⟨_,rfl,r⟩
 |_,_,i+1,x,.cons _ t=>fun e=>by
  obtain⟨u,h1,h2⟩:=Paired.get (i:=i) (x:=x) t (by simpa using e);exact⟨u,by simpa using h1,h2⟩
theorem Paired.set{α β:Type}{R:α->β->Prop}{x:α}{y:β}(r:R x y):∀{xs:List α}{ys:List β}(i:Nat),Paired R xs ys->Paired R (xs.set i x) (ys.set i y)
 |_,_,_,.nil=>.nil
 |_,_,0,.cons _ t=>.cons r t
 |_,_,i+1,.cons q t=>.cons q (Paired.set r i t)
theorem Paired.app{α β:Type}{R:α->β->Prop}:∀{xs xs':List α}{ys ys':List β},Paired R xs ys->Paired R xs' ys'->Paired R (xs++xs') (ys++ys')
 |_,_,_,_,.nil=>fun s=>s
 |_,_,_,_,.cons r t=>fun s=>.cons r (Paired.app t s)
theorem Paired.len{α β:Type}{R:α->β->Prop}{xs:List α}{ys:List β}(p:Paired R xs ys):xs.length=ys.length:=S4 p
section
variable{K:Fg}
theorem fN{W:Wd}:∀{xs:List CD}{ds:List PyData}{vs:List V},iS xs=some ds->bW K W xs vs->aJ K W.F ds vs
 |[],ds,vs=>fun e h=>by
  cases e;cases h;rfl
 |.c _::_,ds,vs=>fun e h=>by cases e
 |.t _::_,ds,vs=>fun e h=>by cases e
 |.f _::_,ds,vs=>fun e h=>by cases e
 |.g _::_,ds,vs=>fun e h=>by cases e
 |.d x::r,ds,vs=>fun e h=>by
  cases h with
  |@cons _ v _ vs' h1 h2=>
   unfold iS at e;cases q:iS r with
   |none=>rw[q]at e;cases e
   |some es=>
    rw[q]at e;cases e;exact⟨v,vs',rfl,h1,fN q h2⟩
theorem GV{xs:List (PyData ⊕ Nat)}{vs:List V}(h:Paired (KB K W) xs vs):bW K W (xs.map cdA) vs:=by
 induction h with
 |nil=>exact .nil
 |@cons x v _ _ r _ ih=>exact .cons (by cases x<;>exact r) ih
theorem gH{W:Wd}:∀{ds:List PyData}{vs:List V},aJ K W.F ds vs->bW K W (ds.map .d) vs
 |[],vs=>fun h=>by rw[show vs=[]from h];exact .nil
 |d::ds,vs=>fun h=>by
  obtain⟨v,r,rfl,h1,h2⟩:=h;exact .cons h1 (gH h2)
theorem CW:∀{xs:List CD}{ds:List PyData},iS xs=some ds->ds.length=xs.length
 |[],ds=>fun e=>by cases e;rfl
 |.c _::_,ds=>fun e=>by cases e
 |.t _::_,ds=>fun e=>by cases e
 |.f _::_,ds=>fun e=>by cases e
 |.g _::_,ds=>fun e=>by cases e
 |.d x::r,ds=>fun e=>by
  unfold iS at e;cases q:iS r with
  |none=>rw[q]at e;cases e
  |some es=>
   rw[q]at e;cases e;rw[C5,C5,CW q]
theorem YF{i:Nat}:SE K (aBW i) (aD i):=by
 intro γ M x M' h W H σ Q g r k;unfold aD at h;cases e:γ[i]? with
 |none=>rw[e]at h;cases h
 |some o=>
  cases o with
  |none=>rw[e]at h;cases h
  |some y=>
   rw[e]at h;cases h;obtain⟨v,hv,rv⟩:=Paired.get r e;cases v with
   |none=>exact False.elim rv
   |some v=>exact⟨v,hv,k v W H (.refl _) g rv⟩
theorem OS{i:Int}:SE K (tC (.int i)) (fC (.int i)):=by
 intro γ M x M' h W H σ Q g r k;cases h;exact k _ W H (.refl _) g rfl
theorem aCI{b:Bool}:SE K (tC (.bl b)) (fC (.bool b)):=by
 intro γ M x M' h W H σ Q g r k;cases h;exact k _ W H (.refl _) g rfl
theorem XM{x:Str}:SE K (tC (.str x)) (fC (.str x)):=by
 intro γ M x M' h W H σ Q g r k;cases h;exact k _ W H (.refl _) g rfl
variable{ta tb tc:TE}{f g e:EF}{tt uu:TT}{ft gt:TF}{tA:TA}{fa:AF}
theorem HJ{r:R2}{h:F2}(p:P2 K r h)(a:SE K ta f)(b:SE K tb g):SE K (tOp r ta tb) (fOp h f g):=by
 intro γ M x M' hh W H σ Q G R k;obtain⟨⟨y,M1⟩,h1,hh⟩:=aI hh;obtain⟨⟨z,M2⟩,h2,hh⟩:=aI hh;refine a _ _ _ _ h1 W H σ _ G R fun v W1 H1 e1 G1 r1=>?_;refine b _ _ _ _ h2 W1 H1 σ _ G1 (R.up e1) fun u W2 H2 e2 G2 r2=>?_;exact p _ _ _ _ _ hh W2 H2 v u Q G2 (r1.up e2) r2 fun w W3 H3 e3 G3 r3=>k w W3 H3 ((e1.trans e2).trans e3) G3 r3
theorem aBz{r:V->Hp->VK->Prop}{h:F1}(p:P1 K r h)(a:SE K ta f):SE K (tUn r ta) (fUn h f):=by
 intro γ M x M' hh W H σ Q G R k;obtain⟨⟨y,M1⟩,h1,hh⟩:=aI hh;refine a _ _ _ _ h1 W H σ _ G R fun v W1 H1 e1 G1 r1=>?_;exact p _ _ _ _ hh W1 H1 v Q G1 r1 fun w W3 H3 e3 G3 r3=>k w W3 H3 (e1.trans e3) G3 r3
theorem yO{x:CD}{b:Bool}(h:asB x=some b):x=.d (.bool b):=by
 cases x with
 |c n=>cases h
 |t n=>cases h
 |f n=>cases h
 |g _=>cases h
 |d x=>cases x<;>first|cases h;rfl|cases h
theorem aAw(a:SE K ta f)(b:SE K tb g):SE K (VV ta tb) (kU f g):=by
 intro γ M x M' hh W H σ Q G R k;obtain⟨⟨y,M1⟩,h1,hh⟩:=aI hh;obtain⟨c,h2,hh⟩:=aI hh;refine a _ _ _ _ h1 W H σ _ G R fun v W1 H1 e1 G1 r1=>?_;have hy:y=_:=yO h2;subst hy;refine⟨c,r1,?_⟩;cases c with
 |true=>rw[A4 rfl];rw[A4 rfl]at hh;exact b _ _ _ _ hh W1 H1 σ Q G1 (R.up e1) fun w W3 H3 e3 G3 r3=>k w W3 H3 (e1.trans e3) G3 r3
 |false=>
  rw[A5 A7];rw[A5 A7]at hh;cases hh;exact k _ W1 H1 e1 G1 rfl
theorem XX(a:SE K ta f):SE K (XC ta) (RN f):=by
 intro γ M x M' hh W H σ Q G R k;obtain⟨⟨y,M1⟩,h1,hh⟩:=aI hh;obtain⟨c,h2,hh⟩:=aI hh;refine a _ _ _ _ h1 W H σ _ G R fun v W1 H1 e1 G1 r1=>?_;have hy:y=_:=yO h2;subst hy;cases hh;exact⟨c,r1,k _ W1 H1 e1 G1 rfl⟩
theorem aCq(t:STt K tt ft)(a:SE K ta f)(b:SE K tb g):SE K (tIf tt ta tb) (fIf ft f g):=by
 intro γ M x M' hh W H σ Q G R k;obtain⟨⟨c,M1⟩,h1,hh⟩:=aI hh;refine t _ _ _ _ h1 W H σ _ G R fun W1 H1 e1 G1=>?_;cases c with
 |true=>rw[A4 rfl];rw[A4 rfl]at hh;exact a _ _ _ _ hh W1 H1 σ Q G1 (R.up e1) fun w W3 H3 e3 G3 r3=>k w W3 H3 (e1.trans e3) G3 r3
 |false=>rw[A5 A7];rw[A5 A7]at hh;exact b _ _ _ _ hh W1 H1 σ Q G1 (R.up e1) fun w W3 H3 e3 G3 r3=>k w W3 H3 (e1.trans e3) G3 r3
theorem PK{r r':R2}{h h':F2}(p:P2 K r h)(p':P2 K r' h')(a:SE K ta f)(b:SE K tb g)(c:SE K tc e):SE K (LK r r' ta tb tc) (zV h h' f g e):=by
 intro γ M x M' hh W H σ Q G R k;obtain⟨⟨y,M1⟩,h1,hh⟩:=aI hh;obtain⟨⟨z,M2⟩,h2,hh⟩:=aI hh;obtain⟨⟨w,M3⟩,h3,hh⟩:=aI hh;obtain⟨q,h4,hh⟩:=aI hh;refine a _ _ _ _ h1 W H σ _ G R fun v W1 H1 e1 G1 r1=>?_;refine b _ _ _ _ h2 W1 H1 σ _ G1 (R.up e1) fun u W2 H2 e2 G2 r2=>?_;refine p _ _ _ _ _ h3 W2 H2 v u _ G2 (r1.up e2) r2 fun t W3 H3 e3 G3 r3=>?_;have hy:w=_:=yO h4;subst hy;refine⟨q,r3,?_⟩;have e13:=(e1.trans e2).trans e3;cases q with
 |true=>
  rw[A4 rfl];rw[A4 rfl]at hh;obtain⟨⟨m,M4⟩,h5,hh⟩:=aI hh;refine c _ _ _ _ h5 W3 H3 σ _ G3 (R.up e13) fun o W4 H4 e4 G4 r4=>?_;exact p' _ _ _ _ _ hh W4 H4 u o Q G4 (r2.up (e3.trans e4)) r4 fun w W5 H5 e5 G5 r5=>k w W5 H5 ((e13.trans e4).trans e5) G5 r5
 |false=>
  rw[A5 A7];rw[A5 A7]at hh;cases hh;exact k _ W3 H3 e13 G3 rfl
theorem aBm(a:STt K tt ft)(b:STt K uu gt):STt K (tOr tt uu) (gOr ft gt):=by
 intro γ M x M' hh W H σ Q G R k;obtain⟨⟨c,M1⟩,h1,hh⟩:=aI hh;refine a _ _ _ _ h1 W H σ _ G R fun W1 H1 e1 G1=>?_;cases c with
 |true=>rw[A4 rfl];rw[A4 rfl]at hh;cases hh;exact k W1 H1 e1 G1
 |false=>rw[A5 A7];rw[A5 A7]at hh;exact b _ _ _ _ hh W1 H1 σ Q G1 (R.up e1) fun W3 H3 e3 G3=>k W3 H3 (e1.trans e3) G3
theorem YQ(a:STt K tt ft):STt K (aCV tt) (sR ft):=by
 intro γ M x M' hh W H σ Q G R k;obtain⟨⟨c,M1⟩,h1,hh⟩:=aI hh;cases hh;exact a _ _ _ _ h1 W H σ _ G R fun W1 H1 e1 G1=>k W1 H1 e1 G1
theorem XZ(a:SE K ta f):STt K (tB ta) (gB f):=by
 intro γ M x M' hh W H σ Q G R k;obtain⟨⟨y,M1⟩,h1,hh⟩:=aI hh;obtain⟨c,h2,hh⟩:=aI hh;refine a _ _ _ _ h1 W H σ _ G R fun v W1 H1 e1 G1 r1=>?_;have hy:y=_:=yO h2;subst hy;cases hh;exact⟨_,r1,k W1 H1 e1 G1⟩
theorem TX(a:SE K ta f):STt K (VP ta) (gB f):=XZ a
theorem aAs:SA K QF aH:=by
 intro γ M x M' hh W H σ Q G R k;cases hh;exact k [] W H (.refl _) G .nil
theorem UK(a:SE K ta f)(b:SA K tA fa):SA K (rX ta tA) (aB f fa):=by
 intro γ M x M' hh W H σ Q G R k;obtain⟨⟨y,M1⟩,h1,hh⟩:=aI hh;obtain⟨⟨ys,M2⟩,h2,hh⟩:=aI hh;cases hh;refine a _ _ _ _ h1 W H σ _ G R fun v W1 H1 e1 G1 r1=>?_;exact b _ _ _ _ h2 W1 H1 σ _ G1 (R.up e1) fun vs W2 H2 e2 G2 r2=>k _ W2 H2 (e1.trans e2) G2 (.cons (r1.up e2) r2)
theorem XE(b:SA K tA fa):SE K (UM tA) (gG fa):=by
 intro γ M x M' hh W H σ Q G R k;obtain⟨⟨ys,M1⟩,h1,hh⟩:=aI hh;obtain⟨ds,h2,hh⟩:=aI hh;by_cases hl:ds.length<=sizeLine
 .rw[A4 hl]at hh;cases hh;refine b _ _ _ _ h1 W H σ _ G R fun vs W1 H1 e1 G1 r1=>?_;have ra:=fN h2 r1;refine⟨by rw[<- ra.length];exact hl,fun p hp=>?_⟩;obtain⟨e2,G2⟩:=G1.lay (o:=.tup vs) hp;exact k _ _ _ (e1.trans e2) G2 ⟨p,vs,rfl,SqT.of aU,aJ.same e2.ff _ _ ra⟩
 .rw[A5 hl]at hh;cases hh
theorem ZN(b:SA K tA fa):SE K (YE tA) (cK fa):=by
 intro γ M x M' hh W H σ Q G R k;obtain⟨⟨ys,M1⟩,h1,hh⟩:=aI hh;obtain⟨ds,h2,hh⟩:=aI hh;by_cases hl:ds.length<=sizeLine
 .rw[A4 hl]at hh;cases hh;refine b _ _ _ _ h1 W H σ _ G R fun vs W1 H1 e1 G1 r1=>?_;have ra:=fN h2 r1;refine⟨by rw[<- ra.length];exact hl,fun p hp=>?_⟩;obtain⟨e2,G2⟩:=G1.lay (o:=.lst vs) hp;exact k _ _ _ (e1.trans e2) G2 ⟨p,vs,rfl,SqL.of aU,aJ.same e2.ff _ _ ra⟩
 .rw[A5 hl]at hh;cases hh
theorem Good.newV(g:Good K W M H){p:Addr}:bU K (W.more p) (.c M.length) (.ref p):=by
 refine⟨?_,?_⟩
 .show M.length<W.n+1;rw[g.n];exact E6 _
 .show V.ref p=.ref (if M.length=W.n then p else W.α M.length);rw[A4 g.n.symm]
theorem YI(b:SA K tA fa):SE K (YE tA) (qP fa):=by
 intro γ M x M' hh W H σ Q G R k;obtain⟨⟨ys,M1⟩,h1,hh⟩:=aI hh;by_cases hl:ys.length<=sizeLine
 .have hh:(if ys.length<=sizeLine then some (CD.c M1.length,M1++[Cell.lst ys])else none)=some (x,M'):=hh;rw[A4 hl]at hh;cases hh;refine b _ _ _ _ h1 W H σ _ G R fun vs W1 H1 e1 G1 r1=>?_;refine⟨by rw[<- Paired.len r1];exact hl,fun p hp=>?_⟩;exact k _ _ _ (e1.trans (W1.ext_more p)) (G1.new hp (c:=.lst ys) (o:=.lst vs) r1) G1.newV
 .have hh:(if ys.length<=sizeLine then some (CD.c M1.length,M1++[Cell.lst ys])else none)=some (x,M'):=hh;rw[A5 hl]at hh;cases hh
theorem VJ{h:FN}(b:SA K tA fa):SE K (LA (spM K h) [] E0 tA) (aK h fa):=by
 intro γ M x M' hh W H σ Q G R k;obtain⟨⟨ys,M1⟩,h1,hh⟩:=aI hh;refine b _ _ _ _ h1 W H σ _ G R fun vs W1 H1 e1 G1 r1=>?_;rw[J4];exact⟨ys,M1,W1,x,M',G1,r1,hh,fun v W2 H2 e2 G2 r2=>k v W2 H2 (e1.trans e2) G2 r2⟩
theorem WQ{r:List V->Hp->VK->Prop}{h:FN}(p:PN K r h)(b:SA K tA fa):SE K (tCB r tA) (aK h fa):=by
 intro γ M x M' hh W H σ Q G R k;obtain⟨⟨ys,M1⟩,h1,hh⟩:=aI hh;refine b _ _ _ _ h1 W H σ _ G R fun vs W1 H1 e1 G1 r1=>?_;exact p _ _ _ _ hh W1 H1 vs Q G1 r1 fun v W2 H2 e2 G2 r2=>k v W2 H2 (e1.trans e2) G2 r2
end
section
variable{K:Fg}{ta tb tc:TE}{f g e:EF}{tt uu:TT}{ft gt:TF}{tA:TA}{fa:AF}{t u:TS}{p q:SF}{tg:TG}{hg:GF}{tgs:TGs}{hgs:GsF}
theorem TN:SS K VY eK:=by
 intro γ M o M' hh W H σ D G R k;cases hh;exact k W H (.refl _) G σ R
theorem XR(a:SS K t p)(b:SS K u q):SS K (aCJ t u) (bB p q):=by
 intro γ M o M' hh W H σ D G R k;obtain⟨⟨o1,M1⟩,h1,hh⟩:=aI hh;refine a _ _ _ _ h1 W H σ _ G R fun W1 H1 e1 G1=>?_;cases o1 with
 |nx γ1=>
  intro σ1 R1;exact b _ _ _ _ hh W1 H1 σ1 D G1 R1 fun W2 H2 e2 G2=>k W2 H2 (e1.trans e2) G2
 |bk γ1=>cases hh;exact k W1 H1 e1 G1
 |ct γ1=>cases hh;exact k W1 H1 e1 G1
 |rt x=>cases hh;exact k W1 H1 e1 G1
theorem RS(a:SE K ta f):SS K (VR ta) (oF f):=by
 intro γ M o M' hh W H σ D G R k;obtain⟨⟨y,M1⟩,h1,hh⟩:=aI hh;cases hh;exact a _ _ _ _ h1 W H σ _ G R fun v W1 H1 e1 G1 r1=>k W1 H1 e1 G1 σ (R.up e1)
theorem ZK(a:SE K ta f):SS K (aBG ta) (cL f):=by
 intro γ M o M' hh W H σ D G R k;obtain⟨⟨y,M1⟩,h1,hh⟩:=aI hh;cases hh;exact a _ _ _ _ h1 W H σ _ G R fun v W1 H1 e1 G1 r1=>k W1 H1 e1 G1 v r1
theorem aBn(c:STt K tt ft)(a:SS K t p)(b:SS K u q):SS K (aCP tt t u) (sIf ft p q):=by
 intro γ M o M' hh W H σ D G R k;obtain⟨⟨c1,M1⟩,h1,hh⟩:=aI hh;refine c _ _ _ _ h1 W H σ _ G R fun W1 H1 e1 G1=>?_;cases c1 with
 |true=>rw[A4 rfl];rw[A4 rfl]at hh;exact a _ _ _ _ hh W1 H1 σ D G1 (R.up e1) fun W3 H3 e3 G3=>k W3 H3 (e1.trans e3) G3
 |false=>rw[A5 A7];rw[A5 A7]at hh;exact b _ _ _ _ hh W1 H1 σ D G1 (R.up e1) fun W3 H3 e3 G3=>k W3 H3 (e1.trans e3) G3
theorem PH(a:SE K ta f)(b:SG K tg hg):SS K (aAU ta tg) (bI f hg):=by
 intro γ M o M' hh W H σ D G R k;obtain⟨⟨y,M1⟩,h1,hh⟩:=aI hh;obtain⟨⟨γ1,M2⟩,h2,hh⟩:=aI hh;cases hh;refine a _ _ _ _ h1 W H σ _ G R fun v W1 H1 e1 G1 r1=>?_;exact b _ _ _ _ _ h2 W1 H1 σ v _ G1 (R.up e1) r1 fun σ' W2 H2 e2 G2 R2=>k W2 H2 (e1.trans e2) G2 σ' R2
theorem cT.set{σ:St}{x:CD}{v:V}(R:cT K W γ σ)(i:Nat)(r:bU K W x v):cT K W (γ.set i (some x)) (σ.set i (some v)):=Paired.set (R:=CI K W) (show CI K W (some x) (some v)from r) i R
theorem GW{i:Nat}:SG K (KZ i) (hName i):=by
 intro x γ M γ' M' hh W H σ v Q G R r k;cases hh;exact k _ W H (.refl _) G (cT.set R i r)
theorem SH:SGs K aCr nR:=by
 intro xs γ M γ' M' hh W H σ vs Q G R r k;cases r with
 |nil=>cases hh;exact⟨rfl,k σ W H (.refl _) G R⟩
 |cons _ _=>cases hh
theorem KW(a:SG K tg hg)(b:SGs K tgs hgs):SGs K (XA tg tgs) (bY hg hgs):=by
 intro xs γ M γ' M' hh W H σ vs Q G R r k;cases r with
 |nil=>cases hh
 |@cons x v xs vs r1 r2=>
  obtain⟨⟨γ1,M1⟩,h1,hh⟩:=aI (show(hg x γ M).bind _=_ from hh);refine⟨v,vs,rfl,a _ _ _ _ _ h1 W H σ v _ G R r1 fun σ1 W1 H1 e1 G1 R1=>?_⟩;exact b _ _ _ _ _ hh W1 H1 σ1 vs _ G1 R1 (bW.up r2 e1) fun σ2 W2 H2 e2 G2 R2=>k σ2 W2 H2 (e1.trans e2) G2 R2
theorem LR{n:Nat}(b:SGs K tgs hgs):SG K (SN K n tgs) (rG n hgs):=by
 intro x γ M γ' M' hh W H σ v Q G R r k;cases x with
 |c _=>cases hh
 |f _=>cases hh
 |g _=>cases hh
 |t xs=>
  have hh:(if xs.length=n then hgs (xs.map cdA) γ M else none)=some (γ',M'):=hh;by_cases hl:xs.length=n
  .rw[A4 hl]at hh;obtain⟨a,vs,rfl,h2,h3⟩:=r;have hp:=GV h3;exact⟨a,vs,rfl,SqT.of (G.fh _ _ h2),by rw[<- hl];simpa using(Paired.len h3).symm,b _ _ _ _ _ hh W H σ vs Q G R hp k⟩
  .rw[A5 hl]at hh;cases hh
 |d x=>
  cases x with
  |tuple ds=>
   have hh:(if ds.length=n then hgs (ds.map .d) γ M else none)=some (γ',M'):=hh;by_cases hl:ds.length=n
   .rw[A4 hl]at hh;obtain⟨a,vs,rfl,h2,h3⟩:=(show ∃a vs,v=.ref a/\SqT K W.F a vs/\aJ K W.F ds vs from r);exact⟨a,vs,rfl,G.fh.seqT h2,by rw[<- h3.length];exact hl,b _ _ _ _ _ hh W H σ vs Q G R (gH h3) k⟩
   .rw[A5 hl]at hh;cases hh
  |_=>cases hh
noncomputable def P3(K:Fg)(r:V->V->V->Hp->(Hp->Prop)->Prop)(f:F3):Prop:=∀x y z M M',f x y z M=some M'->∀(W:Wd)(H:Hp)(v u w:V)(Q:Hp->Prop),Good K W M H->bU K W x v->bU K W y u->bU K W z w->(∀W' H',W.Ext W'->Good K W' M' H'->Q H')->r v u w H Q
theorem ZJ{r:SR}{s:F3}(p:P3 K r s)(a:SE K ta f)(b:SE K tb g):SG K (aCc ta tb r) (hSub f g s):=by
 intro x γ M γ' M' hh W H σ v Q G R rv k;obtain⟨⟨o,M1⟩,h1,hh⟩:=aI hh;obtain⟨⟨i,M2⟩,h2,hh⟩:=aI hh;obtain⟨M3,h3,hh⟩:=aI hh;cases hh;refine a _ _ _ _ h1 W H σ _ G R fun v1 W1 H1 e1 G1 r1=>?_;refine b _ _ _ _ h2 W1 H1 σ _ G1 (R.up e1) fun v2 W2 H2 e2 G2 r2=>?_;exact p _ _ _ _ _ h3 W2 H2 v1 v2 v _ G2 (r1.up e2) r2 (rv.up (e1.trans e2)) fun W3 H3 e3 G3=>k σ W3 H3 ((e1.trans e2).trans e3) G3 (R.up ((e1.trans e2).trans e3))
theorem aAM{i j:Nat}(b:SA K tA fa):SS K (aCb i j tA) (vY i j fa):=by
 intro γ M o M' hh W H σ D G R k;obtain⟨⟨ys,M1⟩,h1,hh⟩:=aI hh;refine b _ _ _ _ h1 W H σ _ G R fun vs W1 H1 e1 G1 r1=>?_;rcases r1 with _|⟨a1,_|⟨a2,_|_⟩⟩
 .cases hh
 .cases hh
 .cases hh;exact⟨_,_,rfl,k W1 H1 e1 G1 _ (cT.set (cT.set (R.up e1) i a1) j a2)⟩
 .cases hh
noncomputable def EO(K:Fg)(J:It)(xs:List CD)(W:Wd):Prop:=∀W' M' H',W.Ext W'->Good K W' M' H'->
 (∀i x,xs[i]?=some x->J.go i H'/\∀y H'',J.yld i H' y H''->∃W'',W'.Ext W''/\Good K W'' M' H''/\bU K W'' x y)/\J.stop xs.length H'
noncomputable def SI(K:Fg)(wi:TI)(f:AF):Prop:=∀γ M xs M',f γ M=some (xs,M')->∀(W:Wd)(H:Hp)(σ:St)(R:It->Hp->Prop),Good K W M H->cT K W γ σ->(∀J W' H',W.Ext W'->Good K W' M' H'->EO K J xs W'->R J H')->wi σ H R
noncomputable def aW(f:EF):AF:=fun γ M=>(f γ M).bind fun r=>match r.1 with
 |.d x=>(bG x).bind fun ds=>some (ds.map .d,r.2)
 |_=>none
theorem aAj(a:SE K ta f):SI K (ZP K ta) (aW f):=by
 intro γ M xs M' hh W H σ R G Rs k;obtain⟨⟨y,M1⟩,h1,hh⟩:=aI hh;cases y with
 |c _=>cases hh
 |t _=>cases hh
 |f _=>cases hh
 |g _=>cases hh
 |d y=>
  obtain⟨ds,h2,hh⟩:=aI (show(bG y).bind _=_ from hh);cases hh;refine a _ _ _ _ h1 W H σ _ G Rs fun v W1 H1 e1 G1 r1=>?_;obtain⟨p,vs,rfl,hs,hr⟩:=nG (show Rep K W1.F y v from r1) h2;refine⟨p,rfl,?_⟩
  have item:∀(i:Nat)(x:CD)(W2:Wd),W1.Ext W2->(ds.map CD.d)[i]?=some x->∃u,vs[i]?=some u/\bU K W2 x u:=fun i x W2 e2 hx=>by
   obtain⟨u,hu,ru⟩:=Paired.get (gH hr) hx;exact⟨u,hu,ru.up e2⟩
  have hlen:(ds.map CD.d).length=vs.length:=by rw[A1];exact hr.length
  rcases hs with hs|hs
  .refine .inl ⟨vs,G1.fh.seq hs,k _ W1 H1 e1 G1 fun W2 M2 H2 e2 G2=>?_⟩;have hs2:SqL K H2 p vs:=G2.fh.seq (e2.ff.seq hs);refine⟨fun i x hx=>?_,?_⟩
   .obtain⟨u,hu,ru⟩:=item i x W2 e2 hx;refine⟨⟨vs,u,hs2,hu⟩,fun y' H'' hy=>⟨W2,.refl _,by rw[hy.1];exact G2,?_⟩⟩;have:=hy.2 vs hs2;rw[hu]at this;cases this;exact ru
   .rw[hlen];exact⟨vs,hs2,A9 _⟩
  .refine .inr ⟨vs,G1.fh.seqT hs,k _ W1 H1 e1 G1 fun W2 M2 H2 e2 G2=>?_⟩;have hs2:SqT K H2 p vs:=G2.fh.seqT (e2.ff.seqT hs);refine⟨fun i x hx=>?_,?_⟩
   .obtain⟨u,hu,ru⟩:=item i x W2 e2 hx;refine⟨⟨vs,u,hs2,hu⟩,fun y' H'' hy=>⟨W2,.refl _,by rw[hy.1];exact G2,?_⟩⟩;have:=hy.2 vs hs2;rw[hu]at this;cases this;exact ru
   .rw[hlen];exact⟨vs,hs2,A9 _⟩
noncomputable def jO(lo:Int)(n:Nat):List CD:=(List.range n).map fun i=>.d (.int (lo+(i:Nat)))
theorem DE{lo:Int}{n i:Nat}{x:CD}(h:(jO lo n)[i]?=some x):i<n/\x=.d (.int (lo+i)):=by
 unfold jO at h;rw[D2]at h;by_cases hi:i<n
 .rw[List.getElem?_range hi]at h;exact⟨hi,(D0 h).symm⟩
 .rw[List.getElem?_eq_none_iff.mpr (by simpa using hi)]at h;cases h
noncomputable def fW(i:Int):Bool:=decide (-(2 ^ 62)<=i)&&decide (i<2 ^ 62)
noncomputable def fL(f:AF):AF:=fun γ M=>(f γ M).bind fun r=>match r.1 with
 |[.d (.int j)]=>if fW j=true then some (jO 0 j.toNat,r.2)else none
 |_=>none
theorem IL{lo:Int}{n:Nat}:EO K (Itr lo n) (jO lo n) W:=fun W' M' H' e G=>
 ⟨fun i x hx=>⟨(DE hx).1,fun y H'' hy=>⟨W',.refl _,by rw[hy.1];exact G,by rw[(DE hx).2];exact hy.2⟩⟩,by show n<=_;simp[jO]⟩
theorem vP{i:Int}(h:fW i=true):-(2 ^ 62)<=i/\i<2 ^ 62:=by
 unfold fW at h;rw[B0]at h;exact⟨C3 h.1,C3 h.2⟩
theorem UO(b:SA K tA fa):SI K (XB tA) (fL fa):=by
 intro γ M xs M' hh W H σ R G Rs k;obtain⟨⟨ys,M1⟩,h1,hh⟩:=aI hh;refine b _ _ _ _ h1 W H σ _ G Rs fun vs W1 H1 e1 G1 r1=>?_;revert hh;dsimp only;split
 .rename_i j;intro hh;by_cases hs:fW j=true
  .rw[A4 hs]at hh;cases hh;cases r1 with
   |cons r r'=>
    cases r';exact⟨j,by rw[show _=V.int j from r],(vP hs).1,(vP hs).2,k _ W1 H1 e1 G1 IL⟩
  .rw[A5 hs]at hh;cases hh
 .intro hh;cases hh
theorem aBa{wi:TI}(i:SI K wi fa)(a:SG K tg hg)(b:SS K t p):SS K (aBM wi tg t) (qO fa hg p):=by
 intro γ M o M' hh W H σ D G R k;obtain⟨⟨xs,M1⟩,h1,hh⟩:=aI hh;have hh:jR hg p xs γ M1=some (o,M'):=hh;refine i _ _ _ _ h1 W H σ _ G R fun J W1 H1 e1 G1 gv=>?_;refine⟨fun j m σ' H'=>∃γ' M2 W2,j<=xs.length/\m=xs.length-j/\W1.Ext W2/\Good K W2 M2 H'/\cT K W2 γ' σ'/\jR hg p (xs.drop j) γ' M2=some (o,M'),⟨_,γ,M1,W1,F8 _,rfl,.refl _,G1,R.up e1,hh⟩,?_⟩;rintro j m σ' H' ⟨γ',M2,W2,hj,rfl,e2,G2,R2,h2⟩;obtain⟨gv1,gv2⟩:=gv W2 M2 H' e2 G2;by_cases hlt:j<xs.length
 .obtain⟨go,yl⟩:=gv1 j xs[j] (B9 hlt);rw[List.drop_eq_getElem_cons hlt]at h2;refine .inr ⟨go,fun σ3 H3=>∃γ3 M3 W3,W2.Ext W3/\Good K W3 M3 H3/\cT K W3 γ3 σ3/\jR hg p (xs.drop (j+1)) γ3 M3=some (o,M'),?_,fun y H3 hy=>?_⟩
  .rintro σ3 H3 ⟨γ3,M3,W3,e3,G3,R3,h3⟩;exact⟨_,by omega,γ3,M3,W3,hlt,rfl,e2.trans e3,G3,R3,h3⟩
  .obtain⟨W8,e8,G8,ry⟩:=yl y H3 hy;obtain⟨⟨γ4,M4⟩,h4,h2⟩:=aI (show(hg xs[j] γ' M2).bind _=_ from h2);obtain⟨⟨o5,M5⟩,h5,h2⟩:=aI h2;refine a _ _ _ _ _ h4 W8 _ σ' y _ G8 (R2.up e8) ry fun σ4 W4 H4 e4 G4 R4=>?_;refine b _ _ _ _ h5 W4 H4 σ4 _ G4 R4 fun W5 H5 e5 G5=>?_;have e25:=(e8.trans e4).trans e5;cases o5 with
   |nx γ5=>exact fun σ5 R5=>⟨γ5,M5,W5,e25,G5,R5,h2⟩
   |ct γ5=>exact fun σ5 R5=>⟨γ5,M5,W5,e25,G5,R5,h2⟩
   |bk γ5=>cases h2;exact k W5 H5 ((e1.trans e2).trans e25) G5
   |rt x=>cases h2;exact k W5 H5 ((e1.trans e2).trans e25) G5
 .have e:j=xs.length:=by omega
  subst e;rw[List.drop_length]at h2;cases h2;exact .inl ⟨gv2,k W2 H' (e1.trans e2) G2 σ' R2⟩
theorem NZ(c:STt K tt ft)(b:SS K t p):SS K (OD tt t) (pD ft p):=by
 intro γ M o M' hh W H σ D G R k;unfold pD at hh;by_cases hex:∃n,(eF ft p n γ M).isSome=true
 .rw[dif_pos hex]at hh;generalize hex.choose=n at hh;refine⟨fun m σ' H'=>∃γ' M2 W2,W.Ext W2/\Good K W2 M2 H'/\cT K W2 γ' σ'/\eF ft p m γ' M2=some (o,M'),⟨n,γ,M,W,.refl _,G,R,hh⟩,?_⟩;rintro m σ' H' ⟨γ',M2,W2,e2,G2,R2,h2⟩;cases m with
  |zero=>cases h2
  |succ m=>
   obtain⟨⟨c3,M3⟩,h3,h2⟩:=aI (show(ft γ' M2).bind _=_ from h2);refine c _ _ _ _ h3 W2 H' σ' _ G2 R2 fun W3 H3 e3 G3=>?_;cases c3 with
   |true=>
    rw[A4 rfl];rw[A4 rfl]at h2;obtain⟨⟨o4,M4⟩,h4,h2⟩:=aI h2;refine⟨fun σ4 H4=>∃γ4 M4 W4,W2.Ext W4/\Good K W4 M4 H4/\cT K W4 γ4 σ4/\eF ft p m γ4 M4=some (o,M'),?_,?_⟩
    .rintro σ4 H4 ⟨γ4,M4,W4,e4,G4,R4,h4⟩;exact⟨m,E6 _,γ4,M4,W4,e2.trans e4,G4,R4,h4⟩
    .refine b _ _ _ _ h4 W3 H3 σ' _ G3 (R2.up e3) fun W5 H5 e5 G5=>?_;have e25:=e3.trans e5;cases o4 with
     |nx γ5=>exact fun σ5 R5=>⟨γ5,M4,W5,e25,G5,R5,h2⟩
     |ct γ5=>exact fun σ5 R5=>⟨γ5,M4,W5,e25,G5,R5,h2⟩
     |bk γ5=>cases h2;exact k W5 H5 (e2.trans e25) G5
     |rt x=>cases h2;exact k W5 H5 (e2.trans e25) G5
   |false=>
    rw[A5 A7];rw[A5 A7]at h2;cases h2;exact k W3 H3 (e2.trans e3) G3 σ' (R2.up e3)
 .rw[dif_neg hex]at hh;cases hh
theorem iV{c:TF}{b:SF}:∀{n m:Nat}{γ:Ga}{M:Sto}{r:Out×Sto},eF c b n γ M=some r->n<=m->eF c b m γ M=some r
 |0,_,_,_,_=>fun h _=>by cases h
 |n+1,0,_,_,_=>fun _ h=>by omega
 |n+1,m+1,γ,M,r=>fun h hl=>by
  obtain⟨⟨b1,M1⟩,h1,h⟩:=aI (show(c γ M).bind _=_ from h);show(c γ M).bind _=_;rw[h1];show(if b1=true then _ else _)=_;cases b1 with
  |false=>exact h
  |true=>
   rw[A4 rfl];rw[A4 rfl]at h;obtain⟨⟨o,M2⟩,h2,h⟩:=aI h;rw[h2];cases o with
   |nx γ'=>exact iV (n:=n) (m:=m) h (by omega)
   |ct γ'=>exact iV (n:=n) (m:=m) h (by omega)
   |bk γ'=>exact h
   |rt x=>exact h
theorem AY{c:TF}{b:SF}{n:Nat}{r:Out×Sto}(h:eF c b n γ M=some r):pD c b γ M=some r:=by
 unfold pD;have hex:∃n,(eF c b n γ M).isSome=true:=⟨n,by rw[h];rfl⟩;rw[dif_pos hex];have hs:=hex.choose_spec;cases q:eF c b hex.choose γ M with
 |none=>rw[q]at hs;cases hs
 |some r'=>
  rcases Nat.le_total n hex.choose with z|z
  .rw[iV h z]at q;exact q.symm▸rfl
  .rw[iV q z]at h;exact h
theorem zJ{W:Wd}{γ:Ga}{σ:St}(R:cT K W γ σ):∀cap:List (Option Nat),cT K W (kH cap γ) (sP cap σ)
 |[]=>.nil
 |none::r=>.cons True.intro (zJ R r)
 |some j::r=>by
  refine .cons ?_ (zJ R r);show CI K W ((γ[j]?).join) ((σ[j]?).join);cases e:γ[j]? with
  |none=>
   have:σ[j]?=none:=by
    have hl:=Paired.len R;exact List.getElem?_eq_none_iff.mpr (by have:=List.getElem?_eq_none_iff.mp e;omega)
   rw[this];exact True.intro
  |some x=>
   obtain⟨y,hy,r'⟩:=Paired.get R e;rw[hy];exact r'
theorem aBe{wi:TI}{cap:List (Option Nat)}{te:TE}{fe:EF}(i:SI K wi fa)(a:SG K tg hg)(c:STt K tt ft)(b:SE K te fe){xs:List CD}{M':Sto}(hh:BA cap fa hg ft fe γ M=some (xs,M'))
 {W:Wd} {H:Hp} {σ:St} {Q:VK} (G:Good K W M H) (R:cT K W γ σ) (k:∀vs W' H',W.Ext W'->Good K W' M' H'->bW K W' xs vs->∀p,H' p=none->Q (.ref p) (upd H' p (.lst vs))):tLc cap wi tg tt te σ H Q:=by
 obtain⟨⟨ys,M1⟩,h1,hh⟩:=aI hh;have hh:(if ys.length<=sizeLine then lcF hg ft fe ys (kH cap γ) M1 else none)=some (xs,M'):=hh;by_cases hl:ys.length<=sizeLine
 .rw[A4 hl]at hh;refine i _ _ _ _ h1 W H σ _ G R fun J W1 H1 e1 G1 gv=>?_
  refine⟨fun j m acc σ' H'=>∃γ' M2 W2 pre suf,j<=ys.length/\m=ys.length-j/\acc.length<=j/\W1.Ext W2/\Good K W2 M2 H'/\cT K W2 γ' σ'/\bW K W2 pre acc/\pre++suf=xs/\lcF hg ft fe (ys.drop j) γ' M2=some (suf,M'),
   ⟨_,kH cap γ,M1,W1,[],xs,F8 _,rfl,F8 _,.refl _,G1,zJ (R.up e1) cap,.nil,rfl,hh⟩,?_⟩
  rintro j m acc σ' H' ⟨γ',M2,W2,pre,suf,hj,rfl,hacc,e2,G2,R2,rp,hx,h2⟩;obtain⟨gv1,gv2⟩:=gv W2 M2 H' e2 G2;by_cases hlt:j<ys.length
  .obtain⟨go,yl⟩:=gv1 j ys[j] (B9 hlt);rw[List.drop_eq_getElem_cons hlt]at h2;refine .inr ⟨go,by omega,fun acc3 σ3 H3=>∃γ3 M3 W3 pre3 suf3,acc3.length<=j+1/\W2.Ext W3/\Good K W3 M3 H3/\cT K W3 γ3 σ3/\bW K W3 pre3 acc3/\pre3++suf3=xs/\lcF hg ft fe (ys.drop (j+1)) γ3 M3=some (suf3,M'),?_,fun y H3 hy=>?_⟩
   .rintro acc3 σ3 H3 ⟨γ3,M3,W3,pre3,suf3,hl3,e3,G3,R3,rp3,hx3,h3⟩;exact⟨_,by omega,γ3,M3,W3,pre3,suf3,hlt,rfl,hl3,e2.trans e3,G3,R3,rp3,hx3,h3⟩
   .obtain⟨W8,e8,G8,ry⟩:=yl y H3 hy;obtain⟨⟨γ4,M4⟩,h4,h2⟩:=aI (show(hg ys[j] γ' M2).bind _=_ from h2);obtain⟨⟨b5,M5⟩,h5,h2⟩:=aI h2;refine a _ _ _ _ _ h4 W8 _ σ' y _ G8 (R2.up e8) ry fun σ4 W4 H4 e4 G4 R4=>?_;refine c _ _ _ _ h5 W4 H4 σ4 _ G4 R4 fun W5 H5 e5 G5=>?_;have e25:=(e8.trans e4).trans e5;cases b5 with
    |true=>
     rw[A4 rfl]at h2;obtain⟨⟨z,M6⟩,h6,h2⟩:=aI h2;obtain⟨⟨zs,M7⟩,h7,h2⟩:=aI h2;cases h2;refine .inl ⟨rfl,b _ _ _ _ h6 W5 H5 σ4 _ G5 (R4.up e5) fun v W6 H6 e6 G6 r6=>?_⟩;refine⟨γ4,M6,W6,pre++[z],zs,by rw[B8];simp only[List.length_singleton];omega,e25.trans e6,G6,R4.up (e5.trans e6),Paired.app (bW.up rp (e25.trans e6)) (.cons r6 .nil),by rw[<- hx,O3];rfl,h7⟩
    |false=>
     rw[A5 A7]at h2;exact .inr ⟨rfl,γ4,M5,W5,pre,suf,by omega,e25,G5,R4.up e5,bW.up rp e25,hx,h2⟩
  .have e:j=ys.length:=by omega
   subst e;rw[List.drop_length]at h2;cases h2;rw[J4]at hx;subst hx;exact .inl ⟨gv2,k acc W2 H' (e1.trans e2) G2 rp⟩
 .rw[A5 hl]at hh;cases hh
theorem aBo{wi:TI}{cap:List (Option Nat)}{te:TE}{fe:EF}(i:SI K wi fa)(a:SG K tg hg)(c:STt K tt ft)(b:SE K te fe):SE K (tLc cap wi tg tt te) (fLc cap fa hg ft fe):=by
 intro γ M x M' hh W H σ Q G R k;obtain⟨⟨ys,M1⟩,h1,hh⟩:=aI hh;obtain⟨ds,h2,hh⟩:=aI hh;by_cases hl:ds.length<=sizeLine
 .rw[A4 hl]at hh;cases hh;refine aBe i a c b h1 G R fun vs W1 H1 e1 G1 r1 p hp=>?_;obtain⟨e2,G2⟩:=G1.lay (o:=.lst vs) hp;exact k _ _ _ (e1.trans e2) G2 ⟨p,vs,rfl,SqL.of aU,aJ.same e2.ff _ _ (fN h2 r1)⟩
 .rw[A5 hl]at hh;cases hh
theorem aAb:STt K aBy fF:=by
 intro γ M x M' hh W H σ Q G R k;cases hh;exact k W H (.refl _) G
theorem bW.some{W:Wd}:∀{xs:List CD}{vs:List V},bW K W xs vs->cT K W (xs.map some) (vs.map some)
 |_,_,.nil=>.nil
 |_,_,.cons r t=>.cons r (bW.some t)
theorem pZ{W:Wd}:∀n:Nat,cT K W (List.replicate n none) (List.replicate n none)
 |0=>.nil
 |n+1=>.cons True.intro (pZ n)
theorem Def.okM{P:Program}{w:World}{mg:Str->Option Value}{base:Heap}{x:Str}{st:Stmt}{N ps:List Str}{k:Nat}{b:SF}{q:Bool}(D:Def K mg x st)(S:aT N ps (aG st))
 (hb:∀(kV doc pm:Value)(an:Option Addr)(cdv ct:Value)(us:List Value),us.length=ps.length->bindArgs (PySem.W.fnOf x x (dJ st) (bO st) (aG st) .none kV doc pm an cdv ct) ⟨us,[]⟩=pure (ps.zip us))
 (hbody:∀(f:Addr)(cdv:Value)(A:Around)(outer:List Env)(s:Shared)(H:Hp)(E:XK),cM k (A.deeper (envOfC x (aG st) s.heap.objs.size f cdv)) q->
  ∃t,PSs (pP CX0 P w K mg base N x (aG st) f cdv A outer s H E q).nox (bO st) t/\SS K t b):Callee P w K mg base (k+1) x ps (spM K (fnF ps.length N.length b)) q:=by
 have len:∀vs H Q E,spM K (fnF ps.length N.length b) vs H Q E->vs.length=ps.length:=fun vs H Q E h=>by
  obtain⟨xs,M,W,y,M',G,R,hf,_⟩:=h;by_cases hl:xs.length=ps.length
  .rw[<- Paired.len R];exact hl
  .unfold fnF at hf;rw[A5 hl]at hf;cases hf
 refine D.ok S hb len fun f cdv A outer s H vs Q E hr h=>?_;obtain⟨t,hP,hS⟩:=hbody f cdv A outer s H E hr;refine⟨t,hP,?_⟩;obtain⟨xs,M,W,y,M',G,R,hf,k⟩:=h;by_cases hl:xs.length=ps.length
 .unfold fnF at hf;rw[A4 hl]at hf;obtain⟨⟨o,M1⟩,h1,hf⟩:=aI hf
  have hR:cT K W (xs.map some++List.replicate (N.length-xs.length) none) (start N vs):=by
   unfold start;rw[<- Paired.len R];exact Paired.app (bW.some R) (pZ _)
  refine hS _ _ _ _ h1 W H _ _ G hR fun W1 H1 e1 G1=>?_;cases o with
  |rt x=>cases hf;exact fun v r=>k v W1 H1 e1 G1 r
  |nx γ=>cases hf;exact fun σ r=>k .non W1 H1 e1 G1 rfl
  |bk γ=>cases hf
  |ct γ=>cases hf
 .unfold fnF at hf;rw[A5 hl]at hf;cases hf
end
noncomputable def vW(h h':F2):F2:=fun x y M=>match h x y M with
 |some r=>some r
 |none=>h' x y M
noncomputable def pI(g:Int->Int->Option PyData):F2:=fun x y M=>match x,y with
 |.d (.int i),.d (.int j)=>(g i j).bind fun z=>some (.d z,M)
 |_,_=>none
theorem NR{g:Int->Int->Option PyData}{x y:CD}{z:CD}{M':Sto}(h:pI g x y M=some (z,M')):∃i j w,x=.d (.int i)/\y=.d (.int j)/\g i j=some w/\z=.d w/\M'=M:=by
 unfold pI at h;split at h
 .rename_i i j;obtain⟨w,h1,h⟩:=aI h;cases h;exact⟨i,j,w,rfl,rfl,h1,rfl,rfl⟩
 .cases h
section
variable{X:Cx}{K:Fg}
theorem WA{g:Int->Int->Int}:P2 K (rI0 fun i j=>.int (g i j)) (pI fun i j=>some (.int (g i j))):=by
 intro x y M z M' h W H v u Q G rx ry k;obtain⟨i,j,w,rfl,rfl,hw,rfl,rfl⟩:=NR h;cases hw;exact⟨i,j,rx,ry,k _ W H (.refl _) G rfl⟩
theorem HQ{g:Int->Int->Bool}:P2 K (rI0 fun i j=>.bl (g i j)) (pI fun i j=>some (.bool (g i j))):=by
 intro x y M z M' h W H v u Q G rx ry k;obtain⟨i,j,w,rfl,rfl,hw,rfl,rfl⟩:=NR h;cases hw;exact⟨i,j,rx,ry,k _ W H (.refl _) G rfl⟩
noncomputable def ifS(c:Bool)(x:PyData):Option PyData:=if c=true then some x else none
theorem aBk{c:Bool}{x y:PyData}(h:ifS c x=some y):c=true/\y=x:=by
 unfold ifS at h;cases c with
 |true=>rw[A4 rfl]at h;cases h;exact⟨rfl,rfl⟩
 |false=>rw[A5 A7]at h;cases h
theorem VA{C:Int->Int->Prop}{c:Int->Int->Bool}{g:Int->Int->Int}(hc:∀i j,c i j=true->C i j):P2 K (rI C fun i j=>.int (g i j)) (pI fun i j=>ifS (c i j) (.int (g i j))):=by
 intro x y M z M' h W H v u Q G rx ry k;obtain⟨i,j,w,rfl,rfl,hw,rfl,rfl⟩:=NR h;obtain⟨h1,rfl⟩:=aBk hw;exact⟨i,j,rx,ry,hc i j h1,k _ W H (.refl _) G rfl⟩
noncomputable def ZQ:F2:=pI fun i j=>some (.int (i+j))
noncomputable def rH:F2:=pI fun i j=>some (.int (i-j))
noncomputable def kB(i j:Int):Bool:=decide (i.natAbs<2 ^ 64) || decide (j.natAbs<2 ^ 64) || (decide (i.natAbs<sF)&&decide (j.natAbs<sF))
noncomputable def uW:F2:=pI fun i j=>ifS (kB i j) (.int (i*j))
noncomputable def rT(_ j:Int):Bool:=decide (0<j)&&decide (j.natAbs<sF)
noncomputable def bS:F2:=pI fun i j=>ifS (rT i j) (.int (i / j))
noncomputable def mF(_ j:Int):Bool:=decide (0<j)
noncomputable def bD:F2:=pI fun i j=>ifS (mF i j) (.int (i % j))
noncomputable def VT(i j:Int):Bool:=decide (0<=j)&&decide (j<=1000000)&&decide (i.natAbs<2 ^ 64)
noncomputable def qW:F2:=pI fun i j=>ifS (VT i j) (.int (i ^ j.toNat))
theorem mulOk_of{i j:Int}(h:kB i j=true):BY i j:=by
 unfold kB at h;simp only[Bool.or_eq_true,Bool.and_eq_true,decide_eq_true_eq]at h;rcases h with(h|h)|h
 .exact .inl (.inl ⟨by omega,by omega⟩)
 .exact .inl (.inr ⟨by omega,by omega⟩)
 .exact .inr h
noncomputable def ltI:F2:=pI fun i j=>some (.bool (decide (i<j)))
noncomputable def leI:F2:=pI fun i j=>some (.bool (decide (i<=j)))
noncomputable def gtI:F2:=pI fun i j=>some (.bool (decide (j<i)))
noncomputable def geI:F2:=pI fun i j=>some (.bool (decide (j<=i)))
noncomputable def eqD(neg:Bool):F2:=fun x y M=>match x,y with
 |.d a,.d b=>if (SeqAt.shaped a&&SeqAt.shaped b)=true then some (.d (.bool (if neg then !PyData.eqv a b else PyData.eqv a b)),M)else none
 |_,_=>none
theorem WX{neg:Bool}:P2 K (FF K neg) (eqD neg):=by
 intro x y M z M' h W H v u Q G rx ry k;unfold eqD at h;split at h
 .rename_i a b;by_cases hs:(SeqAt.shaped a&&SeqAt.shaped b)=true
  .rw[A4 hs]at h;cases h;rw[B0]at hs;exact⟨a,b,Rep.same G.fh _ _ rx,Rep.same G.fh _ _ ry,hs.1,hs.2,k _ W H (.refl _) G rfl⟩
  .rw[A5 hs]at h;cases h
 .cases h
theorem aJ.nth{ds:List PyData}{vs:List V}{i:Nat}{d:PyData}(h:aJ K H ds vs)(e:ds[i]?=some d):∃v,vs[i]?=some v/\Rep K H d v:=by
 have hlt:i<vs.length:=by rw[<- h.length];exact(List.getElem?_eq_some_iff.mp e).1
 have hv:vs[i]?=some vs[i]:=B9 hlt;obtain⟨d',hd',r⟩:=h.get hv;rw[e]at hd';cases hd';exact⟨_,hv,r⟩
theorem FL{α:Type}{xs:List α}{i:Int}{x:α}(h:atI xs i=some x):∃j,ixN xs.length i=some j/\xs[j]?=some x:=by
 unfold atI at h;exact aI h
theorem zB{α:Type}{xs:List α}{i:Int}{j:Nat}{x:α}(h:ixN xs.length i=some j)(e:xs[j]?=some x):atI xs i=some x:=by
 unfold atI;rw[h];exact e
noncomputable def ixF:F2:=fun x y M=>match x,y with
 |.d a,.d (.int n)=>(bG a).bind fun ds=>(atI ds n).bind fun e=>some (.d e,M)
 |.c i,.d (.int n)=>match M[i]? with
  |some (.lst xs)=>(atI xs n).bind fun e=>some (e,M)
  |_=>none
 |.t xs,.d (.int n)=>(atI xs n).bind fun e=>some (cdA e,M)
 |_,_=>none
theorem Good.lstAt{i:Nat}{xs:List CD}(G:Good K W M H)(h:M[i]?=some (.lst xs)):∃vs,H (W.α i)=some (.lst vs)/\bW K W xs vs:=by
 obtain⟨_,o,h2,h3⟩:=G.cs i _ h (by intro z;cases z);cases o with
 |lst vs=>exact⟨vs,h2,h3⟩
 |_=>exact False.elim h3
theorem aBN:P2 K (rIx K) ixF:=by
 intro x y M z M' h W H v u Q G rx ry k;unfold ixF at h;split at h
 .rename_i a n;obtain⟨ds,h1,h⟩:=aI h;obtain⟨e,h2,h⟩:=aI h;cases h;obtain⟨p,vs,rfl,hq,hr⟩:=nG (Rep.same G.fh _ _ rx) h1;obtain⟨j,hj,he⟩:=FL h2;obtain⟨w,hw,rw'⟩:=hr.nth he;have hlen:=hr.length;have hat:atI vs n=some w:=zB (by rw[<- hlen];exact hj) hw;obtain⟨p',vs',e',hq',hr'⟩:=nG (show Rep K W.F a (.ref p)from rx) h1;cases e'
  have same:∀w',vs'[j]?=some w'->Rep K W.F e w':=fun w' hw'=>by
   obtain⟨w2,h3,h4⟩:=hr'.nth he;rw[hw']at h3;cases h3;exact h4
  obtain⟨w',hw',r'⟩:=hr'.nth he;have hat':atI vs' n=some w':=zB (by rw[<- hr'.length];exact hj) hw';rcases hq' with hq'|hq'
  .exact .inl ⟨p,vs',n,w',rfl,ry,G.fh.seq hq',hat',k _ W H (.refl _) G r'⟩
  .exact .inr (.inl ⟨p,vs',n,w',rfl,ry,G.fh.seqT hq',hat',k _ W H (.refl _) G r'⟩)
 .rename_i i n;split at h
  .rename_i xs hx;obtain⟨e,h2,h⟩:=aI h;cases h;obtain⟨vs,hv,hr⟩:=G.lstAt hx;obtain⟨j,hj,he⟩:=FL h2;obtain⟨w,hw,r'⟩:=Paired.get hr he;have hat:atI vs n=some w:=zB (by rw[<- Paired.len hr];exact hj) hw;rw[show v=.ref (W.α i)from rx.2];exact .inl ⟨_,vs,n,w,rfl,ry,SqL.of hv,hat,k _ W H (.refl _) G r'⟩
  .cases h
 .rename_i xs n;obtain⟨e,h2,h⟩:=aI h;cases h;obtain⟨a,vs,rfl,hv,hr⟩:=rx;obtain⟨j,hj,he⟩:=FL h2;obtain⟨w,hw,r'⟩:=Paired.get hr he;have hat:atI vs n=some w:=zB (by rw[<- Paired.len hr];exact hj) hw;exact .inr (.inl ⟨_,vs,n,w,rfl,ry,SqT.of (G.fh _ _ hv),hat,k _ W H (.refl _) G (by cases e<;>exact r')⟩)
 .cases h
noncomputable def BQ:FN:=fun xs M=>match xs with
 |[.d a]=>(bG a).bind fun ds=>some (.d (.int ds.length),M)
 |[.c i]=>match M[i]? with
  |some (.lst ys)=>some (.d (.int ys.length),M)
  |_=>none
 |[.t xs]=>some (.d (.int xs.length),M)
 |_=>none
theorem XY:PN K (fun xs H Q=>∃p ys,xs=[.ref p]/\(SqL K H p ys\/SqT K H p ys)/\Q (.int ys.length) H) BQ:=by
 intro xs M z M' h W H vs Q G r k;unfold BQ at h;split at h
 .rename_i a;obtain⟨ds,h1,h⟩:=aI h;cases h;rcases r with _|⟨r1,_|_⟩;obtain⟨p,us,rfl,hq,hr⟩:=nG (Rep.same G.fh _ _ r1) h1;refine⟨p,us,rfl,hq,?_⟩;rw[<- hr.length];exact k _ W H (.refl _) G rfl
 .rename_i i;split at h
  .rename_i ys hy;cases h;rcases r with _|⟨r1,_|_⟩;obtain⟨us,hv,hr⟩:=G.lstAt hy;rw[r1.2];refine⟨_,us,rfl,.inl (SqL.of hv),?_⟩;rw[<- Paired.len hr];exact k _ W H (.refl _) G rfl
  .cases h
 .rename_i xs;cases h;rcases r with _|⟨r1,_|_⟩;obtain⟨a,us,rfl,hv,hr⟩:=r1;refine⟨_,us,rfl,.inr (SqT.of (G.fh _ _ hv)),?_⟩;rw[<- Paired.len hr];exact k _ W H (.refl _) G rfl
 .cases h
noncomputable def listF:FN:=fun xs M=>match xs with
 |[.d a]=>(bG a).bind fun ds=>some (.d (.list ds),M)
 |[.c i]=>match M[i]? with
  |some (.lst ys)=>(iS ys).bind fun ds=>some (.d (.list ds),M)
  |_=>none
 |_=>none
noncomputable def cJ:FN:=fun xs M=>match xs with
 |[.d (.list ds)]=>some (.d (.tuple ds),M)
 |[.d (.tuple ds)]=>some (.d (.tuple ds),M)
 |[.c i]=>match M[i]? with
  |some (.lst ys)=>(iS ys).bind fun ds=>some (.d (.tuple ds),M)
  |_=>none
 |_=>none
theorem OE:PN K (fun xs H Q=>∃p ys,xs=[.ref p]/\((SqL K H p ys/\∀l,H l=none->Q (.ref l) (upd H l (.tup ys)))\/(SqT K H p ys/\Q (.ref p) H))) cJ:=by
 intro xs M z M' h W H vs Q G r k;unfold cJ at h;split at h
 .rename_i ds;cases h;rcases r with _|⟨r1,_|_⟩;obtain⟨p,us,rfl,hq,hr⟩:=(show ∃a us,_=V.ref a/\SqL K W.F a us/\aJ K W.F ds us from r1);refine⟨p,us,rfl,.inl ⟨G.fh.seq hq,fun l hl=>?_⟩⟩;obtain⟨e2,G2⟩:=G.lay (o:=.tup us) hl;exact k _ _ _ e2 G2 ⟨l,us,rfl,SqT.of aU,aJ.same e2.ff _ _ hr⟩
 .rename_i ds;cases h;rcases r with _|⟨r1,_|_⟩;obtain⟨p,us,rfl,hq,hr⟩:=(show ∃a us,_=V.ref a/\SqT K W.F a us/\aJ K W.F ds us from r1);exact⟨p,us,rfl,.inr ⟨G.fh.seqT hq,k _ W H (.refl _) G ⟨p,us,rfl,hq,hr⟩⟩⟩
 .rename_i i;split at h
  .rename_i ys hy;obtain⟨ds,h1,h⟩:=aI h;cases h;rcases r with _|⟨r1,_|_⟩;obtain⟨us,hv,hr⟩:=G.lstAt hy;rw[r1.2];refine⟨_,us,rfl,.inl ⟨SqL.of hv,fun l hl=>?_⟩⟩;obtain⟨e2,G2⟩:=G.lay (o:=.tup us) hl;exact k _ _ _ e2 G2 ⟨l,us,rfl,SqT.of aU,aJ.same e2.ff _ _ (fN h1 hr)⟩
  .cases h
 .cases h
noncomputable def sS(T:String)(f:EF):EF:=fun γ M=>(f γ M).bind fun r=>match r.1 with
 |.d a=>some (.d (.bool (uZ T a)),r.2)
 |_=>none
theorem aAc{T:String}{ta:TE}{f:EF}(hT:T∈asked)(a:SE K ta f):SE K (tCB (ZT K) (rX ta (rX (tC (.ty T)) QF))) (sS T f):=by
 intro γ M x M' hh W H σ Q G R k;obtain⟨⟨y,M1⟩,h1,hh⟩:=aI hh;cases y with
 |c _=>cases hh
 |t _=>cases hh
 |f _=>cases hh
 |g _=>cases hh
 |d y=>
  cases hh;refine a _ _ _ _ h1 W H σ _ G R fun v W1 H1 e1 G1 r1=>?_;exact⟨v,T,y,rfl,hT,Rep.same G1.fh _ _ r1,k _ W1 H1 e1 G1 rfl⟩
noncomputable def FY(T U:String)(f:EF):EF:=fun γ M=>(f γ M).bind fun r=>match r.1 with
 |.d a=>some (.d (.bool (uZ T a || uZ U a)),r.2)
 |_=>none
theorem RL{T U:String}{ta:TE}{f:EF}(hT:T∈asked)(hU:U∈asked)(a:SE K ta f):SE K (tCB (NI K) (rX ta (rX (UM (rX (tC (.ty T)) (rX (tC (.ty U)) QF))) QF))) (FY T U f):=by
 intro γ M x M' hh W H σ Q G R k;obtain⟨⟨y,M1⟩,h1,hh⟩:=aI hh;cases y with
 |c _=>cases hh
 |t _=>cases hh
 |f _=>cases hh
 |g _=>cases hh
 |d y=>
  cases hh;refine a _ _ _ _ h1 W H σ _ G R fun v W1 H1 e1 G1 r1=>?_;refine⟨by show 2<=sizeLine;decide,fun p hp=>?_⟩;obtain⟨e2,G2⟩:=G1.lay (o:=.tup [.ty T,.ty U]) hp;refine⟨v,p,[T,U],y,rfl,aU,fun S hS=>?_,Rep.same (e2.ff.trans G2.fh) _ _ r1,?_⟩
  .rcases List.mem_cons.mp hS with rfl|hS
   .exact hT
   .rw[List.mem_singleton.mp hS];exact hU
  .have e:([T,U].any fun T=>uZ T y)=(uZ T y || uZ U y):=by simp
   rw[e];exact k _ _ _ (e1.trans e2) G2 rfl
noncomputable def UI(M:Sto):CD->Option Bool
 |.d .none=>some false
 |.d (.bool b)=>some b
 |.d (.int i)=>some (i != 0)
 |.d (.list ds)=>some (!ds.isEmpty)
 |.d (.tuple ds)=>some (!ds.isEmpty)
 |.c i=>match M[i]? with
  |some (.lst xs)=>some (!xs.isEmpty)
  |some (.dk kvs)=>some (!kvs.isEmpty)
  |_=>none
 |_=>none
noncomputable def FP(f:EF):TF:=fun γ M=>(f γ M).bind fun r=>(UI r.2 r.1).bind fun b=>some (b,r.2)
theorem jH{α β:Type}{xs:List α}{ys:List β}(h:xs.length=ys.length):xs.isEmpty=ys.isEmpty:=by
 cases xs<;>cases ys<;>simp at h ⊢
theorem ZL{ta:TE}{f:EF}(a:SE K ta f):STt K (fun σ H Q=>ta σ H fun x H'=>∃k,SU K x H' k/\Q k H') (FP f):=by
 intro γ M b M' hh W H σ Q G R k;obtain⟨⟨y,M1⟩,h1,hh⟩:=aI hh;obtain⟨b1,h2,hh⟩:=aI hh;cases hh;refine a _ _ _ _ h1 W H σ _ G R fun v W1 H1 e1 G1 r1=>⟨_,?_,k W1 H1 e1 G1⟩;cases y with
 |d y=>
  cases y with
  |none=>cases h2;rw[show v=.non from r1];rfl
  |bool c=>cases h2;rw[show v=.bl _ from r1];rfl
  |int i=>cases h2;rw[show v=.int _ from r1];rfl
  |str x=>cases h2
  |list ds=>
   cases h2;obtain⟨p,us,rfl,hq,hr⟩:=(show ∃a us,_=V.ref a/\SqL K W1.F a us/\aJ K W1.F ds us from r1);exact .inl ⟨us,G1.fh.seq hq,by rw[jH hr.length]⟩
  |tuple ds=>
   cases h2;obtain⟨p,us,rfl,hq,hr⟩:=(show ∃a us,_=V.ref a/\SqT K W1.F a us/\aJ K W1.F ds us from r1);exact .inr (.inl ⟨us,G1.fh.seqT hq,by rw[jH hr.length]⟩)
  |dict kvs=>cases h2
 |t _=>cases h2
 |f _=>cases h2
 |g _=>cases h2
 |c i=>
  rw[r1.2];unfold UI at h2;dsimp only at h2;split at h2
  .rename_i xs hx;cases h2;obtain⟨us,hv,hr⟩:=G1.lstAt hx;exact .inl ⟨us,SqL.of hv,by rw[jH (Paired.len hr)]⟩
  .rename_i kvs hx;cases h2;obtain⟨_,o,g2,g3⟩:=G1.cs i _ hx (by intro z;cases z);cases o with
   |dK us=>exact .inr (.inr ⟨us,g2,by rw[jH (Paired.len g3)]⟩)
   |_=>exact False.elim g3
  .cases h2
noncomputable def yN:F3:=fun x y z M=>match x,y with
 |.c i,.d (.int k)=>match M[i]? with
  |some (.lst xs)=>(ixN xs.length k).bind fun j=>some (M.set i (.lst (xs.set j z)))
  |_=>none
 |_,_=>none
theorem ZY:P3 K VU yN:=by
 intro x y z M M' h W H v u w Q G rx ry rz k;unfold yN at h;split at h
 .rename_i i n;split at h
  .rename_i xs hx;obtain⟨j,h1,h⟩:=aI h;cases h;obtain⟨us,hv,hr⟩:=G.lstAt hx;refine⟨W.α i,us,n,j,rx.2,ry,hv,by rw[<- Paired.len hr];exact h1,?_⟩;exact k W _ (.refl _) (G.set hx (by intro q;cases q) (c':=.lst (xs.set j z)) (show bW K W _ _ from Paired.set (R:=bU K W) rz j hr))
  .cases h
 .cases h
end
section
variable{X:Cx}{K:Fg}
noncomputable def NK(K:Fg):R2:=fun x y H Q=>∃l b xs zs,x=.ref l/\y=.ref b/\SqL K H l xs/\SqL K H b zs/\xs.length+zs.length<=sizeLine/\∀p,H p=none->Q (.ref p) (upd H p (.lst (xs++zs)))
theorem op_catS:OpR X (binaryOp .Add) (NK X.K):=by
 intro pins s σ H x y v u Q I rx ry h;obtain⟨l,b,xs,zs,rfl,rfl,hH,hB,hz,q⟩:=h;cases rx;cases ry;obtain⟨its,r,⟨⟨cls,dd,data,sl⟩,n,ho,hc,hdd,hd⟩,_⟩:=I.list hH;obtain⟨its2,r2,⟨⟨cls2,dd2,data2,sl2⟩,n2,ho2,hc2,hdd2,hd2⟩,_⟩:=I.list hB;simp only at hc hd hc2 hd2;subst hc hd hc2 hd2;have e1:=r.length;have e2:=r2.length;refine concat_meets ⟨_,ho,rfl⟩ ⟨_,ho2,rfl⟩ noFill_list_add seq_list_add PySem.F.slot_list_add PySem.F.entry_list_add (PySem.F.args_list_add_2 _ _) (list_addW l b its.toArray its2.toArray n n2 dd dd2 sl sl2 (by rw[B7,B7];omega)) ⟨ho,ho2,?_⟩;have ea:its.toArray++its2.toArray=(its++its2).toArray:=by simp
 rw[ea];exact⟨.ref _,_,I.lnew (t':=s.toks) (r.append r2) (by rw[B8];omega),rfl,q _ I.fresh⟩
noncomputable def HG(M:Sto):CD->Option (List CD)
 |.d (.list ds)=>some (ds.map .d)
 |.c i=>match M[i]? with
  |some (.lst xs)=>some xs
  |_=>none
 |_=>none
theorem wX{x:CD}{xs:List CD}{v:V}(G:Good K W M H)(h:HG M x=some xs)(r:bU K W x v):∃p vs,v=.ref p/\SqL K H p vs/\bW K W xs vs:=by
 unfold HG at h;split at h
 .rename_i ds;cases h;obtain⟨p,us,rfl,hq,hr⟩:=(show ∃a us,_=V.ref a/\SqL K W.F a us/\aJ K W.F ds us from r);exact⟨p,us,rfl,G.fh.seq hq,gH hr⟩
 .rename_i i;split at h
  .rename_i ys hy;cases h;obtain⟨us,hv,hr⟩:=G.lstAt hy;exact⟨_,us,r.2,SqL.of hv,hr⟩
  .cases h
 .cases h
noncomputable def YN:F2:=fun x y M=>(HG M x).bind fun xs=>(HG M y).bind fun ys=>(iS (xs++ys)).bind fun ds=>if ds.length<=sizeLine then some (.d (.list ds),M)else none
theorem UF:P2 K (NK K) YN:=by
 intro x y M z M' h W H v u Q G rx ry k;obtain⟨xs,h1,h⟩:=aI h;obtain⟨ys,h2,h⟩:=aI h;obtain⟨ds,h3,h⟩:=aI h;by_cases hl:ds.length<=sizeLine
 .rw[A4 hl]at h;cases h;obtain⟨p,vs,rfl,hp,hr⟩:=wX G h1 rx;obtain⟨q,us,rfl,hq,hs⟩:=wX G h2 ry;have el:=CW h3;rw[B8]at el;refine⟨p,q,vs,us,rfl,rfl,hp,hq,by rw[<- Paired.len hr,<- Paired.len hs];omega,fun l hl=>?_⟩;obtain⟨e2,G2⟩:=G.lay (o:=.lst (vs++us)) hl;exact k _ _ _ e2 G2 ⟨l,_,rfl,SqL.of aU,aJ.same e2.ff _ _ (fN h3 (Paired.app hr hs))⟩
 .rw[A5 hl]at h;cases h
noncomputable def YB:F2:=fun x y M=>match x,y with
 |.d (.tuple xs),.d (.tuple ys)=>if xs≠[]/\xs.length+ys.length<=sizeLine then some (.d (.tuple (xs++ys)),M)else none
 |_,_=>none
theorem aJ.nil_iff{ds:List PyData}{vs:List V}(r:aJ K H ds vs):vs=[]↔ds=[]:=by
 have:=r.length;constructor<;>intro h<;>subst h<;>simp at this
 .exact this
 .exact List.eq_nil_of_length_eq_zero this.symm
theorem TL:P2 K (QJ K) YB:=by
 intro x y M z M' h W H v u Q G rx ry k;unfold YB at h;split at h
 .rename_i xs ys;by_cases hc:xs≠[]/\xs.length+ys.length<=sizeLine
  .rw[A4 hc]at h;cases h;obtain⟨p,vs,rfl,hp,hr⟩:=(show ∃a us,v=V.ref a/\SqT K W.F a us/\aJ K W.F xs us from rx);obtain⟨q,us,rfl,hq,hs⟩:=(show ∃a us,u=V.ref a/\SqT K W.F a us/\aJ K W.F ys us from ry);refine⟨p,q,vs,us,rfl,rfl,G.fh.seqT hp,G.fh.seqT hq,fun z=>hc.1 (hr.nil_iff.mp z),by rw[<- hr.length,<- hs.length];exact hc.2,fun z=>?_,fun z l hl=>?_⟩
   .have:ys=[]:=hs.nil_iff.mp z;subst this;rw[J4]at k;exact k _ W H (.refl _) G ⟨p,vs,rfl,hp,hr⟩
   .obtain⟨e2,G2⟩:=G.lay (o:=.tup (vs++us)) hl;exact k _ _ _ e2 G2 ⟨l,_,rfl,SqT.of aU,aJ.same e2.ff _ _ (aJ.app hr hs)⟩
  .rw[A5 hc]at h;cases h
 .cases h
theorem P2.or{r r':R2}{h h':F2}(a:P2 K r h)(b:P2 K r' h'):P2 K (fun x y H Q=>r x y H Q\/r' x y H Q) (vW h h'):=by
 intro x y M z M' hh W H v u Q G rv ru k;unfold vW at hh;cases e:h x y M with
 |some q=>
  rw[e]at hh;cases hh;exact .inl (a _ _ _ _ _ e W H v u Q G rv ru k)
 |none=>
  rw[e]at hh;exact .inr (b _ _ _ _ _ hh W H v u Q G rv ru k)
noncomputable def FE(K:Fg):R2:=fun x y H Q=>∃a b ys,x=.ref a/\y=.ref b/\SqT K H a []/\SqT K H b ys/\Q (.ref b) H
theorem op_catT0:OpR X (binaryOp .Add) (FE X.K):=by
 intro pins s σ H x y v u Q I rx ry h;obtain⟨a,b,ys,rfl,rfl,ha,hb,q⟩:=h;cases rx;cases ry;obtain⟨its,r1,⟨⟨cls,dd,data,sl⟩,ho,hc,n,hd⟩,_⟩:=I.tuple ha;obtain⟨its2,r2,⟨⟨cls2,dd2,data2,sl2⟩,ho2,hc2,n2,hd2⟩,_⟩:=I.tuple hb;simp only at hc hd hc2 hd2;subst hc hd hc2 hd2;cases r1;exact concat_meets ⟨_,ho,rfl⟩ ⟨_,ho2,rfl⟩ noFill_tuple_add seq_tuple_add PySem.F.slot_tuple_add PySem.F.entry_tuple_add (PySem.F.args_tuple_add_2 _ _) (tuple_addW0 a b #[] its2.toArray n n2 dd dd2 sl sl2 rfl) ⟨ho,ho2,⟨.ref b,H,I,rfl,q⟩⟩
noncomputable def LX:F2:=fun x y M=>match x,y with
 |.d (.tuple []),.d (.tuple ys)=>some (.d (.tuple ys),M)
 |_,_=>none
theorem LW:P2 K (FE K) LX:=by
 intro x y M z M' h W H v u Q G rx ry k;unfold LX at h;split at h
 .rename_i ys;cases h;obtain⟨p,vs,rfl,hp,hr⟩:=(show ∃a us,v=V.ref a/\SqT K W.F a us/\aJ K W.F [] us from rx);obtain⟨q,us,rfl,hq,hs⟩:=(show ∃a us,u=V.ref a/\SqT K W.F a us/\aJ K W.F ys us from ry);rw[show vs=[]from hr]at hp;exact⟨p,q,us,rfl,rfl,G.fh.seqT hp,G.fh.seqT hq,k _ W H (.refl _) G ⟨q,us,rfl,hq,hs⟩⟩
 .cases h
noncomputable def dM:F2:=vW ZQ (vW YN (vW LX YB))
noncomputable def LM(K:Fg):R2:=fun x y H Q=>(rI0 fun i j=>.int (i+j)) x y H Q\/NK K x y H Q\/FE K x y H Q\/QJ K x y H Q
theorem TU:OpR X (binaryOp .Add) (LM X.K):=op_add.or (op_catS.or (op_catT0.or UP))
theorem GA:P2 K (LM K) dM:=P2.or WA (P2.or UF (P2.or LW TL))
noncomputable def eqS(neg:Bool):F2:=fun x y M=>match x,y with
 |.d (.str a),.d (.str b)=>some (.d (.bool (if neg then !(a==b)else a==b)),M)
 |_,_=>none
noncomputable def eqX(neg:Bool):F2:=vW (eqS neg) (eqD neg)
noncomputable def XJ(K:Fg):R2:=fun x y H Q=>rEq x y H Q\/FF K false x y H Q
noncomputable def aBb(K:Fg):R2:=fun x y H Q=>rNe x y H Q\/FF K true x y H Q
theorem PY{a b:Str}:decide (V.str a=V.str b)=(a==b):=by
 by_cases e:a=b
 .subst e;simp
 .have h:¬V.str a=V.str b:=fun q=>e (V.str.inj q);rw[C6 h,beq_eq_false_iff_ne.mpr e]
theorem aAo:P2 K rEq (eqS false):=by
 intro x y M z M' h W H v u Q G rx ry k;unfold eqS at h;split at h
 .rename_i a b;cases h;rw[show v=.str a from rx,show u=.str b from ry];refine⟨rfl,?_⟩;rw[PY];exact k _ W H (.refl _) G rfl
 .cases h
theorem aAS:P2 K rNe (eqS true):=by
 intro x y M z M' h W H v u Q G rx ry k;unfold eqS at h;split at h
 .rename_i a b;cases h;rw[show v=.str a from rx,show u=.str b from ry];refine⟨rfl,?_⟩;rw[PY];exact k _ W H (.refl _) G rfl
 .cases h
theorem OJ:P2 K (XJ K) (eqX false):=P2.or aAo WX
theorem aAY:P2 K (aBb K) (eqX true):=P2.or aAS WX
theorem aAy(hu:X.A.units+64<cLine):OpR X (compareOp .Eq) (XJ X.K):=op_eq.or (NN hu)
theorem aAn(hu:X.A.units+64<cLine):OpR X (compareOp .NotEq) (aBb X.K):=op_ne.or (YJ hu)
theorem aAW:P2 K (rI0 fun i j=>.int (i-j)) rH:=WA
theorem ZW:P2 K (rI BY fun i j=>.int (i*j)) uW:=VA fun _ _ h=>mulOk_of h
theorem UY:P2 K (rI WM fun i j=>.int (i / j)) bS:=VA fun i j h=>by
 unfold rT at h;rw[B0]at h;exact⟨C3 h.1,C3 (p:=j.natAbs<sF) h.2⟩
theorem YS:P2 K (rI (fun _ j=>0<j) fun i j=>.int (i % j)) bD:=VA fun i j h=>C3 h
theorem aAh:P2 K (rI aCL fun i j=>.int (i ^ j.toNat)) qW:=VA fun i j h=>by
 unfold VT at h;rw[B0,B0]at h;exact⟨C3 h.1.1,C3 h.1.2,C3 h.2⟩
theorem aCd:P2 K (rI0 fun i j=>.bl (decide (i<j))) ltI:=HQ
theorem aCk:P2 K (rI0 fun i j=>.bl (decide (i<=j))) leI:=HQ
theorem aBC:P2 K (rI0 fun i j=>.bl (decide (j<i))) gtI:=HQ
theorem aCM:P2 K (rI0 fun i j=>.bl (decide (j<=i))) geI:=HQ
noncomputable def DU:F1:=fun x M=>match x with
 |.d (.int i)=>some (.d (.int (-i)),M)
 |_=>none
theorem YW:P1 K (rU fun i=>.int (-i)) DU:=by
 intro x M z M' h W H v Q G r k;unfold DU at h;split at h
 .rename_i i;cases h;exact⟨i,r,k _ W H (.refl _) G rfl⟩
 .cases h
end
section
variable{X:Cx}{K:Fg}
theorem aDr(h:X.K=K):fM X (.builtin "isinstance") (ZT K):=by subst h;exact HZ
theorem aCO(h:X.K=K):fM X (.builtin "isinstance") (NI K):=by subst h;exact FO
noncomputable def aBJ(K:Fg):R2:=rIx K
theorem kIx(h:X.K=K):IxR X (aBJ K):=by subst h;exact aAI
theorem aAP:P2 K (aBJ K) ixF:=aBN
noncomputable def WH(K:Fg):List V->Hp->VK->Prop:=fun xs H Q=>∃p ys,xs=[.ref p]/\(SqL K H p ys\/SqT K H p ys)/\Q (.int ys.length) H
theorem aDw(h:X.K=K):fM X (.builtin "len") (WH K):=by subst h;exact yL
theorem TZ:PN K (WH K) BQ:=XY
noncomputable def LV(K:Fg):List V->Hp->VK->Prop:=fun xs H Q=>∃p ys,xs=[.ref p]/\(SqL K H p ys\/SqT K H p ys)/\∀l,H l=none->Q (.ref l) (upd H l (.lst ys))
theorem aCG(h:X.K=K):fM X (.type "list") (LV K):=by subst h;exact yE
noncomputable def HB(K:Fg):List V->Hp->VK->Prop:=fun xs H Q=>∃p ys,xs=[.ref p]/\((SqL K H p ys/\∀l,H l=none->Q (.ref l) (upd H l (.tup ys)))\/(SqT K H p ys/\Q (.ref p) H))
theorem aBh(h:X.K=K):fM X (.type "tuple") (HB K):=by subst h;exact wI
theorem IK:PN K (HB K) cJ:=OE
theorem kEq(h:X.K=K)(hu:X.A.units+64<cLine):OpR X (compareOp .Eq) (XJ K):=by subst h;exact aAy hu
theorem kNe(h:X.K=K)(hu:X.A.units+64<cLine):OpR X (compareOp .NotEq) (aBb K):=by subst h;exact aAn hu
theorem aCE(h:X.K=K):OpR X (binaryOp .Add) (LM K):=by subst h;exact TU
theorem UA{tg l:Expr}{tl:TE}(h:X.K=K)(hl:PE X l tl):PI X tg l (ZP K tl):=by subst h;exact YL hl
theorem GE{es:List Expr}{k:Nat}{t:TGs}{n:Nat}{pos:Pos}(hK:X.K=K)(hc:X.calm=true)(h:PGs X es t)
 (hn:(assignEach es X.env).length=n:=by rfl) (hst:(assignEach es X.env).findIdx? (·.1)=none:=by rfl):PG X (.Tuple es k pos) (SN K n t):=by subst hK;exact aAA hc h hn hst
noncomputable def aBR(K:Fg)(ta:TE):TT:=fun σ H Q=>ta σ H fun x H'=>∃k,SU K x H' k/\Q k H'
theorem RE{a:Expr}{ta:TE}(hK:X.K=K)(ha:PE X a ta)(he:∀whole,isTrue a X.env whole=(do let v <- whole;standAt a.pos;holding [v] (truthy v))):PT X a (aBR K ta):=by subst hK;exact NP ha he
theorem QO{ta:TE}{f:EF}(a:SE K ta f):STt K (aBR K ta) (FP f):=ZL a
end
section
variable{es:List Expr}{env:Env}
theorem eA{a b}:starEach (.Name a b::es) env=(false,eval (.Name a b) env)::starEach es env:=rfl
theorem vF{a b c}:starEach (.Tuple a b c::es) env=(false,eval (.Tuple a b c) env)::starEach es env:=rfl
theorem xT{pos:Pos}:(backTo pos (starEach [] env)).any (·.1)=false:=rfl
theorem pB{pos:Pos}{e:Expr}(hs:starEach (e::es) env=(false,eval e env)::starEach es env)(h:(backTo pos (starEach es env)).any (·.1)=false):(backTo pos (starEach (e::es) env)).any (·.1)=false:=by
 rw[hs];have e1:backTo pos ((false,eval e env)::starEach es env)=(false,(do let v <- eval e env;standAt pos;pure v:Sem Value))::backTo pos (starEach es env)\/(backTo pos ((false,eval e env)::starEach es env)).any (·.1)=(backTo pos (starEach es env)).any (·.1):=.inr (by unfold backTo;simp);rcases e1 with q|q
 .rw[q,L7,h];rfl
 .rw[q];exact h
end
section
variable{P:Program}{w:World}{K:Fg}{mg:Str->Option Value}
theorem Fun.okM{base:Heap}{x:Str}{st:Stmt}{N ps:List Str}{k:Nat}{b:SF}{f:Addr}{fd:FuncData}(F:Fun K x x st f fd)(S:aT N ps (aG st))
 (hbody:∀(f:Addr)(cdv:Value)(A:Around)(outer:List Env)(s:Shared)(H:Hp)(E:XK),cM k (A.deeper (envOfC x (aG st) s.heap.objs.size f cdv))->
  ∃t,PSs (pP CX0 P w K mg base N x (aG st) f cdv A outer s H E).nox (bO st) t/\SS K t b):lB P w K mg base CX0 (k+1) f fd ps (spM K (fnF ps.length N.length b)):=by
 have len:∀vs H Q E,spM K (fnF ps.length N.length b) vs H Q E->vs.length=ps.length:=fun vs H Q E h=>by
  obtain⟨xs,M,W,y,M',G,R,hf,_⟩:=h;by_cases hl:xs.length=ps.length
  .rw[<- Paired.len R];exact hl
  .unfold fnF at hf;rw[A5 hl]at hf;cases hf
 refine F.ok S len fun cdv A outer s H vs Q E hr h=>?_;obtain⟨t,hP,hS⟩:=hbody f cdv A outer s H E hr;refine⟨t,hP,?_⟩;obtain⟨xs,M,W,y,M',G,R,hf,k⟩:=h;by_cases hl:xs.length=ps.length
 .unfold fnF at hf;rw[A4 hl]at hf;obtain⟨⟨o,M1⟩,h1,hf⟩:=aI hf
  have hR:cT K W (xs.map some++List.replicate (N.length-xs.length) none) (start N vs):=by
   unfold start;rw[<- Paired.len R];exact Paired.app (bW.some R) (pZ _)
  refine hS _ _ _ _ h1 W H _ _ G hR fun W1 H1 e1 G1=>?_;cases o with
  |rt x=>cases hf;exact fun v r=>k v W1 H1 e1 G1 r
  |nx γ=>cases hf;exact fun σ r=>k .non W1 H1 e1 G1 rfl
  |bk γ=>cases hf
  |ct γ=>cases hf
 .unfold fnF at hf;rw[A5 hl]at hf;cases hf
theorem Def.okL{x p:Str}{st:Stmt}{N:List Str}{k:Nat}{b:SF}{F:FN}(D:Def K mg x st)(S:aT N [p] (aG st))(hF:F=fnF 1 N.length b)
 (hb:∀(kV doc pm:Value)(an:Option Addr)(cdv ct:Value)(us:List Value),us.length=[p].length->bindArgs (PySem.W.fnOf x x (dJ st) (bO st) (aG st) .none kV doc pm an cdv ct) ⟨us,[]⟩=pure ([p].zip us))
 (hbody:∀(base:Heap)(f:Addr)(cdv:Value)(A:Around)(outer:List Env)(s:Shared)(H:Hp)(E:XK),cM k (A.deeper (envOfC x (aG st) s.heap.objs.size f cdv))->
  ∃t,PSs (pP CX0 P w K mg base N x (aG st) f cdv A outer s H E).nox (bO st) t/\SS K t b):
 ∃f fd,mg x=some (.ref f)/\(∀(s:Shared)(u:Value),BindsTo s fd ⟨[u],[]⟩ [(p,u)])/\∀base,lB P w K mg base CX0 (k+1) f fd [p] (spM K F):=by
 subst hF;obtain⟨f,fd,Fu,m⟩:=D.ex;refine⟨f,fd,m,fun s u=>?_,fun base=>Fu.okM S (hbody base)⟩;obtain⟨oc,od,kV,doc,pm,an,cdv,ct,osl,rfl,lk,hcd⟩:=Fu.ex;exact .of_eq (hb kV doc pm an cdv ct [u] rfl)
theorem CU{H:Hp}:∀ns:List Int,aJ K H (ns.map .int) (ns.map V.int)
 |[]=>rfl
 |n::ns=>⟨.int n,ns.map V.int,rfl,rfl,CU ns⟩
theorem aAg{F:FN}(hF:∀ns:List Int,ns.length<=63->∃M',F [.d (.list (ns.map .int))] []=some (.d (.bool true),M')){a:Addr}{ns:List Int}(hl:ns.length<=63)(hS:SqL K H a (ns.map V.int))(E:XK):
 spM K F [.ref a] H (fun v _=>v=.bl true) E:=by
 obtain⟨M',h⟩:=hF ns hl;refine⟨[.d (.list (ns.map .int))],[],⟨H,fun _=>0,0⟩,_,M',⟨gR.refl H,rfl,fun i c h=>by simp at h,fun i j c c' h=>by simp at h⟩,.cons (show ∃a' vs,V.ref a=.ref a'/\SqL K H a' vs/\aJ K H (ns.map .int) vs from⟨a,ns.map V.int,rfl,hS,CU ns⟩) .nil,h,fun v W' H' _ _ r=>r⟩
theorem law_walk{l:PySem.W.OpenLaw}{q:Program}{loose:List Str}{XP:(Str->Option Value)->Heap->Prop}{YP:World->Heap->Prop}{d:DefRec}{K:Params->Fg}{F:FN}{k:Nat}{p:Str}(hq:PyProof.Rows.importsNone q=true)(hn:l.most=some 63)(hdf:d.params.defaults=[])(hr:cM k callerA)
 (hY:∀(w:World)(h:Heap),YP w h->(K w.params).In h)
 (hT:∀(w:World)(mg:Str->Option Value)(h:Heap),(K w.params).In h->h.Ns mainGlobals mg->∃f fd,mg d.name=some (.ref f)/\(∀(s:Shared)(u:Value),BindsTo s fd ⟨[u],[]⟩ [(p,u)])/\∀base,lB l.prog w (K w.params) mg base CX0 k f fd [p] (spM (K w.params) F))
 (hF:∀ns:List Int,ns.length<=63->∃M',F [.d (.list (ns.map .int))] []=some (.d (.bool true),M')):
 PySem.W.WalkO q loose XP YP l.row.toRowW d [] (fun f vs=>PySem.call f vs):=
 L2.walk_of hq (n:=63) (k:=k) (x:=p) (CX:=fun _=>CX0) (sp:=fun w=>spM (K w.params) F) hn (by decide) hdf hr hY
  (fun w mg fa h KX G hmg=>by
   obtain⟨f,fd,m,hb,hf⟩:=hT w mg h KX G;have e:(some (Value.ref f))=some (.ref fa):=m.symm.trans hmg;cases e;exact⟨fd,hb,fun base _ _=>hf base⟩)
  (fun w H a ns hl _ hS=>aAg hF hl hS _) fun _ _ _ _ _ z=>z
end
noncomputable def UH(e:Expr)(es:List Expr):Prop:=∀env:Env,starEach (e::es) env=(false,eval e env)::starEach es env
noncomputable def GX:List Expr->Prop
 |[]=>True
 |e::es=>UH e es/\GX es
theorem GX.plain:∀{es:List Expr},GX es->∀(env:Env)(pos:Pos),(backTo pos (starEach es env)).any (·.1)=false
 |[]=>fun _ _ _=>rfl
 |_::_=>fun h env pos=>pB (h.1 env) (h.2.plain env pos)
section
variable{ι:Type}
structure ME(K:Fg)(X:ι->Cx)(e:Expr)(f:EF):Prop where
 ex:∃t,(∀i,PE (X i) e t)/\SE K t f
structure MT(K:Fg)(X:ι->Cx)(e:Expr)(f:TF):Prop where
 ex:∃t,(∀i,PT (X i) e t)/\STt K t f
structure MW(K:Fg)(X:ι->Cx)(e:Expr)(f:TF):Prop where
 ex:∃t,(∀i,PW (X i) e t)/\STt K t f
structure MA(K:Fg)(X:ι->Cx)(es:List Expr)(f:AF):Prop where
 ex:∃t,(∀i,PA (X i) es t)/\SA K t f
 st:GX es
structure MG(K:Fg)(X:ι->Cx)(e:Expr)(f:GF):Prop where
 ex:∃t,(∀i,PG (X i) e t)/\SG K t f
structure MGs(K:Fg)(X:ι->Cx)(es:List Expr)(f:GsF):Prop where
 ex:∃t,(∀i,PGs (X i) es t)/\SGs K t f
structure MI(K:Fg)(X:ι->Cx)(tg e:Expr)(f:AF):Prop where
 ex:∃t,(∀i,PI (X i) tg e t)/\SI K t f
structure MF(K:Fg)(X:ι->Cx)(es:List Expr)(f:TF):Prop where
 ex:∃t,(∀i,ER (X i) es t)/\STt K t f
structure MS(K:Fg)(X:ι->Cx)(st:Stmt)(f:SF):Prop where
 ex:∃t,(∀i,PS (X i) st t)/\SS K t f
structure ML(K:Fg)(X:ι->Cx)(st:List Stmt)(f:SF):Prop where
 ex:∃t,(∀i,PSs (X i) st t)/\SS K t f
structure Q2(K:Fg)(X:ι->Cx)(o:Value->Value->Sem Value)(h:F2):Prop where
 ex:∃r,(∀i,OpR (X i) o r)/\P2 K r h
structure Q1(K:Fg)(X:ι->Cx)(o:Value->Sem Value)(h:F1):Prop where
 ex:∃r,(∀i,UnR (X i) o r)/\P1 K r h
structure QN(K:Fg)(X:ι->Cx)(f:Value)(h:FN):Prop where
 ex:∃r,(∀i,fM (X i) f r)/\PN K r h
structure QI(K:Fg)(X:ι->Cx)(h:F2):Prop where
 ex:∃r,(∀i,IxR (X i) r)/\P2 K r h
structure QS(K:Fg)(X:ι->Cx)(h:F3):Prop where
 ex:∃r,(∀i,YR (X i) r)/\P3 K r h
variable{K:Fg}{X:ι->Cx}{a b c e:Expr}{es:List Expr}{f g h:EF}{ft gt:TF}{fa:AF}{pos:Pos}
theorem aC(i:Nat){x:Str}(hN:∀j,(X j).N[i]?=some x:=by intro _;rfl)(hv:∀j,Vis (X j).env.scope x:=by intro _;first|exact Or.inl rfl|exact Or.inr (Or.inl rfl)|exact Or.inr (Or.inr rfl))(hd:(x==("__debug__":Str))=false:=by decide)(hcd:(x==("__classdict__":Str))=false:=by decide):
 ME K X (.Name x pos) (aD i):=⟨_,fun j=>ZR (hN j) (hv j) hd hcd,YF⟩
theorem aE{i:Int}{j:Nat}:ME K X (.Constant (.int i) j pos) (fC (.int i)):=⟨_,fun _=>aAO,OS⟩
theorem AQ{i:Bool}{j:Nat}:ME K X (.Constant (.bool i) j pos) (fC (.bool i)):=⟨_,fun _=>aBV,aCI⟩
theorem bK{i:Str}{j:Nat}:ME K X (.Constant (.str i) j pos) (fC (.str i)):=⟨_,fun _=>aAL,XM⟩
theorem uR{x:Str}{n:Int}(hm:∀i,∃t:Tok,(X i).mg x=some (.int n t))(hg:∀i,Gl (X i) x:=by intro _;rfl)(hd:(x==("__debug__":Str))=false:=by decide):ME K X (.Name x pos) (fC (.int n)):=
 ⟨_,fun i=>SD (v:=.int n) (hg i) (hm i).choose_spec ⟨_,rfl⟩ hd,OS⟩
theorem aP{op:Operator}{k:F2}(q:Q2 K X (binaryOp op) k)(x:ME K X a f)(y:ME K X b g):ME K X (.BinOp a op b pos) (fOp k f g):=by
 obtain⟨r,q1,q2⟩:=q.ex;obtain⟨t,x1,x2⟩:=x.ex;obtain⟨u,y1,y2⟩:=y.ex;exact⟨_,fun i=>aBF (q1 i) (x1 i) (y1 i),HJ q2 x2 y2⟩
theorem aCm{op:UnaryOp}{k:F1}(q:Q1 K X (unaryOp op) k)(x:ME K X a f):ME K X (.UnaryOp op a pos) (fUn k f):=by
 obtain⟨r,q1,q2⟩:=q.ex;obtain⟨t,x1,x2⟩:=x.ex;exact⟨_,fun i=>aBw (q1 i) (x1 i),aBz q2 x2⟩
theorem fG{rest:List Expr}(x:ME K X a f)(y:ME K X (.BoolOp .And (b::rest) pos) g):ME K X (.BoolOp .And (a::b::rest) pos) (kU f g):=by
 obtain⟨t,x1,x2⟩:=x.ex;obtain⟨u,y1,y2⟩:=y.ex;exact⟨_,fun i=>XU (x1 i) (y1 i),aAw x2 y2⟩
theorem jQ{op:BoolOp}(x:ME K X a f):ME K X (.BoolOp op [a] pos) f:=by
 obtain⟨t,x1,x2⟩:=x.ex;exact⟨_,fun i=>YC (x1 i),x2⟩
theorem ZC(x:ME K X a f):ME K X (.UnaryOp .Not a pos) (RN f):=by
 obtain⟨t,x1,x2⟩:=x.ex;exact⟨_,fun i=>XF (x1 i),XX x2⟩
theorem iH{op:CmpOp}{k:F2}(q:Q2 K X (compareOp op) k)(x:ME K X a f)(y:ME K X b g)(hm:behindInMarks op b=false:=by rfl):ME K X (.Compare a [op] [b] pos) (fOp k f g):=by
 obtain⟨r,q1,q2⟩:=q.ex;obtain⟨t,x1,x2⟩:=x.ex;obtain⟨u,y1,y2⟩:=y.ex;exact⟨_,fun i=>RZ (q1 i) (x1 i) (y1 i) hm,HJ q2 x2 y2⟩
theorem ND{op op':CmpOp}{k k':F2}(q:Q2 K X (compareOp op) k)(q':Q2 K X (compareOp op') k')(x:ME K X a f)(y:ME K X b g)(z:ME K X c h)(hm:lastMarks [op,op'] [b,c]=false:=by with_unfolding_all rfl):ME K X (.Compare a [op,op'] [b,c] pos) (zV k k' f g h):=by
 obtain⟨r,q1,q2⟩:=q.ex;obtain⟨r',q1',q2'⟩:=q'.ex;obtain⟨t,x1,x2⟩:=x.ex;obtain⟨u,y1,y2⟩:=y.ex;obtain⟨v,z1,z2⟩:=z.ex;exact⟨_,fun i=>MP (q1 i) (q1' i) (x1 i) (y1 i) (z1 i) hm,PK q2 q2' x2 y2 z2⟩
theorem aBu(x:MT K X c ft)(y:ME K X a f)(z:ME K X b g):ME K X (.IfExp c a b pos) (fIf ft f g):=by
 obtain⟨t,x1,x2⟩:=x.ex;obtain⟨u,y1,y2⟩:=y.ex;obtain⟨v,z1,z2⟩:=z.ex;exact⟨_,fun i=>NW (x1 i) (y1 i) (z1 i),aCq x2 y2 z2⟩
theorem aF:MA K X [] aH:=⟨⟨_,fun _=>zS,aAs⟩,trivial⟩
theorem aA(x:ME K X e f)(y:MA K X es fa)(hs:UH e es:=by intro _;rfl):MA K X (e::es) (aB f fa):=by
 obtain⟨t,x1,x2⟩:=x.ex;obtain⟨u,y1,y2⟩:=y.ex;exact⟨⟨_,fun i=>lK (x1 i) (y1 i) (hs _),UK x2 y2⟩,hs,y.st⟩
theorem eE{k:Nat}(x:MA K X es fa):ME K X (.Tuple es k pos) (gG fa):=by
 obtain⟨t,x1,x2⟩:=x.ex;exact⟨_,fun i=>DR (x1 i),XE x2⟩
theorem dQ(x:MA K X es fa):ME K X (.List es pos) (cK fa):=by
 obtain⟨t,x1,x2⟩:=x.ex;exact⟨_,fun i=>NM (x1 i),ZN x2⟩
theorem AB(x:MA K X es fa):ME K X (.List es pos) (qP fa):=by
 obtain⟨t,x1,x2⟩:=x.ex;exact⟨_,fun i=>NM (x1 i),YI x2⟩
theorem bQ{k:F2}(q:QI K X k)(x:ME K X a f)(y:ME K X b g)(hs:GY b:=by intro _ _;rfl):ME K X (.Subscript a b pos) (fOp k f g):=by
 obtain⟨r,q1,q2⟩:=q.ex;obtain⟨t,x1,x2⟩:=x.ex;obtain⟨u,y1,y2⟩:=y.ex;exact⟨_,fun i=>aBv (q1 i) (x1 i) (y1 i) hs,HJ q2 x2 y2⟩
theorem aQ{k:Nat}{x:Str}{ps:List Str}{F:FN}{p:Pos}{q:Bool}(C:∀i,Callee (X i).prog (X i).w (X i).K (X i).mg (X i).base k x ps (spM K F) q)(hr:∀i,cM k (X i).A q)(y:MA K X (e::es) fa)(hg:∀i,Gl (X i) x:=by intro _;rfl)(hd:(x==("__debug__":Str))=false:=by decide):
 ME K X (.Call (.Name x p) (e::es) [] pos) (aK F fa):=by
 obtain⟨u,y1,y2⟩:=y.ex;exact⟨_,fun i=>aAz (C i) (hr i) (y1 i) (hg i) hd (y.st.1 _) (y.st.2.plain _ _),VJ y2⟩
theorem iG{x:Str}{id:String}{F:FN}{p:Pos}(q:QN K X (.builtin id) F)(hm:∀i,(X i).mg x=none)(hv:bootBuiltins x=some (.builtin id))(y:MA K X (e::es) fa)(hg:∀i,Gl (X i) x:=by intro _;rfl)(hn:x≠"__name__":=by decide)(hd:(x==("__debug__":Str))=false:=by decide):
 ME K X (.Call (.Name x p) (e::es) [] pos) (aK F fa):=by
 obtain⟨r,q1,q2⟩:=q.ex;obtain⟨u,y1,y2⟩:=y.ex;exact⟨_,fun i=>tU (q1 i) (hg i) (hm i) hv (y1 i) hn hd (y.st.1 _) (y.st.2.plain _ _),WQ q2 y2⟩
theorem bX{x:Str}{id:String}{F:FN}{p:Pos}(q:QN K X (.type id) F)(hm:∀i,(X i).mg x=none)(hv:bootBuiltins x=some (.type id))(y:MA K X (e::es) fa)(hg:∀i,Gl (X i) x:=by intro _;rfl)(hn:x≠"__name__":=by decide)(hd:(x==("__debug__":Str))=false:=by decide):
 ME K X (.Call (.Name x p) (e::es) [] pos) (aK F fa):=by
 obtain⟨r,q1,q2⟩:=q.ex;obtain⟨u,y1,y2⟩:=y.ex;exact⟨_,fun i=>KC (q1 i) (hg i) (hm i) hv (y1 i) hn hd (y.st.1 _) (y.st.2.plain _ _),WQ q2 y2⟩
theorem zG{T:String}{y:Str}{p p':Pos}(hK:∀i,(X i).K=K)(hT:T∈asked)(x:ME K X a f)(hs:UH a [.Name y p'])(hm:∀i,(X i).mg "isinstance"=none)(hmy:∀i,(X i).mg y=none)(hb:bootBuiltins y=some (.type T))(hg:∀i,Gl (X i) "isinstance":=by intro _;rfl)(hgy:∀i,Gl (X i) y:=by intro _;rfl)
 (hn:y≠"__name__":=by decide) (hd:(y==("__debug__":Str))=false:=by decide):ME K X (.Call (.Name "isinstance" p) [a,.Name y p'] [] pos) (sS T f):=by
 obtain⟨t,x1,x2⟩:=x.ex;refine⟨_,fun i=>tU (aDr (hK i)) (hg i) (hm i) boot_isinstance (lK (x1 i) (lK (zU (v:=.ty T) (hgy i) (hmy i) hb rfl hn hd) zS eA) (hs _)) (by decide) (by decide) (hs _) (pB eA xT),aAc hT x2⟩
theorem UE{T U:String}{y z:Str}{p p' p'' p3:Pos}{k:Nat}(hK:∀i,(X i).K=K)(hT:T∈asked)(hU:U∈asked)(x:ME K X a f)(hs:UH a [.Tuple [.Name y p',.Name z p''] k p3])(hm:∀i,(X i).mg "isinstance"=none)(hmy:∀i,(X i).mg y=none)(hmz:∀i,(X i).mg z=none)
 (hb:bootBuiltins y=some (.type T)) (hbz:bootBuiltins z=some (.type U)) (hg:∀i,Gl (X i) "isinstance":=by intro _;rfl) (hgy:∀i,Gl (X i) y:=by intro _;rfl) (hgz:∀i,Gl (X i) z:=by intro _;rfl)
 (hn:y≠"__name__":=by decide) (hd:(y==("__debug__":Str))=false:=by decide) (hn':z≠"__name__":=by decide) (hd':(z==("__debug__":Str))=false:=by decide):ME K X (.Call (.Name "isinstance" p) [a,.Tuple [.Name y p',.Name z p''] k p3] [] pos) (FY T U f):=by
 obtain⟨t,x1,x2⟩:=x.ex;refine⟨_,fun i=>tU (aCO (hK i)) (hg i) (hm i) boot_isinstance (lK (x1 i) (lK (DR (lK (zU (v:=.ty T) (hgy i) (hmy i) hb rfl hn hd) (lK (zU (v:=.ty U) (hgz i) (hmz i) hbz rfl hn' hd') zS eA) eA)) zS vF) (hs _)) (by decide) (by decide) (hs _) (pB vF xT),RL hT hU x2⟩
theorem pE(x:MT K X a ft):MT K X (.UnaryOp .Not a pos) (sR ft):=by
 obtain⟨t,x1,x2⟩:=x.ex;exact⟨_,fun i=>aAX (x1 i),YQ x2⟩
theorem uX{rest:List Expr}(x:MT K X a ft)(y:MW K X (.BoolOp .Or (b::rest) pos) gt):MW K X (.BoolOp .Or (a::b::rest) pos) (gOr ft gt):=by
 obtain⟨t,x1,x2⟩:=x.ex;obtain⟨u,y1,y2⟩:=y.ex;exact⟨_,fun i=>aBZ (x1 i) (y1 i),aBm x2 y2⟩
theorem vH(x:MT K X a ft):MW K X (.BoolOp .Or [a] pos) ft:=by
 obtain⟨t,x1,x2⟩:=x.ex;exact⟨_,fun i=>ZF (x1 i),x2⟩
theorem LP(x:MW K X a ft):MT K X a ft:=by
 obtain⟨t,x1,x2⟩:=x.ex;exact⟨_,fun i=>(x1 i).pt,x2⟩
theorem eX{op:CmpOp}{k:F2}(q:Q2 K X (compareOp op) k)(x:ME K X a f)(y:ME K X b g)(hm:behindInMarks op b=false:=by rfl):MT K X (.Compare a [op] [b] pos) (gB (fOp k f g)):=by
 obtain⟨r,q1,q2⟩:=q.ex;obtain⟨t,x1,x2⟩:=x.ex;obtain⟨u,y1,y2⟩:=y.ex;exact⟨_,fun i=>UJ (q1 i) (x1 i) (y1 i) hm,TX (HJ q2 x2 y2)⟩
theorem mV(x:ME K X a f)(he:∀(env:Env)(whole:Sem Value),isTrue a env whole=(do let v <- whole;standAt a.pos;holding [v] (truthy v)):=by intro _ _;rfl):MT K X a (gB f):=by
 obtain⟨t,x1,x2⟩:=x.ex;exact⟨_,fun i=>aBc (x1 i) (he _),XZ x2⟩
theorem XT(hK:∀i,(X i).K=K)(x:ME K X a f)(he:∀(env:Env)(whole:Sem Value),isTrue a env whole=(do let v <- whole;standAt a.pos;holding [v] (truthy v)):=by intro _ _;rfl):MT K X a (FP f):=by
 obtain⟨t,x1,x2⟩:=x.ex;exact⟨_,fun i=>RE (hK i) (x1 i) (he _),QO x2⟩
theorem pU{tg:Expr}{p:Pos}(hm:∀i,(X i).mg "range"=none)(x:MA K X [a] fa)(hg:∀i,Gl (X i) "range":=by intro _;rfl):MI K X tg (.Call (.Name "range" p) [a] [] pos) (fL fa):=by
 obtain⟨t,x1,x2⟩:=x.ex;exact⟨_,fun i=>JN (hg i) (hm i) (x1 i) (x.st.1 _),UO x2⟩
theorem dG{tg:Expr}(hK:∀i,(X i).K=K)(x:ME K X a f):MI K X tg a (aW f):=by
 obtain⟨t,x1,x2⟩:=x.ex;exact⟨_,fun i=>UA (hK i) (x1 i),aAj x2⟩
theorem bA(i:Nat){x:Str}(hN:∀j,(X j).N.Nodup)(hi:∀j,(X j).N[i]?=some x:=by intro _;rfl)(hx:∀j,Loc (X j).env.scope x:=by intro _;first|exact Or.inl rfl|exact Or.inr rfl)(hf:∀j,(X j).fn x=true\/(X j).env.scope.names.lookup x=some .local:=by intro _;first|exact .inl rfl|exact .inr rfl):
 MG K X (.Name x pos) (hName i):=⟨_,fun j=>RQ (hN j) (hi j) (hx j) (hf j),GW⟩
theorem nL:MGs K X [] nR:=⟨_,fun _=>SC,SH⟩
theorem cQ{gf:GF}{gs:GsF}(x:MG K X e gf)(y:MGs K X es gs)(hs:∀env:Env,(assignEach (e::es) env).map (·.2)=assign e env::(assignEach es env).map (·.2):=by intro _;rfl):MGs K X (e::es) (bY gf gs):=by
 obtain⟨t,x1,x2⟩:=x.ex;obtain⟨u,y1,y2⟩:=y.ex;exact⟨_,fun i=>OO (x1 i) (y1 i) (hs _),KW x2 y2⟩
theorem zY{gs:GsF}{k n:Nat}(hK:∀i,(X i).K=K)(hc:∀i,(X i).calm=true)(x:MGs K X es gs)(hn:∀env:Env,(assignEach es env).length=n:=by intro _;rfl)(hst:∀env:Env,(assignEach es env).findIdx? (·.1)=none:=by intro _;rfl):MG K X (.Tuple es k pos) (rG n gs):=by
 obtain⟨t,x1,x2⟩:=x.ex;exact⟨_,fun i=>GE (hK i) (hc i) (x1 i) (hn _) (hst _),LR x2⟩
theorem OC{s:F3}(q:QS K X s)(x:ME K X a f)(y:ME K X b g) (hs:∀(env:Env)(v:Value),assign (.Subscript a b pos) env v=(do
 let ov <- holding [v] (eval a env);let iv <- holding [v,ov] (eval b env)
 standAt pos
 holding [v,ov,iv] (setItem ov iv v)
 release [v,ov,iv] []):=by intro _ _;rfl):MG K X (.Subscript a b pos) (hSub f g s):=by
 obtain⟨r,q1,q2⟩:=q.ex;obtain⟨t,x1,x2⟩:=x.ex;obtain⟨u,y1,y2⟩:=y.ex;exact⟨_,fun i=>aBf (x1 i) (y1 i) (q1 i) (hs _),ZJ q2 x2 y2⟩
theorem eY:MF K X [] fF:=⟨_,fun _=>LI,aAb⟩
theorem OY(x:MT K X c ft):MF K X [c] ft:=by
 obtain⟨t,x1,x2⟩:=x.ex;exact⟨_,fun i=>OR (x1 i),x2⟩
noncomputable abbrev LcI(ι:Type):Type:=ι×Addr×Shared×Hp×List Addr×List (Addr×Obj)
noncomputable def oI(X:ι->Cx)(N':List Str)(scope:Scope):LcI ι->Cx:=fun j=>eP (X j.1) N' scope j.2.1 j.2.2.1 j.2.2.2.1 j.2.2.2.2.1 j.2.2.2.2.2
variable{N':List Str}{cap:List (Option Nat)}{scope:Scope}{tg iter elt:Expr}{ifs:List Expr}{gf:GF}
theorem gX(hc:∀i,(X i).calm=true)(S:∀i,nT (X i) N' cap scope)(x:MI K X tg iter fa)(y:MG K (oI X N' scope) tg gf)(z:MF K (oI X N' scope) ifs ft)(w:ME K (oI X N' scope) elt f)(hs:∀(env:Env)(x:Value),foldedSetIterable iter env x=pure x:=by intro _ _;rfl):
 ME K X (.ListComp elt [⟨tg,iter,ifs,0⟩] scope pos) (fLc cap fa gf ft f):=by
 obtain⟨t,x1,x2⟩:=x.ex;obtain⟨u,y1,y2⟩:=y.ex;obtain⟨v,z1,z2⟩:=z.ex;obtain⟨o,w1,w2⟩:=w.ex;exact⟨_,fun i=>aCn (hc i) (S i) (x1 i) (fun C s H fp pn=>y1 (i,C,s,H,fp,pn)) (fun C s H fp pn=>z1 (i,C,s,H,fp,pn)) (fun C s H fp pn=>w1 (i,C,s,H,fp,pn)) (hs _),aBo x2 y2 z2 w2⟩
variable{st:Stmt}{sts:List Stmt}{sf sg:SF}
theorem gQ:ML K X [] eK:=⟨_,fun _=>UT,TN⟩
theorem aS(x:MS K X st sf):ML K X [st] sf:=by
 obtain⟨t,x1,x2⟩:=x.ex;exact⟨_,fun i=>UU (x1 i),x2⟩
theorem aL(x:MS K X st sf)(y:ML K X sts sg):ML K X (st::sts) (bB sf sg):=by
 obtain⟨t,x1,x2⟩:=x.ex;obtain⟨u,y1,y2⟩:=y.ex;exact⟨_,fun i=>NU (x1 i) (y1 i),XR x2 y2⟩
theorem bF(x:ME K X e f):MS K X (.Return (some e) pos) (cL f):=by
 obtain⟨t,x1,x2⟩:=x.ex;exact⟨_,fun i=>aAN (x1 i),ZK x2⟩
noncomputable def zF:SF:=fun _ _=>none
theorem tS:MS K X st zF:=⟨LL,fun _=>NO,fun _ _ _ _ h=>by cases h⟩
theorem tH(x:ME K X e f)(hs:∀i,swapsWith e none pos.line (X i).env=pure false:=by intro _;rfl):MS K X (.Expr e pos) (oF f):=by
 obtain⟨t,x1,x2⟩:=x.ex;exact⟨_,fun i=>VN (x1 i) (hs i),RS x2⟩
theorem kJ{sts':List Stmt}(x:MT K X c ft)(y:ML K X sts sf)(z:ML K X sts' sg):MS K X (.If c sts sts' pos) (sIf ft sf sg):=by
 obtain⟨t,x1,x2⟩:=x.ex;obtain⟨u,y1,y2⟩:=y.ex;obtain⟨v,z1,z2⟩:=z.ex;exact⟨_,fun i=>aCD (x1 i) (y1 i) (z1 i),aBn x2 y2 z2⟩
theorem CZ(hp:∀i,PassesOwn (model (X i).prog (X i).w) (X i).A (X i).env (X i).xe)(x:MT K X c ft)(y:ML K X sts sf):MS K X (.While c sts [] pos) (pD ft sf):=by
 obtain⟨t,x1,x2⟩:=x.ex;obtain⟨u,y1,y2⟩:=y.ex;exact⟨_,fun i=>NC (hp i) (x1 i) (y1 i),NZ x2 y2⟩
theorem oO(hp:∀i,PassesOwn (model (X i).prog (X i).w) (X i).A (X i).env (X i).xe)(hc:∀i,(X i).calm=true)(x:MI K X tg iter fa)(y:MG K X tg gf)(z:ML K X sts sf)(hs:∀(env:Env)(x:Value),foldedSetIterable iter env x=pure x:=by intro _ _;rfl):MS K X (.For tg iter sts [] pos) (qO fa gf sf):=by
 obtain⟨t,x1,x2⟩:=x.ex;obtain⟨u,y1,y2⟩:=y.ex;obtain⟨v,z1,z2⟩:=z.ex;exact⟨_,fun i=>XH (hp i) (hc i) (x1 i) (y1 i) (z1 i) (hs _),aBa x2 y2 z2⟩
theorem bJ(i:Nat){x':Str}{pos':Pos}(hN:∀j,(X j).N.Nodup)(x:ME K X e f)(hi:∀j,(X j).N[i]?=some x':=by intro _;rfl)(hx:∀j,Loc (X j).env.scope x':=by intro _;first|exact Or.inl rfl|exact Or.inr rfl)(hs:∀j,swapsWith e (some (.Name x' pos')) pos.line (X j).env=pure false:=by intro _;rfl)
 (hf:∀j,(X j).fn x'=true\/(X j).env.scope.names.lookup x'=some .local:=by intro _;first|exact .inl rfl|exact .inr rfl):MS K X (.Assign [.Name x' pos'] e pos) (bI f (hName i)):=by
 obtain⟨t,x1,x2⟩:=x.ex;exact⟨_,fun j=>XW (hN j) (hi j) (hx j) (x1 j) (hs j) (hf j),PH x2 GW⟩
theorem FH(i j:Nat){x' y':Str}{px py pt pt2:Pos}{kt k2:Nat}(hc:∀j,(X j).calm=true)(hN:∀j,(X j).N.Nodup)(x:MA K X [a,b] fa)(hij:i≠j:=by decide)(hi:∀k,(X k).N[i]?=some x':=by intro _;rfl)(hj:∀k,(X k).N[j]?=some y':=by intro _;rfl)(hx:∀k,(X k).env.scope.names.lookup x'=some .local:=by intro _;rfl)(hy:∀k,(X k).env.scope.names.lookup y'=some .local:=by intro _;rfl)
 (h1:∀k,swappedStores [.Tuple [.Name x' px,.Name y' py] kt pt] (.Tuple [a,b] k2 pt2) (X k).env=pure (some [x',y']):=by intro _;rfl) (h2:∀k,swapsWithSole [.Tuple [.Name x' px,.Name y' py] kt pt] (.Tuple [a,b] k2 pt2) pos.line (X k).env=pure false:=by intro _;rfl):
 MS K X (.Assign [.Tuple [.Name x' px,.Name y' py] kt pt] (.Tuple [a,b] k2 pt2) pos) (vY i j fa):=by
 obtain⟨t,x1,x2⟩:=x.ex;exact⟨_,fun k=>aAE (hc k) (hN k) (hi k) (hj k) hij (hx k) (hy k) (x1 k) (h1 k) (h2 k),aAM x2⟩
theorem zN(x:ME K X e f)(y:MG K X tg gf)(h1:∀k,swapsWithSole [tg] e pos.line (X k).env=pure false:=by intro _;rfl)(h2:∀k,swappedStores [tg] e (X k).env=pure none:=by intro _;rfl)(h3:∀env:Env,(assignEach [tg] env).map (·.2)=[assign tg env]:=by intro _;rfl):MS K X (.Assign [tg] e pos) (bI f gf):=by
 obtain⟨t,x1,x2⟩:=x.ex;obtain⟨u,y1,y2⟩:=y.ex;exact⟨_,fun k=>aBd (x1 k) (y1 k) (h1 k) (h2 k) (h3 _),PH x2 y2⟩
theorem jC(hK:∀i,(X i).K=K:=by intro _;rfl):Q2 K X (binaryOp .Add) dM:=⟨_,fun i=>aCE (hK i),GA⟩
theorem AN:Q2 K X (binaryOp .Sub) rH:=⟨_,fun _=>aAa,aAW⟩
theorem wZ:Q2 K X (binaryOp .Mult) uW:=⟨_,fun _=>US,ZW⟩
theorem eV:Q2 K X (binaryOp .FloorDiv) bS:=⟨_,fun _=>OL,UY⟩
theorem cB:Q2 K X (binaryOp .Mod) bD:=⟨_,fun _=>aAl,YS⟩
theorem DC:Q2 K X (binaryOp .Pow) qW:=⟨_,fun _=>aBg,aAh⟩
theorem aBB:Q1 K X (unaryOp .USub) DU:=⟨_,fun _=>aAF,YW⟩
theorem aAC:Q2 K X (compareOp .Lt) ltI:=⟨_,fun _=>aBE,aCd⟩
theorem aBI:Q2 K X (compareOp .LtE) leI:=⟨_,fun _=>aCx,aCk⟩
theorem XQ:Q2 K X (compareOp .Gt) gtI:=⟨_,fun _=>aBP,aBC⟩
theorem aCB:Q2 K X (compareOp .GtE) geI:=⟨_,fun _=>aCF,aCM⟩
theorem yU(hK:∀i,(X i).K=K)(hu:∀i,(X i).A.units+64<cLine):Q2 K X (compareOp .Eq) (eqX false):=⟨_,fun i=>kEq (hK i) (hu i),OJ⟩
theorem BL(hK:∀i,(X i).K=K)(hu:∀i,(X i).A.units+64<cLine):Q2 K X (compareOp .NotEq) (eqX true):=⟨_,fun i=>kNe (hK i) (hu i),aAY⟩
theorem cX(hK:∀i,(X i).K=K:=by intro _;rfl):QI K X ixF:=⟨_,fun i=>kIx (hK i),aAP⟩
theorem VO(hK:∀i,(X i).K=K:=by intro _;rfl):QN K X (.builtin "len") BQ:=⟨_,fun i=>aDw (hK i),TZ⟩
theorem kZ(hK:∀i,(X i).K=K):QN K X (.type "tuple") cJ:=⟨_,fun i=>aBh (hK i),IK⟩
theorem WB:QS K X yN:=⟨_,fun _=>set_list,ZY⟩
end
section
variable{P:Program}{w:World}{K:Fg}{mg:Str->Option Value}
theorem Def.okG{base:Heap}{x:Str}{st:Stmt}{N ps:List Str}{k:Nat}{b:SF}{q:Bool}(D:Def K mg x st)(S:aT N ps (aG st))
 (hb:∀(kV doc pm:Value)(an:Option Addr)(cdv ct:Value)(us:List Value),us.length=ps.length->bindArgs (PySem.W.fnOf x x (dJ st) (bO st) (aG st) .none kV doc pm an cdv ct) ⟨us,[]⟩=pure (ps.zip us))
 (hbody:∀(f:Addr)(cdv:Value)(A:Around)(outer:List Env)(s:Shared)(H:Hp)(E:XK),cM k (A.deeper (envOfC x (aG st) s.heap.objs.size f cdv)) q->
  ML K (fun _:Unit=>(pP CX0 P w K mg base N x (aG st) f cdv A outer s H E q).nox) (bO st) b):Callee P w K mg base (k+1) x ps (spM K (fnF ps.length N.length b)) q:=
 D.okM S hb fun f cdv A outer s H E hr=>by
  obtain⟨t,h1,h2⟩:=(hbody f cdv A outer s H E hr).ex;exact⟨t,h1 (),h2⟩
theorem Def.okLG{x p:Str}{st:Stmt}{N:List Str}{k:Nat}{b:SF}{F:FN}(D:Def K mg x st)(S:aT N [p] (aG st))(hF:F=fnF 1 N.length b)
 (hb:∀(kV doc pm:Value)(an:Option Addr)(cdv ct:Value)(us:List Value),us.length=[p].length->bindArgs (PySem.W.fnOf x x (dJ st) (bO st) (aG st) .none kV doc pm an cdv ct) ⟨us,[]⟩=pure ([p].zip us))
 (hbody:∀(base:Heap)(f:Addr)(cdv:Value)(A:Around)(outer:List Env)(s:Shared)(H:Hp)(E:XK),cM k (A.deeper (envOfC x (aG st) s.heap.objs.size f cdv))->
  ML K (fun _:Unit=>(pP CX0 P w K mg base N x (aG st) f cdv A outer s H E).nox) (bO st) b):
 ∃f fd,mg x=some (.ref f)/\(∀(s:Shared)(u:Value),BindsTo s fd ⟨[u],[]⟩ [(p,u)])/\∀base,lB P w K mg base CX0 (k+1) f fd [p] (spM K F):=
 D.okL S hF hb fun base f cdv A outer s H E hr=>by
  obtain⟨t,h1,h2⟩:=(hbody base f cdv A outer s H E hr).ex;exact⟨t,h1 (),h2⟩
end
end L2
namespace HT
open PySem PyProof.Rows PySem.Spec
end HT
namespace L2
variable{M:Sto}{W:Wd}{H:Hp}{apos cpos:Pos}
open PySem PySem.Spec PyProof.Rows
noncomputable def ZX{α:Type}(xs:List α)(lo hi:Option Int):List α:=(xs.drop (HT.sIx xs.length 0 lo)).take (HT.sIx xs.length xs.length hi-HT.sIx xs.length 0 lo)
noncomputable abbrev OF:=Ga->Sto->Option (Option Int×Sto)
noncomputable def asI:CD->Option Int
 |.d (.int i)=>some i
 |_=>none
noncomputable def xU(f:EF):OF:=fun γ M=>(f γ M).bind fun r=>(asI r.1).bind fun i=>some (some i,r.2)
noncomputable def slF(x:CD)(lo hi:Option Int)(M:Sto):Option (CD×Sto):=match x with
 |.d (.list ds)=>some (.d (.list (ZX ds lo hi)),M)
 |.d (.tuple ds)=>some (.d (.tuple (ZX ds lo hi)),M)
 |.c i=>match M[i]? with
  |some (.lst xs)=>(iS (ZX xs lo hi)).bind fun ds=>some (.d (.list ds),M)
  |_=>none
 |_=>none
section
variable{K:Fg}
noncomputable def SO(K:Fg)(t:TO)(f:OF):Prop:=∀γ M b M',f γ M=some (b,M')->∀(W:Wd)(H:Hp)(σ:St)(Q:Option Int->Hp->Prop),Good K W M H->cT K W γ σ->(∀W' H',W.Ext W'->Good K W' M' H'->Q b H')->t σ H Q
theorem YM{x:CD}{i:Int}(h:asI x=some i):x=.d (.int i):=by
 cases x with
 |c n=>cases h
 |t n=>cases h
 |f n=>cases h
 |g _=>cases h
 |d x=>cases x<;>first|cases h;rfl|cases h
theorem UL{ta:TE}{f:EF}(a:SE K ta f):SO K (VX ta) (xU f):=by
 intro γ M x M' hh W H σ Q G R k;obtain⟨⟨y,M1⟩,h1,hh⟩:=aI hh;obtain⟨i,h2,hh⟩:=aI hh;cases hh;refine a _ _ _ _ h1 W H σ _ G R fun v W1 H1 e1 G1 r1=>?_;have hy:y=_:=YM h2;subst hy;exact⟨i,r1,k W1 H1 e1 G1⟩
theorem DK{α β:Type}{R:α->β->Prop}:∀{xs:List α}{ys:List β}(n:Nat),Paired R xs ys->Paired R (xs.drop n) (ys.drop n)
 |_,_,0,h=>h
 |_,_,_+1,.nil=>.nil
 |_,_,n+1,.cons _ t=>DK n t
theorem tV{α β:Type}{R:α->β->Prop}:∀{xs:List α}{ys:List β}(n:Nat),Paired R xs ys->Paired R (xs.take n) (ys.take n)
 |_,_,0,h=>.nil
 |_,_,_+1,.nil=>.nil
 |_,_,n+1,.cons r t=>.cons r (tV n t)
noncomputable def intF:FN:=fun xs M=>match xs with
 |[.d (.int i)]=>some (.d (.int i),M)
 |[.d (.bool b)]=>some (.d (.int (if b then 1 else 0)),M)
 |_=>none
noncomputable def tyB(T:String)(M:Sto):CD->Bool
 |.d (.list _)=>T=="list"
 |.d (.str _)=>T=="str"
 |.c i=>match M[i]? with
  |some (.lst _)=>T=="list"
  |some (.dk _)=>T=="dict"
  |some (.dt _)=>T=="dict"
  |_=>false
 |_=>false
theorem MY{T:String}{x:CD}{v:V}(h:tyB T M x=true)(G:Good K W M H)(r:bU K W x v):tyV K T v H:=by
 unfold tyB at h;split at h
 .rename_i ds;obtain⟨p,us,rfl,hq,hr⟩:=(show ∃a us,_=V.ref a/\SqL K W.F a us/\aJ K W.F ds us from r);exact .inl ⟨eq_of_beq h,us,G.fh.seq hq⟩
 .rename_i x;rw[show v=.str x from r];exact eq_of_beq h
 .rename_i i;rw[r.2];split at h
  .rename_i xs hx;obtain⟨us,hv,hr⟩:=G.lstAt hx;exact .inl ⟨eq_of_beq h,us,SqL.of hv⟩
  .rename_i kvs hx;obtain⟨_,o,g2,g3⟩:=G.cs i _ hx (by intro z;cases z);cases o with
   |dK us=>exact .inr (.inr (.inl ⟨eq_of_beq h,.inl ⟨us,g2⟩⟩))
   |_=>exact False.elim g3
  .rename_i kvs hx;obtain⟨_,o,g2,g3⟩:=G.cs i _ hx (by intro z;cases z);cases o with
   |dT us=>exact .inr (.inr (.inl ⟨eq_of_beq h,.inr ⟨us,g2⟩⟩))
   |_=>exact False.elim g3
  .cases h
 .cases h
noncomputable abbrev FM:=CD->List CD->Sto->Option (CD×Sto)
noncomputable def aY(T:String)(h:FM)(f:EF)(fa:AF):EF:=fun γ M=>(f γ M).bind fun r=>if tyB T r.2 r.1=true then(fa γ r.2).bind fun q=>h r.1 q.1 q.2 else none
noncomputable def PM(K:Fg)(r:V->List V->Hp->VK->Prop)(f:FM):Prop:=∀x xs M z M',f x xs M=some (z,M')->∀(W:Wd)(H:Hp)(v:V)(vs:List V)(Q:VK),Good K W M H->bU K W x v->bW K W xs vs->(∀w W' H',W.Ext W'->Good K W' M' H'->bU K W' z w->Q w H')->r v vs H Q
theorem HI{T:String}{r:V->List V->Hp->VK->Prop}{h:FM}{ta:TE}{f:EF}{tA:TA}{fa:AF}(p:PM K r h)(a:SE K ta f)(b:SA K tA fa):SE K (tBM K T r ta tA) (aY T h f fa):=by
 intro γ M x M' hh W H σ Q G R k;obtain⟨⟨y,M1⟩,h1,hh⟩:=aI hh;by_cases hT:tyB T M1 y=true
 .have hh:(if tyB T M1 y=true then(fa γ M1).bind fun q=>h y q.1 q.2 else none)=some (x,M'):=hh;rw[A4 hT]at hh;obtain⟨⟨ys,M2⟩,h2,hh⟩:=aI hh;refine a _ _ _ _ h1 W H σ _ G R fun v W1 H1 e1 G1 r1=>⟨MY hT G1 r1,?_⟩;refine b _ _ _ _ h2 W1 H1 σ _ G1 (R.up e1) fun vs W2 H2 e2 G2 r2=>?_;exact p _ _ _ _ _ hh W2 H2 v vs Q G2 (r1.up e2) r2 fun w W3 H3 e3 G3 r3=>k w W3 H3 ((e1.trans e2).trans e3) G3 r3
 .have hh:(if tyB T M1 y=true then(fa γ M1).bind fun q=>h y q.1 q.2 else none)=some (x,M'):=hh;rw[A5 hT]at hh;cases hh
theorem DJ{T:String}{r:V->List V->Hp->VK->Prop}{h:FM}{ta:TE}{f:EF}(p:PM K r h)(a:SE K ta f):SE K (aCf K T r ta) (aY T h f aH):=by
 intro γ M x M' hh W H σ Q G R k;obtain⟨⟨y,M1⟩,h1,hh⟩:=aI hh;have hh:(if tyB T M1 y=true then h y [] M1 else none)=some (x,M'):=hh;by_cases hT:tyB T M1 y=true
 .rw[A4 hT]at hh;refine a _ _ _ _ h1 W H σ _ G R fun v W1 H1 e1 G1 r1=>⟨MY hT G1 r1,?_⟩;exact p _ _ _ _ _ hh W1 H1 v [] Q G1 r1 .nil fun w W3 H3 e3 G3 r3=>k w W3 H3 (e1.trans e3) G3 r3
 .rw[A5 hT]at hh;cases hh
noncomputable def fT:FM:=fun x ys M=>match x,ys with
 |.c i,[y]=>match M[i]? with
  |some (.lst xs)=>if xs.length<sizeLine then some (.d .none,M.set i (.lst (xs++[y])))else none
  |_=>none
 |_,_=>none
theorem JG:PM K HD fT:=by
 intro x ys M z M' h W H v vs Q G rx rs k;unfold fT at h;split at h
 .rename_i i y;split at h
  .rename_i xs hx;by_cases hl:xs.length<sizeLine
   .rw[A4 hl]at h;cases h;obtain⟨us,hv,hr⟩:=G.lstAt hx;rcases rs with _|⟨r1,_|_⟩;refine⟨W.α i,us,_,rx.2,rfl,hv,by rw[<- Paired.len hr];exact hl,?_⟩;exact k _ W _ (.refl _) (G.set hx (by intro q;cases q) (c':=.lst (xs++[y])) (show bW K W _ _ from Paired.app hr (.cons r1 .nil))) rfl
   .rw[A5 hl]at h;cases h
  .cases h
 .cases h
noncomputable def eO:FM:=fun x ys M=>match x,ys with
 |.c i,[]=>match M[i]? with
  |some (.lst xs)=>(xs[xs.length-1]?).bind fun y=>some (y,M.set i (.lst xs.dropLast))
  |_=>none
 |_,_=>none
theorem tM{α β:Type}{R:α->β->Prop}{xs:List α}{ys:List β}(h:Paired R xs ys):Paired R xs.dropLast ys.dropLast:=by
 rw[List.dropLast_eq_take,List.dropLast_eq_take,Paired.len h];exact tV _ h
theorem aAu:PM K aCu eO:=by
 intro x ys M z M' h W H v vs Q G rx rs k;unfold eO at h;split at h
 .rename_i i;split at h
  .rename_i xs hx;obtain⟨y,h1,h⟩:=aI h;cases h;obtain⟨us,hv,hr⟩:=G.lstAt hx;obtain⟨u,hu,ru⟩:=Paired.get hr h1;cases rs;refine⟨W.α i,us,u,rx.2,rfl,hv,by rw[<- Paired.len hr];exact hu,?_⟩;exact k _ W _ (.refl _) (G.set hx (by intro q;cases q) (c':=.lst xs.dropLast) (show bW K W _ _ from tM hr)) ru
  .cases h
 .cases h
end
section
variable{ι:Type}{K:Fg}{X:ι->Cx}{a b c e o:Expr}{es:List Expr}{f g h:EF}{fa:AF}{pos:Pos}
structure MO(K:Fg)(X:ι->Cx)(e:Option Expr)(f:OF):Prop where
 ex:∃t,(∀i,PO (X i) e t)/\SO K t f
theorem SB(x:ME K X e f):MO K X (some e) (xU f):=by
 obtain⟨t,x1,x2⟩:=x.ex;exact⟨_,fun i=>UV (x1 i),UL x2⟩
theorem qI(hK:∀i,(X i).K=K)(x:ME K X o f)(y:MA K X [e] fa)(hb:∀env:Env,attributeBase o "append" env (eval o env)=eval o env:=by intro _;rfl)(hl:(apos.endLine==cpos.line)=true:=by rfl):
 ME K X (.Call (.Attribute o "append" apos) [e] [] cpos) (aY "list" fT f fa):=by
 obtain⟨t,x1,x2⟩:=x.ex;obtain⟨u,y1,y2⟩:=y.ex;refine⟨_,fun i=>?_,HI JG x2 y2⟩;have:=WO PySem.F.plainAttrs_list PySem.F.slot_list_append PySem.F.type_list_append IW (x1 i) (y1 i) (apos:=apos) (cpos:=cpos) (hb _) (by rw[y.st.1];rfl) hl (y.st.1 _) (y.st.2.plain _ _);rw[hK i]at this;exact this
theorem iJ(hK:∀i,(X i).K=K)(x:ME K X o f)(hb:∀env:Env,attributeBase o "pop" env (eval o env)=eval o env:=by intro _;rfl)(hl:(apos.endLine==cpos.line)=true:=by rfl):
 ME K X (.Call (.Attribute o "pop" apos) [] [] cpos) (aY "list" eO f aH):=by
 obtain⟨t,x1,x2⟩:=x.ex;refine⟨_,fun i=>?_,DJ aAu x2⟩;have:=NH PySem.F.plainAttrs_list PySem.F.slot_list_pop PySem.F.type_list_pop aAm (x1 i) (apos:=apos) (cpos:=cpos) (hb _) hl;rw[hK i]at this;exact this
end
noncomputable def WR(K:Fg):List V->Hp->VK->Prop:=fun xs H Q=>∃x d,xs=[x]/\Rep K H d x/\d.showable=true/\d.depth<=64/\d.shown.length<=sizeLine/\Q (.str d.shown) H
theorem aBx{X:Cx}{K:Fg}(hK:X.K=K)(hg:X.A.guards=some [])(hu:X.A.units+200<cLine):fM X (.builtin "repr") (WR K):=by
 subst hK;intro pins s σ H xs us Q I r h;obtain⟨x,d,rfl,hd,hs,hp,hz,q⟩:=h;obtain⟨u,rfl,ru⟩:=vals1 r
 have big:∀a,u=.ref a->wpAny (model X.prog X.w) X.A (call (.builtin "repr") [u]) (EP X pins σ Q) X.xe s:=fun a e=>by
  subst e;obtain⟨as,hr,hn⟩:=Rep.reads' I d x _ hd ru;exact repr_of_reads' hr hs (fun _=>hn) hg (by omega) (fun _ _ e=>e) (fun h' u' tk hk=>⟨.str d.shown,H,I.kept (h':=h') (t':=tk) hk,⟨_,rfl⟩,q⟩) hz
 cases d with
 |none=>
  rw[show x=.non from hd]at ru;cases (show u=Value.none from ru);exact PySem.P.repr_of_none ⟨.str _,H,I.tok _,⟨_,rfl⟩,q⟩
 |bool b=>
  rw[show x=.bl b from hd]at ru;cases (show u=Value.bool b from ru);refine PySem.P.repr_of_bool ⟨.str _,H,I.tok _,⟨_,rfl⟩,?_⟩;cases b<;>exact q
 |int i=>
  rw[show x=.int i from hd]at ru;obtain⟨t,rfl⟩:=(show ∃t,u=Value.int i t from ru);exact PySem.P.repr_of_int (C3 hs) ⟨.str _,H,I.tok _,⟨_,rfl⟩,q⟩
 |str y=>
  rw[show x=.str y from hd]at ru;obtain⟨t,rfl⟩:=(show ∃t,u=Value.str y t from ru);exact PySem.P.repr_of_str ⟨.str _,H,I.tok _,⟨_,rfl⟩,q⟩ hz
 |list ds=>obtain⟨a,vs,e,_,_⟩:=hd;subst e;exact big a ru
 |tuple ds=>obtain⟨a,vs,e,_,_⟩:=hd;subst e;exact big a ru
 |dict ds=>obtain⟨a,vs,e,_,_⟩:=hd;subst e;exact big a ru
noncomputable def nJ(d:PyData):Bool:=d.showable&&decide (d.depth<=64)&&decide (d.shown.length<=sizeLine)
noncomputable def FU:FN:=fun xs M=>match xs with
 |[.d x]=>if nJ x=true then some (.d (.str x.shown),M)else none
 |_=>none
theorem cM.u200{k:Nat}{A:Around}(r:cM k A):A.units+200<cLine:=by have:=r.un;omega
theorem Def.okNone{P:Program}{w:World}{K:Fg}{mg:Str->Option Value}{base:Heap}{x:Str}{st:Stmt}{N ps:List Str}{k:Nat}(D:Def K mg x st)(S:aT N ps (aG st))
 (hb:∀(kV doc pm:Value)(an:Option Addr)(cdv ct:Value)(us:List Value),us.length=ps.length->bindArgs (PySem.W.fnOf x x (dJ st) (bO st) (aG st) .none kV doc pm an cdv ct) ⟨us,[]⟩=pure (ps.zip us)):
 Callee P w K mg base (k+1) x ps (spM K fun _ _=>none):=by
 refine D.ok S hb (fun vs H Q E h=>?_) fun f cdv A outer s H vs Q E hr h=>?_
 .obtain⟨xs,M,W,y,M',G,R,hf,_⟩:=h;cases hf
 .obtain⟨xs,M,W,y,M',G,R,hf,_⟩:=h;cases hf
noncomputable def keyOf:CD->Option Key
 |.d (.int i)=>some (.inl i)
 |.d (.str x)=>some (.inr x)
 |_=>none
section
variable{K:Fg}
theorem IQ{x:CD}{k:Key}{v:V}(h:keyOf x=some k)(r:bU K W x v):v=kV k:=by
 unfold keyOf at h;split at h
 .cases h;exact r
 .cases h;exact r
 .cases h
end
mutual
noncomputable def wt:PyData->Nat
 |.none=>4
 |.bool _=>5
 |.int _=>2000
 |.str x=>(reprText x).length
 |.list xs=>kK xs+3
 |.tuple xs=>kK xs+3
 |.dict kvs=>IG kvs+3
noncomputable def kK:List PyData->Nat
 |[]=>0
 |x::xs=>wt x+2+kK xs
noncomputable def IG:List (PyData×PyData)->Nat
 |[]=>0
 |(k,v)::r=>wt k+wt v+4+IG r
end
mutual
noncomputable def oks:PyData->Bool
 |.none=>true
 |.bool _=>true
 |.int i=>decide (i.natAbs<2 ^ 1900)
 |.str _=>true
 |.list xs=>gO xs
 |.tuple xs=>gO xs
 |.dict kvs=>wN kvs
noncomputable def gO:List PyData->Bool
 |[]=>true
 |x::xs=>oks x&&gO xs
noncomputable def wN:List (PyData×PyData)->Bool
 |[]=>true
 |(k,v)::r=>oks k&&oks v&&wN r
end
theorem AA{i:Int}(h:i.natAbs<2 ^ 1900):i.natAbs.log2<1900:=by
 by_cases h0:i.natAbs=0
 .rw[h0];decide +kernel
 .exact(Nat.log2_lt h0).mpr h
theorem GZ{i:Int}(h:i.natAbs<2 ^ 1900):((toString i:String):Str).length<=2000:=by
 have h1:=int_text_length_le (k:=1900) (by decide) (AA h);show(Str.ofString (toString i)).length<=2000;rw[PySem.ofString_length];omega
mutual
theorem shown_le:∀d:PyData,oks d=true->d.shown.length<=wt d
 |.none=>fun _=>by decide
 |.bool b=>fun _=>by cases b<;>decide
 |.int i=>fun h=>GZ (C3 h)
 |.str x=>fun _=>A9 _
 |.list xs=>fun h=>by
  have:=shownAll_le xs h;have h2:=listText_len_le (PyData.shownAll xs);show(listText (PyData.shownAll xs)).length<=kK xs+3;omega
 |.tuple xs=>fun h=>by
  have:=shownAll_le xs h;have h2:=tupleText_len_le (PyData.shownAll xs);show(tupleText (PyData.shownAll xs)).length<=kK xs+3;omega
 |.dict kvs=>fun h=>by
  have:=shownKv_le kvs h;have h2:=dictText_len_le (PyData.shownKv kvs);show(dictText (PyData.shownKv kvs)).length<=IG kvs+3;omega
theorem shownAll_le:∀xs:List PyData,gO xs=true->((PyData.shownAll xs).map (·.length)).sum+2*(PyData.shownAll xs).length<=kK xs
 |[]=>fun _=>by simp[PyData.shownAll,kK]
 |x::xs=>fun h=>by
  unfold gO at h;rw[B0]at h;have h1:=shown_le x h.1;have h2:=shownAll_le xs h.2;simp only[PyData.shownAll,kK,List.map_cons,List.sum_cons,List.length_cons];omega
theorem shownKv_le:∀kvs:List (PyData×PyData),wN kvs=true->((PyData.shownKv kvs).map (·.length)).sum+2*(PyData.shownKv kvs).length<=IG kvs
 |[]=>fun _=>by simp[PyData.shownKv,IG]
 |(k,v)::r=>fun h=>by
  unfold wN at h;rw[B0,B0]at h;have h1:=shown_le k h.1.1;have h2:=shown_le v h.1.2;have h3:=shownKv_le r h.2
  have e:(PyData.shown k++": "++PyData.shown v).length=(PyData.shown k).length+2+(PyData.shown v).length:=by
   rw[strLen_append,strLen_append];rfl
  simp only[PyData.shownKv,IG,List.map_cons,List.sum_cons,List.length_cons,e];omega
end
mutual
theorem iU:∀d:PyData,oks d=true->d.showable=true
 |.none=>fun _=>rfl
 |.bool _=>fun _=>rfl
 |.int i=>fun h=>by
  have h:i.natAbs<2 ^ 1900:=C3 h;refine C8 ?_;by_cases h0:i.natAbs=0
  .rw[h0];decide +kernel
  .exact F6 ((Nat.log2_lt h0).mpr h) (by decide)
 |.str _=>fun _=>rfl
 |.list xs=>fun h=>showableAll_of xs h
 |.tuple xs=>fun h=>showableAll_of xs h
 |.dict kvs=>fun h=>showableKv_of kvs h
theorem showableAll_of:∀xs:List PyData,gO xs=true->PyData.showableAll xs=true
 |[]=>fun _=>rfl
 |x::xs=>fun h=>by
  unfold gO at h;rw[B0]at h;show(PyData.showable x&&PyData.showableAll xs)=true;rw[iU x h.1,showableAll_of xs h.2];rfl
theorem showableKv_of:∀kvs:List (PyData×PyData),wN kvs=true->PyData.showableKv kvs=true
 |[]=>fun _=>rfl
 |(k,v)::r=>fun h=>by
  unfold wN at h;rw[B0,B0]at h;show(PyData.showable k&&PyData.showable v&&PyData.showableKv r)=true;rw[iU k h.1.1,iU v h.1.2,showableKv_of r h.2];rfl
end
structure Fit(n m:Nat)(d:PyData):Prop where
 ok:oks d=true
 wt:wt d<=n
 dp:d.depth<=m
theorem Fit.shown{n m:Nat}{d:PyData}(f:Fit n m d)(hn:n<=sizeLine:=by decide)(hm:m<=64:=by decide):nJ d=true:=by
 unfold nJ;rw[iU d f.ok,C8 (C4 f.dp hm),C8 (C4 (C4 (shown_le d f.ok) f.wt) hn)];rfl
theorem PZ{n m:Nat}{d:PyData}(f:Fit n m d)(hn:n<=sizeLine:=by decide)(hm:m<=64:=by decide):FU [.d d] M=some (.d (.str d.shown),M):=by
 unfold FU;dsimp only;rw[A4 (f.shown hn hm)]
noncomputable def wF(f:Str)(v:CD):List (Str×CD)->List (Str×CD)
 |[]=>[(f,v)]
 |(g,x)::r=>if g=f then(g,v)::r else(g,x)::wF f v r
section
variable{K:Fg}
theorem AG{W:Wd}{f:Str}{x:CD}{v:V}(r:bU K W x v):∀{fs:List (Str×CD)}{us:List (Str×V)},Paired (fun p q=>p.1=q.1/\bU K W p.2 q.2) fs us->Paired (fun p q=>p.1=q.1/\bU K W p.2 q.2) (wF f x fs) (kQ f v us)
 |_,_,.nil=>.cons ⟨rfl,r⟩ .nil
 |(g,y)::fs,(g',u)::us,.cons h t=>by
  obtain⟨h1,h2⟩:=h;have h1:g=g':=h1;subst h1;unfold wF kQ;by_cases e:g=f
  .rw[A4 e,A4 e];exact .cons ⟨rfl,r⟩ t
  .rw[A5 e,A5 e];exact .cons ⟨rfl,h2⟩ (AG r t)
theorem wK{W:Wd}{f:Str}{x:CD}:∀{fs:List (Str×CD)}{us:List (Str×V)},Paired (fun p q=>p.1=q.1/\bU K W p.2 q.2) fs us->fs.lookup f=some x->∃v,us.lookup f=some v/\bU K W x v
 |_,_,.nil=>fun h=>by cases h
 |(g,y)::fs,(g',u)::us,.cons h t=>fun e=>by
  obtain⟨h1,h2⟩:=h;have h1:g=g':=h1;subst h1;rw[C9]at e ⊢;by_cases q:(f==g)=true
  .rw[q]at e ⊢;cases e;exact⟨u,rfl,h2⟩
  .have q':(f==g)=false:=by simpa using q
   rw[q']at e ⊢;exact wK t e
theorem Good.objAt{i:Nat}{nm:Str}{fs:List (Str×CD)}(G:Good K W M H)(h:M[i]?=some (.obj nm fs)):∃dx us,H (W.α i)=some (.ins (eR K nm) dx us)/\Paired (fun p q=>p.1=q.1/\bU K W p.2 q.2) fs us:=by
 obtain⟨_,o,h2,h3⟩:=G.cs i _ h (by intro z;cases z);cases o with
 |ins C dx us=>
  obtain⟨e,p⟩:=h3;subst e;exact⟨dx,us,h2,p⟩
 |_=>exact False.elim h3
theorem Good.extra(g:Good K W M H){p:Addr}{o:HO}(hp:H p=none):Good K W M (upd H p o):=by
 refine⟨fun b u hb=>?_,g.n,fun i c hi hc=>?_,g.inj⟩
 .have:=g.fh b u hb;rw[aM (aO this hp)];exact this
 .obtain⟨h1,o',h2,h3⟩:=g.cs i c hi hc;exact⟨h1,o',by rw[aM (aO h2 hp)];exact h2,h3⟩
noncomputable def objOf(nm:Str)(M:Sto):CD->Option (Nat×List (Str×CD))
 |.c i=>match M[i]? with
  |some (.obj nm' fs)=>if nm'=nm then some (i,fs)else none
  |_=>none
 |_=>none
theorem CV{nm:Str}{x:CD}{i:Nat}{fs:List (Str×CD)}(h:objOf nm M x=some (i,fs)):x=.c i/\M[i]?=some (.obj nm fs):=by
 unfold objOf at h;split at h
 .rename_i j;split at h
  .rename_i nm' fs' hj;by_cases e:nm'=nm
   .rw[A4 e]at h;cases h;subst e;exact⟨rfl,hj⟩
   .rw[A5 e]at h;cases h
  .cases h
 .cases h
noncomputable def pG(nm f:Str)(e:EF):EF:=fun γ M=>(e γ M).bind fun r=>(objOf nm r.2 r.1).bind fun p=>(p.2.lookup f).bind fun v=>some (v,r.2)
theorem ZE{nm f:Str}{ta:TE}{e:EF}(c:Cls K (eR K nm))(n:fR K (eR K nm) f)(a:SE K ta e):SE K (aBr K ta f) (pG nm f e):=by
 intro γ M x M' hh W H σ Q G R k;obtain⟨⟨y,M1⟩,h1,hh⟩:=aI hh;obtain⟨⟨i,fs⟩,h2,hh⟩:=aI hh;obtain⟨v,h3,hh⟩:=aI hh;cases hh;refine a _ _ _ _ h1 W H σ _ G R fun u W1 H1 e1 G1 r1=>?_;obtain⟨rfl,hM⟩:=CV h2;obtain⟨dx,us,hH,hp⟩:=G1.objAt hM;obtain⟨w,hw,rw'⟩:=wK hp h3;exact⟨W1.α i,_,dx,us,w,r1.2,hH,c,n,hw,k w W1 H1 e1 G1 rw'⟩
noncomputable def xR(nm f:Str)(eo ev:EF):SF:=fun γ M=>(ev γ M).bind fun v=>(eo γ v.2).bind fun o=>(objOf nm o.2 o.1).bind fun p=>if p.2.length<1000 then some (.nx γ,o.2.set p.1 (.obj nm (wF f v.1 p.2)))else none
theorem aBi{nm f:Str}{ta tv:TE}{eo ev:EF}(c:Cls K (eR K nm))(n:fR K (eR K nm) f)(a:SE K ta eo)(b:SE K tv ev):SS K (aCt K ta tv f) (xR nm f eo ev):=by
 intro γ M o M' hh W H σ D G R k;obtain⟨⟨y,M1⟩,h1,hh⟩:=aI hh;obtain⟨⟨z,M2⟩,h2,hh⟩:=aI hh;obtain⟨⟨i,fs⟩,h3,hh⟩:=aI hh;by_cases hl:fs.length<1000
 .have hh:(if fs.length<1000 then some (Out.nx γ,M2.set i (.obj nm (wF f y fs)))else none)=some (o,M'):=hh;rw[A4 hl]at hh;cases hh;refine b _ _ _ _ h1 W H σ _ G R fun v W1 H1 e1 G1 r1=>?_;refine a _ _ _ _ h2 W1 H1 σ _ G1 (R.up e1) fun u W2 H2 e2 G2 r2=>?_;obtain⟨rfl,hM⟩:=CV h3;obtain⟨dx,us,hH,hp⟩:=G2.objAt hM;refine⟨W2.α i,_,dx,us,r2.2,hH,c,n,by rw[<- Paired.len hp];exact hl,?_⟩;exact k W2 _ (e1.trans e2) (G2.set hM (by intro q;cases q) (c':=.obj nm (wF f y fs)) (o':=.ins (eR K nm) dx (kQ f v us)) ⟨rfl,AG (r1.up e2) hp⟩) σ (R.up (e1.trans e2))
 .have hh:(if fs.length<1000 then some (Out.nx γ,M2.set i (.obj nm (wF f y fs)))else none)=some (o,M'):=hh;rw[A5 hl]at hh;cases hh
noncomputable def AW:CD->Bool
 |.d .none=>true
 |_=>false
noncomputable def tX(nm:Str)(h:FN)(fa:AF):EF:=fun γ M=>(fa γ M).bind fun r=>(h (.c r.2.length::r.1) (r.2++[.obj nm []])).bind fun q=>if AW q.1=true then some (.c r.2.length,q.2)else none
theorem LZ{x:CD}(h:AW x=true):x=.d .none:=by
 cases x with
 |c n=>cases h
 |t n=>cases h
 |f n=>cases h
 |g _=>cases h
 |d x=>cases x<;>first|rfl|cases h
theorem RT{nm:Str}{h:FN}{tA:TA}{fa:AF}(b:SA K tA fa):SE K (WG (eR K nm) (spM K h) [] E0 tA) (tX nm h fa):=by
 intro γ M x M' hh W H σ Q G R k;obtain⟨⟨ys,M1⟩,h1,hh⟩:=aI hh;obtain⟨⟨z,M2⟩,h2,hh⟩:=aI hh;by_cases hz:AW z=true
 .have hh:(if AW z=true then some (CD.c M1.length,M2)else none)=some (x,M'):=hh;rw[A4 hz]at hh;cases hh;have hz':=LZ hz;subst hz';refine b _ _ _ _ h1 W H σ _ G R fun vs W1 H1 e1 G1 r1=>?_;intro p dx hp hdx hne;rw[J4];have Ga:=G1.extra (o:=.own p) hdx;have hp':(upd H1 dx (.own p)) p=none:=by rw[aM (F5 hne)];exact hp
  have Gb:=Ga.new hp' (c:=.obj nm []) (o:=.ins (eR K nm) dx []) ⟨rfl,.nil⟩;have e2:=W1.ext_more p;refine⟨.c M1.length::ys,M1++[.obj nm []],W1.more p,.d .none,M',Gb,.cons G1.newV (bW.up r1 e2),h2,fun v W3 H3 e3 G3 r3=>⟨r3,?_⟩⟩;exact k _ W3 H3 ((e1.trans e2).trans e3) G3 (G1.newV.up e3)
 .have hh:(if AW z=true then some (CD.c M1.length,M2)else none)=some (x,M'):=hh;rw[A5 hz]at hh;cases hh
end
structure zX(P:Program)(w:World)(K:Fg)(mg:Str->Option Value)(base:Heap)(k:Nat)(nm:Str)(ps:List Str)(sp:Sp):Prop where
 ex:∃f fd,lB P w K mg base CX0 k f fd ps sp/\Mk K (eR K nm) f/\Binds K fd ps []/\mg nm=some (.ref (eR K nm))
section
variable{ι:Type}{K:Fg}{X:ι->Cx}{a b c e o:Expr}{es:List Expr}{f g h:EF}{fa:AF}{pos:Pos}
theorem DM{nm fl:Str}(hK:∀i,(X i).K=K)(hc:Cls K (eR K nm))(hn:fR K (eR K nm) fl)(x:ME K X o f)(hb:∀env:Env,attributeBase o fl env (eval o env)=eval o env:=by intro _;rfl):ME K X (.Attribute o fl pos) (pG nm fl f):=by
 obtain⟨t,x1,x2⟩:=x.ex;refine⟨_,fun i=>?_,ZE hc hn x2⟩;have:=XI (x1 i) (hb _) (pos:=pos);rw[hK i]at this;exact this
theorem DZ{nm fl:Str}{pos':Pos}(hK:∀i,(X i).K=K)(hc:Cls K (eR K nm))(hn:fR K (eR K nm) fl)(x:ME K X o f)(y:ME K X e g)(hs:∀i,swapsWith e (some (.Attribute o fl pos')) pos.line (X i).env=pure false:=by intro _;rfl):MS K X (.Assign [.Attribute o fl pos'] e pos) (xR nm fl f g):=by
 obtain⟨t,x1,x2⟩:=x.ex;obtain⟨u,y1,y2⟩:=y.ex;refine⟨_,fun i=>?_,aBi hc hn x2 y2⟩;have:=ZG (x1 i) (y1 i) (hs i);rw[hK i]at this;exact this
theorem UX{k:Nat}{nm:Str}{ps:List Str}{F:FN}{p:Pos}(C:∀i,zX (X i).prog (X i).w (X i).K (X i).mg (X i).base k nm ps (spM K F))(hK:∀i,(X i).K=K)(hr:∀i,cM (k+1) (X i).A)(y:MA K X (e::es) fa)(hg:∀i,Gl (X i) nm:=by intro _;rfl)(hd:(nm==("__debug__":Str))=false:=by decide):
 ME K X (.Call (.Name nm p) (e::es) [] pos) (tX nm F fa):=by
 obtain⟨u,y1,y2⟩:=y.ex;refine⟨_,fun i=>?_,RT y2⟩;obtain⟨f,fd,F',M,B,m⟩:=(C i).ex;have:=RR M F' (hr i) (hg i) m B .nil WT (y1 i) hd (y.st.1 _) (y.st.2.plain _ _) (p:=p) (pos:=pos);rw[hK i]at this;exact this
end
structure SM(K:Fg)(nm m qual:Str)(st:Stmt):Prop where
 ex:∃f fd,Fun K m qual st f fd/\PySem.W.findIn K (.ref (eR K nm)) m=some (some (.ref f))/\PySem.W.isFn K (.ref f)=true
section
variable{P:Program}{w:World}{K:Fg}{mg:Str->Option Value}{base:Heap}
theorem Fun.okQ{x qual:Str}{st:Stmt}{N ps:List Str}{k:Nat}{b:SF}{f:Addr}{fd:FuncData}(F:Fun K x qual st f fd)(S:aT N ps (aG st))
 (hbody:∀(f:Addr)(cdv:Value)(A:Around)(outer:List Env)(s:Shared)(H:Hp)(E:XK),cM k (A.deeper (envOfC qual (aG st) s.heap.objs.size f cdv))->
  ML K (fun _:Unit=>(pP CX0 P w K mg base N qual (aG st) f cdv A outer s H E).nox) (bO st) b):lB P w K mg base CX0 (k+1) f fd ps (spM K (fnF ps.length N.length b)):=by
 have len:∀vs H Q E,spM K (fnF ps.length N.length b) vs H Q E->vs.length=ps.length:=fun vs H Q E h=>by
  obtain⟨xs,M,W,y,M',G,R,hf,_⟩:=h;by_cases hl:xs.length=ps.length
  .rw[<- Paired.len R];exact hl
  .unfold fnF at hf;rw[A5 hl]at hf;cases hf
 refine F.ok S len fun cdv A outer s H vs Q E hr h=>?_;obtain⟨t,hP,hS⟩:=(hbody f cdv A outer s H E hr).ex;refine⟨t,hP (),?_⟩;obtain⟨xs,M,W,y,M',G,R,hf,k⟩:=h;by_cases hl:xs.length=ps.length
 .unfold fnF at hf;rw[A4 hl]at hf;obtain⟨⟨o,M1⟩,h1,hf⟩:=aI hf
  have hR:cT K W (xs.map some++List.replicate (N.length-xs.length) none) (start N vs):=by
   unfold start;rw[<- Paired.len R];exact Paired.app (bW.some R) (pZ _)
  refine hS _ _ _ _ h1 W H _ _ G hR fun W1 H1 e1 G1=>?_;cases o with
  |rt x=>cases hf;exact fun v r=>k v W1 H1 e1 G1 r
  |nx γ=>cases hf;exact fun σ r=>k .non W1 H1 e1 G1 rfl
  |bk γ=>cases hf
  |ct γ=>cases hf
 .unfold fnF at hf;rw[A5 hl]at hf;cases hf
theorem SM.okI{nm qual:Str}{st:Stmt}{N ps:List Str}{k:Nat}{b:SF}(D:SM K nm "__init__" qual st)(hm:PySem.W.makesIn K (eR K nm)=true)(hk:PySem.W.keepIn K (.ref (eR K nm))=true)(hg:mg nm=some (.ref (eR K nm)))(S:aT N ps (aG st))
 (hb:∀(kV doc pm:Value)(an:Option Addr)(cdv ct:Value)(us:List Value),us.length=ps.length->bindArgs (PySem.W.fnOf "__init__" qual (dJ st) (bO st) (aG st) .none kV doc pm an cdv ct) ⟨us,[]⟩=pure (ps.zip us))
 (hbody:∀(f:Addr)(cdv:Value)(A:Around)(outer:List Env)(s:Shared)(H:Hp)(E:XK),cM k (A.deeper (envOfC qual (aG st) s.heap.objs.size f cdv))->
  ML K (fun _:Unit=>(pP CX0 P w K mg base N qual (aG st) f cdv A outer s H E).nox) (bO st) b):zX P w K mg base (k+1) nm ps (spM K (fnF ps.length N.length b)):=by
 obtain⟨f,fd,F,h1,h2⟩:=D.ex;exact⟨f,fd,F.okQ S hbody,⟨hm,h1,h2,hk⟩,F.binds hb,hg⟩
end
section
variable{K:Fg}
theorem xW{α β:Type}{R:α->β->Prop}:∀{xs:List α}{ys:List β},Paired R xs ys->Paired R xs.reverse ys.reverse
 |_,_,.nil=>.nil
 |_,_,.cons h t=>by
  rw[F4,F4];exact Paired.app (xW t) (.cons h .nil)
noncomputable def iF:FM:=fun x ys M=>match x,ys with
 |.c i,[]=>match M[i]? with
  |some (.lst xs)=>some (.d .none,M.set i (.lst xs.reverse))
  |_=>none
 |_,_=>none
theorem EH:PM K CL iF:=by
 intro x ys M z M' h W H v vs Q G rx rs k;unfold iF at h;split at h
 .rename_i i;split at h
  .rename_i xs hx;cases h;obtain⟨us,hv,hr⟩:=G.lstAt hx;cases rs;refine⟨W.α i,us,rx.2,rfl,hv,?_⟩;exact k _ W _ (.refl _) (G.set hx (by intro q;cases q) (c':=.lst xs.reverse) (show bW K W _ _ from xW hr)) rfl
  .cases h
 .cases h
noncomputable def aCK:List V->Hp->VK->Prop:=fun xs H Q=>∃i j,xs=[.int i,.int j]/\Q (.int (if j > i then j else i)) H
noncomputable def aBL:List V->Hp->VK->Prop:=fun xs H Q=>∃i j,xs=[.int i,.int j]/\Q (.int (if j<i then j else i)) H
noncomputable def xB:FN:=fun xs M=>match xs with
 |[.d (.int i),.d (.int j)]=>some (.d (.int (if j > i then j else i)),M)
 |_=>none
noncomputable def xH:FN:=fun xs M=>match xs with
 |[.d (.int i),.d (.int j)]=>some (.d (.int (if j<i then j else i)),M)
 |_=>none
theorem QP:PN K aCK xB:=by
 intro xs M z M' h W H vs Q G r k;unfold xB at h;split at h
 .rename_i i j;cases h;rcases r with _|⟨r1,_|⟨r2,_|_⟩⟩;exact⟨i,j,by rw[show _=V.int i from r1,show _=V.int j from r2],k _ W H (.refl _) G rfl⟩
 .cases h
theorem UG:PN K aBL xH:=by
 intro xs M z M' h W H vs Q G r k;unfold xH at h;split at h
 .rename_i i j;cases h;rcases r with _|⟨r1,_|⟨r2,_|_⟩⟩;exact⟨i,j,by rw[show _=V.int i from r1,show _=V.int j from r2],k _ W H (.refl _) G rfl⟩
 .cases h
end
section
variable{ι:Type}{K:Fg}{X:ι->Cx}{a b c e o:Expr}{es:List Expr}{f g h:EF}{fa:AF}{pos:Pos}
theorem YV(hc:∀i,(X i).calm=true):QN K X (.builtin "max") xB:=⟨_,fun i=>IV (hc i),QP⟩
theorem XD(hc:∀i,(X i).calm=true):QN K X (.builtin "min") xH:=⟨_,fun i=>JU (hc i),UG⟩
theorem DW(hK:∀i,(X i).K=K)(x:ME K X o f)(hb:∀env:Env,attributeBase o "reverse" env (eval o env)=eval o env:=by intro _;rfl)(hl:(apos.endLine==cpos.line)=true:=by rfl):
 ME K X (.Call (.Attribute o "reverse" apos) [] [] cpos) (aY "list" iF f aH):=by
 obtain⟨t,x1,x2⟩:=x.ex;refine⟨_,fun i=>?_,DJ EH x2⟩;have:=NH PySem.F.plainAttrs_list PySem.F.slot_list_reverse PySem.F.type_list_reverse EZ (x1 i) (apos:=apos) (cpos:=cpos) (hb _) hl;rw[hK i]at this;exact this
end
open PySem PySem.W PyProof.Rows
noncomputable def KS{α:Type}(lt:Nat->Nat->Bool)(n:Nat):KasT α->(α->Prop)->Prop
 |.ret a,Q=>Q a
 |.ask i j k,Q=>i<n/\j<n/\KS lt n (k (lt i j)) Q
theorem KS.bind{α β:Type}{lt:Nat->Nat->Bool}{n:Nat}{f:α->KasT β}{Q:β->Prop}:∀{t:KasT α},KS lt n t (fun a=>KS lt n (f a) Q)->KS lt n (t.bind f) Q
 |.ret _=>fun h=>h
 |.ask _ _ _=>fun h=>⟨h.1,h.2.1,KS.bind h.2.2⟩
theorem KS.mono{α:Type}{lt:Nat->Nat->Bool}{n:Nat}{Q R:α->Prop}(m:∀a,Q a->R a):∀{t:KasT α},KS lt n t Q->KS lt n t R
 |.ret _=>fun h=>m _ h
 |.ask _ _ _=>fun h=>⟨h.1,h.2.1,KS.mono m h.2.2⟩
theorem KS.wp{α:Type}{lt:Nat->Nat->Bool}{n:Nat}{Q:α->Prop}{R:α->Shared->Prop}{s:Shared}{cmp:Nat->Nat->(Bool->Shared->Prop)->Shared->Prop}
 (hc:∀i j C,i<n->j<n->C (lt i j) s->cmp i j C s) (m:∀a,Q a->R a s):∀{t:KasT α},KS lt n t Q->KasT.kasWp cmp t R s
 |.ret _=>fun h=>m _ h
 |.ask _ _ _=>fun h=>hc _ _ _ h.1 h.2.1 (KS.wp hc m h.2.2)
section
variable{lt:Nat->Nat->Bool}{n:Nat}
structure pR(lt:Nat->Nat->Bool):Prop where
 as:∀a b,lt a b=true->lt b a=false
 tr:∀a b c,lt b a=false->lt c b=false->lt c a=false
theorem pR.up(o:pR lt){a b c:Nat}(h:lt c a=true)(h':lt b a=false):lt c b=true:=by
 cases e:lt c b with
 |true=>rfl
 |false=>rw[o.tr _ _ _ h' e]at h;cases h
noncomputable def Inv2(n:Nat)(p:Array Nat):Prop:=p.Perm (List.range n).toArray
theorem Inv2.sz{p:Array Nat}(h:Inv2 n p):p.size=n:=by
 have:=(Array.perm_iff_toList_perm.mp h).length_eq;simpa using this
theorem Inv2.ent{p:Array Nat}(h:Inv2 n p)(h0:0<n)(k:Nat):p.getD k 0<n:=by
 rw[D4];cases e:p[k]? with
 |none=>exact h0
 |some x=>
  have hm:x∈p:=Array.mem_of_getElem? e;have:=(h.mem_iff (a:=x)).mp hm;simpa using this
noncomputable def fJ(lt:Nat->Nat->Bool)(p:Array Nat)(n:Nat):Prop:=∀i j,i<j->j<n->lt (p.getD j 0) (p.getD i 0)=false
noncomputable def qB(lt:Nat->Nat->Bool)(p:Array Nat)(n:Nat):Prop:=∀i j,i<j->j<n->lt (p.getD i 0) (p.getD j 0)=false
noncomputable def NA(lt:Nat->Nat->Bool)(p:Array Nat)(n q:Nat):Prop:=∀i j,n<=i+q+1->i<j->j<n->lt (p.getD j 0) (p.getD i 0)=false
theorem fJ.ext(o:pR lt){p:Array Nat}{m:Nat}(h:fJ lt p m)(h1:1<=m)(h2:lt (p.getD m 0) (p.getD (m-1) 0)=false):fJ lt p (m+1):=by
 intro i j hij hj;by_cases e:j=m
 .subst e;by_cases e':i=j-1
  .subst e';exact h2
  .exact o.tr _ _ _ (h i (j-1) (by omega) (by omega)) h2
 .exact h i j hij (by omega)
theorem qB.ext(o:pR lt){p:Array Nat}{m:Nat}(h:qB lt p m)(h1:1<=m)(h2:lt (p.getD (m-1) 0) (p.getD m 0)=false):qB lt p (m+1):=by
 intro i j hij hj;by_cases e:j=m
 .subst e;by_cases e':i=j-1
  .subst e';exact h2
  .exact o.tr _ _ _ h2 (h i (j-1) (by omega) (by omega))
 .exact h i j hij (by omega)
theorem EN(o:pR lt){p:Array Nat}(hp:Inv2 n p)(h0:0<n){Q:Nat->Prop}:∀(f m:Nat),1<=m->fJ lt p m->(∀r,m<=r->r<=m+f->fJ lt p r->(r<m+f->lt (p.getD r 0) (p.getD (r-1) 0)=true)->Q r)->KS lt n (kas_asc p f m) Q
 |0=>fun m h1 hs k=>by
  rw[kas_asc.eq_def];exact k m (A9 _) (A9 _) hs (fun h=>absurd h (F7 _))
 |f+1=>fun m h1 hs k=>by
  rw[kas_asc.eq_def];refine⟨hp.ent h0 _,hp.ent h0 _,?_⟩;cases e:lt (p.getD m 0) (p.getD (m-1) 0)with
  |true=>exact k m (A9 _) (by omega) hs (fun _=>e)
  |false=>exact EN o hp h0 f (m+1) (by omega) (hs.ext o h1 e) fun r a b c d=>k r (by omega) (by omega) c (fun z=>d (by omega))
theorem eM{p:Array Nat}(hp:Inv2 n p)(i j:Nat):Inv2 n (kas_rev p i j):=(mirror_perm p i j _).trans hp
theorem nO{p:Array Nat}{i j:Nat}(hj:j<=p.size)(k:Nat):(kas_rev p i j).getD k 0=if i<=k/\k<j then p.getD (i+j-1-k) 0 else p.getD k 0:=by
 rw[D4,show(kas_rev p i j)[k]?=_ from getElem?_mirror_all hj k];by_cases e:i<=k/\k<j
 .rw[A4 e,A4 e,D4]
 .rw[A5 e,A5 e,D4]
theorem CA(o:pR lt){p:Array Nat}{lo hi m:Nat}(hm:m<=p.size)(hh:hi<=m)(d:qB lt p m)(e:∀i j,lo<=i->i<j->j<hi->lt (p.getD j 0) (p.getD i 0)=false):qB lt (kas_rev p lo hi) m:=by
 intro i j hij hj;rw[nO (by omega),nO (by omega)];by_cases a:lo<=i/\i<hi
 .rw[A4 a];by_cases b:lo<=j/\j<hi
  .rw[A4 b];exact e _ _ (by omega) (by omega) (by omega)
  .rw[A5 b];exact d _ _ (by omega) hj
 .rw[A5 a];by_cases b:lo<=j/\j<hi
  .rw[A4 b];exact d _ _ (by omega) (by omega)
  .rw[A5 b];exact d _ _ hij hj
theorem tI(o:pR lt)(h0:0<n){Q:Array Nat×Nat×Nat->Prop}:∀(f:Nat)(p:Array Nat)(m q:Nat),Inv2 n p->1<=m->m+f<=n->qB lt p m->NA lt p m q->q+1<=m->
 (∀p' m' q',Inv2 n p'->m<=m'->m'<=m+f->qB lt p' m'->NA lt p' m' q'->q'+1<=m'->Q (p',m',q'))->KS lt n (kas_desc f p m q) Q
 |0=>fun p m q hp h1 h2 hd he hq k=>by
  rw[kas_desc.eq_def];exact k p m q hp (A9 _) (A9 _) hd he hq
 |f+1=>fun p m q hp h1 h2 hd he hq k=>by
  rw[kas_desc.eq_def];refine⟨hp.ent h0 _,hp.ent h0 _,?_⟩;have hsz:=hp.sz;have e0:∀p':Array Nat,NA lt p' (m+1) 0:=fun p' i j a b c=>by omega
  cases c:lt (p.getD m 0) (p.getD (m-1) 0)with
  |true=>
   have hd1:=hd.ext o h1 (o.as _ _ c);dsimp only;rw[A4 rfl];by_cases hq0:q > 0
   .rw[A4 hq0];exact tI o h0 f _ (m+1) 0 (eM hp _ _) (by omega) (by omega) (CA o (by omega) (by omega) hd1 (fun i j a b d=>he i j (by omega) b (by omega))) (e0 _) (by omega) fun p' m' q' a b c' d e g=>k p' m' q' a (by omega) (by omega) d e g
   .rw[A5 hq0];exact tI o h0 f _ (m+1) 0 hp (by omega) (by omega) hd1 (e0 _) (by omega) fun p' m' q' a b c' d e g=>k p' m' q' a (by omega) (by omega) d e g
  |false=>
   dsimp only;rw[A5 A7];refine⟨hp.ent h0 _,hp.ent h0 _,?_⟩;cases d:lt (p.getD (m-1) 0) (p.getD m 0)with
   |true=>
    dsimp only;rw[A4 rfl];exact k p m q hp (A9 _) (by omega) hd he hq
   |false=>
    dsimp only;rw[A5 A7];refine tI o h0 f p (m+1) (q+1) hp (by omega) (by omega) (hd.ext o h1 d) ?_ (by omega) fun p' m' q' a b c' d e g=>k p' m' q' a (by omega) (by omega) d e g;intro i j a b e;by_cases ej:j=m
    .subst ej;by_cases ei:i=j-1
     .subst ei;exact c
     .exact o.tr _ _ _ (he i (j-1) (by omega) (by omega) (by omega)) c
    .exact he i j (by omega) b (by omega)
noncomputable def Part(lt:Nat->Nat->Bool)(n:Nat)(r:Nat×Array Nat):Prop:=Inv2 n r.2/\1<=r.1/\r.1<=n/\fJ lt r.2 r.1
theorem CB(o:pR lt)(h0:0<n){p:Array Nat}{m:Nat}(hp:Inv2 n p)(h1:1<=m)(h2:m<=n)(hd:qB lt p m):KS lt n (kas_tail3 m n p) (Part lt n):=by
 have hsz:=hp.sz;rw[kas_tail3.eq_def];refine KS.bind (EN o (eM hp 0 m) h0 _ _ h1 ?_ fun r a b c _=>⟨eM hp 0 m,by omega,by omega,c⟩);intro i j hij hj;rw[nO (by omega),nO (by omega),A4 (by omega),A4 (by omega)];exact hd _ _ (by omega) (by omega)
theorem rV(o:pR lt)(h0:0<n){p:Array Nat}{m:Nat}(hp:Inv2 n p)(h2:m+1<=n)(hd:qB lt p (m+1)):KS lt n (kas_descPart m n p) (Part lt n):=by
 rw[kas_descPart.eq_def];refine KS.bind (tI o h0 _ _ _ _ hp (by omega) (by omega) hd (fun i j a b c=>by omega) (by omega) fun p' m' q' a b c d e g=>?_);have hsz:=a.sz;show KS lt n (if q' > 0 then kas_tail3 m' n (kas_rev p' (m'-(q'+1)) m')else kas_tail3 m' n p') _;by_cases hq:q' > 0
 .rw[A4 hq];exact CB o h0 (eM a _ _) (by omega) (by omega) (CA o (by omega) (A9 _) d fun i j x y z=>e i j (by omega) y z)
 .rw[A5 hq];exact CB o h0 a (by omega) (by omega) d
theorem LB(o:pR lt)(h0:0<n){p:Array Nat}(hp:Inv2 n p):KS lt n (kas_count n p) (Part lt n):=by
 have hsz:=hp.sz;rw[kas_count.eq_def];refine KS.bind (EN o hp h0 _ _ (A9 _) (fun i j a b=>by omega) fun r a b c d=>?_);by_cases e:(r==n)=true
 .rw[A4 e];exact⟨hp,a,by omega,c⟩
 .rw[A5 e];have e':r≠n:=by simpa using e
  have hl:=d (by omega);by_cases g:r > 1
  .rw[A4 g];refine⟨hp.ent h0 _,hp.ent h0 _,?_⟩;cases l:lt (p.getD 0 0) (p.getD (r-1) 0)with
   |true=>dsimp only;rw[A4 rfl];exact⟨hp,a,by omega,c⟩
   |false=>
    dsimp only;rw[A5 A7];have le:∀i j,i<=j->j<r->i<j\/i=j:=fun i j x y=>by omega
    have irr:∀x,lt x x=false:=fun x=>by
     cases q:lt x x with
     |false=>rfl
     |true=>rw[o.as _ _ q]at q;cases q
    have up:∀i,i<r->lt (p.getD i 0) (p.getD (r-1) 0)=false:=fun i hi=>by
     have x1:lt (p.getD i 0) (p.getD 0 0)=false:=by
      by_cases z:i=0
      .subst z;exact irr _
      .exact c 0 i (by omega) hi
     exact o.tr _ _ _ l x1
    have dn:∀i,i<r->lt (p.getD (r-1) 0) (p.getD i 0)=false:=fun i hi=>by
     by_cases z:i=r-1
     .subst z;exact irr _
     .exact c i (r-1) (by omega) (by omega)
    have al:∀i j,i<r->j<r->lt (p.getD i 0) (p.getD j 0)=false:=fun i j hi hj=>o.tr _ _ _ (dn j hj) (up i hi);refine rV o h0 (eM hp _ _) (by omega) ?_;intro i j hij hj;rw[nO (by omega),nO (by omega),A4 (by omega)];by_cases z:j<r
    .rw[A4 (by omega)];exact al _ _ (by omega) (by omega)
    .rw[A5 (by omega)];have:j=r:=by omega
     subst this;exact o.tr _ _ _ (o.as _ _ hl) (up _ (by omega))
  .rw[A5 g];have:r=1:=by omega
   subst this;refine rV o h0 hp (by omega) ?_;intro i j hij hj;have:i=0:=by omega
   have:j=1:=by omega
   subst i;subst j;exact o.as _ _ hl
theorem uV(o:pR lt)(h0:0<n){p:Array Nat}(hp:Inv2 n p){k:Nat}(hs:fJ lt p k){Q:Nat->Prop}(q:∀l,l<=k->(∀i,i<l->lt (p.getD k 0) (p.getD i 0)=false)->(∀i,l<=i->i<k->lt (p.getD k 0) (p.getD i 0)=true)->Q l):
 ∀(f l r:Nat),l<=r->r<=k->r-l<=f->(∀i,i<l->lt (p.getD k 0) (p.getD i 0)=false)->(∀i,r<=i->i<k->lt (p.getD k 0) (p.getD i 0)=true)->KS lt n (kas_place p k f l r) Q
 |0=>fun l r h1 h2 h3 a b=>by
  rw[kas_place.eq_def];have:l=r:=by omega
  subst this;exact q l h2 a b
 |f+1=>fun l r h1 h2 h3 a b=>by
  rw[kas_place.eq_def];show KS lt n (if l>=r then _ else _) Q;by_cases g:l>=r
  .rw[A4 g];have:l=r:=by omega
   subst this;exact q l h2 a b
  .rw[A5 g];refine⟨hp.ent h0 _,hp.ent h0 _,?_⟩;cases c:lt (p.getD k 0) (p.getD ((l+r) / 2) 0)with
   |true=>
    dsimp only;rw[A4 rfl];refine uV o h0 hp hs q f _ _ (by omega) (by omega) (by omega) a fun i x y=>?_;by_cases z:i=(l+r) / 2
    .subst z;exact c
    .exact o.up c (hs _ _ (by omega) y)
   |false=>
    dsimp only;rw[A5 A7];refine uV o h0 hp hs q f _ _ (by omega) (by omega) (by omega) (fun i x=>?_) b;by_cases z:i=(l+r) / 2
    .subst z;exact c
    .exact o.tr _ _ _ (hs i ((l+r) / 2) (by omega) (by omega)) c
theorem HU{p:Array Nat}{src d:Nat}(h:src<p.size)(hd:d<=src)(k:Nat):(bubble p src d).getD k 0=if k=src-d then p.getD src 0 else if src-d<k/\k<=src then p.getD (k-1) 0 else p.getD k 0:=by
 rw[D4,getElem?_bubble h d hd k];by_cases e:k=src-d
 .rw[A4 e,A4 e,D4]
 .rw[A5 e,A5 e];by_cases e2:src-d<k/\k<=src
  .rw[A4 e2,A4 e2,D4]
  .rw[A5 e2,A5 e2,D4]
theorem OZ(o:pR lt)(h0:0<n){Q:Array Nat->Prop}(q:∀p,Inv2 n p->fJ lt p n->Q p):∀(f:Nat)(p:Array Nat)(k:Nat),Inv2 n p->k+f=n->fJ lt p k->KS lt n (kas_bin f p k) Q
 |0=>fun p k hp hk hs=>by
  rw[kas_bin.eq_def];have:k=n:=by omega
  subst this;exact q p hp hs
 |f+1=>fun p k hp hk hs=>by
  rw[kas_bin.eq_def];have hsz:=hp.sz;refine KS.bind (uV o h0 hp hs (fun l hl a b=>?_) k 0 k (by omega) (by omega) (by omega) (fun i x=>by omega) (fun i x y=>by omega));refine OZ o h0 q f _ (k+1) ((bubble_perm p k (k-l)).trans hp) (by omega) ?_;intro i j hij hj;rw[HU (by omega) (by omega),HU (by omega) (by omega)];have hkl:k-(k-l)=l:=by omega
  rw[hkl];by_cases j1:j=l
  .rw[A4 j1,A5 (by omega),A5 (by omega)];exact a i (by omega)
  .rw[A5 j1];by_cases j2:l<j/\j<=k
   .rw[A4 j2];by_cases i1:i=l
    .rw[A4 i1];exact o.as _ _ (b _ (by omega) (by omega))
    .rw[A5 i1];by_cases i2:l<i/\i<=k
     .rw[A4 i2];exact hs _ _ (by omega) (by omega)
     .rw[A5 i2];exact hs _ _ (by omega) (by omega)
   .rw[A5 j2,A5 (by omega),A5 (by omega)];exact hs _ _ hij (by omega)
theorem RB(o:pR lt)(h0:0<n):KS lt n (kas_sort n) (fun p=>Inv2 n p/\fJ lt p n):=by
 unfold kas_sort;refine KS.bind (KS.mono (fun r h=>?_) (LB o h0 (p:=(List.range n).toArray) (Array.Perm.refl _)));obtain⟨a,b,c,d⟩:=h;by_cases e:r.fst<n
 .rw[A4 e];have hm:max r.fst 1=r.fst:=by omega
  rw[hm];exact OZ o h0 (fun p x y=>⟨x,y⟩) _ _ _ a (by omega) d
 .rw[A5 e];have:r.fst=n:=by omega
  exact⟨a,this▸d⟩
end
end L2
namespace L2
open PySem PySem.Spec PyProof.Rows
noncomputable def gU:List PyData->Option (List Int)
 |[]=>some []
 |.int n::r=>(gU r).bind fun ns=>some (n::ns)
 |_=>none
theorem qV{h:Heap}:∀{ds:List PyData}{us:List Value}{as:List Addr}{ns:List Int},ReadsAll h us ds as->gU ds=some ns->IntsAre us ns
 |[],_,_,_=>fun r e=>by cases r;cases e;exact .nil
 |d::ds,_,_,_=>fun r e=>by
  cases r with
  |cons r1 r2=>
   cases d with
   |int n=>
    have e:(gU ds).bind (fun ns=>some (n::ns))=some _:=e;obtain⟨ms,h1,h2⟩:=Option.bind_eq_some_iff.mp e;cases h2;cases r1;exact .cons _ _ (qV r2 h1)
   |_=>cases e
noncomputable def eI:PyData->PyData->Option Bool
 |.int a,.int b=>some (decide (a<b))
 |.tuple xs,.tuple ys=>(gU xs).bind fun ns=>(gU ys).bind fun ms=>some (HT.lexLt ns ms)
 |_,_=>none
noncomputable def cO:List PyData->List PyData->Option Bool
 |[],ys=>some (decide (0<ys.length))
 |_::_,[]=>some false
 |x::xs,y::ys=>if PyData.eqv x y=true then cO xs ys else eI x y
noncomputable def isI:PyData->Bool
 |.int _=>true
 |_=>false
section
variable{prog:Program}{w:World}{A:Around}{E:Value->Shared->Prop}{s:Shared}
theorem TK{p q:Value}{x y:PyData}{as bs:List Addr}{c fl:Bool}{Q:Bool->Shared->Prop}(hu:A.units<cLine)(r1:Reads s.heap p x as)(r2:Reads s.heap q y bs)(h:eI x y=some c)(hf:fl=true->isI x=true/\isI y=true)(k:Q c s):
 wpAny (model prog w) A (oneLt' fl p q) Q E s:=by
 unfold eI at h;split at h
 .rename_i a b;cases r1;cases r2;cases h;cases fl with
  |true=>exact oneLt_int k
  |false=>exact PySem.W.kat_one _ _ (lt_int k)
 .rename_i xs ys;obtain⟨ns,h1,h⟩:=Option.bind_eq_some_iff.mp h;obtain⟨ms,h2,h⟩:=Option.bind_eq_some_iff.mp h;cases h;cases fl with
  |true=>exact absurd (hf rfl).1 (by intro z;cases z)
  |false=>
   cases r1 with
   |tuple g1 g2 g3 g4=>
    cases r2 with
    |tuple k1 k2 k3 k4=>
     exact PySem.W.kat_one _ _ (HT.lt_tupInts ⟨_,g1,g2,_,g3⟩ ⟨_,k1,k2,_,k3⟩ (qV g4 h1) (qV k4 h2) hu k)
 .cases h
theorem HL{b fin c:Bool}{Q:Bool->Shared->Prop}(hu:A.units+64<cLine)(k:Q c s):∀(xs ys:List PyData)(us ws:List Value)(as bs:List Addr)(i:Nat),ReadsAll s.heap us xs as->ReadsAll s.heap ws ys bs->xs.all SeqAt.shaped=true->ys.all SeqAt.shaped=true->
 cO xs ys=some c->fin=decide (us.length<ws.length)->((b&&i==0)=true->xs.head?.all isI=true/\ys.head?.all isI=true)->PySem.W.KatLex prog w A b fin Q (us.zip ws) i s
 |[],ys=>fun us ws as bs i r1 r2 s1 s2 h hf hb=>by
  cases r1
  have hl:ws.length=ys.length:=by
   clear k h hf hb s2
   induction r2 using ReadsAll.rec (motive_1:=fun _ _ _ _=>True)with
   |nil=>rfl
   |cons _ _ _ ih=>simp[ih]
   |_=>trivial
  rw[List.zip_nil_left];refine PySem.W.kat_nil ?_;have h:some (decide (0<ys.length))=some c:=h;cases h;rw[hf,hl];exact k
 |x::xs,[]=>fun us ws as bs i r1 r2 s1 s2 h hf hb=>by
  cases r2;rw[List.zip_nil_right];refine PySem.W.kat_nil ?_;cases h;rw[hf];simpa using k
 |x::xs,y::ys=>fun us ws as bs i r1 r2 s1 s2 h hf hb=>by
  cases r1 with
  |cons a1 a2=>
   cases r2 with
   |cons b1 b2=>
    rw[List.all_cons,B0]at s1 s2;rw[List.zip_cons_cons];refine PySem.W.kat_cons ?_;refine SeqAt.eqAt_reads x y A s _ _ _ _ a1 b1 (SeqAt.canLay_of_shaped s1.1) (SeqAt.canLay_of_shaped s2.1) (SeqAt.room_of_shaped s1.1 hu) _ _ _ _ ?_;have h:(if PyData.eqv x y=true then cO xs ys else eI x y)=some c:=h;cases e:PyData.eqv x y with
    |true=>
     rw[e,A4 rfl]at h;refine PySem.W.kat_yes (HL hu k xs ys _ _ _ _ (i+1) a2 b2 s1.2 s2.2 h ?_ (fun z=>?_))
     .rw[hf];simp
     .simp at z
    |false=>
     rw[e,A5 A7]at h;refine PySem.W.kat_no (TK (by omega) a1 b1 h (fun z=>?_) k);have:=hb z;simpa using this
end
open PySem PySem.W PyProof.Rows
noncomputable def II{α:Type}(lt:Nat->Nat->Bool):KasT α->α
 |.ret a=>a
 |.ask i j k=>II lt (k (lt i j))
noncomputable def KA{α:Type}(n:Nat):KasT α->(α->Prop)->Prop
 |.ret a,Q=>Q a
 |.ask i j k,Q=>i<n/\j<n/\∀b,KA n (k b) Q
section
variable{n:Nat}
theorem KA.bind{α β:Type}{f:α->KasT β}{Q:β->Prop}:∀{t:KasT α},KA n t (fun a=>KA n (f a) Q)->KA n (t.bind f) Q
 |.ret _=>fun h=>h
 |.ask _ _ _=>fun h=>⟨h.1,h.2.1,fun b=>KA.bind (h.2.2 b)⟩
theorem KA.ks{α:Type}{lt:Nat->Nat->Bool}{Q:α->Prop}:∀{t:KasT α},KA n t Q->KS lt n t (fun a=>a=II lt t/\Q a)
 |.ret _=>fun h=>⟨rfl,h⟩
 |.ask i j _=>fun h=>⟨h.1,h.2.1,KA.ks (h.2.2 (lt i j))⟩
theorem KS.run{α:Type}{lt:Nat->Nat->Bool}{Q:α->Prop}:∀{t:KasT α},KS lt n t Q->Q (II lt t)
 |.ret _=>fun h=>h
 |.ask i j k=>fun h=>KS.run (t:=k (lt i j)) h.2.2
theorem ES{p:Array Nat}(hp:Inv2 n p)(h0:0<n){Q:Nat->Prop}(q:∀r,Q r):∀(f m:Nat),KA n (kas_asc p f m) Q
 |0=>fun m=>by rw[kas_asc.eq_def];exact q m
 |f+1=>fun m=>by
  rw[kas_asc.eq_def];refine⟨hp.ent h0 _,hp.ent h0 _,fun b=>?_⟩;cases b with
  |true=>exact q m
  |false=>exact ES hp h0 q f (m+1)
theorem sX(h0:0<n){Q:Array Nat×Nat×Nat->Prop}(k:∀p m q,Inv2 n p->Q (p,m,q)):∀(f:Nat)(p:Array Nat)(m q:Nat),Inv2 n p->KA n (kas_desc f p m q) Q
 |0=>fun p m q hp=>by rw[kas_desc.eq_def];exact k p m q hp
 |f+1=>fun p m q hp=>by
  rw[kas_desc.eq_def];refine⟨hp.ent h0 _,hp.ent h0 _,fun b=>?_⟩;cases b with
  |true=>
   dsimp only;rw[A4 rfl];by_cases hq:q > 0
   .rw[A4 hq];exact sX h0 k f _ _ _ (eM hp _ _)
   .rw[A5 hq];exact sX h0 k f _ _ _ hp
  |false=>
   dsimp only;rw[A5 A7];refine⟨hp.ent h0 _,hp.ent h0 _,fun b=>?_⟩;cases b with
   |true=>exact k p m q hp
   |false=>exact sX h0 k f _ _ _ hp
theorem AH(h0:0<n){p:Array Nat}{m:Nat}(hp:Inv2 n p):KA n (kas_tail3 m n p) (fun r=>Inv2 n r.2):=by
 rw[kas_tail3.eq_def];exact KA.bind (ES (eM hp 0 m) h0 (fun r=>eM hp 0 m) _ _)
theorem sL(h0:0<n){p:Array Nat}{m:Nat}(hp:Inv2 n p):KA n (kas_descPart m n p) (fun r=>Inv2 n r.2):=by
 rw[kas_descPart.eq_def];refine KA.bind (sX h0 (fun p' m' q' a=>?_) _ _ _ _ hp);show KA n (if q' > 0 then kas_tail3 m' n (kas_rev p' (m'-(q'+1)) m')else kas_tail3 m' n p') _;by_cases hq:q' > 0
 .rw[A4 hq];exact AH h0 (eM a _ _)
 .rw[A5 hq];exact AH h0 a
theorem KU(h0:0<n){p:Array Nat}(hp:Inv2 n p):KA n (kas_count n p) (fun r=>Inv2 n r.2):=by
 rw[kas_count.eq_def];refine KA.bind (ES hp h0 (fun r=>?_) _ _);by_cases e:(r==n)=true
 .rw[A4 e];exact hp
 .rw[A5 e];by_cases g:r > 1
  .rw[A4 g];refine⟨hp.ent h0 _,hp.ent h0 _,fun b=>?_⟩;cases b with
   |true=>exact hp
   |false=>exact sL h0 (eM hp _ _)
  .rw[A5 g];exact sL h0 hp
theorem uY(h0:0<n){p:Array Nat}(hp:Inv2 n p){k:Nat}{Q:Nat->Prop}(q:∀l,Q l):∀(f l r:Nat),KA n (kas_place p k f l r) Q
 |0=>fun l r=>by rw[kas_place.eq_def];exact q l
 |f+1=>fun l r=>by
  rw[kas_place.eq_def];show KA n (if l>=r then _ else _) Q;by_cases g:l>=r
  .rw[A4 g];exact q l
  .rw[A5 g];refine⟨hp.ent h0 _,hp.ent h0 _,fun b=>?_⟩;cases b with
   |true=>exact uY h0 hp q f _ _
   |false=>exact uY h0 hp q f _ _
theorem OP(h0:0<n):∀(f:Nat)(p:Array Nat)(k:Nat),Inv2 n p->KA n (kas_bin f p k) (Inv2 n)
 |0=>fun p k hp=>by rw[kas_bin.eq_def];exact hp
 |f+1=>fun p k hp=>by
  rw[kas_bin.eq_def];exact KA.bind (uY h0 hp (fun l=>OP h0 f _ (k+1) ((bubble_perm p k (k-l)).trans hp)) k 0 k)
theorem GR(h0:0<n):KA n (kas_sort n) (Inv2 n):=by
 unfold kas_sort;have:=KU h0 (p:=(List.range n).toArray) (Array.Perm.refl _);refine KA.bind ?_
 have mono:∀{α:Type}{Q R:α->Prop}(m:∀a,Q a->R a)(t:KasT α),KA n t Q->KA n t R:=by
  intro α Q R m t
  induction t with
  |ret a=>exact m a
  |ask i j k ih=>exact fun h=>⟨h.1,h.2.1,fun b=>ih b (h.2.2 b)⟩
 refine mono (fun r a=>?_) _ this;by_cases e:r.fst<n
 .rw[A4 e];exact OP h0 _ _ _ a
 .rw[A5 e];exact a
noncomputable def dB(lt:Nat->Nat->Bool)(n:Nat):List Nat:=(II lt (kas_sort n)).toList
theorem mJ(lt:Nat->Nat->Bool)(h0:0<n):(dB lt n).Perm (List.range n):=by
 have:=KS.run (KA.ks (lt:=lt) (GR h0));simpa[dB]using Array.perm_iff_toList_perm.mp this.2
end
end L2
namespace L2
open PySem PySem.Spec PyProof.Rows
mutual
noncomputable def cU:PyData->Bool
 |.int _=>true
 |.tuple xs=>cH xs
 |_=>false
noncomputable def cH:List PyData->Bool
 |[]=>true
 |x::r=>cU x&&cH r
end
mutual
theorem rk{h h':Heap}(k:∀b o vs n,h.get? b=some o->o.data=.seq vs n->h'.get? b=some o):∀(d:PyData)(v:Value)(as:List Addr),cU d=true->Reads h v d as->Reads h' v d as
 |.int n=>fun _ _ _ r=>by cases r;exact .int _ _
 |.tuple xs=>fun _ _ e r=>by
  cases r with
  |tuple a b c d=>exact .tuple (k _ _ _ _ a c) b c (KN k xs _ _ (by unfold cU at e;exact e) d)
 |.none=>fun _ _ e _=>by unfold cU at e;cases e
 |.bool _=>fun _ _ e _=>by unfold cU at e;cases e
 |.str _=>fun _ _ e _=>by unfold cU at e;cases e
 |.list _=>fun _ _ e _=>by unfold cU at e;cases e
 |.dict _=>fun _ _ e _=>by unfold cU at e;cases e
theorem KN{h h':Heap}(k:∀b o vs n,h.get? b=some o->o.data=.seq vs n->h'.get? b=some o):∀(ds:List PyData)(vs:List Value)(as:List Addr),cH ds=true->ReadsAll h vs ds as->ReadsAll h' vs ds as
 |[]=>fun _ _ _ r=>by cases r;exact .nil
 |d::ds=>fun _ _ e r=>by
  cases r with
  |cons a b=>
   unfold cH at e;rw[B0]at e;exact .cons (rk k d _ _ e.1 a) (KN k ds _ _ e.2 b)
end
theorem ReadsAll.at{h:Heap}:∀{ds:List PyData}{vs:List Value}{as:List Addr}(i:Nat),ReadsAll h vs ds as->i<ds.length->∃bs,Reads h (vs.getD i .none) (ds.getD i .none) bs
 |[],_,_,i=>fun _ hi=>absurd hi (Nat.not_lt_zero _)
 |d::ds,_,_,0=>fun r _=>by cases r with|cons a b=>exact⟨_,a⟩
 |d::ds,_,_,i+1=>fun r hi=>by
  cases r with
  |cons a b=>
   obtain⟨bs,x⟩:=ReadsAll.at i b (Nat.lt_of_succ_lt_succ hi);exact⟨bs,x⟩
theorem ReadsAll.len{h:Heap}:∀{ds:List PyData}{vs:List Value}{as:List Addr},ReadsAll h vs ds as->vs.length=ds.length
 |[],_,_=>fun r=>by cases r;rfl
 |d::ds,_,_=>fun r=>by
  cases r with
  |cons a b=>simp[ReadsAll.len b]
section
variable{prog:Program}{w:World}{A:Around}{E:Value->Shared->Prop}{s:Shared}
theorem ZA{b c:Bool}{p q:Value}{xs ys:List PyData}{as bs:List Addr}{Q:Bool->Shared->Prop}(hu:A.units+64<cLine)(r1:Reads s.heap p (.tuple xs) as)(r2:Reads s.heap q (.tuple ys) bs)
 (s1:xs.all SeqAt.shaped=true) (s2:ys.all SeqAt.shaped=true) (h:cO xs ys=some c) (hb:b=true->xs.head?.all isI=true/\ys.head?.all isI=true) (k:Q c s):wpAny (model prog w) A (keyLt' (tuples' b) p q) Q E s:=by
 cases r1 with
 |tuple a1 a2 a3 a4=>
  cases r2 with
  |tuple b1 b2 b3 b4=>
   refine PySem.W.kat_lt a1 a3 b1 b3 (HL hu k xs ys _ _ _ _ 0 a4 b4 s1 s2 h (by simp) (fun z=>hb ?_));simpa using z
noncomputable def jA(rows:List (List PyData)):Bool:=rows.all fun r=>match r with
 |.int _::_=>true
 |_=>false
noncomputable def lZ(rows:List (List PyData)):Bool:=rows.all fun r=>match r with
 |.tuple _::_=>true
 |_=>false
theorem ZI{M:Model}{h:Heap}(n:Int)(t:Tok):PySem.W.Looks M h (typeOf (.int n t)) (.type "int"):=fun A Q E s _ q=>by
 show wpAny M A (pure _) Q E s;exact A6 q
theorem firstsI{h:Heap}:∀{rows:List (List PyData)}{vs:List Value}{as:List Addr},ReadsAll h vs (rows.map .tuple) as->jA rows=true->∃fs,PySem.W.KatTups h vs fs/\fs.length=rows.length/\∀v∈fs,∃n t,v=.int n t
 |[],_,_=>fun r _=>by cases r;exact⟨[],.nil,rfl,fun v hv=>nomatch hv⟩
 |x::rows,_,_=>fun r e=>by
  unfold jA at e;rw[List.all_cons,B0]at e;cases r with
  |cons a b=>
   obtain⟨fs,h1,h2,h3⟩:=firstsI b (by unfold jA;exact e.2);cases x with
   |nil=>exact absurd e.1 (by decide)
   |cons d ds=>
    cases d with
    |int n=>
     cases a with
     |tuple g1 g2 g3 g4=>
      rename_i o vs n' ;generalize hv:vs.toList=l at g4;cases g4 with
      |cons q1 q2=>
       cases q1 with
       |int _ t=>
        refine⟨.int n t::fs,.cons g1 g2 g3 (f:=.int n t) ?_ h1,by simp[h2],?_⟩
        .rw[<- E5,hv];rfl
        .intro v hv';rcases List.mem_cons.mp hv' with z|z
         .exact⟨_,_,z⟩
         .exact h3 v z
    |_=>exact absurd e.1 (by intro z;cases z)
end
section
variable{prog:Program}{w:World}{A:Around}{E:Value->Shared->Prop}{s:Shared}
theorem aAi{M:Model}{h:Heap}{a:Addr}{o:Obj}(g:h.get? a=some o)(c:o.cls=.type "tuple"):PySem.W.Looks M h (typeOf (.ref a)) (.type "tuple"):=fun A Q E s k q=>wpAny_typeOf (show s.TypeIs (.ref a) "tuple" from⟨o,k _ _ g,c⟩) q
theorem FV{h:Heap}:∀{rows:List (List PyData)}{vs:List Value}{as:List Addr},ReadsAll h vs (rows.map .tuple) as->lZ rows=true->∃fs,PySem.W.KatTups h vs fs/\fs.length=rows.length/\∀v∈fs,∃a o,v=.ref a/\h.get? a=some o/\o.cls=.type "tuple"
 |[],_,_=>fun r _=>by cases r;exact⟨[],.nil,rfl,fun v hv=>nomatch hv⟩
 |x::rows,_,_=>fun r e=>by
  unfold lZ at e;rw[List.all_cons,B0]at e;cases r with
  |cons a b=>
   obtain⟨fs,h1,h2,h3⟩:=FV b (by unfold lZ;exact e.2);cases x with
   |nil=>exact absurd e.1 (by decide)
   |cons d ds=>
    cases d with
    |tuple ys=>
     cases a with
     |tuple g1 g2 g3 g4=>
      rename_i o vs n';generalize hv:vs.toList=l at g4;cases g4 with
      |cons q1 q2=>
       cases q1 with
       |@tuple a' _ _ _ _ _ k1 k2 k3 k4=>
        refine⟨.ref a'::fs,.cons g1 g2 g3 (f:=.ref a') ?_ h1,by simp[h2],?_⟩
        .rw[<- E5,hv];rfl
        .intro v hv';rcases List.mem_cons.mp hv' with z|z
         .exact⟨_,_,z,k1,k2⟩
         .exact h3 v z
    |_=>exact absurd e.1 (by intro z;cases z)
theorem HY{M:Model}{rows:List (List PyData)}{vs:List Value}{as:List Addr}{Q:SortKind->Shared->Prop}(r:ReadsAll s.heap vs (rows.map .tuple) as)(h0:0<rows.length)(hk:jA rows=true\/lZ rows=true)(q:Q (tuples' (jA rows)) s):wpAny M A (keyKind' vs.toArray) Q E s:=by
 rcases hk with hk|hk
 .obtain⟨fs,h1,h2,h3⟩:=firstsI r hk;rw[hk]at q;refine PySem.W.kat_kind (T:=.type "int") h1 (by omega) (fun v hv=>?_) (by decide) q;obtain⟨n,t,rfl⟩:=h3 v hv;exact ZI n t
 .obtain⟨fs,h1,h2,h3⟩:=FV r hk
  have e:jA rows=false:=by
   cases rows with
   |nil=>cases h0
   |cons x r=>
    unfold lZ at hk;rw[List.all_cons,B0]at hk;cases x with
    |nil=>rfl
    |cons d ds=>cases d<;>first|rfl|exact absurd hk.1 (by intro z;cases z)
  rw[e]at q;refine PySem.W.kat_kind (T:=.type "tuple") h1 (by omega) (fun v hv=>?_) (by decide) q;obtain⟨a,o,rfl,g,c⟩:=h3 v hv;exact aAi g c
end
section
variable{X:Cx}{pins:List (Addr×Obj)}{σ:St}{H:Hp}{s:Shared}{h':Heap}
theorem cE.there{P:Program}{w:World}{H:Hp}{h:Heap}{a:Addr}{o:HO}(x:cE P w H h a o):∃u,h.get? a=some u:=by
 induction o with
 |lst xs=>obtain⟨_,_,_,_,e⟩:=x;exact⟨_,e⟩
 |tup xs=>obtain⟨_,_,_,_,e,_⟩:=x;exact⟨_,e⟩
 |dK kvs=>obtain⟨_,_,_,_,o,_,_,e,_⟩:=x;exact⟨_,e⟩
 |dT kvs=>obtain⟨_,_,_,_,o,_,_,e,_⟩:=x;exact⟨_,e⟩
 |set S n=>obtain⟨o,_,_,_,e,_⟩:=x;exact⟨_,e⟩
 |ins C dx fs=>obtain⟨_,_,_,e,_⟩:=x;exact⟨_,e⟩
 |own y=>exact x
 |xd fs=>obtain⟨_,⟨_,_,_,e,_⟩,_⟩:=x;exact⟨_,e⟩
 |rng lo hi=>obtain⟨_,_,_,e⟩:=x;exact⟨_,e⟩
 |frz o u=>exact⟨_,x.1⟩
 |tbl ps=>exact⟨_,x⟩
 |met f x'=>exact⟨_,x⟩
 |ext φ=>exact x.2.1
theorem HOk.none{P:Program}{w:World}{H:Hp}{h:Heap}{a:Addr}(x:HOk P w H h)(e:h.get? a=none):H a=none:=by
 cases q:H a with
 |none=>rfl
 |some o=>
  obtain⟨u,z⟩:=(x a o q).there;rw[e]at z;cases z
theorem Inv.laidL{a:Addr}{o:HO}(I:Inv X pins σ H s)(k:∀b u,b≠X.env.locals->s.heap.get? b=some u->h'.get? b=some u)(ns:∀m,s.heap.Ns X.env.locals m->h'.Ns X.env.locals m)(hp:s.heap.get? a=none)(new:cE X.prog X.w (upd H a o) h' a o):
 Inv X pins σ (upd H a o) { s with heap:=h' }:=by
 have hn:=I.hok.none hp;have nt:∀b u,H b=some u->b≠X.env.locals:=fun b u e z=>by rw[z,I.free]at e;cases e
 refine I.step (g':=s.gens) (t':=s.toks) (d':=s.drawn) (ch:=[]) (fun _ z=>nomatch z) (fun b o h1 _ _ e _=>k b o h1 e) (fun b o h1 _ _ e _=>⟨o.slots,k b o h1 e⟩) (fun b o _ e n=>?_) (fun b o _ e=>?_) (fun b xs e=>?_) (fun b o u e=>?_) (fun b ps e=>⟨#[],?_⟩) ns ?_ I.bare
 .rw[aM (fun z=>by subst z;rw[hp]at e;cases e)];exact n
 .by_cases z:b=X.env.locals
  .subst z;obtain⟨m,hm,_⟩:=I.loc;obtain⟨o',_,_,q,_⟩:=ns m hm;exact⟨o',q⟩
  .exact⟨o,k b o z e⟩
 .rw[aM (aO e hn)];exact e
 .rw[aM (aO e hn)];exact e
 .rw[aM (aO e hn)];simpa using e
 .intro b u e;by_cases hb:b=a
  .subst hb;rw[aU]at e;cases e;exact new
  .rw[aM hb]at e;refine(I.hok b u e).stay (fun c v hc q=>k c v ?_ q) (fun c q=>by rw[aM (aO q hn)];exact q) fun c xs q=>by rw[aM (aO q hn)];exact q
   rcases hc with z|z
   .rw[z];exact nt b _ e
   .exact nt c _ z
theorem TV{h:Heap}{L:Addr}{m m':Str->Option Value}(a:h.Ns L m)(b:h.Ns L m'):m=m':=by
 obtain⟨o,es,ep,h1,h2,_,h3⟩:=a;obtain⟨o',es',ep',k1,k2,_,k3⟩:=b;rw[h1]at k1;cases k1;rw[h2]at k2;cases k2;funext x;rw[<- h3 x,k3 x]
noncomputable def eZ(rows:List (List PyData))(i j:Nat):Bool:=(cO (rows.getD i []) (rows.getD j [])).getD false
theorem xS{vs:List V}{us:List Value}(r:aZ vs us):∀ps:List Nat,aZ (ps.map fun i=>vs.getD i .non) (ps.map fun i=>us.getD i .none)
 |[]=>.nil
 |p::ps=>by
  refine .cons ?_ (xS r ps)
  have go:∀{vs:List V}{us:List Value}(i:Nat),aZ vs us->RelV (vs.getD i .non) (us.getD i .none):=by
   intro vs us i r
   induction r generalizing i with
   |nil=>exact rfl
   |cons a b ih=>cases i with
    |zero=>exact a
    |succ i=>exact ih i
  exact go p r
end
noncomputable def sortable(rows:List (List PyData)):Bool:=decide (2<=rows.length)&&decide (rows.length<64)&&rows.all (fun r=>r.all SeqAt.shaped&&cH r)&&(jA rows || lZ rows)&&(List.range rows.length).all fun i=>(List.range rows.length).all fun j=>(cO (rows.getD i []) (rows.getD j [])).isSome
noncomputable def GI(rows:List (List PyData)):List PyData:=(dB (eZ rows) rows.length).map fun i=>.tuple (rows.getD i [])
theorem iW{rows:List (List PyData)}(h:sortable rows=true):2<=rows.length/\rows.length<64/\(∀r∈rows,r.all SeqAt.shaped=true/\cH r=true)/\(jA rows=true\/lZ rows=true)/\(∀i j,i<rows.length->j<rows.length->(cO (rows.getD i []) (rows.getD j [])).isSome=true):=by
 unfold sortable at h;rw[B0,B0,B0,B0,Bool.or_eq_true]at h;obtain⟨⟨⟨⟨h1,h2⟩,h3⟩,h4⟩,h5⟩:=h;refine⟨C3 h1,C3 h2,fun r hr=>?_,h4,fun i j hi hj=>?_⟩
 .have:=List.all_eq_true.mp h3 r hr
  rwa [B0]at this
 .exact List.all_eq_true.mp (List.all_eq_true.mp h5 i (List.mem_range.mpr hi)) j (List.mem_range.mpr hj)
section
variable{K:Fg}
theorem aJ.len{H:Hp}:∀{ds:List PyData}{vs:List V},aJ K H ds vs->vs.length=ds.length
 |[],_=>fun h=>by
  have h:_=[]:=h;rw[h];rfl
 |d::ds,_=>fun h=>by
  obtain⟨v,r,rfl,_,h2⟩:=(show ∃v r,_=v::r/\Rep K H d v/\aJ K H ds r from h);simp[aJ.len h2]
theorem tY{H:Hp}{rows:List (List PyData)}{us:List V}(r:aJ K H (rows.map .tuple) us):∀ps:List Nat,(∀i∈ps,i<rows.length)->aJ K H (ps.map fun i=>.tuple (rows.getD i [])) (ps.map fun i=>us.getD i .non)
 |[]=>fun _=>rfl
 |p::ps=>fun hp=>by
  refine⟨_,_,rfl,?_,tY r ps fun i hi=>hp i (B1 _ hi)⟩;have hi:=hp p B3;have hl:=aJ.len r;rw[A1]at hl
  have hu:us[p]?=some (us.getD p .non):=by
   rw[D1,B9 (by omega)];rfl
  obtain⟨d,h1,h2⟩:=aJ.get r hu;rw[D2,B9 hi]at h1;cases h1;have e:rows.getD p []=rows[p]:=by rw[D1,B9 hi];rfl
  show Rep K H (.tuple (rows.getD p [])) (us.getD p .non);rw[e];exact h2
theorem WD{lt:Nat->Nat->Bool}{n:Nat}(h0:0<n):∀i∈dB lt n,i<n:=fun i hi=>List.mem_range.mp ((mJ lt h0).mem_iff.mp hi)
end
theorem cM.units2{k:Nat}{A:Around}(r:cM k A):A.in1.in1.units+64<cLine:=by have:=r.un;show A.units+1+1+64<_;omega
section
variable{prog:Program}{w:World}{A:Around}{E:Value->Shared->Prop}{s:Shared}
theorem sQ{a:Addr}{vs:List Value}{n:Nat}{P:PySem.Fin->Shared->Prop}(g:s.heap.get? a=some (seqObj "list" vs.toArray n))(h2:vs.length<2)
 (k:P (.done (.ret .none)) { s with heap:=sortedHeap s.heap a vs vs.toArray }):wpAny (model prog w) A (Builtin.«list.sort» ⟨[.ref a],[]⟩) P E s:=by
 rw[list_sort_plain];have hz:vs.toArray.size<=sizeLine:=by rw[B7,E7];omega
 refine A0 (listItems_at g rfl ?_);refine A0 (listUpdate_at g rfl ?_ hz (by simp));have g1:=get?_update_seq g (fun _=>#[]);have hlt:=A8 g1;refine A0 (seqEpoch_at g1 rfl ?_);refine A0 (wpAny_newTuple ?_ (by simpa using hz));refine A0 (wpAny_newList ?_);refine E3 ?_;have hs:vs.toArray.size<2:=by simpa using h2
 dsimp only;rw[A4 hs,A4 hs];refine A0 (A6 ?_);refine A0 ?_;show wpAny (model prog w) A (pure ((),SortSt.mk' general' (vs.toArray.zip vs.toArray) #[] 7 none)) _ E _;refine A6 ?_;dsimp only;have g2:=A3 { cls:=.type "tuple",data:=.seq vs.toArray.toList.toArray } g1;have g3:=A3 { cls:=.type "list",data:=.seq ([]:List Value).toArray } g2;refine A0 (seqEpoch_at g3 rfl ?_)
 have hm:Array.map (fun x=>x.snd) (arrOf (SortSt.mk' general' (vs.toArray.zip vs.toArray) #[] 7 none))=vs.toArray:=by
  show Array.map (fun x=>x.snd) (vs.toArray.zip vs.toArray)=vs.toArray
  apply Array.ext
  .simp
  .intro i h1 h2;simp
 rw[hm];refine A0 (listUpdate_at g3 rfl ?_ (by simp) (by omega));rw[A5 (by simp)];exact A6 k
end
mutual
theorem yF:∀(x y:PyData),cU x=true->cU y=true->(PyData.eqv x y=true↔x=y)
 |.int a,.int b=>fun _ _=>by rw[PyData.eqv.eq_def];simp
 |.int a,.tuple b=>fun _ _=>by rw[PyData.eqv.eq_def];simp
 |.tuple a,.int b=>fun _ _=>by rw[PyData.eqv.eq_def];simp
 |.tuple xs,.tuple ys=>fun h k=>by
  unfold cU at h k;rw[PyData.eqv.eq_def];have:=VS xs ys h k;simpa using this
 |.none,_=>fun h _=>by unfold cU at h;cases h
 |.bool _,_=>fun h _=>by unfold cU at h;cases h
 |.str _,_=>fun h _=>by unfold cU at h;cases h
 |.list _,_=>fun h _=>by unfold cU at h;cases h
 |.dict _,_=>fun h _=>by unfold cU at h;cases h
 |.int _,.none=>fun _ h=>by unfold cU at h;cases h
 |.int _,.bool _=>fun _ h=>by unfold cU at h;cases h
 |.int _,.str _=>fun _ h=>by unfold cU at h;cases h
 |.int _,.list _=>fun _ h=>by unfold cU at h;cases h
 |.int _,.dict _=>fun _ h=>by unfold cU at h;cases h
 |.tuple _,.none=>fun _ h=>by unfold cU at h;cases h
 |.tuple _,.bool _=>fun _ h=>by unfold cU at h;cases h
 |.tuple _,.str _=>fun _ h=>by unfold cU at h;cases h
 |.tuple _,.list _=>fun _ h=>by unfold cU at h;cases h
 |.tuple _,.dict _=>fun _ h=>by unfold cU at h;cases h
theorem VS:∀(xs ys:List PyData),cH xs=true->cH ys=true->(PyData.eqvAll xs ys=true↔xs=ys)
 |[],[]=>fun _ _=>by rw[S6];simp
 |[],_::_=>fun _ _=>by rw[S6];simp
 |_::_,[]=>fun _ _=>by rw[S6];simp
 |x::xs,y::ys=>fun h k=>by
  unfold cH at h k;rw[B0]at h k;rw[S6];show(PyData.eqv x y&&PyData.eqvAll xs ys)=true↔_;rw[B0,yF x y h.1 k.1,VS xs ys h.2 k.2,List.cons.injEq]
end
theorem ON:∀a b:List Int,HT.lexLt a b=true->HT.lexLt b a=false
 |[],[]=>fun h=>by cases h
 |[],_::_=>fun _=>rfl
 |_::_,[]=>fun h=>by cases h
 |x::xs,y::ys=>fun h=>by
  rw[HT.lexLt_cons]at h ⊢;by_cases e:x=y
  .rw[A4 e]at h;rw[A4 e.symm];exact ON xs ys h
  .rw[A5 e]at h;rw[A5 (F5 e)];have:=C3 h;exact C6 (by omega)
theorem KQ:∀a b c:List Int,HT.lexLt b a=false->HT.lexLt c b=false->HT.lexLt c a=false
 |[],_,[]=>fun _ _=>rfl
 |[],_,_::_=>fun _ _=>rfl
 |x::xs,[],_=>fun h _=>by cases h
 |x::xs,y::ys,[]=>fun _ h=>by cases h
 |x::xs,y::ys,z::zs=>fun h k=>by
  rw[HT.lexLt_cons]at h k ⊢;by_cases e:y=x
  .rw[A4 e]at h;by_cases e':z=y
   .rw[A4 e']at k;rw[A4 (e'.trans e)];exact KQ xs ys zs h k
   .rw[A5 e']at k;subst e;rw[A5 e'];exact k
  .rw[A5 e]at h;have h:=D8 h;by_cases e':z=y
   .subst e';rw[A5 e];exact C6 h
   .rw[A5 e']at k;have k:=D8 k;rw[A5 (by omega)];exact C6 (by omega)
theorem MC:∀a b:List Int,HT.lexLt a b=false->HT.lexLt b a=false->a=b
 |[],[]=>fun _ _=>rfl
 |[],_::_=>fun h _=>by cases h
 |_::_,[]=>fun _ h=>by cases h
 |x::xs,y::ys=>fun h k=>by
  rw[HT.lexLt_cons]at h k;by_cases e:x=y
  .rw[A4 e]at h;rw[A4 e.symm]at k;rw[e,MC xs ys h k]
  .rw[A5 e]at h;rw[A5 (F5 e)]at k;have h:=D8 h;have k:=D8 k;omega
theorem JD:∀{xs ys:List PyData}{ns:List Int},gU xs=some ns->gU ys=some ns->xs=ys:=by
 have go:∀{xs:List PyData}{ns:List Int},gU xs=some ns->xs=ns.map .int:=by
  intro xs
  induction xs with
  |nil=>intro ns h;cases h;rfl
  |cons d ds ih=>
   intro ns h;cases d with
   |int n=>
    have h:(gU ds).bind (fun ns=>some (n::ns))=some ns:=h;obtain⟨ms,h1,h2⟩:=Option.bind_eq_some_iff.mp h;cases h2;rw[ih h1];rfl
   |_=>cases h
 intro xs ys ns h k;rw[go h,go k]
theorem nP{x y:PyData}{c:Bool}(h:eI x y=some c):(∃a b,x=.int a/\y=.int b/\c=decide (a<b))\/∃xs ys ns ms,x=.tuple xs/\y=.tuple ys/\gU xs=some ns/\gU ys=some ms/\c=HT.lexLt ns ms:=by
 unfold eI at h;split at h
 .cases h;exact .inl ⟨_,_,rfl,rfl,rfl⟩
 .obtain⟨ns,h1,h⟩:=Option.bind_eq_some_iff.mp h;obtain⟨ms,h2,h⟩:=Option.bind_eq_some_iff.mp h;cases h;exact .inr ⟨_,_,_,_,rfl,rfl,h1,h2,rfl⟩
 .cases h
theorem AZ{x y:PyData}{c:Bool}(h:eI x y=some c):∃d,eI y x=some d/\(c=true->d=false)/\(c=false->d=false->x=y):=by
 rcases nP h with⟨a,b,rfl,rfl,rfl⟩|⟨xs,ys,ns,ms,rfl,rfl,h1,h2,rfl⟩
 .refine⟨decide (b<a),rfl,fun z=>C6 (by have:=C3 z;omega),fun z z'=>?_⟩;have z:=D8 z;have z':=D8 z';rw[show a=b by omega]
 .refine⟨HT.lexLt ms ns,?_,fun z=>ON _ _ z,fun z z'=>?_⟩
  .show(gU ys).bind _=_;rw[h2];show(gU xs).bind _=_;rw[h1];rfl
  .have:=MC _ _ z z';subst this;rw[JD h1 h2]
theorem VH{x y z:PyData}(h:eI y x=some false)(k:eI z y=some false):eI z x=some false:=by
 rcases nP h with⟨a,b,rfl,rfl,hh⟩|⟨xs,ys,ns,ms,rfl,rfl,h1,h2,hh⟩
 .rcases nP k with⟨c,d,rfl,e,kk⟩|⟨_,_,_,_,_,e,_⟩
  .cases e;have hh:=D8 hh.symm;have kk:=D8 kk.symm;show some (decide (c<b))=some false;rw[C6 (by omega)]
  .cases e
 .rcases nP k with⟨c,d,rfl,e,kk⟩|⟨zs,ys',ns',ms',rfl,e,k1,k2,kk⟩
  .cases e
  .cases e;rw[h1]at k2;cases k2;have:=KQ _ _ _ hh.symm kk.symm;show(gU zs).bind _=_;rw[k1];show(gU ys).bind _=_;rw[h2];show some _=some false;rw[this]
theorem LF:∀a b:List PyData,cH a=true->cH b=true->cO a b=some true->cO b a=some false
 |[],[]=>fun _ _ h=>by cases h
 |[],_::_=>fun _ _ _=>rfl
 |_::_,[]=>fun _ _ h=>by cases h
 |x::xs,y::ys=>fun p q h=>by
  unfold cH at p q;rw[B0]at p q;have h:(if PyData.eqv x y=true then cO xs ys else eI x y)=some true:=h;show(if PyData.eqv y x=true then cO ys xs else eI y x)=some false;by_cases e:PyData.eqv x y=true
  .rw[A4 e]at h;have e':=(yF x y p.1 q.1).mp e;rw[A4 ((yF y x q.1 p.1).mpr e'.symm)];exact LF xs ys p.2 q.2 h
  .rw[A5 e]at h;rw[A5 fun z=>e ((yF x y p.1 q.1).mpr ((yF y x q.1 p.1).mp z).symm)];obtain⟨d,h1,h2,_⟩:=AZ h;rw[h1,h2 rfl]
theorem LJ:∀a b c:List PyData,cH a=true->cH b=true->cH c=true->cO b a=some false->cO c b=some false->cO c a=some false
 |[],_,[]=>fun _ _ _ _ _=>rfl
 |[],_,_::_=>fun _ _ _ _ _=>rfl
 |x::xs,[],_=>fun _ _ _ h _=>by cases h
 |x::xs,y::ys,[]=>fun _ _ _ _ h=>by cases h
 |x::xs,y::ys,z::zs=>fun p q r h k=>by
  unfold cH at p q r;rw[B0]at p q r;have hA:(if PyData.eqv y x=true then cO ys xs else eI y x)=some false:=h;clear h;have kA:(if PyData.eqv z y=true then cO zs ys else eI z y)=some false:=k;clear k;show(if PyData.eqv z x=true then cO zs xs else eI z x)=some false;by_cases e:PyData.eqv y x=true
  .rw[A4 e]at hA;have e1:=(yF y x q.1 p.1).mp e;subst e1;by_cases e':PyData.eqv z y=true
   .rw[A4 e']at kA ⊢;exact LJ xs ys zs p.2 q.2 r.2 hA kA
   .rw[A5 e']at kA ⊢;exact kA
  .rw[A5 e]at hA;by_cases e':PyData.eqv z y=true
   .have e1:=(yF z y r.1 q.1).mp e';subst e1;rw[A5 e];exact hA
   .rw[A5 e']at kA
    have ez:¬PyData.eqv z x=true:=fun w=>by
     have w:=(yF z x r.1 p.1).mp w;subst w;obtain⟨d,h1,_,h3⟩:=AZ hA;rw[h1]at kA;cases kA;exact e ((yF y z q.1 p.1).mpr (h3 rfl rfl))
    rw[A5 ez];exact VH hA kA
theorem NT{rows:List (List PyData)}(h:sortable rows=true):pR (eZ rows):=by
 obtain⟨a1,a2,a3,a4,a5⟩:=iW h
 have onl:∀i,cH (rows.getD i [])=true:=fun i=>by
  rw[D1];cases e:rows[i]? with
  |none=>rfl
  |some r=>exact(a3 r (List.mem_of_getElem? e)).2
 have out:∀i,¬i<rows.length->rows.getD i []=[]:=fun i hi=>by
  rw[D1,O7 (by omega)];rfl
 have ans:∀i j,∃c,cO (rows.getD i []) (rows.getD j [])=some c:=fun i j=>by
  by_cases hi:i<rows.length
  .by_cases hj:j<rows.length
   .exact Option.isSome_iff_exists.mp (a5 i j hi hj)
   .rw[out j hj];cases rows.getD i []with
    |nil=>exact⟨_,rfl⟩
    |cons _ _=>exact⟨_,rfl⟩
  .rw[out i hi];exact⟨_,rfl⟩
 have is:∀i j c,eZ rows i j=c->cO (rows.getD i []) (rows.getD j [])=some c:=fun i j c e=>by
  obtain⟨d,hd⟩:=ans i j;unfold eZ at e;rw[hd]at e ⊢;exact L5 some e
 have un:∀i j c,cO (rows.getD i []) (rows.getD j [])=some c->eZ rows i j=c:=fun i j c e=>by
  unfold eZ;rw[e];rfl
 exact⟨fun a b e=>un _ _ _ (LF _ _ (onl a) (onl b) (is _ _ _ e)),fun a b c e e'=>un _ _ _ (LJ _ _ _ (onl a) (onl b) (onl c) (is _ _ _ e) (is _ _ _ e'))⟩
theorem wA{rows:List (List PyData)}(h:sortable rows=true):fJ (eZ rows) (II (eZ rows) (PySem.W.kas_sort rows.length)) rows.length:=
 (KS.run (RB (NT h) (by have:=(iW h).1;omega))).2
section
variable{X:Cx}{pins:List (Addr×Obj)}{σ:St}{H:Hp}{s:Shared}
end
structure Exc where
 nm:Str
 fs:List (Str×CD)
inductive Rs where
 |v (x:CD)|x (e:Exc)
inductive aCs where
 |o (o:Out)|xc (γ:Ga) (e:Exc)
noncomputable abbrev EX:=Ga->Sto->Option (Rs×Sto)
noncomputable abbrev AX:=Ga->Sto->Option ((List CD ⊕ Exc)×Sto)
noncomputable abbrev SFX:=Ga->Sto->Option (aCs×Sto)
noncomputable abbrev FX:=List CD->Sto->Option (Rs×Sto)
section
variable(K:Fg)
noncomputable def ExR(W:Wd)(ex:Exc)(c:Value)(dx:Option Addr):Prop:=c=.ref (eR K ex.nm)/\OB K W dx ex.fs
noncomputable def OutOkX(EE:St->XK)(D:Ends)(W:Wd)(H:Hp):aCs->Prop
 |.o o=>WI K D W H o
 |.xc γ ex=>∀σ c dx,cT K W γ σ->ExR K W ex c dx->EE σ c dx H
end
noncomputable def liE(f:EF):EX:=fun γ M=>(f γ M).bind fun r=>some (.v r.1,r.2)
noncomputable def liA(f:AF):AX:=fun γ M=>(f γ M).bind fun r=>some (.inl r.1,r.2)
noncomputable def liS(f:SF):SFX:=fun γ M=>(f γ M).bind fun r=>some (.o r.1,r.2)
noncomputable def xCons(f:EX)(g:AX):AX:=fun γ M=>(f γ M).bind fun r=>match r.1 with
 |.x e=>some (.inr e,r.2)
 |.v x=>(g γ r.2).bind fun q=>match q.1 with
  |.inr e=>some (.inr e,q.2)
  |.inl xs=>some (.inl (x::xs),q.2)
noncomputable def aCW(f:EX)(k:CD->Sto->Option (Rs×Sto)):EX:=fun γ M=>(f γ M).bind fun r=>match r.1 with
 |.x e=>some (.x e,r.2)
 |.v x=>k x r.2
noncomputable def WC(f:AX)(k:List CD->Sto->Option (Rs×Sto)):EX:=fun γ M=>(f γ M).bind fun r=>match r.1 with
 |.inr e=>some (.x e,r.2)
 |.inl xs=>k xs r.2
noncomputable def aCY(h:FX)(f:AX):EX:=WC f h
noncomputable def aCH(f g:SFX):SFX:=fun γ M=>(f γ M).bind fun r=>match r.1 with
 |.o (.nx γ')=>g γ' r.2
 |o=>some (o,r.2)
noncomputable def aBH(f:EX):SFX:=fun γ M=>(f γ M).bind fun r=>match r.1 with
 |.x e=>some (.xc γ e,r.2)
 |.v x=>some (.o (.rt x),r.2)
noncomputable def aAf(f:EX):SFX:=fun γ M=>(f γ M).bind fun r=>match r.1 with
 |.x e=>some (.xc γ e,r.2)
 |.v _=>some (.o (.nx γ),r.2)
noncomputable def aCj(f:EX)(g:GF):SFX:=fun γ M=>(f γ M).bind fun r=>match r.1 with
 |.x e=>some (.xc γ e,r.2)
 |.v x=>(g x γ r.2).bind fun q=>some (.o (.nx q.1),q.2)
noncomputable def aDj(c:TF)(f g:SFX):SFX:=fun γ M=>(c γ M).bind fun r=>if r.1=true then f γ r.2 else g γ r.2
noncomputable def YD(nm:Str):SFX:=fun γ M=>some (.xc γ ⟨nm,[]⟩,M)
noncomputable def fnX(ps N:Nat)(b:SFX):FX:=fun xs M=>if xs.length=ps then(b (xs.map some++List.replicate (N-xs.length) none) M).bind fun r=>match r.1 with
 |.o (.rt x)=>some (.v x,r.2)
 |.o (.nx _)=>some (.v (.d .none),r.2)
 |.xc _ e=>some (.x e,r.2)
 |_=>none else none
noncomputable def RA:Option Nat->Ga->Ga
 |none,γ=>γ
 |some i,γ=>γ.set i none
noncomputable def setG:Option Nat->Ga->CD->Ga
 |none,γ,_=>γ
 |some i,γ,x=>γ.set i (some x)
noncomputable def aCU(n:Option Nat):Out->Out
 |.nx γ=>.nx (RA n γ)
 |.bk γ=>.bk (RA n γ)
 |.ct γ=>.ct (RA n γ)
 |.rt x=>.rt x
structure HMi where
 tab:List (Str×Bool)
 n:Option Nat
 f:SF
noncomputable def YX:List HMi->Ga->Exc->Sto->Option (Out×Sto)
 |[],_,_,_=>none
 |h::r,γ,ex,M=>match h.tab.lookup ex.nm with
  |some true=>(h.f (setG h.n γ (.c M.length)) (M++[.exc false ex.nm ex.fs])).bind fun q=>some (aCU h.n q.1,q.2)
  |some false=>YX r γ ex M
  |none=>none
noncomputable def aCZ(b:SFX)(hs:List HMi):SF:=fun γ M=>(b γ M).bind fun r=>match r.1 with
 |.o o=>some (o,r.2)
 |.xc γ' ex=>YX hs γ' ex r.2
section
variable{K:Fg}{EE:St->XK}{ta tb:TE}{tA:TA}{t u:TS}{f g:EX}{fa:AX}{p q:SFX}{tt:TT}{ft:TF}{tg:TG}{hg:GF}
end
section
variable{ι:Type}
variable{K:Fg}{X:ι->Cx}{EE:ι->St->XK}{e a b c tg iter:Expr}{es:List Expr}{f g:EX}{fa:AX}{p q:SFX}{ft:TF}{gf:GF}{st:Stmt}{sts sts':List Stmt}{pos:Pos}
end
section
variable{X:Cx}{K:Fg}
noncomputable def aBY(tab:List (Str×Bool))(nn:Option Bool)(f:EF):EF:=fun γ M=>(f γ M).bind fun r=>match r.1 with
 |.c i=>(match r.2[i]? with
  |some (.exc _ nm _)=>(tab.lookup nm).bind fun b=>some (.d (.bool b),r.2)
  |_=>none)
 |.d .none=>nn.bind fun b=>some (.d (.bool b),r.2)
 |_=>none
end
noncomputable def aAH(h:FX)(f:AF):EF:=fun γ M=>(f γ M).bind fun r=>(h r.1 r.2).bind fun q=>match q.1 with
 |.v x=>some (x,q.2)
 |.x _=>none
section
variable{K:Fg}{cv:Value}{a:Str}{b:Bool}{l:List (Str×Bool)}
theorem VL{nm:Str}{C:Addr}(h:PySem.W.nsIn K mainGlobals nm=some (some (.ref C))):eR K nm=C:=by unfold eR;rw[h]
end
mutual
noncomputable def snap:Nat->Sto->CD->Option PyData
 |_,_,.d x=>some x
 |0,_,.c _=>none
 |n+1,M,.c i=>match M[i]? with
  |some (.lst xs)=>(mT n M xs).bind fun ds=>some (.list ds)
  |_=>none
 |_,_,.f _=>none
 |_,_,.g _=>none
 |0,_,.t _=>none
 |n+1,M,.t xs=>(mT n M (xs.map cdA)).bind fun ds=>some (.tuple ds)
noncomputable def mT:Nat->Sto->List CD->Option (List PyData)
 |_,_,[]=>some []
 |n,M,x::xs=>(snap n M x).bind fun d=>(mT n M xs).bind fun ds=>some (d::ds)
end
section
variable{K:Fg}{W:Wd}{M:Sto}{H:Hp}
theorem Good.lstAt'(G:Good K W M H){i:Nat}{xs:List CD}(h:M[i]?=some (.lst xs)):∃vs,H (W.α i)=some (.lst vs)/\bW K W xs vs:=by
 obtain⟨_,o,h2,h3⟩:=G.cs i _ h (by intro z;cases z);cases o with
 |lst vs=>exact⟨vs,h2,h3⟩
 |_=>exact False.elim h3
mutual
theorem qC(G:Good K W M H):∀(n:Nat)(x:CD)(d:PyData)(v:V),snap n M x=some d->bU K W x v->Rep K H d v
 |0,.d x=>fun d v h r=>by unfold snap at h;cases h;exact Rep.same G.fh _ _ r
 |n+1,.d x=>fun d v h r=>by unfold snap at h;cases h;exact Rep.same G.fh _ _ r
 |0,.c i=>fun d v h r=>by unfold snap at h;cases h
 |n+1,.c i=>fun d v h r=>by
  unfold snap at h;cases e:M[i]? with
  |none=>rw[e]at h;cases h
  |some c=>
   rw[e]at h;cases c with
   |lst xs=>
    obtain⟨ds,h1,h⟩:=aI (show(mT n M xs).bind _=_ from h);cases h;obtain⟨vs,h2,h3⟩:=G.lstAt' e;exact⟨W.α i,vs,r.2,SqL.of h2,rN G n xs ds vs h1 h3⟩
   |_=>cases h
 |0,.f xs=>fun d v h r=>by unfold snap at h;cases h
 |n+1,.f xs=>fun d v h r=>by unfold snap at h;cases h
 |0,.g xs=>fun d v h r=>by unfold snap at h;cases h
 |n+1,.g xs=>fun d v h r=>by unfold snap at h;cases h
 |0,.t xs=>fun d v h r=>by unfold snap at h;cases h
 |n+1,.t xs=>fun d v h r=>by
  unfold snap at h;obtain⟨ds,h1,h⟩:=aI h;cases h;obtain⟨a,vs,rfl,h2,h3⟩:=r;exact⟨a,vs,rfl,SqT.of (G.fh _ _ h2),rN G n _ ds vs h1 (GV h3)⟩
theorem rN(G:Good K W M H):∀(n:Nat)(xs:List CD)(ds:List PyData)(vs:List V),mT n M xs=some ds->bW K W xs vs->aJ K H ds vs
 |_,[]=>fun ds vs h r=>by
  unfold mT at h;cases h;cases r;rfl
 |n,x::xs=>fun ds vs h r=>by
  unfold mT at h;obtain⟨d,h1,h⟩:=aI h;obtain⟨es,h2,h⟩:=aI h;cases h;cases r with
  |@cons _ v _ vs' r1 r2=>exact⟨v,vs',rfl,qC G n x d v h1 r1,rN G n xs es vs' h2 r2⟩
end
end
noncomputable def pO:FN:=fun xs M=>match xs with
 |[x]=>(snap 5 M x).bind fun d=>if nJ d=true then some (.d (.str d.shown),M)else none
 |_=>none
theorem EB{n:Nat}{M:Sto}{x:PyData}:snap n M (.d x)=some x:=by cases n<;>simp only[snap]
theorem VM{x:PyData}{M:Sto}:pO [.d x] M=FU [.d x] M:=by unfold pO FU;dsimp only;rw[EB];rfl
theorem MQ{K:Fg}:PN K (WR K) pO:=by
 intro xs M z M' h W H vs Q G r k;unfold pO at h;split at h
 .rename_i x;obtain⟨d,h1,h⟩:=aI h;by_cases hs:nJ d=true
  .rw[A4 hs]at h;cases h;rcases r with _|⟨r1,_|_⟩;have hs':=hs;unfold nJ at hs;rw[B0,B0]at hs;exact⟨_,d,rfl,qC G 5 x d _ h1 r1,hs.1.1,C3 hs.1.2,C3 hs.2,k _ W H (.refl _) G rfl⟩
  .rw[A5 hs]at h;cases h
 .cases h
theorem HH{ι:Type}{K:Fg}{X:ι->Cx}(hK:∀i,(X i).K=K)(hg:∀i,(X i).A.guards=some [])(hu:∀i,(X i).A.units+200<cLine):QN K X (.builtin "repr") pO:=⟨_,fun i=>aBx (hK i) (hg i) (hu i),MQ⟩
open PySem PySem.Spec PyProof.Rows PySem.Builtin PySem.Builtin.ObjectAttr
end L2
namespace L2
variable{W:Wd}{M:Sto}{H:Hp}
open PySem PySem.Spec PyProof.Rows
section
variable{P:Program}{w:World}{K:Fg}{mg:Str->Option Value}{base:Heap}
theorem QX{nm m qual:Str}{st:Stmt}{C f:Addr}{oc:Value}{od an:Option Addr}{osl:Array (Option Value)}{kV doc pm cdv ct:Value}(hC:eR K nm=C)(hf:PySem.W.findIn K (.ref C) m=some (some (.ref f)))
 (l:K.lookup f=some ⟨oc,od,.func (PySem.W.fnOf m qual (dJ st) (bO st) (aG st) .none kV doc pm an cdv ct),osl⟩) (c:PySem.W.codeIn K cdv qual=true) (k:PySem.W.keepIn K (.ref f)=true) (fn:PySem.W.isFn K (.ref f)=true):SM K nm m qual st:=
 ⟨f,_,LC l c k,by rw[hC];exact hf,fn⟩
end
noncomputable abbrev KY:=Key ⊕ List Key
noncomputable abbrev KF:=Ga->Sto->Option (KY×Sto)
noncomputable def IR(W:Wd):KY->V->Prop
 |.inl k,v=>v=kV k
 |.inr ks,v=>∃b,v=.ref b/\W.F b=some (.tup (ks.map kV))
theorem IR.up{W':Wd}{k:KY}{v:V}(h:IR W k v)(e:W.Ext W'):IR W' k v:=by
 cases k with
 |inl k=>exact h
 |inr ks=>obtain⟨b,h1,h2⟩:=h;exact⟨b,h1,e.ff _ _ h2⟩
section
variable{K:Fg}
noncomputable def SK(K:Fg)(t:TE)(f:KF):Prop:=∀γ M k M',f γ M=some (k,M')->∀(W:Wd)(H:Hp)(σ:St)(Q:VK),Good K W M H->cT K W γ σ->(∀v W' H',W.Ext W'->Good K W' M' H'->IR W' k v->Q v H')->t σ H Q
noncomputable def keysOf:List CD->Option (List Key)
 |[]=>some []
 |x::xs=>(keyOf x).bind fun k=>(keysOf xs).bind fun ks=>some (k::ks)
noncomputable def sT(fa:AF):KF:=fun γ M=>(fa γ M).bind fun r=>(keysOf r.1).bind fun ks=>if ks.length<=sizeLine then some (.inr ks,r.2)else none
variable{t td ty tx tv:TE}{tA:TA}{f fo fx fv:EF}{fk:KF}{fa:AF}
theorem oM{W:Wd}:∀{xs:List CD}{ks:List Key}{vs:List V},keysOf xs=some ks->bW K W xs vs->vs=ks.map kV
 |[],ks,vs=>fun h r=>by cases h;cases r;rfl
 |x::xs,ks,vs=>fun h r=>by
  obtain⟨k,h1,h⟩:=aI h;obtain⟨ks',h2,h⟩:=aI h;cases h;cases r with
  |cons r1 r2=>rw[IQ h1 r1,oM h2 r2];rfl
theorem ZS(b:SA K tA fa):SK K (UM tA) (sT fa):=by
 intro γ M k M' hh W H σ Q G R c;obtain⟨⟨ys,M1⟩,h1,hh⟩:=aI hh;obtain⟨ks,h2,hh⟩:=aI hh;by_cases hl:ks.length<=sizeLine
 .rw[A4 hl]at hh;cases hh;refine b _ _ _ _ h1 W H σ _ G R fun vs W1 H1 e1 G1 r1=>?_;have ev:=oM h2 r1;refine⟨by rw[ev,A1];exact hl,fun p hp=>?_⟩;obtain⟨e2,G2⟩:=G1.lay (o:=.tup vs) hp;exact c _ _ _ (e1.trans e2) G2 ⟨p,rfl,by show upd W1.F p (.tup vs) p=_;rw[aU,ev]⟩
 .rw[A5 hl]at hh;cases hh
section
variable{κ:Type}[DecidableEq κ]
noncomputable def lkC(kvs:List (κ×CD))(k:κ):Option CD:=(kvs.find? fun kv=>decide (kv.1=k)).map (·.2)
noncomputable def putD(kvs:List (κ×CD))(k:κ)(v:CD):List (κ×CD):=
 if (kvs.any fun kv=>decide (kv.1=k))=true then kvs.map (fun kv=>if kv.1=k then(kv.1,v)else kv)else kvs++[(k,v)]
noncomputable abbrev PKV(K:Fg)(W:Wd)(kvs:List (κ×CD))(us:List (κ×V)):Prop:=Paired (fun p q=>p.1=q.1/\bU K W p.2 q.2) kvs us
theorem sV{W:Wd}{k:κ}:∀{kvs:List (κ×CD)}{us:List (κ×V)},PKV K W kvs us->CI K W (lkC kvs k) (fO us k)
 |_,_,.nil=>True.intro
 |_,_,.cons (a:=p) (b:=q) (l₁:=ps) (l₂:=qs) r1 r2=>by
  by_cases h:p.1=k
  .have h':q.1=k:=r1.1▸h;rw[show lkC (p::ps) k=some p.2 by simp[lkC,List.find?_cons,h],show fO (q::qs) k=some q.2 by simp[fO,List.find?_cons,h']];exact r1.2
  .have h':¬q.1=k:=r1.1▸h;rw[show lkC (p::ps) k=lkC ps k by simp[lkC,List.find?_cons,h],show fO (q::qs) k=fO qs k by simp[fO,List.find?_cons,h']];exact sV r2
theorem AE{W:Wd}{k:κ}:∀{kvs:List (κ×CD)}{us:List (κ×V)},PKV K W kvs us->(kvs.any fun kv=>decide (kv.1=k))=us.any fun kv=>decide (kv.1=k)
 |_,_,.nil=>rfl
 |_,_,.cons r1 r2=>by rw[L7,L7,AE r2,r1.1]
theorem CC{W:Wd}{k:κ}{x:CD}{v:V}(rv:bU K W x v):∀{kvs:List (κ×CD)}{us:List (κ×V)},PKV K W kvs us->PKV K W (kvs.map fun kv=>if kv.1=k then(kv.1,x)else kv) (us.map fun kv=>if kv.1=k then(kv.1,v)else kv)
 |_,_,.nil=>.nil
 |_,_,.cons (a:=p) (b:=q) r1 r2=>by
  rw[C0,C0];refine .cons ?_ (CC rv r2);by_cases h:p.1=k
  .rw[A4 h,A4 (r1.1▸h)];exact⟨r1.1,rv⟩
  .rw[A5 h,A5 (r1.1▸h)];exact r1
theorem xD{k:κ}{x:CD}{v:V}{kvs:List (κ×CD)}{us:List (κ×V)}(r:PKV K W kvs us)(rv:bU K W x v):PKV K W (putD kvs k x) (putK us k v):=by
 unfold putD putK;rw[AE r];split
 .exact CC rv r
 .exact Paired.app r (.cons ⟨rfl,rv⟩ .nil)
end
noncomputable def lkP(kvs:List (List Key×PyData))(k:List Key):Option PyData:=(kvs.find? fun kv=>decide (kv.1=k)).map (·.2)
theorem vS{W:Wd}{k:List Key}:∀{kvs:List (List Key×PyData)}{us:List (List Key×V)},Paired (fun p q=>p.1=q.1/\Rep K W.F p.2 q.2) kvs us->CI K W ((lkP kvs k).map .d) (fO us k)
 |_,_,.nil=>True.intro
 |_,_,.cons (a:=p) (b:=q) (l₁:=ps) (l₂:=qs) r1 r2=>by
  by_cases h:p.1=k
  .have h':q.1=k:=r1.1▸h;rw[show lkP (p::ps) k=some p.2 by simp[lkP,List.find?_cons,h],show fO (q::qs) k=some q.2 by simp[fO,List.find?_cons,h']];exact r1.2
  .have h':¬q.1=k:=r1.1▸h;rw[show lkP (p::ps) k=lkP ps k by simp[lkP,List.find?_cons,h],show fO (q::qs) k=fO qs k by simp[fO,List.find?_cons,h']];exact vS r2
noncomputable def atD(M:Sto):CD->KY->Option (Option CD)
 |.c i,.inl k=>match M[i]? with
  |some (.dk kvs)=>some (lkC kvs k)
  |_=>none
 |.c i,.inr ks=>match M[i]? with
  |some (.dt kvs)=>some (lkC kvs ks)
  |_=>none
 |.f kvs,.inr ks=>some ((lkP kvs ks).map .d)
 |_,_=>none
noncomputable def tT(M:Sto):CD->KY->CD->Option Sto
 |.c i,.inl k,x=>match M[i]? with
  |some (.dk kvs)=>if kvs.length<sizeLine then some (M.set i (.dk (putD kvs k x)))else none
  |_=>none
 |.c i,.inr ks,x=>match M[i]? with
  |some (.dt kvs)=>if kvs.length<sizeLine then some (M.set i (.dt (putD kvs ks x)))else none
  |_=>none
 |_,_,_=>none
theorem Good.dkAt{i:Nat}{kvs:List (Key×CD)}(G:Good K W M H)(h:M[i]?=some (.dk kvs)):∃us,H (W.α i)=some (.dK us)/\PKV K W kvs us:=by
 obtain⟨_,o,h2,h3⟩:=G.cs i _ h (by intro z;cases z);cases o<;>first|exact⟨_,h2,h3⟩|exact False.elim h3
theorem Good.dtAt{i:Nat}{kvs:List (List Key×CD)}(G:Good K W M H)(h:M[i]?=some (.dt kvs)):∃us,H (W.α i)=some (.dT us)/\PKV K W kvs us:=by
 obtain⟨_,o,h2,h3⟩:=G.cs i _ h (by intro z;cases z);cases o<;>first|exact⟨_,h2,h3⟩|exact False.elim h3
theorem UQ{x:CD}{k:KY}{r:Option CD}{v y:V}(G:Good K W M H)(h:atD M x k=some r)(rx:bU K W x v)(ry:IR W k y):∃a o,v=.ref a/\zM H a y o/\CI K W r o:=by
 unfold atD at h;split at h
 .rename_i i k';split at h
  .rename_i kvs hk;cases h;obtain⟨us,h1,h2⟩:=G.dkAt hk;refine⟨_,_,rx.2,?_,sV h2⟩;rw[show y=kV k' from ry];exact zM.k h1
  .cases h
 .rename_i i ks;split at h
  .rename_i kvs hk;cases h;obtain⟨us,h1,h2⟩:=G.dtAt hk;obtain⟨b,rfl,hb⟩:=ry;exact⟨_,_,rx.2,zM.t h1 (G.fh _ _ hb),sV h2⟩
  .cases h
 .rename_i kvs ks;cases h;obtain⟨a,o,us,rfl,h1,h2⟩:=rx;obtain⟨b,rfl,hb⟩:=ry;exact⟨_,_,rfl,.inr ⟨us,ks,b,.inr ⟨o,G.fh _ _ h1⟩,rfl,G.fh _ _ hb,rfl⟩,vS h2⟩
 .cases h
theorem CG{M':Sto}{x z:CD}{k:KY}{v y u:V}(G:Good K W M H)(h:tT M x k z=some M')(rx:bU K W x v)(ry:IR W k y)(rz:bU K W z u):∃a H',v=.ref a/\tZ H a y u H'/\Good K W M' H':=by
 unfold tT at h;split at h
 .rename_i z' i k';split at h
  .rename_i kvs hk;by_cases hl:kvs.length<sizeLine
   .rw[A4 hl]at h;cases h;obtain⟨us,h1,h2⟩:=G.dkAt hk;refine⟨_,_,rx.2,?_,G.set hk (by intro q;cases q) (o':=.dK (putK us k' u)) (xD h2 rz)⟩;rw[show y=kV k' from ry];exact tZ.k h1 (by rw[<- Paired.len h2];exact hl)
   .rw[A5 hl]at h;cases h
  .cases h
 .rename_i z' i ks;split at h
  .rename_i kvs hk;by_cases hl:kvs.length<sizeLine
   .rw[A4 hl]at h;cases h;obtain⟨us,h1,h2⟩:=G.dtAt hk;obtain⟨b,rfl,hb⟩:=ry;exact⟨_,_,rx.2,tZ.t h1 (G.fh _ _ hb) (by rw[<- Paired.len h2];exact hl),G.set hk (by intro q;cases q) (o':=.dT (putK us ks u)) (xD h2 rz)⟩
   .rw[A5 hl]at h;cases h
  .cases h
 .cases h
noncomputable def qS:EF:=fun _ M=>some (.c M.length,M++[.dt []])
noncomputable def TB(neg:Bool)(fk:KF)(fo:EF):EF:=fun γ M=>(fk γ M).bind fun k=>(fo γ k.2).bind fun o=>(atD o.2 o.1 k.1).bind fun r=>some (.d (.bool (if neg then !r.isSome else r.isSome)),o.2)
noncomputable def oU(fo:EF)(fk:KF)(fv:EF):SF:=fun γ M=>(fv γ M).bind fun v=>(fo γ v.2).bind fun o=>(fk γ o.2).bind fun k=>(tT k.2 o.1 k.1 v.1).bind fun M'=>some (.nx γ,M')
theorem QM:SE K NG qS:=by
 intro γ M x M' hh W H σ Q G R k;cases hh;exact fun p hp=>k _ (W.more p) _ (W.ext_more p) (G.new hp (c:=.dt []) (o:=.dT []) .nil) G.newV
theorem IH{r:Option CD}{o:Option V}(h:CI K W r o):o.isSome=r.isSome:=by
 cases r<;>cases o<;>first|rfl|exact False.elim h
theorem YH(b:SK K ty fk)(a:SE K td fo):SE K (aCA ty td) (TB false fk fo):=by
 intro γ M x M' hh W H σ Q G R k;obtain⟨⟨ky,M1⟩,h1,hh⟩:=aI hh;obtain⟨⟨o,M2⟩,h2,hh⟩:=aI hh;obtain⟨r,h3,hh⟩:=aI hh;cases hh;refine b _ _ _ _ h1 W H σ _ G R fun y W1 H1 e1 G1 r1=>a _ _ _ _ h2 W1 H1 σ _ G1 (R.up e1) fun v W2 H2 e2 G2 r2=>?_;obtain⟨p,ov,ev,g,ro⟩:=UQ G2 h3 r2 (r1.up e2);refine⟨p,ov,ev,g,k _ W2 H2 (e1.trans e2) G2 ?_⟩;show _=V.bl r.isSome;rw[IH ro]
theorem RC(a:SE K td fo)(b:SK K ty fk)(c:SE K tv fv):SS K (VW td ty tv) (oU fo fk fv):=by
 intro γ M o M' hh W H σ D G R k;obtain⟨⟨z,M1⟩,h1,hh⟩:=aI hh;obtain⟨⟨x,M2⟩,h2,hh⟩:=aI hh;obtain⟨⟨ky,M3⟩,h3,hh⟩:=aI hh;obtain⟨M4,h4,hh⟩:=aI hh;cases hh;refine c _ _ _ _ h1 W H σ _ G R fun u W1 H1 e1 G1 r1=>a _ _ _ _ h2 W1 H1 σ _ G1 (R.up e1) fun v W2 H2 e2 G2 r2=>b _ _ _ _ h3 W2 H2 σ _ G2 (R.up (e1.trans e2)) fun y W3 H3 e3 G3 r3=>?_;obtain⟨p,H4,ev,g,G4⟩:=CG G3 h4 (r2.up e3) r3 ((r1.up e2).up e3);exact⟨p,H4,ev,g,k W3 H4 ((e1.trans e2).trans e3) G4 σ (R.up ((e1.trans e2).trans e3))⟩
end
section
variable{ι:Type}
structure MK(K:Fg)(X:ι->Cx)(e:Expr)(f:KF):Prop where
 ex:∃t,(∀i,PE (X i) e t)/\SK K t f
variable{K:Fg}{X:ι->Cx}{e o i a b:Expr}{es:List Expr}{f g fx:EF}{fk:KF}{fa:AF}{pos:Pos}
theorem zL{k:Nat}(x:MA K X es fa):MK K X (.Tuple es k pos) (sT fa):=by
 obtain⟨t,x1,x2⟩:=x.ex;exact⟨_,fun i=>DR (x1 i),ZS x2⟩
theorem BD:ME K X (.Dict [] [] pos) qS:=⟨_,fun _=>LN,QM⟩
theorem ZU(hu:∀j,(X j).A.units+1<cLine)(y:MK K X i fk)(x:ME K X o f)(hm:behindInMarks .In o=false:=by rfl):MT K X (.Compare i [.In] [o] pos) (gB (TB false fk f)):=by
 obtain⟨t,x1,x2⟩:=x.ex;obtain⟨u,y1,y2⟩:=y.ex;exact⟨_,fun j=>YG (XS (hu j) (y1 j) (x1 j)) hm,XZ (YH y2 x2)⟩
theorem FT{pos':Pos}(hu:∀j,(X j).A.units+1<cLine)(x:ME K X o f)(y:MK K X i fk)(z:ME K X e g)(hs:∀j,swapsWith e (some (.Subscript o i pos')) pos.line (X j).env=pure false:=by intro _;rfl):MS K X (.Assign [.Subscript o i pos'] e pos) (oU f fk g):=by
 obtain⟨t,x1,x2⟩:=x.ex;obtain⟨u,y1,y2⟩:=y.ex;obtain⟨v,z1,z2⟩:=z.ex;exact⟨_,fun j=>TH (hu j) (x1 j) (y1 j) (z1 j) (hs j),RC x2 y2 z2⟩
end
end L2
namespace PySem
open Sem (wp)
open AutoSeq1 (wpAny_loadPart')
section
variable{prog:Program}{w:World}{A:Around}{E:Value->Shared->Prop}{s:Shared}
theorem wG{it l:Addr}{i:Nat}{items}{x:Value}{Q:Value->Shared->Prop}(hit:s.heap.IsTupleIter it l i)(hl:s.heap.IsTuple l items)(hx:items[i]?=some x)
 (hQ:∀h',h'.IsTupleIter it l (i+1)->Heap.SameBut it s.heap h'->Q x { s with heap:=h' }):wpAny (model prog w) A (Builtin.SmallTypes.nextOf (.ref it)) Q E s:=by
 obtain⟨o,ho,hc,hd⟩:=id hit;obtain⟨ol,hol,_,nl,hdl⟩:=hl;unfold Builtin.SmallTypes.nextOf;refine A0 (J5 (name:=Str.ofString "__next__") hit.typeIs L8 (F0 L8 hit.typeIs F.entry_tuple_iterator_next ?_ (F.args_tuple_iterator_next_1 _)));show wpAny _ _ (field (.ref it) 0 >>= _) _ _ s;refine A0 (I0 ho hd (x:=.ref l) rfl ?_);show wpAny _ _ (if (Value.ref l==Value.none)=true then _ else _) _ _ s;rw[A5 (show ¬((Value.ref l==Value.none)=true)from A7)];show wpAny _ _ (field (.ref it) 1 >>= _) _ _ s;refine A0 (I0 ho hd (x:=.int i 0) rfl ?_);show wpAny _ _ (seqItems? (.ref l) >>= _) _ _ s;refine A0 (wpAny_seqItems hol hdl ?_);simp only[Int.toNat_natCast,hx];refine A0 (S9 ho hd (by simp) (A6 ⟨x,rfl,A6 (hQ _ ?_ (O1 ..))⟩));exact⟨_,E9 _ ho (Obj.isFreed_of_fields (U0 hd _)),(Obj.cls_mapFields ..).trans hc,by rw[U0 hd];simp[rawInt]⟩
theorem qK{it l:Addr}{i:Nat}{items}{Q:Value->Shared->Prop}(hh:A.handled=none)(hit:s.heap.IsTupleIter it l i)(hl:s.heap.IsTuple l items)(hx:items[i]?=none)
 (hE:∀h' e,Heap.ExtBut it s.heap h'->(∃o,h'.get? e=some o/\o.cls=.type "StopIteration")->E (.ref e) { s with heap:=h' }):wpAny (model prog w) A (Builtin.SmallTypes.nextOf (.ref it)) Q E s:=by
 obtain⟨o,ho,hc,hd⟩:=id hit;obtain⟨ol,hol,_,nl,hdl⟩:=hl;unfold Builtin.SmallTypes.nextOf;refine A0 (J5 (name:=Str.ofString "__next__") hit.typeIs L8 (F0 L8 hit.typeIs F.entry_tuple_iterator_next ?_ (F.args_tuple_iterator_next_1 _)));show wpAny _ _ (field (.ref it) 0 >>= _) _ _ s;refine A0 (I0 ho hd (x:=.ref l) rfl ?_);show wpAny _ _ (if (Value.ref l==Value.none)=true then _ else _) _ _ s;rw[A5 (show ¬((Value.ref l==Value.none)=true)from A7)];show wpAny _ _ (field (.ref it) 1 >>= _) _ _ s;refine A0 (I0 ho hd (x:=.int i 0) rfl ?_);show wpAny _ _ (seqItems? (.ref l) >>= _) _ _ s;refine A0 (wpAny_seqItems hol hdl ?_);simp only[Int.toNat_natCast,hx];refine A0 (wpAny_rule (A0 (S9 ho hd (by simp) ?_)));show wpAny _ _ (newExc (.type "StopIteration") [] >>= _) _ _ _;refine A0 ?_;simp only[newExc,newTuple];refine A0 (C7 ?_ (by size_fits));refine A0 (m:=firstArgMember _ _) (wpAny_of_eq (a:=Value.none) (by first|rfl|(simp only[firstArgMember];rfl)) ?_);refine C7 ?_ (by size_fits);simp only[raiseNew];refine A0 (wpAny_handled ?_)
 first|rw[show A.in1.handled=none from hh]|rw[hh]
 refine A0 (A6 (wpAny_throw ?_));exact hE _ _ (((O1 ..).extBut.push _).push _) ⟨_,B2 _ rfl,rfl⟩
end
theorem IF{prog:Program}{w:World}{A:Around}(hh:A.handled=none)(it l:Addr)(hne:l≠it)(items:Array Value):
 Draws prog w A it [it,l] items.size (fun i v=>items[i]?=some v) (fun i h=>h.IsTupleIter it l i/\h.IsTuple l items) where
 live:=fun _ _ st=>let⟨o,ho,_⟩:=st.1;⟨o,ho⟩
 frame:=fun _ _ _ st hk=>⟨st.1.at fun o e=>hk it (by simp) o e,let⟨o,ho,r⟩:=st.2;⟨o,hk l (by simp) o ho,r⟩⟩
 item:=fun i s Q E hi st hQ=>by
  refine wG st.1 st.2 (x:=items[i]) (by simp[hi]) fun h' hit' hs'=>?_;exact hQ _ h' s.toks (by simp[hi]) ⟨hit',let⟨o,ho,r⟩:=st.2;⟨o,(hs'.2 l hne).trans ho,r⟩⟩ hs'
 done:=fun s Q E st hE=>qK hh st.1 st.2 (by simp) hE
theorem vM(l:Addr)(items:Array Value)(n:Nat)(dct:Option Addr)(sl:Array (Option Value)):
 Meets (Builtin.«enumerate.__new__» ⟨[.type "enumerate",.ref l],[]⟩) (fun _ R s=>s.heap.get? l=some { cls:=.type "tuple",dict:=dct,data:=.seq items n,slots:=sl } /\
  R (.ok (.ret (.ref (s.heap.push { cls:=.type "tuple_iterator",data:=.fields #[.ref l,.int 0 0] }).objs.size)))
   { s with heap:=(s.heap.push { cls:=.type "tuple_iterator",data:=.fields #[.ref l,.int 0 0] }).push { cls:=.type "enumerate",data:=.fields #[.none,.bool false,.ref s.heap.objs.size,rawInt 0,.none,.none] } }):=
 .of_wp fun prog w A R s h=>by
  obtain⟨hp,g,d,tk,os⟩:=s;obtain⟨hl,h⟩:=h;have hsub:=sub_enumerate;have hL:Heap.IsTuple (Shared.heap ⟨hp,g,d,tk,os⟩) l items:=⟨_,hl,rfl,n,rfl⟩
  wp_walk using O5 hl
  refine wpAny_stack_any fun st=>A6 ?_;split
  .rename_i c _ _ _ _ _;cases (c==Value.type "enumerate")
   .wp_walk using O5 hl,S8 hL
    exact⟨_,rfl,h⟩
   .wp_walk using O5 hl,S8 hL
    exact⟨_,rfl,h⟩
  .wp_walk using O5 hl,S8 hL
   exact⟨_,rfl,h⟩
section
variable{prog:Program}{w:World}{A:Around}{E:Value->Shared->Prop}{s:Shared}
theorem wJ{l:Addr}{items:Array Value}{Q:Value->Shared->Prop}(hL:s.heap.IsTuple l items)
 (h:∀h',IsEnum h' (s.heap.objs.size+1) s.heap.objs.size 0 .none->h'.IsTupleIter s.heap.objs.size l 0->h'.objs.size=s.heap.objs.size+2->
  (∀b o,s.heap.get? b=some o->h'.get? b=some o)->Q (.ref (s.heap.objs.size+1)) { s with heap:=h' }):
 wpAny (model prog w) A (call (.type "enumerate") [.ref l]) Q E s:=by
 obtain⟨⟨c,dct,dt,sl⟩,hl,hc,n,hd⟩:=hL
 replace hc:c=.type "tuple":=hc
 replace hd:dt=.seq items n:=hd
 subst hc hd
 refine callType_new F.called_enumerate (by decide) (F.typeCall_enumerate_1 _) (F.newCall_enumerate_1 _) (fun obj=>F.args_object_init_2 obj _) F.entry_enumerate_new
  (vM l items n dct sl) ⟨hl,?_⟩
 have hz:(s.heap.push { cls:=.type "tuple_iterator",data:=.fields #[.ref l,.int 0 0] }).objs.size=s.heap.objs.size+1:=L6 ..;show _/\_;rw[hz]
 have he:IsEnum ((s.heap.push { cls:=.type "tuple_iterator",data:=.fields #[.ref l,.int 0 0] }).push
  { cls:=.type "enumerate",data:=.fields #[.none,.bool false,.ref s.heap.objs.size,rawInt 0,.none,.none] }) (s.heap.objs.size+1) s.heap.objs.size 0 .none:=by
  have:=B2 (s.heap.push { cls:=.type "tuple_iterator",data:=.fields #[.ref l,.int 0 0] })
   (o:={ cls:=.type "enumerate",data:=.fields #[.none,.bool false,.ref s.heap.objs.size,rawInt 0,.none,.none] }) rfl
  rw[hz]at this;exact this
 refine⟨⟨_,he,rfl⟩,h _ he ⟨_,A3 _ (B2 _ rfl),rfl,rfl⟩ (by rw[L6,hz]) fun b o x=>A3 _ (A3 _ x)⟩
end
end PySem
namespace L2
open PySem PySem.Spec PyProof.Rows
section
variable{X:Cx}{pins:List (Addr×Obj)}{σ:St}{H:Hp}{s:Shared}{h':Heap}
theorem Inv.turnLay{fp:List Addr}{a:Addr}{o:HO}{t':Nat}(I:Inv X pins σ H s)(hf:∀b∈fp,nQ X pins H b)(k:∀b u,b∉fp->s.heap.get? b=some u->h'.get? b=some u)(hp:s.heap.objs.size<=a)(new:cE X.prog X.w (upd H a o) h' a o):
 Inv X pins σ (upd H a o) { s with heap:=h',toks:=t' }:=by
 have hn:H a=none:=I.hok.fresh hp;have nf:∀b u,H b=some u->b∉fp:=fun b u e z=>by rw[(hf b z).1]at e;cases e
 refine I.step (g':=s.gens) (d':=s.drawn) (ch:=fp) (fun b hb=>?_) (fun b o _ _ hc e _=>k b o hc e) (fun b o _ _ hc e _=>⟨o.slots,k b o hc e⟩) (fun b o _ e n=>?_) (fun b o hc e=>⟨o,k b o hc e⟩)
  (fun b xs e=>?_) (fun b o u e=>?_) (fun b ps e=>⟨#[],?_⟩) (fun m hm=>?_) ?_ I.bare
 .obtain⟨_,f1,_,f3,f4,f5⟩:=hf b hb;exact⟨f3,f1,f4,f5⟩
 .rw[aM (fun z=>by subst z;exact absurd (A8 e) (Nat.not_lt.mpr hp))];exact n
 .rw[aM (aO e hn)];exact e
 .rw[aM (aO e hn)];exact e
 .rw[aM (aO e hn)];simpa using e
 .obtain⟨o,es,ep,ho,r⟩:=hm;exact⟨o,es,ep,k _ o (fun z=>(hf _ z).2.1 rfl) ho,r⟩
 .intro b u e;by_cases hb:b=a
  .subst hb;rw[aU]at e;cases e;exact new
  .rw[aM hb]at e;refine(I.hok b u e).stay (fun c v hc q=>k c v ?_ q) (fun c q=>by rw[aM (aO q hn)];exact q) fun c xs q=>by rw[aM (aO q hn)];exact q
   rcases hc with z|z
   .rw[z];exact nf b _ e
   .exact nf c _ z
theorem Inv.turnF{fp:List Addr}{t':Nat}(I:Inv X pins σ H s)(hf:∀b∈fp,nQ X pins H b)(k:∀b u,b∉fp->s.heap.get? b=some u->h'.get? b=some u):Inv X pins σ H { s with heap:=h',toks:=t' }:=by
 have nf:∀b u,H b=some u->b∉fp:=fun b u e z=>by rw[(hf b z).1]at e;cases e
 refine I.step (g':=s.gens) (d':=s.drawn) (ch:=fp) (fun b hb=>?_) (fun b o _ _ hc e _=>k b o hc e) (fun b o _ _ hc e _=>⟨o.slots,k b o hc e⟩) (fun _ _ _ _ n=>n) (fun b o hc e=>⟨o,k b o hc e⟩)
  (fun _ _ e=>e) (fun _ _ _ e=>e) (fun b ps e=>⟨#[],by simpa using e⟩) (fun m hm=>?_) (fun b u e=>?_) I.bare
 .obtain⟨_,f1,_,f3,f4,f5⟩:=hf b hb;exact⟨f3,f1,f4,f5⟩
 .obtain⟨o,es,ep,ho,r⟩:=hm;exact⟨o,es,ep,k _ o (fun z=>(hf _ z).2.1 rfl) ho,r⟩
 .refine(I.hok b u e).stay (fun c v hc q=>k c v ?_ q) (fun _ q=>q) fun _ _ q=>q;rcases hc with z|z
  .rw[z];exact nf b _ e
  .exact nf c _ z
end
noncomputable def Ite(Sq:Hp->List V->Prop):It:=
 ⟨fun i H=>∃xs x,Sq H xs/\xs[i]?=some x,fun i H v H'=>∃p x,H p=none/\v=.ref p/\H'=upd H p (.tup [.int i,x])/\∀xs,Sq H xs->xs[i]?=some x,fun i H=>∃xs,Sq H xs/\xs.length=i⟩
noncomputable def tnE(e it:Addr)(It:Heap->Nat->Prop)(i:Nat)(h:Heap):Prop:=(∃old,IsEnum h e it i old)/\It h i
section
variable{P:Program}{w:World}{K:Fg}{elts:List Expr}{x1:Nat}{tpos:Pos}
theorem xC{e it a:Addr}{Sq:Hp->List V->Prop}{It:Heap->Nat->Prop}(hei:e≠it)
 (hobj:∀h i,It h i->∃o vs,h.get? it=some o/\o.data=.fields vs) (hkeep:∀h h' i,It h i->(∀o,h.get? it=some o->h'.get? it=some o)->It h' i)
 (hinj:∀(X:Cx),X.K=K->∀pins σ H s,Inv X pins σ H s->∀xs ys,Sq H xs->Sq H ys->xs=ys)
 (draw:∀(X:Cx),X.prog=P->X.w=w->X.K=K->X.calm=true->∀pins σ H s,Inv X pins σ H s->∀xs,Sq H xs->(∃o vs,s.heap.get? it=some o/\o.data=.fields vs)->(∃o vs,s.heap.get? e=some o/\o.data=.fields vs)->∃(its:List Value)(fp:List Addr)(S:Nat->Heap->Prop),aZ xs its/\e∉fp /\
  Draws P w X.A.in1 it fp its.length (fun i v=>its[i]?=some v) S/\(∀i,It s.heap i->S i s.heap)/\∀i h,S i h->It h i):
 Turn P w K (.Tuple elts x1 tpos) (Ite Sq) [e,it] e (tnE e it It) where
 mem:=by simp
 obj:=fun i h st b hb=>by
  obtain⟨⟨old,h1⟩,h2⟩:=st;rcases List.mem_cons.mp hb with rfl|hb
  .exact⟨_,h1,fun v z=>by cases z⟩
  .obtain⟨o,vs,q1,q2⟩:=hobj _ _ h2;rw[List.mem_singleton.mp hb];exact⟨o,q1,fun v z=>by rw[q2]at z;cases z⟩
 keep:=fun i h h' st k=>by
  obtain⟨⟨old,h1⟩,h2⟩:=st;exact⟨⟨old,k e (by simp) _ h1⟩,hkeep _ _ _ h2 fun o q=>k it (by simp) o q⟩
 item:=by
  intro X hP hw hK hc i pins s σ H E I hf st hg;obtain⟨xs,x,hq,hx⟩:=hg;obtain⟨⟨old,he⟩,hit⟩:=st;obtain⟨its,fp,S,rv,hef,D,s1,s2⟩:=draw X hP hw hK hc pins σ H s I xs hq (hobj _ _ hit) ⟨_,_,he,rfl⟩;subst hP hw hK;obtain⟨u,hu,ru⟩:=rv.get hx;have hlt:i<its.length:=(List.getElem?_eq_some_iff.mp hu).1;refine wpAny_pyNext_enum_itemD D he (s1 _ hit) hlt hei hef fun v h1 tk hv ho st1 ht hsz hk=>⟨_,rfl,?_⟩;rw[hu]at hv;cases hv;refine wpAny_letOwnedTupleGo_enum ho fun h2 he2 sb=>?_;have ne:s.heap.objs.size≠e:=E8 (A8 he);have ht2:h2.get? s.heap.objs.size=some { cls:=.type "tuple",data:=.seq #[.int i tk,u] }:=(sb.2 _ ne).trans ht
  have I2:Inv X pins σ (upd H s.heap.objs.size (.tup [.int i,x])) { s with heap:=h2,toks:=tk+1 }:=by
   refine I.turnLay hf (fun b o hb q=>(sb.2 b fun z=>hb (by simp[z])).trans (hk b o (fun z=>hb (by simp[z])) (fun z=>hb (by simp[z])) q)) (A9 _) ⟨by show 2<=sizeLine;rw[E7];decide,[.int i tk,u],.cons ⟨tk,rfl⟩ (.cons ru .nil),⟨_,ht2,rfl,_,rfl⟩⟩
  refine⟨.ref s.heap.objs.size,_,I2,rfl,⟨_,x,I.hok.fresh (A9 _),rfl,rfl,fun ys hy=>by rw[hinj X rfl _ _ _ _ I ys xs hy hq];exact hx⟩,⟨⟨_,by have:=he2;push_cast;exact this⟩,?_⟩,fun b hb=>?_⟩
  .exact hkeep _ _ _ (s2 _ _ st1) fun o q=>(sb.2 it (F5 hei)).trans q
  .have hb0:=(hf b hb).1;rw[aM (fun z=>?_)]
   .exact hb0
   .subst z;rcases List.mem_cons.mp hb with q|q
    .exact ne q
    .obtain⟨o,vs,q1,_⟩:=hobj _ _ hit;rw[<- List.mem_singleton.mp q]at q1;exact absurd (A8 q1) (F7 _)
 done:=by
  intro X hP hw hK hc i pins s σ H E I hf st hg;obtain⟨xs,hq,hx⟩:=hg;obtain⟨⟨old,he⟩,hit⟩:=st;obtain⟨its,fp,S,rv,hef,D,s1,s2⟩:=draw X hP hw hK hc pins σ H s I xs hq (hobj _ _ hit) ⟨_,_,he,rfl⟩;subst hP hw hK;have hl:=rv.length;rw[hl]at hx;subst hx;exact wpAny_pyNext_enum_endD D he (s1 _ hit) fun h1 hx=>⟨rfl,I.turnF (t':=s.toks) hf fun b o hb q=>hx b o (fun z=>hb (by simp[z])) q⟩
 self:=fun A i s Q E st h=>by
  obtain⟨⟨old,he⟩,_⟩:=st;exact wpAny_pyIter_enum he h
theorem DX{e it a:Addr}(hei:e≠it):Turn P w K (.Tuple elts x1 tpos) (Ite fun H xs=>SqL K H a xs) [e,it] e (tnE e it fun h i=>h.IsListIter it a i):=by
 refine xC (a:=a) hei (fun h i st=>?_) (fun h h' i st k=>st.at k) (fun X hK pins σ H s I xs ys h1 h2=>?_) fun X hP hw hK hc pins σ H s I xs hq hi he=>?_
 .obtain⟨o,q,_,d⟩:=st;exact⟨o,_,q,d⟩
 .subst hK;exact I.list_inj h1 h2
 .subst hP hw hK;obtain⟨its,rv,p,hz⟩:=I.list hq
  have ne:∀b,(∃o vs,s.heap.get? b=some o/\o.data=.fields vs)->a≠b:=fun b ⟨o,vs,q,d⟩ z=>by
   subst z;obtain⟨o',q',_,n,d'⟩:=p.isList;rw[q]at q';cases q';rw[d]at d';cases d'
  refine⟨its,[it,a],fun i h=>h.IsListIter it a i/\h.IsList a its.toArray,rv,?_,?_,fun i st=>⟨st,p.isList⟩,fun i h st=>st.1⟩
  .intro z;rcases List.mem_cons.mp z with z|z
   .exact hei z
   .exact ne e he (List.mem_singleton.mp z).symm
  .have:=Draws.list (prog:=X.prog) (w:=X.w) (A:=X.A.in1) (I.ok.hd hc) it a (ne it hi) its.toArray;simpa using this
theorem DV{e it a:Addr}(hei:e≠it):Turn P w K (.Tuple elts x1 tpos) (Ite fun H xs=>SqT K H a xs) [e,it] e (tnE e it fun h i=>h.IsTupleIter it a i):=by
 refine xC (a:=a) hei (fun h i st=>?_) (fun h h' i st k=>st.at k) (fun X hK pins σ H s I xs ys h1 h2=>?_) fun X hP hw hK hc pins σ H s I xs hq hi he=>?_
 .obtain⟨o,q,_,d⟩:=st;exact⟨o,_,q,d⟩
 .subst hK;exact I.tuple_inj h1 h2
 .subst hP hw hK;obtain⟨its,rv,p,hz⟩:=I.tuple hq;have pt:s.heap.IsTuple a its.toArray:=p
  have ne:∀b,(∃o vs,s.heap.get? b=some o/\o.data=.fields vs)->a≠b:=fun b ⟨o,vs,q,d⟩ z=>by
   subst z;obtain⟨o',q',_,n,d'⟩:=pt;rw[q]at q';cases q';rw[d]at d';cases d'
  refine⟨its,[it,a],fun i h=>h.IsTupleIter it a i/\h.IsTuple a its.toArray,rv,?_,?_,fun i st=>⟨st,pt⟩,fun i h st=>st.1⟩
  .intro z;rcases List.mem_cons.mp z with z|z
   .exact hei z
   .exact ne e he (List.mem_singleton.mp z).symm
  .have:=IF (prog:=X.prog) (w:=X.w) (A:=X.A.in1) (I.ok.hd hc) it a (ne it hi) its.toArray;simpa using this
end
section
variable{X:Cx}{elts:List Expr}{x1:Nat}{tpos:Pos}
noncomputable def WN(K:Fg)(ta:TA):TI:=fun σ H R=>ta σ H fun vs H1=>∃a,vs=[.ref a]/\((∃xs,SqL K H1 a xs/\R (Ite fun H xs=>SqL K H a xs) H1)\/(∃xs,SqT K H1 a xs/\R (Ite fun H xs=>SqT K H a xs) H1))
theorem QY{a:Expr}{ta:TA}{p pos:Pos}(hg:Gl X "enumerate")(hm:X.mg "enumerate"=none)(ha:PA X [a] ta)(hs:starEach [a] X.env=[(false,eval a X.env)]:=by rfl):PI X (.Tuple elts x1 tpos) (.Call (.Name "enumerate" p) [a] [] pos) (WN X.K ta):=by
 intro pins s σ H R I h;refine Call_ (rL I hg hm boot_enumerate (S2 (thn (ha pos pins s σ H _ I h) fun us s1 ⟨vs,H1,I1,r1,q1⟩=>?_) hs rfl));obtain⟨l,e,q⟩:=q1;subst e;cases r1 with
 |cons r rr=>
  cases rr;cases (show _=Value.ref l from r)
  have fp:∀b∈[s1.heap.objs.size+1,s1.heap.objs.size],nQ X pins H1 b:=fun b hb=>by
   rcases List.mem_cons.mp hb with rfl|hb
   .exact I1.fpOk (Nat.le_succ _) (I1.hok.fresh (Nat.le_succ _))
   .rw[List.mem_singleton.mp hb];exact I1.fpOk (A9 _) (I1.hok.fresh (A9 _))
  rcases q with⟨xs,hq,q⟩|⟨xs,hq,q⟩
  .obtain⟨its,rv,p,hz⟩:=I1.list hq;refine call_enumerate_list p.isList fun h' he hit hsz hk=>?_;refine wpAny_pyIter_enum he ?_;exact⟨_,_,_,_,H1,rfl,I1.kept (t':=s1.toks) hk,DX (a:=l) (Nat.succ_ne_self _),⟨⟨_,he⟩,hit⟩,fp,q⟩
  .obtain⟨its,rv,p,hz⟩:=I1.tuple hq;refine wJ (show s1.heap.IsTuple l its.toArray from p) fun h' he hit hsz hk=>?_;refine wpAny_pyIter_enum he ?_;exact⟨_,_,_,_,H1,rfl,I1.kept (t':=s1.toks) hk,DV (a:=l) (Nat.succ_ne_self _),⟨⟨_,he⟩,hit⟩,fp,q⟩
end
noncomputable def xF(ds:List PyData):List CD:=ds.zipIdx.map fun p=>.d (.tuple [.int (p.2:Nat),p.1])
noncomputable def BK(f:AF):AF:=fun γ M=>(f γ M).bind fun r=>match r.1 with
 |[.d x]=>(bG x).bind fun ds=>some (xF ds,r.2)
 |_=>none
theorem JY{ds:List PyData}{i:Nat}{x:CD}(h:(xF ds)[i]?=some x):∃d,ds[i]?=some d/\x=.d (.tuple [.int (i:Nat),d]):=by
 unfold xF at h;rw[D2,List.getElem?_zipIdx]at h;cases e:ds[i]? with
 |none=>rw[e]at h;cases h
 |some d=>
  rw[e]at h;exact⟨d,rfl,by simpa using h.symm⟩
theorem TY{K:Fg}{tA:TA}{fa:AF}(b:SA K tA fa):SI K (WN K tA) (BK fa):=by
 intro γ M xs M' hh W H σ R G Rs k;obtain⟨⟨ys,M1⟩,h1,hh⟩:=aI hh;refine b _ _ _ _ h1 W H σ _ G Rs fun vs W1 H1 e1 G1 r1=>?_;revert hh;dsimp only;split
 .rename_i y;intro hh;obtain⟨ds,h2,hh⟩:=aI hh;cases hh;cases r1 with
  |cons r r'=>
   cases r';obtain⟨p,us,rfl,hs,hr⟩:=nG (show Rep K W1.F y _ from r) h2
   have gv:∀Sq:Hp->List V->Prop,(∀W2 M2 H2,W1.Ext W2->Good K W2 M2 H2->Sq H2 us)->EO K (Ite Sq) (xF ds) W1:=fun Sq hS W2 M2 H2 e2 G2=>by
    have hq:=hS W2 M2 H2 e2 G2;refine⟨fun i x hx=>?_,us,hq,by rw[show(xF ds).length=ds.length by simp[xF],hr.length]⟩;obtain⟨d,hd,rfl⟩:=JY hx;obtain⟨u,hu,ru⟩:=Paired.get (gH hr) (show(ds.map CD.d)[i]?=some (.d d)by rw[D2,hd];rfl);refine⟨⟨us,u,hq,hu⟩,fun v H3 hy=>?_⟩;obtain⟨p',x',hn,rfl,rfl,hx'⟩:=hy;have:=hx' us hq;rw[hu]at this;cases this;obtain⟨e3,G3⟩:=G2.lay (o:=.tup [.int i,u]) hn;refine⟨_,e3,G3,⟨p',_,rfl,SqT.of aU,?_⟩⟩;exact⟨_,_,rfl,rfl,_,_,rfl,Rep.same e3.ff _ _ (show Rep K W2.F d u from(ru.up e2)),rfl⟩
   refine⟨p,rfl,?_⟩;rcases hs with hs|hs
   .exact .inl ⟨us,G1.fh.seq hs,k _ W1 H1 e1 G1 (gv _ fun W2 M2 H2 e2 G2=>G2.fh.seq (e2.ff.seq hs))⟩
   .exact .inr ⟨us,G1.fh.seqT hs,k _ W1 H1 e1 G1 (gv _ fun W2 M2 H2 e2 G2=>G2.fh.seqT (e2.ff.seqT hs))⟩
 .intro hh;cases hh
theorem QT{ι:Type}{K:Fg}{X:ι->Cx}{a:Expr}{fa:AF}{pos:Pos}{elts:List Expr}{x1:Nat}{tpos p:Pos}(hK:∀i,(X i).K=K)(hm:∀i,(X i).mg "enumerate"=none)(x:MA K X [a] fa)(hg:∀i,Gl (X i) "enumerate":=by intro _;rfl):MI K X (.Tuple elts x1 tpos) (.Call (.Name "enumerate" p) [a] [] pos) (BK fa):=by
 obtain⟨t,x1',x2⟩:=x.ex;exact⟨_,fun i=>by have:=QY (elts:=elts) (x1:=x1) (tpos:=tpos) (p:=p) (pos:=pos) (hg i) (hm i) (x1' i) (x.st.1 _);rw[hK i]at this;exact this,TY x2⟩
end L2
namespace PySem
open PySem.Calls PyProof.Rows
noncomputable abbrev pA(x:Value)(f:Bool)(d:Addr)(i n ep:Nat)(p q:Value):Obj:=
 { cls:=.type "dict_itemiterator",dict:=none,data:=.fields #[x,.bool f,.ref d,.int i 0,.int n 0,.int ep 0,p,q],slots:=#[] }
noncomputable abbrev duo(e:DictEntry):Obj:={ cls:=.type "tuple",data:=.seq #[e.key,e.val] }
noncomputable def xG(h:Heap)(it d:Addr)(i n ep:Nat):Prop:=
 ∃x f p q,h.get? it=some (pA x f d i n ep p q)/\(x=.none\/∃a o,x=rawInt (a:Nat)/\h.get? a=some o)
noncomputable def Raw(h:Heap)(d:Addr)(es:Array DictEntry)(ep:Nat):Prop:=∃o,h.get? d=some o/\o.data=.dict es ep
theorem Raw.to{h h':Heap}{d:Addr}{es:Array DictEntry}{ep:Nat}(r:Raw h d es ep)(k:∀o,h.get? d=some o->h'.get? d=some o):Raw h' d es ep:=let⟨o,e,x⟩:=r;⟨o,k o e,x⟩
section
variable{prog:Program}{w:World}{A:Around}{E:Value->Shared->Prop}{s:Shared}{it d v:Addr}{es:Array DictEntry}{i n ep:Nat}
theorem EC(d:Addr)(hd:(d==sysModules)=false):MeetsIn prog w (Builtin.«dict.items» ⟨[.ref d],[]⟩) fun _ R s=>s.TypeIs (.ref d) "dict" /\
 R (.ok (.ret (.ref s.heap.objs.size))) { s with heap:=s.heap.push { cls:=.type "dict_items",data:=.fields #[.ref d] } }:=
 .of_wp fun A R s ⟨ty,h⟩=>by
  have q:Builtin.Dict.showsAll d=pure ():=by unfold Builtin.Dict.showsAll;rw[hd];rfl
  show wpAny _ _ (Builtin.Dict.noArgs _ _ >>= fun _=>_) _ _ s;unfold Builtin.Dict.noArgs;refine A0 (A0 (wpAny_notOrdered_dict ty (A6 (?_:wpAny _ _ (Builtin.Dict.showsAll d >>= _) _ _ s))));rw[q];exact A0 (A6 (A0 (C7 (A6 ⟨_,rfl,h⟩))))
theorem EW{Q:Value->Shared->Prop}(hv:s.heap.IsItemsView v d)(r:Raw s.heap d es ep)
 (h:Q (.ref s.heap.objs.size) { s with heap:=s.heap.push (pA .none false d 0 es.size ep .none .none) }):wpAny (model prog w) A (pyIter (.ref v)) Q E s:=by
 obtain⟨ov,v1,v2,v3⟩:=id hv;obtain⟨o,r1,r2⟩:=r;refine wpAny_pyIter_slot hv.typeIs F.slot_dict_items_iter (F0 F.slot_dict_items_iter hv.typeIs F.entry_dict_items_iter (A0 (A6 (A0 (?_:wpAny _ _ (field (.ref v) 0 >>= _) _ _ s)))) (F.args_dict_items_iter_1 _));refine A0 (I0 v1 v3 (x:=.ref d) rfl (A6 (A0 (?_:wpAny _ _ (Builtin.Dict_items.newIterator _ d) _ _ s))));refine A0 (wpAny_dictEntries r1 r2 (A0 (wpAny_dictEpoch r1 r2 ?_)));rw[show Builtin.Dict_items.ownsTuple "dict_itemiterator"=true from by decide];refine C7 (A6 ⟨_,rfl,_,_,⟨_,B2 _ rfl,rfl⟩,F.slot_dict_itemiterator_next.lookup,?_⟩) (by simp[sizeOk,Builtin.Dict_items.ownedTupleFields,sizeLine_eq]);exact h
theorem QG{e:DictEntry}{Q:Value->Shared->Prop}(st:xG s.heap it d i n ep)
 (h:∀h',xG h' it d i n ep->h'.get? s.heap.objs.size=some (duo e)->(∀b o,b≠it->s.heap.get? b=some o->h'.get? b=some o)->Q (.ref s.heap.objs.size) { s with heap:=h' }):
 wpAny (model prog w) A (Builtin.Dict_items.pairFromOwner (.ref it) 6 e.key e.val) Q E s:=by
 obtain⟨H,g,dr,tk,os⟩:=s;obtain⟨x,f,p,q,w0,hx⟩:=st;have lt:it<H.objs.size:=A8 w0;have new:(H.push (duo e)).get? H.objs.size=some (duo e):=B2 _ rfl;have old:∀b o,H.get? b=some o->(H.push (duo e)).get? b=some o:=fun b o=>A3 _;refine A0 (wpAny_newTuple ?_);show wpAny _ _ (Builtin.Dict_items.ownedTupleIsFree (.ref it) >>= _) _ _ ⟨H.push (duo e),g,dr,tk,os⟩;generalize H.push (duo e)=G at new old ⊢;have w1:=old it _ w0
 have fin:∀h' x' f' p' q',h'.get? it=some (pA x' f' d i n ep p' q')->(x'=.none\/∃a o,x'=rawInt (a:Nat)/\G.get? a=some o)->Heap.SameBut it G h'->Q (.ref H.objs.size) ⟨h',g,dr,tk,os⟩:=by
  intro h' x' f' p' q' k1 k2 k3;refine h h' ⟨x',f',p',q',k1,k2.imp id ?_⟩ (k3.extBut _ _ (E8 lt) new) fun b o nb e=>k3.extBut b o nb (old b o e);rintro⟨a,o,ea,eo⟩;by_cases c:a=it
  .exact⟨a,_,ea,c▸k1⟩
  .exact⟨a,o,ea,k3.extBut a o c eo⟩
 unfold Builtin.Dict_items.ownedTupleIsFree;refine A0 (A0 (I0 w1 rfl (x:=x) rfl ?_));rcases hx with rfl|⟨a,o,rfl,ea⟩
 .refine A6 (A0 (I0 w1 rfl (x:=p) rfl (A0 (I0 w1 rfl (x:=q) rfl (A0 (J9 w1 (by simp) fun h1 w2 k2=>?_))))));refine A0 (J9 w2 (by simp) fun h2 w3 k3=>A0 (J9 w3 (by simp) fun h3 w4 k4=>A0 (J9 w4 (by simp) fun h4 w5 k5=>?_)));exact A0 (wpAny_letGo (A6 (fin h4 _ _ _ _ w5 (.inr ⟨_,_,rfl,new⟩) (((k2.trans k3).trans k4).trans k5))))
 .have al:(loadIfAlive ((a:Int).toNat):Sem (Option Obj))=loadIfAlive a:=by rw[J7]
  show wpAny _ _ (loadIfAlive ((a:Int).toNat) >>= _) _ _ _;rw[al];refine A0 (W.kdx_alive (old a o ea) ?_);show wpAny _ _ (field (.ref it) 1 >>= _) _ _ _;refine A0 (I0 w1 rfl (x:=.bool f) rfl ?_);cases f
  .exact A0 (J9 w1 (by simp) fun h1 w2 k2=>A6 (A6 (fin h1 _ _ _ _ w2 (.inr ⟨a,o,rfl,old a o ea⟩) k2)))
  .exact A6 (A6 (fin G _ _ _ _ w1 (.inr ⟨a,o,rfl,old a o ea⟩) (Heap.SameBut.refl _ _)))
theorem FD{Q:Option Value->Shared->Prop}(hh:A.handled=none)(st:xG s.heap it d i es.size ep)(r:Raw s.heap d es ep)(ne:d≠it)
 (h1:∀e,es[i]?=some e->∀h',xG h' it d (i+1) es.size ep->h'.get? s.heap.objs.size=some (duo e)->(∀b o,b≠it->s.heap.get? b=some o->h'.get? b=some o)->Q (some (.ref s.heap.objs.size)) { s with heap:=h' })
 (h2:es[i]?=none->∀h',Heap.ExtBut it s.heap h'->Q none { s with heap:=h' }):wpAny (model prog w) A (pyNext (.ref it)) Q E s:=by
 obtain⟨H,g,dr,tk,os⟩:=s;obtain⟨x,f,p,q,w0,hx⟩:=st;obtain⟨od,r1,r2⟩:=r;have ty:Shared.TypeIs ⟨H,g,dr,tk,os⟩ (.ref it) "dict_itemiterator":=⟨_,w0,rfl⟩;have own:Builtin.Dict_items.ownsTuple "dict_itemiterator"=true:=by decide
 unfold pyNext;refine A0 (wpAny_attempt (J5 ty F.slot_dict_itemiterator_next (F0 F.slot_dict_itemiterator_next ty F.entry_dict_itemiterator_next (A0 (A6 (A0 (A0 ?_)))) (F.args_dict_itemiterator_next_1 _))));refine A0 (S3 ty (A6 (A0 (wpAny_fieldsOf w0 rfl ?_))));rw[own];refine A0 (A6 (A0 (wpAny_dictEntries r1 r2 ?_)));rw[A5 (by simp)];refine A0 (A6 (A0 (wpAny_dictEpoch r1 r2 ?_)));rw[A5 (by simp)];refine A6 ?_;have pl:(if (i:Int)<0 then none else es[(i:Int).toNat]?)=es[i]?:=by rw[A5 (by omega),J7]
 simp only[pl];cases c:es[i]? with
 |some e=>
  refine A0 (A0 (S3 ty (A6 (A0 (wpAny_isOneOf_itemiter ty ?_)))));refine A0 (J9 w0 (k:=3) (x:=rawInt ((i:Int)+1)) (by simp) fun h' w1 k1=>A0 (E3 ?_))
  have st1:xG h' it d (i+1) es.size ep:=by
   refine⟨x,f,p,q,w1,hx.imp id fun⟨a,o,ea,eo⟩=>?_⟩;by_cases c:a=it
   .exact⟨a,_,ea,c▸w1⟩
   .exact⟨a,o,ea,k1.extBut a o c eo⟩
  have ty1:Shared.TypeIs ⟨h',g,dr,tk,os⟩ (.ref it) "dict_itemiterator":=⟨_,w1,rfl⟩;refine A0 (wpAny_isOneOf_itemiter ty1 (A0 (wpAny_isOneOf_itemiter ty1 (QG (e:=e) st1 fun h'' st2 t2 k2=>?_))));have sz:h'.objs.size=H.objs.size:=k1.1;refine A6 ⟨_,rfl,A6 ?_⟩;rw[sz]at t2 ⊢;exact h1 e c h'' st2 t2 fun b o nb eb=>k2 b o nb (k1.extBut b o nb eb)
 |none=>
  refine A0 (A0 (S3 ty (A6 (A0 (S9 w0 (i:=2) (x:=.none) rfl (by simp) (A0 ?_))))));simp only[newExc,newTuple];refine A0 (C7 (A0 (m:=firstArgMember _ _) (wpAny_of_eq (a:=Value.none) (by simp only[firstArgMember];rfl) (C7 ?_ (by size_fits)))) (by size_fits));simp only[raiseNew];refine A0 (wpAny_handled ?_);rw[show A.in1.handled=none from hh];refine A0 (A6 (wpAny_throw ?_));refine A0 (wpAny_isInstance (b:=true) (T:="StopIteration") ⟨_,B2 _ rfl,rfl⟩ isSubtype_stop ?_);exact A6 (h2 c _ (((O1 ..).extBut.push _).push _))
end
structure Handed(es:Array DictEntry)(lo:Addr)(h:Heap)(as:List Addr):Prop where
 rise:as.Pairwise (·<·)
 above:∀a∈as,lo<a
 duos:∀(j:Nat)(a:Addr),as[j]?=some a->∃e,es[j]?=some e/\h.get? a=some (duo e)
theorem Handed.to{es:Array DictEntry}{lo lo':Addr}{h h':Heap}{as:List Addr}(g:Handed es lo h as)(l:lo'<=lo)(k:∀a o,lo<a->h.get? a=some o->h'.get? a=some o):Handed es lo' h' as:=
 ⟨g.rise,fun a ha=>Nat.lt_of_le_of_lt l (g.above a ha),fun j a ha=>let⟨e,x,y⟩:=g.duos j a ha;⟨e,x,k a _ (g.above a (List.mem_of_getElem? ha)) y⟩⟩
theorem Handed.more{es:Array DictEntry}{lo a:Addr}{h:Heap}{as:List Addr}{e:DictEntry}(g:Handed es lo h as)(up:∀b∈as,b<a)(hl:lo<a)(he:es[as.length]?=some e)(ha:h.get? a=some (duo e)):Handed es lo h (as++[a]):=by
 refine⟨List.pairwise_append.mpr ⟨g.rise,List.pairwise_singleton _ _,fun b hb c hc=>by rw[List.mem_singleton.mp hc];exact up b hb⟩,fun b hb=>?_,fun j b hj=>?_⟩
 .exact(List.mem_append.mp hb).elim (g.above b) fun q=>List.mem_singleton.mp q▸hl
 .rw[List.getElem?_append]at hj;split at hj
  .exact g.duos j b hj
  .have z:j-as.length=0:=by
    have:=(List.getElem?_eq_some_iff.mp hj).1;simp at this;omega
   rw[z]at hj;cases hj;exact⟨e,by rw[show j=as.length by omega];exact he,ha⟩
noncomputable abbrev rowOf(acc:Array Value)(c:Nat):Obj:={ cls:=.type "list",dict:=none,data:=.seq acc c,slots:=#[] }
section
variable{prog:Program}{w:World}{A:Around}{E:Value->Shared->Prop}{s:Shared}{S I d v:Addr}{es:Array DictEntry}{ep:Nat}{R:Result->Shared->Prop}{res:Value}
theorem FB(hh:A.handled=none)(hI:S<I)(dS:d≠S)(dI:d≠I)(hn:es.size<=sizeLine):
 ∀(m i:Nat)(h:Heap)(tk c:Nat)(acc:Array Value)(as:List Addr),i+m=es.size->xG h I d i es.size ep->Raw h d es ep->h.get? S=some (rowOf acc c)->acc.toList=as.map Value.ref->as.length=i->Handed es I h as->I<h.objs.size->
  (∀h' tk acc c as,(∀b o,b≠S->b≠I->h.get? b=some o->h'.get? b=some o)->h'.get? S=some (rowOf acc c)->as.length=es.size->Handed es I h' as->acc.toList=as.map Value.ref->R (.ok (.ret res)) { s with heap:=h',toks:=tk })->
  codeAny (model prog w) A (.builtin "list.extend.loop" ⟨[.ref S,.ref I,res],[]⟩) R { s with heap:=h,toks:=tk }:=by
 intro m
 induction m using Nat.strongRecOn with
 |_ m ih=>
  intro i h tk c acc as em st r hS ea el hG lI fin;have nS:S≠I:=B4 hI;refine codeAny_builtin PySem.F.entry_extend_loop ?_;rw[Around.under_plainId L3 _];refine A0 (FD (A:=A.in1) (s:={ s with heap:=h,toks:=tk }) hh st r dI (fun e he h1 st1 t1 k1=>?_) fun he h1 k1=>?_)
  .have mi:i<es.size:=(Array.getElem?_eq_some_iff.mp he).1;have za:acc.size=i:=by rw[<- L4,ea,A1,el]
   have lS:S<h.objs.size:=A8 hS;have hS1:=k1 S _ nS hS;have sv:∀b o,b≠S->h1.get? b=some o->(h1.update S (Obj.mapSeq (·.push (Value.ref h.objs.size)))).get? b=some o:=fun b o nb e=>(J8 _ _ (F5 nb)).trans e;have hS2:=E9 (Obj.mapSeq (·.push (Value.ref h.objs.size))) hS1 rfl;have tp:=sv _ _ (E8 lS) t1;refine A0 (wpAny_updateSeq (f:=(·.push (Value.ref h.objs.size))) hS1 rfl (A6 ⟨plainId_quiet L3 _,?_⟩) (by rw[za];omega) (by show(acc.push _).size<=_;rw[Array.size_push,za];omega))
   refine ih (m-1) (by omega) (i+1) _ tk _ (acc.push (Value.ref h.objs.size)) (as++[h.objs.size]) (by omega) ?_ (r.to fun o e=>sv d o dS (k1 d o dI e)) hS2 (by rw[Array.toList_push,ea,E4];rfl) (by rw[B8,el];rfl)
    ((hG.to (A9 _) fun a o la e=>sv a o (E8 (F6 hI la)) (k1 a o (E8 la) e)).more (fun b hb=>?_) lI (by rw[el];exact he) tp) (F6 lI (A8 tp))
    fun h' tk' acc' c' as' k=>fin h' tk' acc' c' as' fun b o b1 b2 e=>k b o b1 b2 (sv b o b1 (k1 b o b2 e))
   .obtain⟨x,f,p,q,w1,hx⟩:=st1;refine⟨x,f,p,q,sv _ _ (F5 nS) w1,hx.imp id fun⟨a,o,e1,e2⟩=>?_⟩;by_cases q:a=S
    .subst q;exact⟨a,_,e1,hS2⟩
    .exact⟨a,o,e1,sv a o q e2⟩
   .obtain⟨j,hj⟩:=List.mem_iff_getElem?.mp hb;obtain⟨_,_,y⟩:=hG.duos j b hj;exact A8 y
  .have mi:es.size<=i:=Array.getElem?_eq_none_iff.mp he;exact A6 (fin h1 tk acc c as (fun b o _ b2 e=>k1 b o b2 e) (k1 S _ nS hS) (by omega) (hG.to (A9 _) fun a o la e=>k1 a o (E8 la) e) ea)
theorem JT{Q:List Value->Shared->Prop}(hh:A.handled=none)(hv:s.heap.IsItemsView v d)(r:Raw s.heap d es ep)(hn:es.size<=sizeLine)
 (hQ:∀(h':Heap)(tk:Nat)(as:List Addr),(∀b o,s.heap.get? b=some o->h'.get? b=some o)->as.length=es.size->Handed es s.heap.objs.size h' as->Q (as.map Value.ref) { s with heap:=h',toks:=tk }):
 wpAny (model prog w) A (collect (.ref v)) Q E s:=by
 obtain⟨H,g,dr,tk,os⟩:=s;have lv:v<H.objs.size:=let⟨_,ho,_⟩:=hv;A8 ho;have ld:d<H.objs.size:=let⟨_,ho,_⟩:=r;A8 ho;refine A0 (wpAny_runValue (codeAny_builtin entry_proto_collect' ?_));rw[Around.under_plainId PySem.F.plain_proto_collect _];refine A0 (m:=newList []) (C7 (A6 ⟨plainId_quiet PySem.F.plain_list_iadd _,codeAny_builtin entry_list_iadd' ?_⟩));rw[Around.under_plainId PySem.F.plain_list_iadd _];have p0:∀b o,H.get? b=some o->(H.push (rowOf #[] 0)).get? b=some o:=fun b o e=>A3 _ e;have r0:=(B2 H (o:=rowOf #[] 0) rfl);have z0:(H.push (rowOf #[] 0)).objs.size=H.objs.size+1:=L6 ..;show wpAny _ A.in1 (Builtin.List.listExtendWith (.ref H.objs.size) (.ref v) (.ref H.objs.size)) _ _ ⟨H.push (rowOf #[] 0),g,dr,tk,os⟩;generalize H.push (rowOf #[] 0)=G at p0 r0 z0 ⊢;have lG:H.objs.size<G.objs.size:=by rw[z0];exact E6 _
 have hv1:G.IsItemsView v d:=let⟨o,a,b⟩:=hv;⟨o,p0 _ _ a,b⟩;refine A0 (wpAny_typeOf (T:="dict_items") (hv1.typeIs (s:=⟨G,g,dr,tk,os⟩)) ?_);rw[show Builtin.List.listSameRef (.ref H.objs.size) (.ref v)=false from by simp[Builtin.List.listSameRef,Nat.ne_of_gt lv]];refine A0 (EW (s:=⟨G,g,dr,tk,os⟩) hv1 (r.to fun o e=>p0 d o e) (A0 (E3 (W.kdx_hint (r:=v) (let⟨o,a,b,_⟩:=hv1;⟨o,A3 _ a,b⟩) ?_))));have p1:∀b o,G.get? b=some o->(G.push (pA .none false d 0 es.size ep .none .none)).get? b=some o:=fun b o e=>A3 _ e;have r1:=B2 G (o:=pA .none false d 0 es.size ep .none .none) rfl;show wpAny _ _ _ _ _ ⟨G.push (pA .none false d 0 es.size ep .none .none),g,dr,tk,os⟩;generalize G.push (pA .none false d 0 es.size ep .none .none)=F at p1 r1 ⊢
 have go:∀h c,(∀b o,b≠H.objs.size->F.get? b=some o->h.get? b=some o)->h.get? H.objs.size=some (rowOf #[] c)->
  codeAny (model prog w) A (.builtin "list.extend.loop" ⟨[.ref H.objs.size,.ref G.objs.size,.ref H.objs.size],[]⟩) (fun r s'=>match r with|.ok (.ret v)=>wpAny (model prog w) A (match v with|.ref a=>load a >>= fun o=>(match o.data with|.seq xs _=>pure xs.toList|_=>unsupported "internal:collect")|_=>unsupported "internal:collect") Q E s'|.ok _=>False|.error e=>E e s') ⟨h,g,dr,tk,os⟩:=fun h c k hS=>
  FB (s:=⟨H,g,dr,tk,os⟩) (S:=H.objs.size) (I:=G.objs.size) hh lG (B4 ld) (B4 (F6 ld lG)) hn es.size 0 h tk c #[] [] (Nat.zero_add _) ⟨_,_,_,_,k _ _ (E8 lG) r1,.inl rfl⟩ (r.to fun o e=>k _ _ (B4 ld) (p1 _ _ (p0 _ _ e))) hS rfl rfl
   ⟨.nil,(fun _ q=>nomatch q),fun j a q=>by simp at q⟩ (A8 (k _ _ (E8 lG) r1)) fun h' tk' acc c as k' hS' el hG ea=>A0 (wpAny_load hS' (A6 (by
    rw[ea];exact hQ h' tk' as (fun b o e=>k' b o (B4 (A8 e)) (B4 (F6 (A8 e) lG)) (k b o (B4 (A8 e)) (p1 b o (p0 b o e)))) el (hG.to (O2 lG) fun _ _ _ e=>e))))
 have q0:=p1 _ _ r0;have q1:=E9 (Obj.mapSeq (·.push Value.none)) q0 rfl;refine wpAny_ite_split (fun _=>A0 (wpAny_rule (A0 (A0 (wpAny_updateSeq (f:=(·.push Value.none)) q0 rfl (wpAny_updateSeq (hz:=by seq_fits) q1 rfl (A6 ⟨plainId_quiet L3 _,go _ _ (fun b o nb e=>?_) (E9 (Obj.mapSeq (·.pop)) q1 rfl)⟩))))))) fun _=>A6 ⟨plainId_quiet L3 _,go _ _ (fun _ _ _ e=>e) q0⟩;rw[J8 _ _ (F5 nb),J8 _ _ (F5 nb)];exact e
end
end PySem
namespace PySem
open PySem.Calls PyProof.Rows
section
variable{prog:Program}{w:World}{A:Around}{E:Value->Shared->Prop}{s:Shared}{it d:Addr}{es:Array DictEntry}{i ep:Nat}
theorem JW{Q:Value->Shared->Prop}(hd:(d==sysModules)=false)(ty:s.TypeIs (.ref d) "dict")(r:Raw s.heap d es ep)
 (h:Q (.ref s.heap.objs.size) { s with heap:=s.heap.push { cls:=.type "dict_keyiterator",data:=.fields #[.ref d,.int 0 0,.int es.size 0,.int ep 0] } }):wpAny (model prog w) A (pyIter (.ref d)) Q E s:=by
 obtain⟨o,r1,r2⟩:=r;have q:Builtin.Dict.showsAll d=pure ():=by unfold Builtin.Dict.showsAll;rw[hd];rfl
 refine wpAny_pyIter_slot ty F.slot_dict_iter (F0 F.slot_dict_iter ty F.entry_dict_iter (A0 (A0 (wpAny_notOrdered_dict ty (A6 (?_:wpAny _ _ (Builtin.Dict.showsAll d >>= _) _ _ s))))) (F.args_dict_iter_1 _));rw[q];refine A0 (A6 (A0 (wpAny_dictEntries r1 r2 (A0 (wpAny_dictEpoch r1 r2 (A0 (C7 (A6 ⟨_,rfl,_,_,⟨_,B2 _ rfl,rfl⟩,F.slot_dict_keyiterator_next.lookup,?_⟩))))))));exact h
theorem wL{Q:Option Value->Shared->Prop}(hh:A.handled=none)(st:s.heap.IsKeyIter it d i es.size ep)(r:Raw s.heap d es ep)
 (h1:∀e,es[i]?=some e->∀h',h'.IsKeyIter it d (i+1) es.size ep->Heap.SameBut it s.heap h'->Q (some e.key) { s with heap:=h' })
 (h2:es[i]?=none->∀h',Heap.ExtBut it s.heap h'->Q none { s with heap:=h' }):wpAny (model prog w) A (pyNext (.ref it)) Q E s:=by
 obtain⟨o,w0,c0,f0⟩:=id st;obtain⟨od,r1,r2⟩:=r;have ty:=st.typeIs;have own:Builtin.Dict_items.ownsTuple "dict_keyiterator"=false:=by decide
 unfold pyNext;refine A0 (wpAny_attempt (J5 ty F.slot_dict_keyiterator_next (F0 F.slot_dict_keyiterator_next ty F.entry_dict_keyiterator_next (A0 (A6 (A0 (A0 ?_)))) (F.args_dict_keyiterator_next_1 _))));refine A0 (S7 ty (A6 (A0 (wpAny_fieldsOf w0 f0 ?_))));rw[own];refine A0 (A6 (A0 (wpAny_dictEntries r1 r2 ?_)));rw[A5 (by simp)];refine A0 (A6 (A0 (wpAny_dictEpoch r1 r2 ?_)));rw[A5 (by simp)];refine A6 ?_;have pl:(if (i:Int)<0 then none else es[(i:Int).toNat]?)=es[i]?:=by rw[A5 (by omega),J7]
 simp only[pl];cases c:es[i]? with
 |some e=>
  refine A0 (A0 (S7 ty (A6 (A0 (wpAny_isOneOf_keyiter ty ?_)))));refine A0 (S9 w0 (i:=1) (x:=rawInt ((i:Int)+1)) f0 (by simp) ?_)
  have st1:(s.heap.update it (Obj.mapFields (·.setIfInBounds 1 (rawInt ((i:Int)+1))))).IsKeyIter it d (i+1) es.size ep:=
   ⟨_,E9 _ w0 (Obj.isFreed_of_fields (U0 f0 _)),(Obj.cls_mapFields ..).trans c0,by rw[U0 f0];simp[rawInt]⟩
  refine A0 (E3 (A0 (wpAny_isOneOf_keyiter (s:={ s with heap:=s.heap.update it (Obj.mapFields (·.setIfInBounds 1 (rawInt ((i:Int)+1)))) }) st1.typeIs ?_)));exact A6 (A6 ⟨_,rfl,A6 (h1 e c _ st1 (O1 ..))⟩)
 |none=>
  refine A0 (A0 (S7 ty (A6 (A0 (S9 w0 (i:=0) (x:=.none) f0 (by simp) (A0 ?_))))));simp only[newExc,newTuple];refine A0 (C7 (A0 (m:=firstArgMember _ _) (wpAny_of_eq (a:=Value.none) (by simp only[firstArgMember];rfl) (C7 ?_ (by size_fits)))) (by size_fits));simp only[raiseNew];refine A0 (wpAny_handled ?_);rw[show A.in1.handled=none from hh];refine A0 (A6 (wpAny_throw ?_));refine A0 (wpAny_isInstance (b:=true) (T:="StopIteration") ⟨_,B2 _ rfl,rfl⟩ isSubtype_stop ?_);exact A6 (h2 c _ (((O1 ..).extBut.push _).push _))
theorem zZ{h h':Heap}{it d:Addr}{i n ep:Nat}(x:h.IsKeyIter it d i n ep)(k:∀o,h.get? it=some o->h'.get? it=some o):h'.IsKeyIter it d i n ep:=let⟨o,ho,r⟩:=x;⟨o,k o ho,r⟩
theorem IC(hh:A.handled=none)(ne:d≠it):
 Walks prog w A it [it,d] [it] es.size (fun i v=>(es[i]?).map (·.key)=some v) (fun i h=>h.IsKeyIter it d i es.size ep/\Raw h d es ep) where
 sub:=fun b hb=>by simp at hb;simp[hb]
 frame:=fun _ _ _ st hk=>⟨zZ st.1 fun o e=>hk it (by simp) o e,st.2.to fun o e=>hk d (by simp) o e⟩
 item:=fun i s Q E hi st hQ=>by
  have hx:es[i]?=some es[i]:=Array.getElem?_eq_getElem hi;refine wL hh st.1 st.2 (fun e he h' st' sb=>?_) fun hn=>by rw[hx]at hn;cases hn
  exact hQ _ h' s.toks (by rw[he];rfl) ⟨st',st.2.to fun o e=>sb.extBut d o ne e⟩ fun b o hb e=>sb.extBut b o (fun h=>hb (by simp[h])) e
 done:=fun s Q E st hQ=>by
  have hx:es[es.size]?=none:=Array.getElem?_eq_none (A9 _);refine wL hh st.1 st.2 (fun e he=>by rw[hx]at he;cases he) fun _ h' sb=>hQ h' s.toks fun b o hb e=>sb b o (fun h=>hb (by simp[h])) e
 self:=fun _ _ _ _ st hQ=>wpAny_pyIter_keyiter st.1 hQ
theorem OM{o:Obj}(hd:(d==sysModules)=false)(cl:o.cls=.type "dict")(dt:o.data=.dict es ep):PySem.W.KdlSrc prog w "dict" d d es.size (fun i v=>(es[i]?).map (·.key)=some v) (fun h=>h.get? d=some o) where
 type:=fun s ho=>⟨o,ho,cl⟩
 there:=fun h ho=>⟨A8 ho,A8 ho⟩
 keep:=fun h h' ho k=>k d (.inl rfl) o ho
 notList:=by decide
 notTuple:=by decide
 hint:=fun A E s Q ho q=>PySem.W.kdl_hint_dict ⟨o,ho,cl⟩ q
 iter:=fun A s hh ho=>⟨_,fun i h=>h.IsKeyIter s.heap.objs.size d i es.size ep/\Raw h d es ep,(fun E Q q=>JW hd ⟨o,ho,cl⟩ ⟨o,ho,dt⟩ q),IC hh (B4 (A8 ho)),⟨_,B2 _ rfl,rfl,rfl⟩,o,A3 _ ho,dt⟩
end
end PySem
namespace PySem.W
open PySem PySem.Calls PyProof.Rows PyProof.V PySem.Spec
section
variable{prog:Program}{w:World}{A:Around}{E:Value->Shared->Prop}{s:Shared}{h₀:Heap}{L:Addr}{m:Str->Option Value}{news:List (Addr×Obj)}{vs:List Value}
theorem l2_tail{Q:Value->Shared->Prop}(F:Fr h₀ L s.heap m)(N:News h₀ L s.heap news)(h2:2<=vs.length)(h64:vs.length<64)
 (h:∀D e1 h',Fr h₀ L h' m->News h₀ L h' ((D,seqObj "list" #[] e1)::news)->(∀q∈news,q.1<D)->
  wpAny (model prog w) A.in1 (keyKind' vs.toArray) (fun κ s'=>(kas_sort vs.length).kasWp (kas_ask prog w A.in1 κ vs) (fun p s''=>KasFin h₀ L m D e1 (p.toList.map fun i=>vs.getD i Value.none) (fun s3=>Q (.ref D) s3) s'') s') (fun _ _=>False) { s with heap:=h' }):
 wpAny (model prog w) A (do let l <- newList vs;let _ <- holding [l] (call (.builtin "list.sort") [l]);ret l) (fun fin s'=>∃v,fin=.done (.ret v)/\Q v s') E s:=by
 refine A0 (wpAny_newList ?_ (by rw[E7];omega));have hoL:(s.heap.push (seqObj "list" vs.toArray 0)).get? s.heap.objs.size=some (seqObj "list" vs.toArray 0):=B2 _ rfl;have keep:∀b o,s.heap.get? b=some o->(s.heap.push (seqObj "list" vs.toArray 0)).get? b=some o:=fun b o q=>A3 _ q;have hL:L<s.heap.objs.size:=F.ns.lt;show wpAny _ _ _ _ _ { s with heap:=s.heap.push (seqObj "list" vs.toArray 0) };refine A0 (E3 (F0 slot_list_sort ⟨_,hoL,rfl⟩ entry_list_sort ?body (args_list_sort _)))
 case body=>
  refine kat_list_sort (s:={ s with heap:=s.heap.push (seqObj "list" vs.toArray 0) }) (F.kept keep) (N.grown keep) hoL (E8 hL) (Heap.get?_none_of_le (C4 F.above (O2 hL)))
   (fun p hp=>B4 (A8 (N p hp).1)) h2 h64 fun e1 h' F' N'=>?_
  refine D6 (h _ e1 h' F' N' fun q hq=>A8 (N q hq).1) (fun κ s' hk=>?_) fun _ _ x=>x;rw[kat_ask_eq rfl]at hk ⊢;exact kas_wp_mono hk fun p s'' hk'=>hk'.mono fun s3 hq=>⟨_,rfl,A6 ⟨_,rfl,hq⟩⟩
end
end PySem.W
namespace L2
variable{A:Around}
open PySem PySem.Spec PyProof.Rows
section
variable{X:Cx}{pins:List (Addr×Obj)}{σ:St}{H:Hp}{s:Shared}{E:Value->Shared->Prop}
noncomputable def nD(its:List Value):Sem PySem.Fin:=do let l <- newList its;let _ <- holding [l] (call (.builtin "list.sort") [l]);ret l
noncomputable def DL(K:Fg)(vs:List V)(H:Hp)(Q:VK):Prop:=
 (∃rows:List (List PyData),aJ K H (rows.map .tuple) vs/\2<=rows.length/\rows.length<64/\(∀r∈rows,r.all SeqAt.shaped=true/\cH r=true)/\(jA rows=true\/lZ rows=true)/\(∀i j,i<rows.length->j<rows.length->(cO (rows.getD i []) (rows.getD j [])).isSome=true) /\
  ∀l,H l=none->Q (.ref l) (upd H l (.lst ((dB (eZ rows) rows.length).map fun i=>vs.getD i .non))))\/(vs.length<2/\∀l,H l=none->Q (.ref l) (upd H l (.lst vs)))
theorem ZZ{rows:List (List PyData)}{vs:List V}{its:List Value}{Q:VK}(hu:A.in1.units+64<cLine)(I:Inv X pins σ H s)(rv:aZ vs its)(hrep:aJ X.K H (rows.map .tuple) vs)(h2:2<=rows.length)(h64:rows.length<64)
 (hsh:∀r∈rows,r.all SeqAt.shaped=true/\cH r=true) (hknd:jA rows=true\/lZ rows=true) (hlt:∀i j,i<rows.length->j<rows.length->(cO (rows.getD i []) (rows.getD j [])).isSome=true)
 (q:∀l,H l=none->Q (.ref l) (upd H l (.lst ((dB (eZ rows) rows.length).map fun i=>vs.getD i .non)))):
 wpAny (model X.prog X.w) A (nD its) (fun fin s'=>∃v,fin=.done (.ret v)/\∃x H',Inv X pins σ H' s'/\RelV x v/\Q x H') E s:=by
 obtain⟨as,hr⟩:=aJ.reads I _ vs its hrep rv;have hlen:its.length=rows.length:=by rw[ReadsAll.len hr,A1]
 obtain⟨m,F⟩:=I.fr;have N:News X.base X.env.locals s.heap (nK X.base s.heap X.env.locals):=NV;unfold nD;refine PySem.W.l2_tail (Q:=fun v s'=>∃x H',Inv X pins σ H' s'/\RelV x v/\Q x H') F N (by omega) (by omega) fun D e1 h' F' N' hD=>?_
 have kp:∀(h1:Heap),Fr X.base X.env.locals h1 m->(∀q∈nK X.base s.heap X.env.locals,h1.get? q.1=some q.2)->∀b o,b≠X.env.locals->s.heap.get? b=some o->h1.get? b=some o:=fun h1 G1 M1 b o hb e=>by
  cases z:X.base.get? b with
  |some v=>
   have:=I.bk b v z;rw[e]at this;cases this;exact G1.keep b _ z
  |none=>exact M1 (b,o) (rY hb z e)
 have k':=kp h' F' (fun q hq=>(N' q (B1 _ hq)).1)
 have hsz:s.heap.get? D=none:=by
  have hN:=N' _ B3;cases e:s.heap.get? D with
  |none=>rfl
  |some o=>exact absurd (hD (D,o) (rY hN.2.1 hN.2.2 e)) (F7 _)
 have seqL:∀b o vs n,s.heap.get? b=some o->o.data=.seq vs n->b≠X.env.locals:=fun b o vs n e d z=>by
  obtain⟨o',es,ep,x1,x2,_⟩:=F.ns;subst z;rw[e]at x1;cases x1;rw[d]at x2;cases x2
 have onl:cH (rows.map .tuple)=true:=by
  clear hrep hr hlen q hknd hlt h2 h64
  induction rows with
  |nil=>rfl
  |cons x r ih=>
   show(cH x&&cH (r.map .tuple))=true;rw[(hsh x B3).2,ih fun y hy=>hsh y (B1 _ hy)];rfl
 have hr':ReadsAll h' its (rows.map .tuple) as:=KN (fun b o vs n e d=>k' b o (seqL b o vs n e d) e) _ _ _ onl hr;refine HY (s:={ s with heap:=h' }) hr' (by omega) hknd ?_;rw[hlen];refine KS.wp (lt:=eZ rows) (n:=rows.length) (fun i j C hi hj c=>?_) (fun p hp'=>?_) ((GR (by omega)).ks (lt:=eZ rows))
 .have at_:∀i,i<rows.length->∃bs,Reads h' (its.getD i .none) (.tuple (rows.getD i [])) bs:=fun i hi=>by
   obtain⟨bs,x⟩:=ReadsAll.at i hr' (by simpa using hi)
   have:(rows.map PyData.tuple).getD i .none=.tuple (rows.getD i []):=by
    rw[D1,D2,D1,B9 hi];rfl
   rw[this]at x;exact⟨bs,x⟩
  obtain⟨b1,r1⟩:=at_ i hi;obtain⟨b2,r2⟩:=at_ j hj
  have mem:∀i,i<rows.length->rows.getD i []∈rows:=fun i hi=>by
   rw[D1,B9 hi];exact O8 hi
  have hd:jA rows=true->∀r∈rows,r.head?.all isI=true:=fun z r hr=>by
   unfold jA at z;have:=List.all_eq_true.mp z r hr;cases r with
   |nil=>rfl
   |cons d ds=>cases d<;>first|rfl|exact absurd this (by intro z;cases z)
  obtain⟨c0,hc0⟩:=Option.isSome_iff_exists.mp (hlt i j hi hj);have hc:eZ rows i j=c0:=by unfold eZ;rw[hc0];rfl
  rw[hc]at c;exact ZA (s:={ s with heap:=h' }) hu r1 r2 (hsh _ (mem i hi)).1 (hsh _ (mem j hj)).1 hc0 (fun z=>⟨hd z _ (mem i hi),hd z _ (mem j hj)⟩) c
 .obtain⟨e,_⟩:=hp';subst e;refine PySem.W.KasFin.intro F' N' (.head fun q hq=>B4 (hD q hq)) fun h'' c F'' N''=>?_;have k'':=kp h'' F'' (fun q hq=>(N'' q (B1 _ hq)).1);refine⟨.ref D,upd H D (.lst ((dB (eZ rows) rows.length).map fun i=>vs.getD i .non)),?_,rfl,q D (I.hok.none hsz)⟩;refine I.laidL k'' (fun m' hm'=>?_) hsz ⟨?_,_,c,xS rv _,(N'' _ B3).1⟩
  .rw[<- TV F.ns hm'];exact F''.ns
  .rw[A1,(mJ (eZ rows) (by omega)).length_eq,List.length_range];have:64<=sizeLine:=by decide
   omega
theorem ZM{A:Around}{vs:List V}{its:List Value}{Q:VK}(I:Inv X pins σ H s)(rv:aZ vs its)(h2:vs.length<2)(q:∀l,H l=none->Q (.ref l) (upd H l (.lst vs))):
 wpAny (model X.prog X.w) A (nD its) (fun fin s'=>∃v,fin=.done (.ret v)/\∃x H',Inv X pins σ H' s'/\RelV x v/\Q x H') E s:=by
 have hl:=rv.length;have hz:its.length<=sizeLine:=by rw[E7];omega
 unfold nD;refine A0 (wpAny_newList ?_ hz);refine A0 (E3 ?_);have gD:(s.heap.push { cls:=.type "list",data:=.seq its.toArray }).get? s.heap.objs.size=some (seqObj "list" its.toArray 0):=B2 _ rfl;refine F0 slot_list_sort ⟨_,gD,rfl⟩ entry_list_sort (sQ gD (by omega) ⟨_,rfl,?_⟩) (args_list_sort _)
 obtain⟨c,gg⟩:∃c,(sortedHeap (s.heap.push { cls:=.type "list",data:=.seq its.toArray }) s.heap.objs.size its its.toArray).get? s.heap.objs.size=some (seqObj "list" its.toArray c):=by
  unfold sortedHeap;have g1:=get?_update_seq gD (fun _=>#[]);have g2:=A3 (seqObj "tuple" its.toArray 0) g1;have g3:=A3 (seqObj "list" #[] 0) g2;exact⟨_,get?_update_seq g3 (fun _=>its.toArray)⟩
 refine A6 ⟨_,rfl,.ref s.heap.objs.size,upd H s.heap.objs.size (.lst vs),I.laid (t':=s.toks) (fun b o e=>?_) (A9 _) ⟨by omega,its,c,rv,gg⟩,rfl,q _ (I.hok.fresh (A9 _))⟩
 .have hb:b≠s.heap.objs.size:=B4 (A8 e);unfold sortedHeap;rw[Heap.get?_update_ne _ _ _ _ hb];refine A3 _ (A3 _ ?_);rw[Heap.get?_update_ne _ _ _ _ hb];exact A3 _ e
theorem PF{vs:List V}{its:List Value}{Q:VK}(hu:A.in1.units+64<cLine)(I:Inv X pins σ H s)(rv:aZ vs its)(h:DL X.K vs H Q):
 wpAny (model X.prog X.w) A (nD its) (fun fin s'=>∃v,fin=.done (.ret v)/\∃x H',Inv X pins σ H' s'/\RelV x v/\Q x H') E s:=by
 rcases h with⟨rows,a,b,c,d,e,f,g⟩|⟨a,b⟩
 .exact ZZ hu I rv a b c d e f g
 .exact ZM I rv a b
noncomputable def pQ:List (V×V)->Hp->(List V->Hp->Prop)->Prop
 |[],H,k=>k [] H
 |(x,y)::r,H,k=>∀p,H p=none->pQ r (upd H p (.tup [x,y])) fun vs H2=>k (.ref p::vs) H2
theorem Inv.trackT{e:Addr}{vs:List V}{its:List Value}{n:Nat}(I:Inv X pins σ H s)(he:s.heap.get? e=some { cls:=.type "tuple",data:=.seq its.toArray n })(rv:aZ vs its)(hz:vs.length<=sizeLine)(hn:H e=none)(h0:X.s₀.heap.get? e=none)(hp:∀p∈X.pn++pins,p.1≠e):
 Inv X pins σ (upd H e (.tup vs)) s:=by
 have ne:∀b u,H b=some u->b≠e:=fun b u z=>aO z hn
 have nd:∀b (o:Obj),s.heap.get? b=some o->(∀vs n,o.data≠.seq vs n)->b≠e:=fun b o q z w=>by
  subst w;rw[he]at q;cases q;exact z _ _ rfl
 refine⟨I.ok,I.os,I.bare,⟨I.base.keep,I.base.slot,fun b o q n hx=>?_,I.base.there,fun b xs q=>?_,fun b o u q=>?_,fun b ps q=>?_⟩,I.loc,I.cell,?_,fun x c q=>?_,fun p h=>?_,fun b u q=>?_,I.len⟩
 .rw[aM (fun z=>by rw[z,h0]at q;cases q)];exact I.base.free b o q n hx
 .have:=I.base.tups b xs q;rw[aM (ne _ _ this)];exact this
 .have:=I.base.frzs b o u q;rw[aM (ne _ _ this)];exact this
 .obtain⟨more,this⟩:=I.base.tbls b ps q;exact⟨more,by rw[aM (ne _ _ this)];exact this⟩
 .obtain⟨m,⟨o,es,ep,ho,hd,_⟩,_⟩:=I.loc;rw[aM (nd _ o ho fun vs n z=>by rw[hd]at z;cases z)];exact I.free
 .obtain⟨v,o,ho,hd⟩:=I.cell x c q;rw[aM (nd _ o ho fun vs n z=>by rw[hd]at z;cases z)];exact I.freeC x c q
 .obtain⟨q1,q2,q3⟩:=I.pin p h;exact⟨q1,by rw[aM (hp p h)];exact q2,q3⟩
 .by_cases hb:b=e
  .subst hb;rw[aU]at q;cases q;exact⟨hz,its,rv,⟨_,he,rfl,n,rfl⟩⟩
  .rw[aM hb]at q;exact(I.hok b u q).stay (fun _ _ _ z=>z) (fun c z=>by rw[aM (ne _ _ z)];exact z) fun c xs z=>by rw[aM (ne _ _ z)];exact z
theorem GB:∀{ps:List (V×V)}{us:List (Value×Value)}{as:List Addr}{H:Hp}{k:List V->Hp->Prop},Inv X pins σ H s->Paired (fun p q=>RelV p.1 q.1/\RelV p.2 q.2) ps us->as.length=us.length->as.Pairwise (·<·)->(∀a∈as,H a=none)->
 (∀(j:Nat)(a:Addr),as[j]?=some a->∃p,us[j]?=some p/\s.heap.get? a=some { cls:=.type "tuple",data:=.seq #[p.1,p.2] })->(∀a∈as,X.s₀.heap.get? a=none/\∀p∈X.pn++pins,p.1≠a)->pQ ps H k->∃H2,Inv X pins σ H2 s/\k (as.map .ref) H2
 |[],us,as,H,k=>fun I r hl _ _ _ _ h=>by
  cases r;have:as=[]:=List.eq_nil_of_length_eq_zero hl;subst this;exact⟨H,I,h⟩
 |(x,y)::ps,us,as,H,k=>fun I r hl hp hn hg h0 h=>by
  cases r with
  |@cons _ q _ us' r1 r2=>
   match as,hl,hp,hn,hg,h0 with
   |a::as',hl,hp,hn,hg,h0=>
    obtain⟨p,e1,e2⟩:=hg 0 a rfl;have e1:some q=some p:=e1;cases e1;obtain⟨p1,p2⟩:=List.pairwise_cons.mp hp;have I1:=I.trackT (e:=a) (vs:=[x,y]) (its:=[q.1,q.2]) e2 (.cons r1.1 (.cons r1.2 .nil)) (by show 2<=sizeLine;rw[E7];decide) (hn a B3) (h0 a B3).1 (h0 a B3).2;have hl':as'.length=us'.length:=Nat.succ.inj hl;obtain⟨H2,I2,hk⟩:=GB (as:=as') (k:=fun vs H2=>k (.ref a::vs) H2) I1 r2 hl' p2 (fun b hb=>by rw[aM (E8 (p1 b hb))];exact hn b (B1 _ hb)) (fun j b hb=>hg (j+1) b hb) (fun b hb=>h0 b (B1 _ hb)) (h a (hn a B3));exact⟨H2,I2,hk⟩
noncomputable def PX(K:Fg)(td:TE):TE:=fun σ H Q=>td σ H fun x H1=>∃a kvs,x=.ref a/\H1 a=some (.dT kvs) /\
 ∀bs:List Addr,Paired (fun(b:Addr)(kv:List Key×V)=>H1 b=some (.tup (kv.1.map kV))) bs kvs->pQ ((bs.zip kvs).map fun p=>(.ref p.1,p.2.2)) H1 fun vs H2=>DL K vs H2 Q
end
section
variable{X:Cx}{o:Expr}{td:TE}{pos apos cpos p:Pos}
theorem KT.addrs{H:Hp}:∀{kvs:List (List Key×V)}{xs:List (List Key×Addr×Value)},KT H kvs xs->Paired (fun(b:Addr)(kv:List Key×V)=>H b=some (.tup (kv.1.map kV))) (xs.map fun x=>x.2.1) kvs /\
 Paired (fun(p:V×V)(q:Value×Value)=>RelV p.1 q.1/\RelV p.2 q.2) (((xs.map fun x=>x.2.1).zip kvs).map fun p=>(V.ref p.1,p.2.2)) (xs.map fun x=>(Value.ref x.2.1,x.2.2))
 |_,_,.nil=>⟨.nil,.nil⟩
 |_,_,.cons r1 r2=>⟨.cons r1.2.1 (KT.addrs r2).1,.cons ⟨rfl,r1.2.2⟩ (KT.addrs r2).2⟩
theorem OK(hu:X.A.in1.in1.units+64<cLine)(hc:X.calm=true)(hg:Gl X "sorted")(hm:X.mg "sorted"=none)(ho:PE X o td)(hb:attributeBase o "items" X.env (eval o X.env)=eval o X.env)(hline:(apos.endLine==cpos.line)=true):
 PE X (.Call (.Name "sorted" p) [.Call (.Attribute o "items" apos) [] [] cpos] [] pos) (PX X.K td):=by
 intro pins s σ H Q I h;refine O6 (rL I hg hm boot_sorted ?_ (by decide) (by decide));refine PyProof.Rows.callWith_builtin1 ?_ rfl rfl;show wpAny _ _ (spliced ((false,eval (.Call (.Attribute o "items" apos) [] [] cpos) X.env)::[])) _ _ s;refine Calls.spliced_cons ?_;refine wpAny_Call_method (T:="dict") (id:="dict.items") hb rfl hline PySem.F.plainAttrs_dict PySem.F.slot_dict_items PySem.F.type_dict_items (thn (ho pins s σ H _ I h) fun u s1 ⟨x,H1,I1,rx,a,kvs,ex,ea,q⟩=>?_);subst ex;obtain rfl:u=Value.ref a:=rx;obtain⟨z,hs,xs,r,od,es,ep,h1,h2,h3,h4,h5⟩:=(show cE X.prog X.w H1 s1.heap a (.dT kvs)from I1.hok a _ ea);have hT:s1.TypeIs (.ref a) "dict":=⟨od,h1,h2.1⟩;refine⟨hT,fun b e=>by cases e;exact⟨od,h1,h2.2.1⟩,?_⟩;show wpAny _ _ (callWith cpos (.builtin "dict.items") [.ref a] [] []) _ _ s1;refine method_meetsIn PySem.F.slot_dict_items PySem.F.entry_dict_items rfl (PySem.evalArgs_none ⟨rfl,hT,PySem.F.args_dict_items_1 _,_,EC a hs,hT,?_⟩);refine Calls.spliced_nil ?_;have I2:Inv X pins σ H1 { s1 with heap:=s1.heap.push { cls:=.type "dict_items",data:=.fields #[.ref a] } }:=I1.kept (t':=s1.toks) fun b o e=>A3 _ e;have hv:(s1.heap.push { cls:=.type "dict_items",data:=.fields #[.ref a] }).IsItemsView s1.heap.objs.size a:=⟨_,B2 _ rfl,rfl,rfl⟩;have hat:Raw (s1.heap.push { cls:=.type "dict_items",data:=.fields #[.ref a] }) a es ep:=⟨od,A3 _ h1,h3⟩;have hzs:es.size=xs.length:=by rw[<- L4,h4,A1]
 have hl:kvs.length=xs.length:=Paired.len r;refine Calls.call_function_entry kind_sorted plain_sorted entry_sorted (args_sorted1 _) ?_;unfold Builtin.«sorted»;refine A0 (m:=checkCount "sorted" 1 1 _) (A6 ?_);refine A0 (JT (A:=X.A.in1) (I.ok.hd hc) hv hat (by rw[hzs,<- hl];exact z) fun h' tk as hk hal hG=>?_);have I3:Inv X pins σ H1 { s1 with heap:=h',toks:=tk }:=I2.kept hk;obtain⟨pk1,pk2⟩:=KT.addrs r;have hge:∀b∈as,s1.heap.objs.size<b:=fun b hb=>F6 (show s1.heap.objs.size<(s1.heap.push { cls:=.type "dict_items",data:=.fields #[.ref a] }).objs.size by rw[L6];exact E6 _) (hG.above b hb)
 obtain⟨H2,I4,hk2⟩:=GB (as:=as) (s:={ s1 with heap:=h',toks:=tk }) I3 pk2 (by rw[hal,hzs,A1]) hG.rise (fun b hb=>I1.hok.fresh (O2 (hge b hb))) (fun j b hj=>by
  obtain⟨e,e1,e2⟩:=hG.duos j b hj;refine⟨(e.key,e.val),?_,e2⟩;rw[<- E5,h4,D2]at e1;rw[D2];cases c:xs[j]?<;>rw[c]at e1<;>cases e1;rfl) (fun b hb=>⟨Heap.get?_none_of_le (C4 I1.sz (O2 (hge b hb))),fun p hp=>B4 (F6 (A8 (I1.pin p hp).1) (hge b hb))⟩) (q _ pk1)
 exact PF (A:=X.A.in1) hu I4 (its:=as.map Value.ref) (by
  clear hk2 hG hal hge
  induction as with
  |nil=>exact .nil
  |cons b as ih=>exact .cons rfl ih) hk2
end
section
variable{K:Fg}{td:TE}{fo:EF}
theorem Good.adopt{W:Wd}{M:Sto}{H:Hp}{b:Addr}{us:List V}(G:Good K W M H)(hb:H b=some (.tup us)):W.Ext { W with F:=upd W.F b (.tup us) }/\Good K { W with F:=upd W.F b (.tup us) } M H:=by
 have ff:gR W.F (upd W.F b (.tup us)):=fun c o hc=>by
  by_cases q:c=b
  .subst q;have:=G.fh _ _ hc;rw[hb]at this;cases this;exact aU
  .rw[aM q];exact hc
 have e:W.Ext { W with F:=upd W.F b (.tup us) }:=⟨ff,A9 _,fun _ _=>rfl⟩;refine⟨e,fun c o hc=>?_,G.n,fun i c hi hc=>?_,G.inj⟩
 .have hc:upd W.F b (.tup us) c=some o:=hc;by_cases q:c=b
  .subst q;rw[aU]at hc;cases hc;exact hb
  .rw[aM q]at hc;exact G.fh c o hc
 .obtain⟨h1,o,h2,h3⟩:=G.cs i c hi hc
  have ne:W.α i≠b:=fun q=>by
   rw[q,hb]at h2;cases h2;cases c<;>exact False.elim h3
  exact⟨by show upd W.F b (.tup us) (W.α i)=none;rw[aM ne];exact h1,o,h2,h3.up e⟩
noncomputable def CM(kv:List Key×PyData):List PyData:=[.tuple (kv.1.map sO),kv.2]
noncomputable def xX:List (List Key×CD)->Option (List (List Key×PyData))
 |[]=>some []
 |(k,.d x)::r=>(xX r).bind fun q=>some ((k,x)::q)
 |_=>none
noncomputable def iN(rows:List (List PyData)):Option (List PyData):=if sortable rows=true then some (GI rows)else if rows.length<2 then some (rows.map .tuple)else none
noncomputable def qM(fo:EF):EF:=fun γ M=>(fo γ M).bind fun o=>match o.1 with
 |.c i=>match o.2[i]? with
  |some (.dt kvs)=>(xX kvs).bind fun ds=>(iN (ds.map CM)).bind fun r=>some (.d (.list r),o.2)
  |_=>none
 |_=>none
theorem zW{H:Hp}:∀ks:List Key,aJ K H (ks.map sO) (ks.map kV)
 |[]=>rfl
 |k::ks=>⟨_,_,rfl,by cases k<;>rfl,zW ks⟩
theorem rF{M:Sto}{H:Hp}:∀{bs:List Addr}{kvs:List (List Key×V)}{W:Wd},Good K W M H->Paired (fun(b:Addr)(kv:List Key×V)=>H b=some (.tup (kv.1.map kV))) bs kvs->∃W',W.Ext W'/\Good K W' M H/\Paired (fun(b:Addr)(kv:List Key×V)=>W'.F b=some (.tup (kv.1.map kV))) bs kvs
 |_,_,W,G,.nil=>⟨W,.refl _,G,.nil⟩
 |_,_,W,G,.cons h1 h2=>by
  obtain⟨e1,G1⟩:=G.adopt h1;obtain⟨W2,e2,G2,p2⟩:=rF G1 h2;exact⟨W2,e1.trans e2,G2,.cons (e2.ff _ _ aU) p2⟩
theorem CS{M:Sto}:∀{bs:List Addr}{ds:List (List Key×PyData)}{kvs:List (List Key×V)}{W:Wd}{H:Hp}{k:List V->Hp->Prop},Good K W M H->Paired (fun(b:Addr)(kv:List Key×V)=>W.F b=some (.tup (kv.1.map kV))) bs kvs->Paired (fun(p:List Key×PyData)(q:List Key×V)=>p.1=q.1/\Rep K W.F p.2 q.2) ds kvs->
 (∀vs W' H',W.Ext W'->Good K W' M H'->aJ K W'.F ((ds.map CM).map .tuple) vs->k vs H')->pQ ((bs.zip kvs).map fun p=>(.ref p.1,p.2.2)) H k
 |_,_,_,W,H,k,G,.nil,.nil=>fun c=>c [] W H (.refl _) G rfl
 |b::bs,(ks,d)::ds,(ks',v)::kvs,W,H,k,G,.cons h1 h2,.cons q1 q2=>fun c=>by
  obtain⟨rfl,rd⟩:=(show ks=ks'/\Rep K W.F d v from q1);intro p hp;obtain⟨e1,G1⟩:=G.lay (o:=.tup [.ref b,v]) hp;refine CS G1 (Paired.mapP h2 fun _ _ r=>e1.ff _ _ r) (Paired.mapP q2 fun _ _ r=>⟨r.1,Rep.same e1.ff _ _ r.2⟩) fun vs W2 H2 e2 G2 r2=>?_;refine c _ W2 H2 (e1.trans e2) G2 ⟨_,_,rfl,⟨p,_,rfl,SqT.of (e2.ff _ _ aU),?_⟩,r2⟩;exact⟨_,_,rfl,⟨b,_,rfl,SqT.of ((e1.trans e2).ff _ _ h1),zW ks⟩,_,_,rfl,Rep.same (e1.trans e2).ff _ _ rd,rfl⟩
theorem wY{W:Wd}:∀{kvs:List (List Key×CD)}{ds:List (List Key×PyData)}{us:List (List Key×V)},xX kvs=some ds->PKV K W kvs us->Paired (fun(p:List Key×PyData)(q:List Key×V)=>p.1=q.1/\Rep K W.F p.2 q.2) ds us
 |[],_,_,h,.nil=>by cases h;exact .nil
 |(k,.d x)::r,_,_,h,.cons r1 r2=>by
  obtain⟨q,h1,h⟩:=aI (show(xX r).bind _=_ from h);cases h;exact .cons r1 (wY h1 r2)
 |(k,.c _)::r,_,_,h,_=>by cases h
theorem LS(a:SE K td fo):SE K (PX K td) (qM fo):=by
 intro γ M x M' hh W H σ Q G R k;obtain⟨⟨o,M1⟩,h1,hh⟩:=aI hh;revert hh;dsimp only;split
 .rename_i i;split
  .rename_i kvs hk;intro hh;obtain⟨ds,h2,hh⟩:=aI hh;obtain⟨r,h3,hh⟩:=aI hh;cases hh;refine a _ _ _ _ h1 W H σ _ G R fun v W1 H1 e1 G1 r1=>?_;obtain⟨us,hu,pu⟩:=G1.dtAt hk;refine⟨_,us,r1.2,hu,fun bs pb=>?_⟩;obtain⟨W2,e2,G2,p2⟩:=rF G1 pb;refine CS G2 p2 (Paired.mapP (wY h2 pu) fun _ _ r=>⟨r.1,Rep.same e2.ff _ _ r.2⟩) fun vs W3 H3 e3 G3 r3=>?_;have e13:=(e1.trans e2).trans e3;unfold iN at h3;by_cases hs:sortable (ds.map CM)=true
   .rw[A4 hs]at h3;cases h3;obtain⟨s1,s2,s3,s4,s5⟩:=iW hs;refine .inl ⟨ds.map CM,aJ.same G3.fh _ _ r3,s1,s2,s3,s4,s5,fun l hl=>?_⟩;obtain⟨e4,G4⟩:=G3.lay (o:=.lst ((dB (eZ (ds.map CM)) (ds.map CM).length).map fun i=>vs.getD i .non)) hl;exact k _ _ _ (e13.trans e4) G4 ⟨l,_,rfl,SqL.of aU,aJ.same e4.ff _ _ (tY r3 _ (WD (by omega)))⟩
   .rw[A5 hs]at h3;by_cases hl2:(ds.map CM).length<2
    .rw[A4 hl2]at h3;cases h3;refine .inr ⟨by rw[<- r3.length,A1];exact hl2,fun l hl=>?_⟩;obtain⟨e4,G4⟩:=G3.lay (o:=.lst vs) hl;exact k _ _ _ (e13.trans e4) G4 ⟨l,_,rfl,SqL.of aU,aJ.same e4.ff _ _ r3⟩
    .rw[A5 hl2]at h3;cases h3
  .intro hh;cases hh
 .intro hh;cases hh
theorem NF{ι:Type}{X:ι->Cx}{o:Expr}{f:EF}{pos apos cpos p:Pos}(hK:∀i,(X i).K=K)(hu:∀i,(X i).A.in1.in1.units+64<cLine)(hc:∀i,(X i).calm=true)(hm:∀i,(X i).mg "sorted"=none)(x:ME K X o f)(hg:∀i,Gl (X i) "sorted":=by intro _;rfl)
 (hb:∀env:Env,attributeBase o "items" env (eval o env)=eval o env:=by intro _;rfl) (hline:(apos.endLine==cpos.line)=true:=by rfl):ME K X (.Call (.Name "sorted" p) [.Call (.Attribute o "items" apos) [] [] cpos] [] pos) (qM f):=by
 obtain⟨t,x1,x2⟩:=x.ex;exact⟨_,fun i=>by have:=OK (p:=p) (pos:=pos) (apos:=apos) (cpos:=cpos) (hu i) (hc i) (hg i) (hm i) (x1 i) (hb _) hline;rw[hK i]at this;exact this,LS x2⟩
end
section
variable{K:Fg}
theorem Good.freezeL{W:Wd}{M:Sto}{H:Hp}{i:Nat}{xs:List CD}{ds:List PyData}(G:Good K W M H)(hi:M[i]?=some (.lst xs))(hd:iS xs=some ds):
 ∃W',W.Ext W'/\Good K W' (M.set i .dead) H/\W'.α i=W.α i/\bU K W' (.d (.list ds)) (.ref (W.α i)):=by
 obtain⟨vs,hv,rv⟩:=G.lstAt hi;obtain⟨hn,_⟩:=G.cs i _ hi (by intro q;cases q);have lt:i<M.length:=(List.getElem?_eq_some_iff.mp hi).1;have e:W.Ext { W with F:=upd W.F (W.α i) (.lst vs) }:=⟨gR.upd hn,A9 _,fun _ _=>rfl⟩
 have at_:∀j d,(M.set i .dead)[j]?=some d->d≠.dead->j≠i/\M[j]?=some d:=fun j d h hd=>by
  by_cases q:i=j
  .subst q;rw[D9 lt]at h;exact absurd (D0 h).symm hd
  .rw[J0 q]at h;exact⟨fun z=>q z.symm,h⟩
 refine⟨_,e,⟨fun c o hc=>?_,by show W.n=_;rw[G.n,L9],fun j d hj hd=>?_,fun j k d1 d2 hj hk e1 e2 he=>?_⟩,rfl,⟨_,vs,rfl,SqL.of aU,aJ.same e.ff _ _ (fN hd rv)⟩⟩
 .have hc:upd W.F (W.α i) (.lst vs) c=some o:=hc;by_cases q:c=W.α i
  .subst q;rw[aU]at hc;cases hc;exact hv
  .rw[aM q]at hc;exact G.fh c o hc
 .obtain⟨q,h⟩:=at_ j d hj hd;obtain⟨k1,u,k2,k3⟩:=G.cs j d h hd;have ne:W.α j≠W.α i:=fun z=>q (G.inj j i d _ h hi hd (by intro z;cases z) z);exact⟨by show upd W.F (W.α i) (.lst vs) (W.α j)=none;rw[aM ne];exact k1,u,k2,k3.up e⟩
 .exact G.inj j k d1 d2 (at_ j d1 hj e1).2 (at_ k d2 hk e2).2 e1 e2 he
noncomputable def jJ(f:EF):EF:=fun γ M=>(f γ M).bind fun r=>match r.1 with
 |.c i=>match r.2[i]? with
  |some (.lst xs)=>(iS xs).bind fun ds=>some (.d (.list ds),r.2.set i .dead)
  |_=>none
 |.d x=>some (.d x,r.2)
 |_=>none
theorem JK{t:TE}{f:EF}(a:SE K t f):SE K t (jJ f):=by
 intro γ M x M' hh W H σ Q G R k;obtain⟨⟨o,M1⟩,h1,hh⟩:=aI hh;revert hh;dsimp only;split
 .rename_i i;split
  .rename_i xs hx;intro hh;obtain⟨ds,h2,hh⟩:=aI hh;cases hh;refine a _ _ _ _ h1 W H σ _ G R fun v W1 H1 e1 G1 r1=>?_;obtain⟨W2,e2,G2,_,r2⟩:=G1.freezeL hx h2;rw[r1.2];exact k _ W2 H1 (e1.trans e2) G2 r2
  .intro hh;cases hh
 .intro hh;cases hh;exact a _ _ _ _ h1 W H σ _ G R k
 .intro hh;cases hh
theorem wW{ι:Type}{X:ι->Cx}{e:Expr}{f:EF}(x:ME K X e f):ME K X e (jJ f):=by
 obtain⟨t,x1,x2⟩:=x.ex;exact⟨t,x1,JK x2⟩
noncomputable def xA:FN:=fun xs M=>match xs with
 |[.d a]=>(bG a).bind fun ds=>some (.c M.length,M++[.lst (ds.map .d)])
 |[.c i]=>match M[i]? with
  |some (.lst ys)=>some (.c M.length,M++[.lst ys])
  |_=>none
 |_=>none
theorem LH:PN K (LV K) xA:=by
 intro xs M z M' h W H vs Q G r k;unfold xA at h;split at h
 .rename_i a;obtain⟨ds,h1,h⟩:=aI h;cases h;rcases r with _|⟨r1,_|_⟩;obtain⟨p,us,rfl,hs,hr⟩:=nG (show Rep K W.F a _ from r1) h1;refine⟨p,us,rfl,hs.elim (fun q=>.inl (G.fh.seq q)) (fun q=>.inr (G.fh.seqT q)),fun l hl=>?_⟩;exact k _ (W.more l) _ (W.ext_more l) (G.new hl (c:=.lst (ds.map .d)) (o:=.lst us) (gH hr)) G.newV
 .rename_i i;split at h
  .rename_i ys hy;cases h;rcases r with _|⟨r1,_|_⟩;obtain⟨us,hv,hr⟩:=G.lstAt hy;refine⟨_,us,by rw[r1.2],.inl (SqL.of hv),fun l hl=>?_⟩;exact k _ (W.more l) _ (W.ext_more l) (G.new hl (c:=.lst ys) (o:=.lst us) hr) G.newV
  .cases h
 .cases h
theorem RI{ι:Type}{X:ι->Cx}(hK:∀i,(X i).K=K):QN K X (.type "list") xA:=⟨_,fun i=>aCG (hK i),LH⟩
noncomputable def eqC(neg:Bool):F2:=fun x y M=>(snap 5 M x).bind fun a=>(snap 5 M y).bind fun b=>if (SeqAt.shaped a&&SeqAt.shaped b)=true then some (.d (.bool (if neg then !PyData.eqv a b else PyData.eqv a b)),M)else none
theorem YT{neg:Bool}:P2 K (FF K neg) (eqC neg):=by
 intro x y M z M' h W H v u Q G rx ry k;obtain⟨a,h1,h⟩:=aI h;obtain⟨b,h2,h⟩:=aI h;by_cases hs:(SeqAt.shaped a&&SeqAt.shaped b)=true
 .rw[A4 hs]at h;cases h;rw[B0]at hs;exact⟨a,b,qC G 5 x a v h1 rx,qC G 5 y b u h2 ry,hs.1,hs.2,k _ W H (.refl _) G rfl⟩
 .rw[A5 hs]at h;cases h
noncomputable def eqY(neg:Bool):F2:=vW (eqX neg) (eqC neg)
theorem aCh{ι:Type}{X:ι->Cx}(hK:∀i,(X i).K=K)(hu:∀i,(X i).A.units+64<cLine):Q2 K X (compareOp .Eq) (eqY false):=⟨_,fun i=>(kEq (hK i) (hu i)).or (show OpR (X i) (compareOp .Eq) (FF K false)by have:=NN (X:=X i) (hu i);rw[hK i]at this;exact this),P2.or OJ YT⟩
end
section
variable{X:Cx}{pins:List (Addr×Obj)}{σ:St}{H:Hp}{s:Shared}{a:Addr}{y v:V}{u r:Value}{A:Around}{E:Value->Shared->Prop}
theorem IU{H':Hp}{Q:Unit->Shared->Prop}(hu:A.units<cLine)(I:Inv X pins σ H s)(g:tZ H a y v H')(ry:RelV y u)(rv:RelV v r)(h:∀s',Inv X pins σ H' s'->Q () s'):
 wpAny (model X.prog X.w) A (dictSet a u r) Q E s:=by
 rcases g with⟨kvs,k,e,ey,l,eH⟩|⟨kvs,k,b,e,ey,eb,l,eH⟩
 .subst ey eH;obtain⟨z,hd,vs,rel,dd⟩:=WU I.hok e;have hz:vs.length<=sizeLine:=by rw[<- rel.length];exact z
  have hl:(putK kvs k v).length<=sizeLine:=by have:=iX kvs k v;omega
  refine wpAny_dictSet_pairs (hsz:=hz) (FZ ry) dd fun h' dd' hs=>h _ ?_;have he:∃q,h'.get? a=some q:=let⟨q,_,_,hq,_⟩:=dd';⟨q,hq⟩;exact tF I (by rw[e];exact True.intro) hs he (QC hl hd (rel.put k rv) dd')
 .subst ey eH;cases (show u=Value.ref b from ry);obtain⟨z,hd,xs,rel,dd⟩:=VQ I.hok e;have hz:xs.length<=sizeLine:=by rw[<- S4 rel];exact z
  have hl:(putK kvs k v).length<=sizeLine:=by have:=iX kvs k v;omega
  refine wpAny_dictSet_heap (hsz:=hz) hu (zC I.hok eb) dd fun h' dd' hs=>h _ ?_;obtain⟨q,es,ep,hq,h2,h3,h4,_,h5⟩:=dd';refine tF I (by rw[e];exact True.intro) hs ⟨q,hq⟩ ⟨hl,hd,_,(rel.put k eb rv).keeps fun c ys ec=>?_,q,es,ep,hq,h2,h3,h4,h5⟩;rw[aM (WK ec e (fun z=>nomatch z))];exact ec
end
section
variable{prog:Program}{w:World}{A:Around}{R:Result->Shared->Prop}{s:Shared}
theorem RD{kx vx target iter:Expr}{ifs:List Expr}{scope:Scope}{pos:Pos}{it:Value}{D:Addr}{env:Env}(I:Nat->Shared->Prop)
 (turn:∀n s,I n s->wpAny (model prog w) A (pyNext it) (fun r s1=>(r=none/\R (.ok .next) s1)\/∃v,r=some v /\
  wpAny (model prog w) A (letOwnedTupleGo target it v) (fun _ s2=>wpAny (model prog w) A (assign target env v) (fun _ s3=>
   wpAny (model prog w) A (forIn ifs true fun c r=>if r=true then(do
    let ok <- isTrue c env (eval c env)
    pure (ForInStep.yield ok))else pure (ForInStep.yield r)) (fun ok s4=>
     (ok=true/\wpAny (model prog w) A (eval kx env) (fun kv s5=>wpAny (model prog w) A (eval vx env) (fun vv s6=>wpAny (model prog w) A (dictSet D kv vv) (fun _ s7=>∃m,m<n/\I m s7) (fun _ _=>False) s6) (fun _ _=>False) s5) (fun _ _=>False) s4) \/
     (ok=false/\∃m,m<n/\I m s4)) (fun _ _=>False) s3) (fun _ _=>False) s2) (fun _ _=>False) s1) (fun _ _=>False) s)
 (n:Nat) (h:I n s):codeAny (model prog w) A (.compLoop (.DictComp kx vx [⟨target,iter,ifs,0⟩] scope pos) 0 it (.ref D) env) R s:=by
 refine codeAny_loop rfl I (fun n s hI=>?_) n h
 show wpAny _ A ((compTurn (.DictComp kx vx [⟨target,iter,ifs,0⟩] scope pos) 0 it (.ref D) env).onRaise fun x=>do
  noteFrame x env
  theTreesLotGoes x) _ _ s
 refine wpAny_noted ?_;rw[compTurn_dict];refine A0 (S5 (A0 (D6 (turn n s hI) (fun r s1 h1=>?_) fun _ _ f=>f.elim)));rcases h1 with⟨rfl,h1⟩|⟨v,rfl,h1⟩
 .exact A6 h1
 .refine A0 (D6 h1 (fun _ s2 h2=>?_) fun _ _ f=>f.elim);refine A0 (D6 h2 (fun _ s3 h3=>?_) fun _ _ f=>f.elim);refine A0 (D6 h3 (fun ok s4 h4=>?_) fun _ _ f=>f.elim);rcases h4 with⟨rfl,h4⟩|⟨rfl,h4⟩
  .refine A0 (A0 (D6 h4 (fun kv s5 h5=>?_) fun _ _ f=>f.elim));refine A0 (E3 (D6 h5 (fun vv s6 h6=>?_) fun _ _ f=>f.elim));refine A0 (S5 (E3 (D6 h6 (fun _ s7 h7=>A6 ⟨rfl,h7⟩) fun _ _ f=>f.elim)))
  .exact A6 ⟨rfl,h4⟩
end
noncomputable def tDc(o0:HO)(cap:List (Option Nat))(wi:TI)(g:TG)(tc:TT)(tk tv:TE):TE:=fun σ H Q=>wi σ H fun J H1=>∀D,H1 D=none->∃W:Nat->Nat->St->Hp->Prop,(∃m,W 0 m (sP cap σ) (upd H1 D o0))/\∀i m σ' H',W i m σ' H'->
 (J.stop i H'/\Q (.ref D) H') \/
 (J.go i H'/\∃N:St->Hp->Prop,(∀σ2 H2,N σ2 H2->∃m',m'<m/\W (i+1) m' σ2 H2)/\∀x H2,J.yld i H' x H2->g x σ' H2 fun σ2 H3=>tc σ2 H3 fun b H4=>(b=true/\tk σ2 H4 fun y H5=>tv σ2 H5 fun v H6=>∃H7,tZ H6 D y v H7/\N σ2 H7)\/(b=false/\N σ2 H4))
section
variable{X:Cx}{N':List Str}{cap:List (Option Nat)}{scope:Scope}
theorem ZV{o0:HO}(ho:o0=.dT []\/o0=.dK []){kx vx tg iter:Expr}{ifs:List Expr}{pos:Pos}{wi:TI}{g:TG}{tc:TT}{tk tv:TE}(hu:X.A.units<cLine)(hc:X.calm=true)(S:nT X N' cap scope)(hi:PI X tg iter wi)
 (hg:∀C s H fp pn,PG (eP X N' scope C s H fp pn) tg g) (hif:∀C s H fp pn,ER (eP X N' scope C s H fp pn) ifs tc) (hk:∀C s H fp pn,PE (eP X N' scope C s H fp pn) kx tk) (hv:∀C s H fp pn,PE (eP X N' scope C s H fp pn) vx tv)
 (hs:∀x,foldedSetIterable iter X.env x=pure x) {pins:List (Addr×Obj)} {s:Shared} {σ:St} {H:Hp} {Q:VK} (I:Inv X pins σ H s) (h:tDc o0 cap wi g tc tk tv σ H Q) {use:Option (Value->Sem Unit)} {QQ:Value->Shared->Prop}
 (post:∀(D C:Addr)(H':Hp)(s':Shared),(∃m,s'.heap.Ns C m)->(∀h',Heap.SameBut C s'.heap h'->Inv X pins σ H' { s' with heap:=h' })->nQ X pins H' C->Q (.ref D) H'->compPost (model X.prog X.w) X.A X.xe use QQ (.ref D) C (.ok .next) s'):
 wpAny (model X.prog X.w) X.A (comprehension (.DictComp kx vx [⟨tg,iter,ifs,0⟩] scope pos) scope X.env (firstIterPos [⟨tg,iter,ifs,0⟩] pos) newDict false (firstIter [⟨tg,iter,ifs,0⟩] X.env) use) QQ X.xe s:=by
 refine wpAny_comprehension_free (e:=.DictComp kx vx [⟨tg,iter,ifs,0⟩] scope pos) (g:=⟨tg,iter,ifs,0⟩) (gs:=[]) rfl hs (uU (S.cells I.ok)) S.kind S.names ?_;refine thn (hi pins s σ H _ I h) fun v s1 h1=>thn h1 fun itv s2 h2=>?_;obtain⟨it,fp,tn,J,H2,e,I2,T,st2,f2,hD⟩:=h2;subst e
 have fplt2:∀b∈fp,b<s2.heap.objs.size:=fun b hb=>by
  obtain⟨o,e,_⟩:=T.obj _ _ st2 b hb;exact A8 e
 refine C7 ?_;obtain⟨W,⟨m0,w0⟩,turn⟩:=hD s2.heap.objs.size (I2.hok.fresh (A9 _));generalize hDn:s2.heap.objs.size=D at *
 have I3:Inv X pins σ (upd H2 D o0) { s2 with heap:=s2.heap.push { cls:=.type "dict",data:=.dict #[] } }:=by
  refine I2.laid (t':=s2.toks) (fun _ _ q=>A3 _ q) (Nat.le_of_eq hDn) ?_;rcases ho with rfl|rfl
  .rw[<- hDn];exact DA _ I2.big
  .rw[<- hDn];exact MU _ I2.big
 have st3:tn 0 (s2.heap.push { cls:=.type "dict",data:=.dict #[] }):=T.keep _ _ _ st2 fun b _ o e=>A3 _ e
 have f3:∀b∈fp,nQ X pins (upd H2 D o0) b:=fun b hb=>by
  obtain⟨q0,q1⟩:=f2 b hb;exact⟨by rw[aM (B4 (fplt2 b hb))];exact q0,q1⟩
 generalize hs3:({ s2 with heap:=s2.heap.push { cls:=.type "dict",data:=.dict #[] } }:Shared)=s3 at I3 ⊢;have st3:tn 0 s3.heap:=by rw[<- hs3];exact st3
 have fplt:∀b∈fp,b<s3.heap.objs.size:=fun b hb=>by
  obtain⟨o,e,_⟩:=T.obj _ _ st3 b hb;exact A8 e
 refine wpAny_newFunctionEnv S.nocell (fun y hy=>by simp at hy) (fun h1' hns hsb=>?_) S.kind;have old:∀b o,s3.heap.get? b=some o->h1'.get? b=some o:=fun b o e=>hsb.extBut b o (B4 (A8 e)) (A3 _ e)
 have I4:Inv (eP X N' scope s3.heap.objs.size s3 (upd H2 D o0) fp pins) [] (sP cap σ) (upd H2 D o0) { s3 with heap:=h1',toks:=s3.toks+([]:List (Str×Value)).length }:=
  DI S I3 f3 fplt (A9 _) (by simpa using hns) old
 have loop:∀s4:Shared,s4={ s3 with heap:=h1',toks:=s3.toks+([]:List (Str×Value)).length }->
  codeAny (model X.prog X.w) X.A (.compLoop (.DictComp kx vx [⟨tg,iter,ifs,0⟩] scope pos) 0 (.ref it) (.ref D) (compEnvC scope (dH X.env scope.names []) s3.heap.objs.size X.env)) (compPost (model X.prog X.w) X.A X.xe use QQ (.ref D) s3.heap.objs.size) s4:=by
  rintro s4 rfl
  have stat:∀{Hx:Hp},(∀b∈fp,Hx b=none)->∀b∈fp,nQ (eP X N' scope s3.heap.objs.size s3 (upd H2 D o0) fp pins) [] Hx b:=fun{Hx} hn b hb=>by
   refine⟨hn b hb,B4 (fplt b hb),I3.stkAll (f3 b hb).2.1 (f3 b hb).2.2.1,.inl hb,fun x c e=>(f3 b hb).2.2.2.2.1 x c (S.sub I3.ok x c e),fun p hp=>?_⟩;rcases List.mem_append.mp hp with z|z
   .exact(f3 b hb).2.2.2.2.2 p z
   .exact absurd z (by simp)
  refine RD (fun n s'=>∃(i:Nat)(σ':St)(H':Hp),Inv (eP X N' scope s3.heap.objs.size s3 (upd H2 D o0) fp pins) [] σ' H' s'/\tn i s'.heap/\(∀b∈fp,H' b=none)/\W i n σ' H') ?_ m0
   ⟨0,sP cap σ,_,I4,T.keep _ _ _ st3 fun b _ o e=>old b o e,fun b hb=>(f3 b hb).1,w0⟩
  rintro n s5 ⟨i,σ',H',I5,t5,fr5,w5⟩;rcases turn i n σ' H' w5 with⟨stop,q⟩|⟨go,N,hN,step⟩
  .refine thn (T.done (eP X N' scope s3.heap.objs.size s3 (upd H2 D o0) fp pins) rfl rfl rfl hc i _ s5 σ' H' _ I5 (stat fr5) t5 stop) fun r s6 ⟨hr,I6⟩=>.inl ⟨hr,?_⟩;have nC:H' s3.heap.objs.size=none:=I6.free;refine post D _ H' s6 (let⟨m,hn,_⟩:=I6.loc;⟨m,hn⟩) (fun h' hs'=>?_) (I3.fpOk (A9 _) nC) q;have up:∀b o,b≠s3.heap.objs.size->s6.heap.get? b=some o->h'.get? b=some o:=fun b o hb e=>hs'.extBut b o hb e;have ltC:∀b o,s3.heap.get? b=some o->b≠s3.heap.objs.size:=fun b o e=>B4 (A8 e);have u6:Un (frs X.stack) fp (upd H2 D o0) H' s3.heap s6.heap:=I6.base
   have u7:Un (frs X.stack) fp (upd H2 D o0) H' s3.heap h':=by
    refine⟨fun b o e n hb hx=>up b o (ltC b o e) (u6.keep b o e n hb hx),fun b o e n hb hx=>?_,u6.free,fun b o e hx=>?_,u6.tups,u6.frzs,u6.tbls⟩
    .obtain⟨sl,q⟩:=u6.slot b o e n hb hx;exact⟨sl,up b _ (ltC b o e) q⟩
    .obtain⟨o',q⟩:=u6.there b o e hx;exact⟨o',up b o' (ltC b o e) q⟩
   have ok7:HOk X.prog X.w H' h':=fun b u e=>by
    refine(I6.hok b u e).stay (fun c v hc' z=>up c v ?_ z) (fun c z=>z) fun c xs z=>z;rcases hc' with rfl|z
    .exact aO e nC
    .exact aO z nC
   have os6:s6.os=s3.os:=I6.os;have ba6:=I6.bare;obtain⟨hh,gg,dd,tt,oo⟩:=s6;subst os6;have z7:=I3.call (s:=s3) (h':=h') (g':=gg) (d':=dd) (t':=tt) (ch:=fp) u7 ok7 ba6 fun b hb=>⟨(f3 b hb).2.2.2.1,(f3 b hb).2.1,(f3 b hb).2.2.2.2.1,(f3 b hb).2.2.2.2.2⟩;exact z7
  .refine thn (T.item (eP X N' scope s3.heap.objs.size s3 (upd H2 D o0) fp pins) rfl rfl rfl hc i _ s5 σ' H' _ I5 (stat fr5) t5 go) fun r s6 ⟨u,hr,h6⟩=>.inr ⟨u,hr,?_⟩;refine thn h6 fun _ s7 ⟨x,H7,I7,r7,y7,t7,fr7⟩=>?_;have I7':=I7.pinned (stat fr7) (T.obj _ _ t7)
   have back:∀{σx:St}{Hx:Hp}{sx:Shared},Inv (eP X N' scope s3.heap.objs.size s3 (upd H2 D o0) fp pins) ([]++qR fp s7.heap) σx Hx sx->(∀b∈fp,∀o,s7.heap.get? b=some o->sx.heap.get? b=some o)/\(∀b∈fp,Hx b=none):=fun{σx Hx sx} Ix=>by
    refine⟨fun b hb o e=>(Ix.pin (b,o) (C2 _ (C2 _ (fP hb e)))).1,fun b hb=>?_⟩;obtain⟨o,e,_⟩:=T.obj _ _ t7 b hb;exact(Ix.pin (b,o) (C2 _ (C2 _ (fP hb e)))).2.1
   refine thn (hg _ _ _ _ _ _ s7 σ' H7 x u _ I7' r7 (step x H7 y7)) fun _ s8 ⟨σ8,H8,I8,q8⟩=>?_;refine thn (hif _ _ _ _ _ _ s8 σ8 H8 _ I8 q8) fun b s9 ⟨H9,I9,q9⟩=>?_;rcases q9 with⟨rfl,q9⟩|⟨rfl,n9⟩
   .refine .inl ⟨rfl,thn (hk _ _ _ _ _ _ s9 σ8 H9 _ I9 q9) fun uk s10 ⟨y,H10,I10,ry,q10⟩=>thn (hv _ _ _ _ _ _ s10 σ8 H10 _ I10 q10) fun uv s11 ⟨v,H11,I11,rv,H12,g12,n12⟩=>?_⟩;obtain⟨m',hm,w12⟩:=hN _ _ n12;refine IU (X:=eP X N' scope s3.heap.objs.size s3 (upd H2 D o0) fp pins) hu I11 g12 ry rv fun s12 I12=>?_;obtain⟨b1,b2⟩:=back I12;exact⟨m',hm,i+1,σ8,H12,I12.pins_of fun p hp=>absurd hp (by simp),T.keep _ _ _ t7 b1,b2,w12⟩
   .obtain⟨m',hm,w9⟩:=hN _ _ n9;obtain⟨b1,b2⟩:=back I9;exact .inr ⟨rfl,m',hm,i+1,σ8,H9,I9.pins_of fun p hp=>absurd hp (by simp),T.keep _ _ _ t7 b1,b2,w9⟩
 exact codeAny_compStart_dict (loop _ rfl) (T.self _ 0 _ _ _ (T.keep _ _ _ st3 fun b _ o e=>old b o e) (loop _ rfl))
theorem aBl{o0:HO}(ho:o0=.dT []\/o0=.dK []){kx vx tg iter:Expr}{ifs:List Expr}{pos:Pos}{wi:TI}{g:TG}{tc:TT}{tk tv:TE}(hu:X.A.units<cLine)(hc:X.calm=true)(S:nT X N' cap scope)(hi:PI X tg iter wi)
 (hg:∀C s H fp pn,PG (eP X N' scope C s H fp pn) tg g) (hif:∀C s H fp pn,ER (eP X N' scope C s H fp pn) ifs tc) (hk:∀C s H fp pn,PE (eP X N' scope C s H fp pn) kx tk) (hv:∀C s H fp pn,PE (eP X N' scope C s H fp pn) vx tv)
 (hs:∀x,foldedSetIterable iter X.env x=pure x:=by intro _;rfl):PE X (.DictComp kx vx [⟨tg,iter,ifs,0⟩] scope pos) (tDc o0 cap wi g tc tk tv):=fun pins s σ H Q I h=>
 ZV (use:=none) ho hu hc S hi hg hif hk hv hs I h fun D _ H' _ ⟨m,hn⟩ hI _ q=>⟨m,hn,fun h' hs'=>⟨.ref D,H',hI h' hs',rfl,q⟩⟩
end
noncomputable def dcF(d:Nat)(g:GF)(c:TF)(fk:KF)(e:EF):List CD->Ga->Sto->Option Sto
 |[],_,M=>some M
 |x::xs,γ,M=>(g x γ M).bind fun a=>(c a.1 a.2).bind fun b=>if b.1=true then(fk a.1 b.2).bind fun k=>(e a.1 k.2).bind fun v=>(tT v.2 (.c d) k.1 v.1).bind fun M'=>dcF d g c fk e xs a.1 M' else dcF d g c fk e xs a.1 b.2
noncomputable def fDc(c0:Cell)(cap:List (Option Nat))(f:AF)(g:GF)(c:TF)(fk:KF)(e:EF):EF:=fun γ M=>(f γ M).bind fun r=>(dcF r.2.length g c fk e r.1 (kH cap γ) (r.2++[c0])).bind fun M'=>some (.c r.2.length,M')
section
variable{K:Fg}{tg:TG}{tt:TT}{hg:GF}{ft:TF}{fa:AF}
theorem aCX{o0:HO}{c0:Cell}(h0:(o0=.dT []/\c0=.dt [])\/(o0=.dK []/\c0=.dk [])){wi:TI}{cap:List (Option Nat)}{tk tv:TE}{fk:KF}{fe:EF}(i:SI K wi fa)(a:SG K tg hg)(c:STt K tt ft)(b:SK K tk fk)(e:SE K tv fe):
 SE K (tDc o0 cap wi tg tt tk tv) (fDc c0 cap fa hg ft fk fe):=by
 intro γ M x M' hh W H σ Q G R k;obtain⟨⟨ys,M1⟩,h1,hh⟩:=aI hh;obtain⟨M9,h9,hh⟩:=aI hh;cases hh;refine i _ _ _ _ h1 W H σ _ G R fun J W1 H1 e1 G1 gv=>fun D hD=>?_;have G2:Good K (W1.more D) (M1++[c0]) (upd H1 D o0):=G1.new hD (by rcases h0 with⟨rfl,rfl⟩|⟨rfl,rfl⟩<;>exact .nil);have e2:=W1.ext_more D;have rD:bU K (W1.more D) (.c M1.length) (.ref D):=G1.newV;refine⟨fun j m σ' H'=>∃γ' M3 W3,j<=ys.length/\m=ys.length-j/\(W1.more D).Ext W3/\Good K W3 M3 H'/\cT K W3 γ' σ'/\dcF M1.length hg ft fk fe (ys.drop j) γ' M3=some M',⟨_,kH cap γ,_,_,F8 _,rfl,.refl _,G2,zJ ((R.up e1).up e2) cap,h9⟩,?_⟩;rintro j m σ' H' ⟨γ',M3,W3,hj,rfl,e3,G3,R3,h3⟩;obtain⟨gv1,gv2⟩:=gv W3 M3 H' (e2.trans e3) G3;by_cases hlt:j<ys.length
 .obtain⟨go,yl⟩:=gv1 j ys[j] (B9 hlt);rw[List.drop_eq_getElem_cons hlt]at h3;refine .inr ⟨go,fun σ4 H4=>∃γ4 M4 W4,W3.Ext W4/\Good K W4 M4 H4/\cT K W4 γ4 σ4/\dcF M1.length hg ft fk fe (ys.drop (j+1)) γ4 M4=some M',?_,fun y H4 hy=>?_⟩
  .rintro σ4 H4 ⟨γ4,M4,W4,e4,G4,R4,h4⟩;exact⟨_,by omega,γ4,M4,W4,hlt,rfl,e3.trans e4,G4,R4,h4⟩
  .obtain⟨W8,e8,G8,ry⟩:=yl y H4 hy;obtain⟨⟨γ5,M5⟩,h5,h3⟩:=aI (show(hg ys[j] γ' M3).bind _=_ from h3);obtain⟨⟨b6,M6⟩,h6,h3⟩:=aI h3;refine a _ _ _ _ _ h5 W8 _ σ' y _ G8 (R3.up e8) ry fun σ5 W5 H5 e5 G5 R5=>?_;refine c _ _ _ _ h6 W5 H5 σ5 _ G5 R5 fun W6 H6 e6 G6=>?_;have e36:=(e8.trans e5).trans e6;cases b6 with
   |true=>
    rw[A4 rfl]at h3;obtain⟨⟨ky,M7⟩,h7,h3⟩:=aI h3;obtain⟨⟨z,M10⟩,h10,h3⟩:=aI h3;obtain⟨M11,h11,h3⟩:=aI h3;refine .inl ⟨rfl,b _ _ _ _ h7 W6 H6 σ5 _ G6 (R5.up e6) fun yv W7 H7 e7 G7 r7=>e _ _ _ _ h10 W7 H7 σ5 _ G7 (R5.up (e6.trans e7)) fun v W10 H10 e10 G10 r10=>?_⟩;have e310:=(e36.trans e7).trans e10;obtain⟨p,H11,ep,g11,G11⟩:=CG G10 h11 (rD.up (e3.trans e310)) (r7.up e10) r10;cases ep;exact⟨H11,g11,γ5,M11,W10,e310,G11,R5.up ((e6.trans e7).trans e10),h3⟩
   |false=>
    rw[A5 A7]at h3;exact .inr ⟨rfl,γ5,M6,W6,e36,G6,R5.up e6,h3⟩
 .have ej:j=ys.length:=by omega
  subst ej;rw[List.drop_length]at h3;cases h3;exact .inl ⟨gv2,k _ W3 H' ((e1.trans e2).trans e3) G3 (rD.up e3)⟩
variable{ι:Type}{X:ι->Cx}{N':List Str}{cap:List (Option Nat)}{scope:Scope}{tg' iter kx vx:Expr}{ifs:List Expr}{gf:GF}{fk:KF}{f:EF}{pos:Pos}
theorem aAD(hu:∀i,(X i).A.units<cLine)(hc:∀i,(X i).calm=true)(S:∀i,nT (X i) N' cap scope)(x:MI K X tg' iter fa)(y:MG K (oI X N' scope) tg' gf)(z:MF K (oI X N' scope) ifs ft)(w:MK K (oI X N' scope) kx fk)(q:ME K (oI X N' scope) vx f)(hs:∀(env:Env)(x:Value),foldedSetIterable iter env x=pure x:=by intro _ _;rfl):
 ME K X (.DictComp kx vx [⟨tg',iter,ifs,0⟩] scope pos) (fDc (.dt []) cap fa gf ft fk f):=by
 obtain⟨t,x1,x2⟩:=x.ex;obtain⟨u,y1,y2⟩:=y.ex;obtain⟨v,z1,z2⟩:=z.ex;obtain⟨o,w1,w2⟩:=w.ex;obtain⟨p,q1,q2⟩:=q.ex;exact⟨_,fun i=>aBl (.inl rfl) (hu i) (hc i) (S i) (x1 i) (fun C s H fp pn=>y1 (i,C,s,H,fp,pn)) (fun C s H fp pn=>z1 (i,C,s,H,fp,pn)) (fun C s H fp pn=>w1 (i,C,s,H,fp,pn)) (fun C s H fp pn=>q1 (i,C,s,H,fp,pn)) (hs _),aCX (.inl ⟨rfl,rfl⟩) x2 y2 z2 w2 q2⟩
end
noncomputable def MX(K:Fg):List V->Hp->VK->Prop:=fun xs H Q=>∃a kvs,xs=[.ref a]/\H a=some (.dT kvs)/\∀bs:List Addr,Paired (fun(b:Addr)(kv:List Key×V)=>H b=some (.tup (kv.1.map kV))) bs kvs->DL K (bs.map .ref) H Q
theorem xQ:∀bs:List Addr,aZ (bs.map V.ref) (bs.map Value.ref)
 |[]=>.nil
 |_::bs=>.cons rfl (xQ bs)
theorem zQ{X:Cx}(hu:X.A.in1.in1.units+64<cLine)(hc:X.calm=true):fM X (.builtin "sorted") (MX X.K):=by
 intro pins s σ H xs us Q I r h;obtain⟨a,kvs,rfl,ea,q⟩:=h;obtain⟨u,rfl,ru⟩:=vals1 r;cases ru;obtain⟨z,hs,ks,rk,od,es,ep,h1,h2,h3,h4,h5⟩:=(show cE X.prog X.w H s.heap a (.dT kvs)from I.hok a _ ea);have hl:kvs.length=ks.length:=Paired.len rk;have el:es.size=ks.length:=by rw[<- L4,h4,A1]
 refine Calls.call_function_entry kind_sorted plain_sorted entry_sorted (args_sorted1 _) ?_;unfold Builtin.«sorted»;refine A0 (m:=checkCount "sorted" 1 1 _) (A6 ?_);refine A0 (PySem.W.kdu_collect (A:=X.A.in1) (OM (ep:=ep) hs h2.1 h3) (I.ok.hd hc) h1 (by rw[el,<- hl];exact z) fun h' tk acc hk hacc=>?_);have I3:Inv X pins σ H { s with heap:=h',toks:=tk }:=I.kept hk
 have ev:acc.toList=(ks.map fun x=>x.2.1).map Value.ref:=by
  refine List.ext_getElem? fun j=>?_;rw[E5];cases e:acc[j]? with
  |none=>
   have:(ks.map fun x=>x.2.1).length<=j:=by
    have hz:=hacc.1;have:=Array.getElem?_eq_none_iff.mp e;rw[A1];omega
   rw[O7 (by rw[A1];exact this)]
  |some v=>
   have e1:(es[j]?).map (·.key)=some v:=hacc.2 j v e;rw[<- E5,h4,D2]at e1;rw[D2,D2];cases e3:ks[j]? with
   |none=>rw[e3]at e1;cases e1
   |some w=>rw[e3]at e1;cases e1;rfl
 rw[ev];exact PF (A:=X.A.in1) hu I3 (xQ _) (q _ (KT.addrs rk).1)
section
variable{K:Fg}
noncomputable def lQ:FN:=fun xs M=>match xs with
 |[.c i]=>match M[i]? with
  |some (.dt kvs)=>(iN (kvs.map fun kv=>kv.1.map sO)).bind fun r=>some (.d (.list r),M)
  |_=>none
 |_=>none
theorem BO{W:Wd}:∀{bs:List Addr}{kvs:List (List Key×V)},Paired (fun(b:Addr)(kv:List Key×V)=>W.F b=some (.tup (kv.1.map kV))) bs kvs->aJ K W.F ((kvs.map fun kv=>kv.1.map sO).map .tuple) (bs.map .ref)
 |_,_,.nil=>rfl
 |_,_,.cons h1 h2=>⟨_,_,rfl,⟨_,_,rfl,SqT.of h1,zW _⟩,BO h2⟩
theorem BZ{W:Wd}:∀{kvs:List (List Key×CD)}{us:List (List Key×V)},PKV K W kvs us->(us.map fun kv=>kv.1.map sO)=kvs.map fun kv=>kv.1.map sO
 |_,_,.nil=>rfl
 |_,_,.cons h1 h2=>by rw[C0,C0,BZ h2,h1.1]
theorem QL:PN K (MX K) lQ:=by
 intro xs M z M' h W H vs Q G r k;unfold lQ at h;split at h
 .rename_i i;split at h
  .rename_i kvs hk;obtain⟨ds,h3,h⟩:=aI h;cases h;rcases r with _|⟨r1,_|_⟩;obtain⟨us,hu,pu⟩:=G.dtAt hk;refine⟨_,us,by rw[r1.2],hu,fun bs pb=>?_⟩;obtain⟨W2,e2,G2,p2⟩:=rF G pb;have r3:=BO (K:=K) p2;rw[BZ pu]at r3;unfold iN at h3;by_cases hs:sortable (kvs.map fun kv=>kv.1.map sO)=true
   .rw[A4 hs]at h3;cases h3;obtain⟨s1,s2,s3,s4,s5⟩:=iW hs;refine .inl ⟨_,aJ.same G2.fh _ _ r3,s1,s2,s3,s4,s5,fun l hl=>?_⟩;obtain⟨e4,G4⟩:=G2.lay (o:=.lst ((dB (eZ (kvs.map fun kv=>kv.1.map sO)) (kvs.map fun kv=>kv.1.map sO).length).map fun i=>(bs.map V.ref).getD i .non)) hl;exact k _ _ _ (e2.trans e4) G4 ⟨l,_,rfl,SqL.of aU,aJ.same e4.ff _ _ (tY r3 _ (WD (by omega)))⟩
   .rw[A5 hs]at h3;by_cases hl2:(kvs.map fun kv=>kv.1.map sO).length<2
    .rw[A4 hl2]at h3;cases h3;refine .inr ⟨by rw[<- r3.length,A1];exact hl2,fun l hl=>?_⟩;obtain⟨e4,G4⟩:=G2.lay (o:=.lst (bs.map V.ref)) hl;exact k _ _ _ (e2.trans e4) G4 ⟨l,_,rfl,SqL.of aU,aJ.same e4.ff _ _ r3⟩
    .rw[A5 hl2]at h3;cases h3
  .cases h
 .cases h
theorem RY{ι:Type}{X:ι->Cx}(hK:∀i,(X i).K=K)(hu:∀i,(X i).A.in1.in1.units+64<cLine)(hc:∀i,(X i).calm=true):QN K X (.builtin "sorted") lQ:=
 ⟨_,fun i=>by have:=zQ (X:=X i) (hu i) (hc i);rw[hK i]at this;exact this,QL⟩
end
theorem cM.u1{k:Nat}(r:cM k A):A.units+1<cLine:=by have:=r.un;omega
theorem cM.u0{k:Nat}(r:cM k A):A.units<cLine:=by have:=r.un;omega
noncomputable abbrev IPF:=Ga->Sto->Option ((List CD×(Sto->Prop))×Sto)
section
variable{K:Fg}{tA:TA}{fa:AF}
noncomputable def aDi(lo:Int)(n:Nat):List PyData:=(List.range n).map fun(i:Nat)=>.int (lo+(i:Nat))
end
end L2
namespace PySem
open Sem (wp)
namespace F
end F
end PySem
namespace L2
open PySem PySem.Spec PyProof.Rows
theorem cM.le{ι:Type}{j k:Nat}{A:Around}{q:Bool}(r:cM k A q)(h:j<=k:=by decide):ι->cM j A q:=fun _=>r.mono h
noncomputable def aCa(ns:List Int):List Int:=ns.mergeSort fun a b=>decide (a<=b)
section
variable{K:Fg}
end
end L2
namespace HT
open PySem  PySem.Spec PyProof.Rows
theorem fm_congr{α β:Type}{f g:α->Option β}:∀{l:List α},(∀x∈l,f x=g x)->l.filterMap f=l.filterMap g
 |[]=>fun _=>rfl
 |x::l=>fun h=>by
  rw[J1,J1,h x B3,fm_congr fun y hy=>h y (B1 _ hy)]
theorem rev_pick{α:Type}(xs:List α):(List.range xs.length).filterMap (fun m=>xs[xs.length-1-m]?)=xs.reverse:=by
 have e:∀m∈List.range xs.length,xs[xs.length-1-m]?=xs.reverse[m]?:=fun m hm=>by
  rw[List.getElem?_reverse (List.mem_range.mp hm)]
 rw[fm_congr e];refine List.ext_getElem? fun i=>?_;have l:xs.length=xs.reverse.length:=List.length_reverse.symm;rw[l];generalize xs.reverse=ys;clear e l xs
 have:(List.range ys.length).filterMap (fun m=>ys[m]?)=ys:=by
  induction ys with
  |nil=>rfl
  |cons y ys ih=>
   rw[C5,List.range_succ_eq_map,J1];show y::_=_;rw[List.filterMap_map];congr 1
 rw[this]
section
variable{prog:Program}{w:World}{A:Around}{E:Value->Shared->Prop}{s:Shared}
theorem FK(n:Nat):Builtin.Slice.slicePlaces ((n:Int)-1) (-1) (-1)=n:=by
 unfold Builtin.Slice.slicePlaces;rw[A5 (by decide)];by_cases h:(n:Int)-1 > -1
 .rw[A4 h,show(-(-1:Int))=1 from rfl,Int.ediv_one];omega
 .rw[A5 h];omega
theorem rA{sl:Addr}{vs:Value}{n:Nat}{Q:Int×Int×Nat->Shared->Prop}(hs:s.heap.IsSliceOf sl .none .none vs)(ps:IsPart vs (some (-1)))
 (h:Q ((n:Int)-1,-1,n) s):wpAny (model prog w) A (Builtin.Slice.sliceApplied (.ref sl) (pure (n:Int))) Q E s:=by
 obtain⟨os,hos,hcs,hds⟩:=id hs;unfold Builtin.Slice.sliceApplied Builtin.Slice.sliceFields;refine A0 (A0 (I0 hos hds (x:=.none) rfl (A0 (I0 hos hds (x:=.none) rfl (A0 (I0 hos hds (x:=vs) rfl (A6 ?_)))))));refine A0 (EA ps ?_);show wpAny _ _ (if ((-1:Int)==0)=true then _ else _) _ _ s;rw[A5 (by decide)];refine A0 (slicePart_none (A0 (slicePart_none (A0 (A6 ?_)))));show wpAny _ _ (pure ((n:Int)-1,(-1:Int),Builtin.Slice.slicePlaces ((n:Int)-1) (-1) (-1))) _ _ s;rw[FK];exact A6 h
theorem KI(xs:Array Value):((List.range xs.size).filterMap fun(m:Nat)=>xs[((xs.size:Int)-1+(m:Int)*(-1)).toNat]?).toArray=xs.toList.reverse.toArray:=by
 have l:xs.size=xs.toList.length:=Array.length_toList.symm;rw[<- rev_pick xs.toList,l];congr 1;refine fm_congr fun m hm=>?_;have:=List.mem_range.mp hm;rw[show((xs.toList.length:Int)-1+(m:Int)*(-1)).toNat=xs.toList.length-1-m by omega,E5]
theorem getItem_tuple_rev{t sl:Addr}{items:Array Value}{vs:Value}{Q:Value->Shared->Prop}(ht:IsTup s.heap t items)(hs:s.heap.IsSliceOf sl .none .none vs)(ps:IsPart vs (some (-1)))
 (h:Q (.ref s.heap.objs.size) { s with heap:=s.heap.push { cls:=.type "tuple",data:=.seq items.toList.reverse.toArray } })
 (hsz:items.size<=sizeLine):wpAny (model prog w) A (getItem (.ref t) (.ref sl)) Q E s:=by
 have htake:sizeOk (.seq items.toList.reverse.toArray):=by
  show items.toList.reverse.toArray.size<=sizeLine;rw[B7,J2,L4];exact hsz
 obtain⟨os,hos,hcs,hds⟩:=id hs;have hTs:s.TypeIs (.ref sl) "slice":=⟨os,hos,hcs⟩;unfold getItem
 try with_reducible refine E3 ?_
 first|refine A0 (A6 ?_)|skip
 refine A0 (wpAny_sequenceKey ht.typeIs (by decide) ?_)
 refine A0 (J5 (name:=Str.ofString "__getitem__") ht.typeIs PyProof.Rows.slot_tuple_getitem
  (F0 PyProof.Rows.slot_tuple_getitem ht.typeIs entry_tuple_getitem ?_ (args_tuple_getitem _ _)))
 show wpAny _ _ (Builtin.Tuple.tupleItemsOf (.ref t) >>= _) _ _ s;refine A0 (tupleItemsOf_ ht ?_);refine A0 (wpAny_typeOf hTs ?_);rw[A4 (by decide)];refine A0 (rA hs ps ?_);show wpAny _ _ (if (((items.size:Int)-1)==0&&(-1:Int)==1&&items.size==items.size)=true then _ else _) _ _ s;rw[A5 (by rw[show((-1:Int)==1)=false from rfl,Bool.and_false,Bool.false_and];exact A7),KI]
 first
  |exact A0 (m:=Builtin.Tuple.tupleExact _) (C7 (A6 ⟨_,rfl,A6 h⟩) htake)
  |exact A0 (m:=Builtin.Tuple.tupleExact _) (C7 (A0 (A6 (A6 ⟨_,rfl,A6 h⟩))) htake)
  |exact A0 (A0 (m:=Builtin.Tuple.tupleExact _) (C7 (A6 (A6 ⟨_,rfl,A6 h⟩)) htake))
  |exact A0 (A0 (m:=Builtin.Tuple.tupleExact _) (C7 (A6 ⟨_,rfl,A6 h⟩) htake))
end
end HT
namespace L2
open PySem PySem.Spec PyProof.Rows
theorem aZ.rev:∀{xs:List V}{us:List Value},aZ xs us->aZ xs.reverse us.reverse
 |_,_,.nil=>.nil
 |_,_,.cons r t=>by
  rw[F4,F4];exact(aZ.rev t).append (.cons r .nil)
noncomputable def aAd(K:Fg):V->Hp->VK->Prop:=fun x H Q=>(∃a xs,x=.ref a/\SqL K H a xs/\∀p,H p=none->Q (.ref p) (upd H p (.lst xs.reverse)))\/∃a xs,x=.ref a/\SqT K H a xs/\∀p,H p=none->Q (.ref p) (upd H p (.tup xs.reverse))
theorem wH(its:List Value):slicePick its.toArray none none (some (-1))=its.reverse.toArray:=by
 have b:sliceBounds none none (some (-1)) its.toArray.size=((its.length:Int)-1,-1,-1):=by
  unfold sliceBounds;rfl
 unfold slicePick;rw[b];congr 1;rw[<- HT.rev_pick its];unfold sliceRange;dsimp only;rw[A5 (by decide)]
 have c:(if (its.length:Int)-1 > -1 then((its.length:Int)-1 - -1 - -1-1) / -(-1)else 0).toNat=its.length:=by
  by_cases h:(its.length:Int)-1 > -1
  .rw[A4 h,show(-(-1:Int))=1 from rfl,Int.ediv_one];omega
  .rw[A5 h];omega
 rw[c,List.filterMap_map];refine HT.fm_congr fun m hm=>?_;have:=List.mem_range.mp hm;show its.toArray[((its.length:Int)-1+-1*(m:Int)).toNat]?=_;rw[show((its.length:Int)-1+-1*(m:Int)).toNat=its.length-1-m by omega,List.getElem?_toArray]
section
variable{X:Cx}{e st:Expr}{te:TE}{th:TO}{pos p2:Pos}
theorem UD{pins:List (Addr×Obj)}{s:Shared}{σ:St}{H:Hp}{x:V}{v vs:Value}{sl:Addr}{Q:VK}(I:Inv X pins σ H s)(rx:RelV x v)(hs:s.heap.IsSliceOf sl .none .none vs)(ps:IsPart vs (some (-1)))(h:aAd X.K x H Q):
 ∃T id,typeLookup (.type T) "__getitem__"=pure (some (.builtin id))/\s.TypeIs v T/\wpAny (model X.prog X.w) X.A (getItem v (.ref sl)) (EP X pins σ Q) X.xe s:=by
 rcases h with⟨a,xs,rfl,hx,q⟩|⟨a,xs,rfl,hx,q⟩
 .cases rx;obtain⟨its,r,ht,hz⟩:=I.list hx;have hlen:=r.length;refine⟨"list",_,slot_list_getitem.lookup,ht.isList.typeIs,?_⟩;refine wpAny_getItem_list_slice ht.isList hs .none .none ps (by decide) ?_ (by rw[B7]<;>omega);rw[wH];refine⟨.ref s.heap.objs.size,_,I.laid (t':=s.toks) (o:=.lst xs.reverse) (fun b ob q=>A3 _ q) (A9 _) ?_,rfl,q _ (I.hok.fresh (A9 _))⟩;exact⟨by rw[J2];exact hz,_,0,r.rev,B2 _ rfl⟩
 .cases rx;obtain⟨its,r,ht,hz⟩:=I.tuple hx;have hlen:its.toArray.size=xs.length:=by rw[B7];exact r.length.symm
  refine⟨"tuple",_,PyProof.Rows.slot_tuple_getitem.lookup,ht.typeIs,?_⟩;refine HT.getItem_tuple_rev ht hs ps ?_ (by rw[hlen];exact hz);refine⟨.ref s.heap.objs.size,_,I.laid (t':=s.toks) (o:=.tup xs.reverse) (fun b ob q=>A3 _ q) (A9 _) ?_,rfl,q _ (I.hok.fresh (A9 _))⟩;exact⟨by rw[J2];exact hz,_,r.rev,IsTup.new _ _⟩
noncomputable def aCC(K:Fg)(te:TE)(th:TO):TE:=fun σ H Q=>te σ H fun x H1=>th σ H1 fun u H2=>u=some (-1)/\aAd K x H2 Q
theorem aAp(he:PE X e te)(hu:PO X (some st) th):PE X (.Subscript e (.Slice none none (some st) p2) pos) (aCC X.K te th):=by
 intro pins s σ H Q I h;refine Subscript_ (thn (he pins s σ H _ I h) fun v s1 ⟨x,H1,I1,r1,q1⟩=>?_);refine wpAny_Slice ?_;rw[evalPart_none];refine A6 (A6 ?_);refine thn (hu pins s1 σ H1 _ I1 q1) fun vu s3 ⟨u,H3,I3,pu,q3⟩=>?_;obtain⟨rfl,q⟩:=q3;have I4:Inv X pins σ H3 { s3 with heap:=s3.heap.push { cls:=.type "slice",data:=.fields #[.none,.none,vu] } }:=I3.kept (t':=s3.toks) fun b ob q=>A3 _ q;obtain⟨T,id,hT,ht,hg⟩:=UD I4 r1 (Heap.IsSliceOf.new ..) pu q;show wpAny (model X.prog X.w) X.A (subscriptTail e (.Slice none none (some st) p2) v (.ref s3.heap.objs.size)) (EP X pins σ Q) X.xe { s3 with heap:=s3.heap.push { cls:=.type "slice",data:=.fields #[.none,.none,vu] } };exact tail_any (ops:=[v,.ref s3.heap.objs.size]) ht hT hg (by with_unfolding_all rfl)
end
noncomputable def UW:CD->Sto->Option (CD×Sto)
 |.d (.list ds),M=>some (.d (.list ds.reverse),M)
 |.d (.tuple ds),M=>some (.d (.tuple ds.reverse),M)
 |_,_=>none
noncomputable def IY(f:EF)(u:OF):EF:=fun γ M=>(f γ M).bind fun r=>(u γ r.2).bind fun q=>if q.1=some (-1)then UW r.1 q.2 else none
section
variable{K:Fg}
theorem aJ.rev{H:Hp}:∀{ds:List PyData}{vs:List V},aJ K H ds vs->aJ K H ds.reverse vs.reverse
 |[],vs=>fun h=>by rw[show vs=[]from h];rfl
 |d::ds,vs=>fun h=>by
  obtain⟨v,r,rfl,h2,h3⟩:=h;rw[F4,F4];exact aJ.app (aJ.rev h3) ⟨v,[],rfl,h2,rfl⟩
theorem JH{x:CD}{M:Sto}{z:CD}{M':Sto}(h:UW x M=some (z,M')){W:Wd}{H:Hp}{v:V}{Q:VK}(G:Good K W M H)(rx:bU K W x v)(k:∀w W' H',W.Ext W'->Good K W' M' H'->bU K W' z w->Q w H'):aAd K v H Q:=by
 unfold UW at h;split at h
 .rename_i ds;cases h;obtain⟨p,us,rfl,hq,hr⟩:=(show ∃a us,_=V.ref a/\SqL K W.F a us/\aJ K W.F ds us from rx);refine .inl ⟨p,us,rfl,G.fh.seq hq,fun l hl=>?_⟩;obtain⟨e2,G2⟩:=G.lay (o:=.lst us.reverse) hl;exact k _ _ _ e2 G2 ⟨l,_,rfl,SqL.of aU,aJ.same e2.ff _ _ hr.rev⟩
 .rename_i ds;cases h;obtain⟨p,us,rfl,hq,hr⟩:=(show ∃a us,_=V.ref a/\SqT K W.F a us/\aJ K W.F ds us from rx);refine .inr ⟨p,us,rfl,G.fh.seqT hq,fun l hl=>?_⟩;obtain⟨e2,G2⟩:=G.lay (o:=.tup us.reverse) hl;exact k _ _ _ e2 G2 ⟨l,_,rfl,SqT.of aU,aJ.same e2.ff _ _ hr.rev⟩
 .cases h
theorem aAe{ta:TE}{f:EF}{th:TO}{u:OF}(a:SE K ta f)(c:SO K th u):SE K (aCC K ta th) (IY f u):=by
 intro γ M x M' hh W H σ Q G R k;obtain⟨⟨y,M1⟩,h1,hh⟩:=aI hh;obtain⟨⟨q,M3⟩,h3,hh⟩:=aI hh;refine a _ _ _ _ h1 W H σ _ G R fun v W1 H1 e1 G1 r1=>?_;refine c _ _ _ _ h3 W1 H1 σ _ G1 (R.up e1) fun W3 H3 e3 G3=>?_;have hh:(if q=some (-1)then UW y M3 else none)=some (x,M'):=hh;by_cases hq:q=some (-1)
 .rw[A4 hq]at hh;exact⟨hq,JH hh G3 (r1.up e3) fun w W4 H4 e4 G4 r4=>k w W4 H4 ((e1.trans e3).trans e4) G4 r4⟩
 .rw[A5 hq]at hh;cases hh
end
section
variable{ι:Type}{K:Fg}{X:ι->Cx}{a st:Expr}{f:EF}{u:OF}{pos p2:Pos}
theorem ZD(hK:∀i,(X i).K=K)(x:ME K X a f)(z:MO K X (some st) u):ME K X (.Subscript a (.Slice none none (some st) p2) pos) (IY f u):=by
 obtain⟨t,x1,x2⟩:=x.ex;obtain⟨t',z1,z2⟩:=z.ex;exact⟨_,fun i=>by have:=aAp (p2:=p2) (pos:=pos) (x1 i) (z1 i);rw[hK i]at this;exact this,aAe x2 z2⟩
end
section
variable{K:Fg}{tA:TA}{fa:AF}
noncomputable def fTRng1(f:AF):EF:=fun γ M=>(f γ M).bind fun r=>match r.1 with
 |[.d (.int j)]=>if fW j=true/\j.toNat<=sizeLine then some (.d (.tuple (aDi 0 j.toNat)),r.2)else none
 |_=>none
end
noncomputable def sortIF:FN:=fun xs M=>match xs with
 |[.d (.list ds)]=>(gU ds).bind fun ns=>if ns.length<64 then some (.d (.list ((aCa ns).map .int)),M)else none
 |_=>none
section
variable{X:Cx}{pos:Pos}
noncomputable def GU(K:Fg)(n:Nat)(t:TGs):TG:=fun v σ H Q=>∃a xs,v=.ref a/\SqL K H a xs/\xs.length=n/\t xs σ H Q
theorem TQ{es:List Expr}{k:Nat}{t:TGs}{n:Nat}(hc:X.calm=true)(h:PGs X es t)
 (hn:(assignEach es X.env).length=n) (hst:(assignEach es X.env).findIdx? (·.1)=none):PG X (.Tuple es k pos) (GU X.K n t):=by
 intro pins s σ H v u Q I r hw;obtain⟨a,xs,e1,hq,hl,hw⟩:=hw;subst e1;cases r;obtain⟨its,rv,pl,hz⟩:=I.list hq;have e:(assignEach es X.env).length=its.toArray.size:=by simp[hn,<- hl,rv.length]
 rw[assign_Tuple];refine A0 (S5 ?_);refine A0 (E3 ?_);rw[hst,e];refine PySem.W.kun_itemsOf (I.ok.hd hc) pl.isList fun h' hx=>?_;have I1:Inv X pins σ H { s with heap:=h' }:=I.kept (t':=s.toks) fun b o e=>hx b o (B4 (A8 e)) e;exact h pins _ σ H xs _ Q I1 (by simpa using rv) hw
theorem QB{K:Fg}{es:List Expr}{k:Nat}{t:TGs}{n:Nat}(e:X.K=K)(hc:X.calm=true)(h:PGs X es t)
 (hn:(assignEach es X.env).length=n) (hst:(assignEach es X.env).findIdx? (·.1)=none):PG X (.Tuple es k pos) (GU K n t):=by subst e;exact TQ hc h hn hst
end
noncomputable def MZ(n:Nat)(g:GsF):GF:=fun x γ M=>match x with
 |.d (.list ds)=>if ds.length=n then g (ds.map .d) γ M else none
 |_=>none
theorem RM{K:Fg}{tgs:TGs}{hgs:GsF}{n:Nat}(b:SGs K tgs hgs):SG K (GU K n tgs) (MZ n hgs):=by
 intro x γ M γ' M' hh W H σ v Q G R r k;unfold MZ at hh;split at hh
 .rename_i ds;by_cases hl:ds.length=n
  .rw[A4 hl]at hh;obtain⟨a,vs,rfl,h2,h3⟩:=(show ∃a vs,v=.ref a/\SqL K W.F a vs/\aJ K W.F ds vs from r);exact⟨a,vs,rfl,G.fh.seq h2,by rw[<- h3.length];exact hl,b _ _ _ _ _ hh W H σ vs Q G R (gH h3) k⟩
  .rw[A5 hl]at hh;cases hh
 .cases hh
noncomputable def Rsg(xs:Array Nat):Prop:=∀i k:Nat,i<k->k<xs.size->xs.getD i 0<xs.getD k 0
noncomputable abbrev t7(b:Bool)(p:Array Nat):SetTable:=⟨7,p,#[],0,b,0,true⟩
noncomputable abbrev t31(b:Bool)(p:Array Nat):SetTable:=⟨31,p,#[],0,b,1,true⟩
noncomputable def vI:Value->Int
 |.int i _=>i
 |_=>0
structure Tp(b:Bool)(t:SetTable)(es:Array (Int×Value)):Prop where
 bd:∀e∈es.toList,0<=e.1/\e.1<9
 vl:∀e∈es.toList,vI e.2=e.1
 nd:(es.toList.map (·.1)).Nodup
 fm:∃p,Rsg p/\((t=t7 b p/\(∀i,i<p.size->p.getD i 0<=7)/\p.size<=4/\p.size=es.size)\/(t=t31 b p/\p.toList=es.toList.map fun e=>e.1.toNat))
structure aDe(prog:Program)(w:World)(b:Bool)(h:Heap)(a:Addr)(es:Array (Int×Value))(σ:List Int):Prop where
 ob:∃o ep t,h.get? a=some o/\o.ExactSet/\o.data=.set es ep t/\t.fits es.size=true/\Tp b t es
 el:ElemsOf (intKind prog w) es.toList
 sm:es.size<scanBound
 pm:(es.toList.map fun e=>vI e.2).Perm σ
section
variable{prog:Program}{w:World}{A:Around}{E:Value->Shared->Prop}{s:Shared}
theorem aBj{h:Heap}{a:Addr}{o:Obj}{es es':Array (Int×Value)}{ep:Nat}{t t':SetTable}(ho:h.get? a=some o)(hd:o.data=.set es ep t):(h.update a (Obj.putSet es' t')).get? a=some { o with data:=.set es' (ep+1) t' }:=by
 have:=E9 (Obj.putSet es' t') ho (by rw[putSet_of es' t' hd];rfl);rw[putSet_of es' t' hd]at this;exact this
theorem stored{b:Bool}{h:Heap}{a:Addr}{o:Obj}{es es':Array (Int×Value)}{ep:Nat}{t t':SetTable}{σ:List Int}(ho:h.get? a=some o)(hex:o.ExactSet)(hd:o.data=.set es ep t)(el:ElemsOf (intKind prog w) es'.toList)(sm:es'.size<scanBound)(hf:t'.fits es'.size=true)(T:Tp b t' es')(pm:(es'.toList.map fun e=>vI e.2).Perm σ):
 (h.update a (Obj.putSet es' t')).get? a=some { o with data:=.set es' (ep+1) t' }/\aDe prog w b (h.update a (Obj.putSet es' t')) a es' σ:=by
 have hg:=aBj (es':=es') (t':=t') ho hd;exact⟨hg,⟨_,_,_,hg,hex,rfl,hf,T⟩,el,sm,pm⟩
end
section
variable{prog:Program}{w:World}{A:Around}{E:Value->Shared->Prop}{s:Shared}
end
end L2
namespace PySem
section
variable{prog:Program}{w:World}{A:Around}{E:Value->Shared->Prop}{s:Shared}
end
end PySem
namespace L2
variable{pos:Pos}
open PySem PySem.Spec PyProof.Rows
section
variable{K:Fg}
noncomputable def aCw:List V->Hp->VK->Prop:=fun xs H Q=>∃i,xs=[.int i]/\i.natAbs.log2<1920/\Q (.str (toString i)) H
noncomputable def gL:FN:=fun xs M=>match xs with
 |[.d (.int i)]=>if i.natAbs.log2<1920 then some (.d (.str (toString i)),M)else none
 |_=>none
theorem SY:PN K aCw gL:=by
 intro xs M z M' h W H vs Q G r k;unfold gL at h;split at h
 .rename_i i;by_cases hl:i.natAbs.log2<1920
  .rw[A4 hl]at h;cases h;rcases r with _|⟨r1,_|_⟩;exact⟨i,by rw[show _=V.int i from r1],hl,k _ W H (.refl _) G rfl⟩
  .rw[A5 hl]at h;cases h
 .cases h
theorem kM{ι:Type}{X:ι->Cx}:QN K X (.type "str") gL:=⟨_,fun _=>yG,SY⟩
noncomputable def aBT:R2:=fun x y H Q=>∃i j,x=.str i/\y=.str j/\i.length+j.length<=sizeLine/\Q (.str (i++j)) H
noncomputable def SW:F2:=fun x y M=>match x,y with
 |.d (.str a),.d (.str b)=>if a.length+b.length<=sizeLine then some (.d (.str (a++b)),M)else none
 |_,_=>none
theorem VB:P2 K aBT SW:=by
 intro x y M z M' h W H v u Q G rx ry k;unfold SW at h;split at h
 .rename_i a b;by_cases hl:a.length+b.length<=sizeLine
  .rw[A4 hl]at h;cases h;exact⟨a,b,rx,ry,hl,k _ W H (.refl _) G rfl⟩
  .rw[A5 hl]at h;cases h
 .cases h
noncomputable def iQ:F2:=vW dM SW
theorem mQ{ι:Type}{X:ι->Cx}(hK:∀i,(X i).K=K):Q2 K X (binaryOp .Add) iQ:=⟨_,fun i=>(aCE (hK i)).or FQ,P2.or GA VB⟩
noncomputable def tJ:List PyData->Option (List Str)
 |[]=>some []
 |.str x::r=>(tJ r).bind fun xs=>some (x::xs)
 |_::_=>none
theorem AI:∀{ds:List PyData}{ns:List Str},tJ ds=some ns->ds=ns.map .str
 |[],_=>fun h=>by cases h;rfl
 |d::ds,ns=>fun h=>by
  cases d with
  |str n=>
   obtain⟨ms,h1,h2⟩:=Option.bind_eq_some_iff.mp (show(tJ ds).bind (fun ns=>some (n::ns))=some ns from h);cases h2;rw[AI h1];rfl
  |_=>cases h
theorem sG{H:Hp}:∀{ns:List Str}{us:List V},aJ K H (ns.map .str) us->us=ns.map .str
 |[],_=>fun h=>h
 |n::ns,_=>fun h=>by
  obtain⟨v,r,rfl,h1,h2⟩:=(show ∃v r,_=v::r/\Rep K H (.str n) v/\aJ K H (ns.map .str) r from h);rw[sG h2,show v=V.str n from h1];rfl
theorem xI:∀{ns:List Str}{us:List Value},aZ (ns.map .str) us->StrsAre us ns
 |[],_=>fun h=>by cases h;exact .nil
 |n::ns,_=>fun h=>by
  cases h with
  |cons h1 h2=>
   obtain⟨t,rfl⟩:=h1;exact .cons n t (xI h2)
noncomputable def nH(sep:Str)(ys:List Str):Nat:=(ys.map (·.length)).sum+ys.length*sep.length
noncomputable def rJoin(K:Fg):V->List V->Hp->VK->Prop:=fun x vs H Q=>∃sep p ys,x=.str sep/\vs=[.ref p]/\SqL K H p (ys.map .str)/\nH sep ys<=16777216/\Q (.str (Txt.join sep ys)) H
theorem RP{X:Cx}:MtR X "str.join" (rJoin X.K):=by
 intro pins s σ H x vs v us Q I rx rv h;obtain⟨sep,p,ys,rfl,rfl,hp,hz,q⟩:=h;obtain⟨t,rfl⟩:=rx;obtain⟨u,rfl,ru⟩:=vals1 rv;cases ru;obtain⟨its,rv',pl,hz'⟩:=I.list hp;exact join_list pl.isList (by simpa using xI rv') hz fun t' k=>⟨.str _,H,I.tok _,⟨_,rfl⟩,q⟩
noncomputable def dC:FM:=fun x vs M=>match x,vs with
 |.d (.str sep),[.d (.list ds)]=>(tJ ds).bind fun ys=>if nH sep ys<=16777216 then some (.d (.str (Txt.join sep ys)),M)else none
 |_,_=>none
theorem UB:PM K (rJoin K) dC:=by
 intro x ys M z M' h W H v vs Q G rx rs k;unfold dC at h;split at h
 .rename_i sep ds;obtain⟨ys,h1,h⟩:=aI h;by_cases hl:nH sep ys<=16777216
  .rw[A4 hl]at h;cases h;rcases rs with _|⟨r1,_|_⟩;obtain⟨p,us,rfl,hq,hr⟩:=(show ∃a us,_=V.ref a/\SqL K W.F a us/\aJ K W.F ds us from r1);rw[AI h1]at hr;rw[sG hr]at hq;exact⟨sep,p,ys,rx,rfl,G.fh.seq hq,hl,k _ W H (.refl _) G rfl⟩
  .rw[A5 hl]at h;cases h
 .cases h
theorem jE{ι:Type}{X:ι->Cx}{o e:Expr}{f:EF}{fa:AF}{apos cpos:Pos}(hK:∀i,(X i).K=K)(x:ME K X o f)(y:MA K X [e] fa)(hb:∀env:Env,attributeBase o "join" env (eval o env)=eval o env:=by intro _;rfl)(hl:(apos.endLine==cpos.line)=true:=by rfl):
 ME K X (.Call (.Attribute o "join" apos) [e] [] cpos) (aY "str" dC f fa):=by
 obtain⟨t,x1,x2⟩:=x.ex;obtain⟨u,y1,y2⟩:=y.ex;refine⟨_,fun i=>?_,HI UB x2 y2⟩;have:=WO PySem.F.plainAttrs_str PySem.F.slot_str_join PySem.F.type_str_join RP (x1 i) (y1 i) (apos:=apos) (cpos:=cpos) (hb _) (by rw[y.st.1];rfl) hl (y.st.1 _) (y.st.2.plain _ _);rw[hK i]at this;exact this
noncomputable def aCg(t:TE):TE:=fun σ H Q=>t σ H fun x H1=>(∃i,x=.int i/\i.natAbs.log2<1920/\Q (.str (toString i)) H1)\/∃y,x=.str y/\y.length<=sizeLine/\Q (.str y) H1
theorem aAJ{X:Cx}{e:Expr}{t:TE}(h:PE X e t):PE X (.FormattedValue e (-1) none pos) (aCg t):=by
 intro pins s σ H Q I hw;refine wpAny_FormattedValue_plain (thn (h pins s σ H _ I hw) fun v s1 ⟨x,H1,I1,r1,q1⟩=>?_);rcases q1 with⟨i,rfl,hl,q⟩|⟨y,rfl,hl,q⟩
 .obtain⟨t',rfl⟩:=r1;exact wpAny_formatField_int hl ⟨.str _,H1,I1.tok _,⟨_,rfl⟩,q⟩
 .obtain⟨t',rfl⟩:=r1;exact wpAny_formatField_str ⟨.str _,H1,I1,⟨_,rfl⟩,q⟩ ⟨.str _,H1,I1.tok _,⟨_,rfl⟩,q⟩ hl
noncomputable def CP:CD->Option Str
 |.d (.int i)=>if i.natAbs.log2<1920 then some (toString i)else none
 |.d (.str y)=>if y.length<=sizeLine then some y else none
 |_=>none
noncomputable def pY(f:EF):EF:=fun γ M=>(f γ M).bind fun r=>(CP r.1).bind fun y=>some (.d (.str y),r.2)
theorem ZO{t:TE}{f:EF}(a:SE K t f):SE K (aCg t) (pY f):=by
 intro γ M x M' hh W H σ Q G R k;obtain⟨⟨y,M1⟩,h1,hh⟩:=aI hh;obtain⟨z,h2,hh⟩:=aI hh;cases hh;refine a _ _ _ _ h1 W H σ _ G R fun v W1 H1 e1 G1 r1=>?_;unfold CP at h2;split at h2
 .rename_i i hi;cases hi;by_cases hl:i.natAbs.log2<1920
  .rw[A4 hl]at h2;cases h2;exact .inl ⟨i,r1,hl,k _ W1 H1 e1 G1 rfl⟩
  .rw[A5 hl]at h2;cases h2
 .rename_i y hy;cases hy;by_cases hl:y.length<=sizeLine
  .rw[A4 hl]at h2;cases h2;exact .inr ⟨_,r1,hl,k _ W1 H1 e1 G1 rfl⟩
  .rw[A5 hl]at h2;cases h2
 .cases h2
theorem oV{ι:Type}{X:ι->Cx}{e:Expr}{f:EF}(x:ME K X e f):ME K X (.FormattedValue e (-1) none pos) (pY f):=by
 obtain⟨t,x1,x2⟩:=x.ex;exact⟨_,fun i=>aAJ (x1 i),ZO x2⟩
noncomputable abbrev TJ:=Str->St->Hp->(Str->Hp->Prop)->Prop
noncomputable abbrev JF:=Str->Ga->Sto->Option (Str×Sto)
noncomputable def PJ(X:Cx)(es:List Expr)(t:TJ):Prop:=
 ∀(acc:Str)(pins:List (Addr×Obj))(s:Shared)(σ:St)(H:Hp)(Q:Str->Hp->Prop),Inv X pins σ H s->t acc σ H Q->Joins (model X.prog X.w) X.A X.xe (evalEach es X.env) acc (fun out s1=>∃H',Inv X pins σ H' s1/\Q out H') s
noncomputable def SJ(K:Fg)(t:TJ)(f:JF):Prop:=∀acc γ M out M',f acc γ M=some (out,M')->∀(W:Wd)(H:Hp)(σ:St)(Q:Str->Hp->Prop),Good K W M H->cT K W γ σ->(∀W' H',W.Ext W'->Good K W' M' H'->Q out H')->t acc σ H Q
structure MJ{ι:Type}(K:Fg)(X:ι->Cx)(es:List Expr)(f:JF):Prop where
 ex:∃t,(∀i,PJ (X i) es t)/\SJ K t f
noncomputable def yW:JF:=fun acc _ M=>some (acc,M)
noncomputable def fB(f:EF)(g:JF):JF:=fun acc γ M=>(f γ M).bind fun r=>match r.1 with
 |.d (.str y)=>if (acc++y).length<=sizeLine then g (acc++y) γ r.2 else none
 |_=>none
theorem EV{ι:Type}{X:ι->Cx}:MJ K X [] yW:=by
 refine⟨fun acc _ H Q=>Q acc H,fun i acc pins s σ H Q I h=>⟨H,I,h⟩,fun acc γ M out M' hh W H σ Q G R k=>?_⟩;cases hh;exact k W H (.refl _) G
theorem eS{ι:Type}{X:ι->Cx}{e:Expr}{es:List Expr}{f:EF}{g:JF}(x:ME K X e f)(y:MJ K X es g):MJ K X (e::es) (fB f g):=by
 obtain⟨t,x1,x2⟩:=x.ex;obtain⟨u,y1,y2⟩:=y.ex;refine⟨fun acc σ H Q=>t σ H fun v H1=>∃z,v=.str z/\(acc++z).length<=sizeLine/\u (acc++z) σ H1 Q,fun i acc pins s σ H Q I h=>?_,fun acc γ M out M' hh W H σ Q G R k=>?_⟩
 .show Joins _ _ _ (eval e (X i).env::evalEach es (X i).env) acc _ s;refine thn (x1 i pins s σ H _ I h) fun v s1 ⟨w,H1,I1,r1,z,hz,hl,q⟩=>?_;subst hz;obtain⟨t',rfl⟩:=r1;exact⟨z,t',rfl,hl,y1 i _ pins s1 σ H1 Q I1 q⟩
 .obtain⟨⟨w,M1⟩,h1,hh⟩:=aI hh;refine x2 _ _ _ _ h1 W H σ _ G R fun v W1 H1 e1 G1 r1=>?_;dsimp only at hh;split at hh
  .rename_i z;by_cases hl:(acc++z).length<=sizeLine
   .rw[A4 hl]at hh;exact⟨z,r1,hl,y2 _ _ _ _ _ hh W1 H1 σ Q G1 (R.up e1) fun W2 H2 e2 G2=>k W2 H2 (e1.trans e2) G2⟩
   .rw[A5 hl]at hh;cases hh
  .cases hh
noncomputable def hV(j:JF):EF:=fun γ M=>(j Str.empty γ M).bind fun r=>if r.1.length<=sizeLine then some (.d (.str r.1),r.2)else none
theorem rO{ι:Type}{X:ι->Cx}{a b:Expr}{es:List Expr}{j:JF}(x:MJ K X (a::b::es) j):ME K X (.JoinedStr (a::b::es) pos) (hV j):=by
 obtain⟨t,x1,x2⟩:=x.ex;refine⟨fun σ H Q=>t Str.empty σ H fun out H1=>out.length<=sizeLine/\Q (.str out) H1,fun i pins s σ H Q I h=>?_,fun γ M y M' hh W H σ Q G R k=>?_⟩
 .have hj:=x1 i Str.empty pins s σ H _ I h;refine wpAny_JoinedStr ?_
  have mono:∀(ps:List (Sem Value))(acc:Str)(s:Shared)(P P':Str->Shared->Prop),(∀o s,P o s->P' o s)->Joins (model (X i).prog (X i).w) (X i).A (X i).xe ps acc P s->Joins (model (X i).prog (X i).w) (X i).A (X i).xe ps acc P' s:=by
   intro ps
   induction ps with
   |nil=>intro acc s P P' hp h;exact hp _ _ h
   |cons p ps ih=>
    intro acc s P P' hp h;refine thn h fun v s1 ⟨y,t,e1,e2,e3⟩=>⟨y,t,e1,e2,ih _ _ _ _ hp e3⟩
  refine mono _ _ _ _ _ (fun o s1 ⟨H1,I1,hl,q⟩=>⟨hl,.str o,H1,I1.tok _,⟨_,rfl⟩,q⟩) hj
 .obtain⟨⟨o,M1⟩,h1,hh⟩:=aI hh;by_cases hl:o.length<=sizeLine
  .have hh:(if o.length<=sizeLine then some (CD.d (.str o),M1)else none)=some (y,M'):=hh;rw[A4 hl]at hh;cases hh;exact x2 _ _ _ _ _ h1 W H σ _ G R fun W1 H1 e1 G1=>⟨hl,k _ W1 H1 e1 G1 rfl⟩
  .have hh:(if o.length<=sizeLine then some (CD.d (.str o),M1)else none)=some (y,M'):=hh;rw[A5 hl]at hh;cases hh
end
section
variable{K:Fg}
noncomputable def FS(K:Fg)(td ty:TE):TE:=fun σ H Q=>td σ H fun x H1=>ty σ H1 fun y H2=>∃a b kvs k v,x=.ref a/\y=.ref b/\Rd H2 a (.dT kvs)/\SqT K H2 b (k.map kV)/\fO kvs k=some v/\Q v H2
theorem LY{X:Cx}{o i:Expr}{td ty:TE}(hu:X.A.units+1<cLine)(ho:PE X o td)(hi:PE X i ty)(hs:UN i):PE X (.Subscript o i pos) (FS X.K td ty):=by
 intro pins s σ H Q I h;refine QZ PySem.F.slot_dict_getitem.lookup hs (thn (ho pins s σ H _ I h) fun u s1 ⟨x,H1,I1,rx,q1⟩=>thn (hi pins s1 σ H1 _ I1 q1) fun iv s2 ⟨y,H2,I2,ry,a,b,kvs,k,v,ex,ey,e,eb,hv,q2⟩=>?_);subst ex;subst ey;obtain rfl:u=Value.ref a:=rx;cases (show iv=Value.ref b from ry);obtain⟨z,hd,xs,rel,dd⟩:=NJ I2.hok e;obtain⟨w',hw,rw'⟩:=sU.some_of (v:=v) (o:=(atKey xs k).map (·.2)) (by rw[<- hv];exact rel.val k);obtain⟨p,hp,hp2⟩:=Option.map_eq_some_iff.mp hw;obtain⟨its,r,⟨ob,h1,h2,n,h3⟩,_⟩:=I2.tuple eb;refine⟨dd.typeIs,wpAny_getItem_heap (tupleKind_room_in1 hu) (k:=k) ⟨ob,its.toArray,n,h1,h2,h3,by simpa using qY r⟩ dd hp ?_⟩;rw[hp2];exact⟨v,H2,I2.tok _,rw',q2⟩
theorem HX{X:Cx}{o i:Expr}{td ty:TE}(hK:X.K=K)(hu:X.A.units+1<cLine)(ho:PE X o td)(hi:PE X i ty)(hs:UN i):PE X (.Subscript o i pos) (FS K td ty):=by subst hK;exact LY hu ho hi hs
noncomputable def zP(fo fi:EF):EF:=fun γ M=>(fo γ M).bind fun o=>(fi γ o.2).bind fun k=>match k.1 with
 |.d (.tuple ds)=>(keysOf (ds.map .d)).bind fun ks=>(atD k.2 o.1 (.inr ks)).bind fun r=>r.bind fun x=>some (x,k.2)
 |_=>none
theorem MV{td ty:TE}{fo fi:EF}(a:SE K td fo)(b:SE K ty fi):SE K (FS K td ty) (zP fo fi):=by
 intro γ M x M' hh W H σ Q G R c;obtain⟨⟨o,M1⟩,h1,hh⟩:=aI hh;obtain⟨⟨ky,M2⟩,h2,hh⟩:=aI hh;dsimp only at hh h2;split at hh
 .rename_i ds;obtain⟨ks,h3,hh⟩:=aI hh;obtain⟨r,h4,hh⟩:=aI hh;obtain⟨z,h5,hh⟩:=aI hh;cases hh;subst h5;refine a _ _ _ _ h1 W H σ _ G R fun v W1 H1 e1 G1 r1=>b _ _ _ _ h2 W1 H1 σ _ G1 (R.up e1) fun y W2 H2 e2 G2 r2=>?_;obtain⟨q,us,rfl,hq,hr⟩:=(show ∃a us,y=V.ref a/\SqT K W2.F a us/\aJ K W2.F ds us from r2);have ev:us=ks.map kV:=oM h3 (gH hr);subst ev;have hq':=G2.fh.seqT hq;have r1':=r1.up e2;cases o with
  |c i=>
   have h4:(match M'[i]? with|some (Cell.dt kvs)=>some (lkC kvs ks)|_=>none)=some (some x):=h4;split at h4
   .rename_i kvs hk;obtain⟨us,g1,g2⟩:=G2.dtAt hk;have ro:=sV (k:=ks) g2;rw[D0 h4]at ro;cases c':fO us ks with
    |none=>rw[c']at ro;exact False.elim ro
    |some u=>rw[c']at ro;exact⟨_,q,us,ks,u,r1'.2,rfl,.inl g1,hq',c',c u W2 H2 (e1.trans e2) G2 ro⟩
   .cases h4
  |f kvs=>
   have h4:some ((lkP kvs ks).map CD.d)=some (some x):=h4;obtain⟨p,ob,us,rfl,g1,g2⟩:=r1';have ro:=vS (k:=ks) g2;rw[D0 h4]at ro;cases c':fO us ks with
   |none=>rw[c']at ro;exact False.elim ro
   |some u=>rw[c']at ro;exact⟨_,q,us,ks,u,rfl,rfl,.inr ⟨ob,G2.fh _ _ g1⟩,hq',c',c u W2 H2 (e1.trans e2) G2 ro⟩
  |d _=>cases h4
  |t _=>cases h4
  |g _=>cases h4
 .cases hh
theorem OX{ι:Type}{X:ι->Cx}{o i:Expr}{f g:EF}(hK:∀j,(X j).K=K)(hu:∀j,(X j).A.units+1<cLine)(x:ME K X o f)(y:ME K X i g)(hs:UN i:=by intro _ _;rfl):ME K X (.Subscript o i pos) (zP f g):=by
 obtain⟨t,x1,x2⟩:=x.ex;obtain⟨u,y1,y2⟩:=y.ex;exact⟨_,fun j=>HX (hK j) (hu j) (x1 j) (y1 j) hs,MV x2 y2⟩
noncomputable def VZ(K:Fg)(n:Nat)(t:TGs):TG:=fun v σ H Q=>SN K n t v σ H Q\/GU K n t v σ H Q
theorem VI{X:Cx}{pos:Pos}{es:List Expr}{k:Nat}{t:TGs}{n:Nat}(e:X.K=K)(hc:X.calm=true)(h:PGs X es t)
 (hn:(assignEach es X.env).length=n) (hst:(assignEach es X.env).findIdx? (·.1)=none):PG X (.Tuple es k pos) (VZ K n t):=by
 intro pins s σ H v u Q I r hw;rcases hw with hw|hw
 .exact GE e hc h hn hst pins s σ H v u Q I r hw
 .exact QB e hc h hn hst pins s σ H v u Q I r hw
noncomputable def vD(n:Nat)(g:GsF):GF:=fun x γ M=>match x with
 |.d (.list _)=>MZ n g x γ M
 |_=>rG n g x γ M
theorem RX{tgs:TGs}{hgs:GsF}{n:Nat}(b:SGs K tgs hgs):SG K (VZ K n tgs) (vD n hgs):=by
 intro x γ M γ' M' hh W H σ v Q G R r k;unfold vD at hh;split at hh
 .exact .inr (RM b _ _ _ _ _ hh W H σ v Q G R r k)
 .exact .inl (LR b _ _ _ _ _ hh W H σ v Q G R r k)
theorem GS{ι:Type}{X:ι->Cx}{es:List Expr}{gs:GsF}{k n:Nat}(hK:∀i,(X i).K=K)(hc:∀i,(X i).calm=true)(x:MGs K X es gs)(hn:∀env:Env,(assignEach es env).length=n:=by intro _;rfl)(hst:∀env:Env,(assignEach es env).findIdx? (·.1)=none:=by intro _;rfl):MG K X (.Tuple es k pos) (vD n gs):=by
 obtain⟨t,x1,x2⟩:=x.ex;exact⟨_,fun i=>VI (hK i) (hc i) (x1 i) (hn _) (hst _),RX x2⟩
theorem gT{env:Env}:∀{names:List (Str×NameKind)}{x:Str},names.lookup x=some .cell\/names.lookup x=some .free->
 (names.map fun(n,k)=>if (k==NameKind.free&&env.scope.kind==.function&&env.kindOf n==some .cell)then(n,NameKind.cell)else(n,k)).lookup x=some .cell \/
 (names.map fun(n,k)=>if (k==NameKind.free&&env.scope.kind==.function&&env.kindOf n==some .cell)then(n,NameKind.cell)else(n,k)).lookup x=some .free
 |[],_=>fun h=>by simp at h
 |(n,k)::r,x=>fun h=>by
  have ih:=@gT env r x;show List.lookup x ((if (k==NameKind.free&&env.scope.kind==.function&&env.kindOf n==some .cell)=true then(n,NameKind.cell)else(n,k))::_)=_\/List.lookup x ((if (k==NameKind.free&&env.scope.kind==.function&&env.kindOf n==some .cell)=true then(n,NameKind.cell)else(n,k))::_)=_;cases hx:x==n with
  |true=>
   simp only[List.lookup_cons,hx]at h;by_cases hc:(k==NameKind.free&&env.scope.kind==.function&&env.kindOf n==some .cell)=true
   .rw[A4 hc];simp only[List.lookup_cons,hx];exact .inl trivial
   .rw[A5 hc];simp only[List.lookup_cons,hx];exact h
  |false=>
   simp only[List.lookup_cons,hx]at h;by_cases hc:(k==NameKind.free&&env.scope.kind==.function&&env.kindOf n==some .cell)=true
   .rw[A4 hc];simp only[List.lookup_cons,hx];exact ih h
   .rw[A5 hc];simp only[List.lookup_cons,hx];exact ih h
theorem HR{ι:Type}{X:ι->Cx}{N1 N':List Str}{sc1 scope:Scope}{cap:List (Option Nat)}{j:LcI ι}(h:PU sc1 N1 N' cap scope=true):nT (oI X N1 sc1 j) N' cap scope:=by
 have S:nT { oI X N1 sc1 j with env:={ (oI X N1 sc1 j).env with scope:=sc1 } } N' cap scope:=cS (sc0:=sc1) (N:=N1) rfl rfl h;exact⟨S.nocell,S.kind,S.names,fun y hy hk=>gT (S.frees y hy hk),S.len,S.cap⟩
end
end L2
section
noncomputable section
namespace Q68
open PySem PySem.Spec PyProof.Rows L2
noncomputable def top(i:Nat):Stmt:=PySem.Challenge.pw_cutstree_k68_shown.main.body.getD i (.Pass ⟨0,0,0,0⟩)
theorem ar1{α:Type}{P:List α->Prop}{us:List α}(hl:us.length=1)(h:∀a0,P [a0]):P us:=by
 rcases us with _|⟨a0,_|⟨c,r⟩⟩<;>first|exact h _|cases hl
theorem ar2{α:Type}{P:List α->Prop}{us:List α}(hl:us.length=2)(h:∀a0 a1,P [a0,a1]):P us:=by
 rcases us with _|⟨a0,_|⟨a1,_|⟨c,r⟩⟩⟩<;>first|exact h _ _|cases hl
theorem ar3{α:Type}{P:List α->Prop}{us:List α}(hl:us.length=3)(h:∀a0 a1 a2,P [a0,a1,a2]):P us:=by
 rcases us with _|⟨a0,_|⟨a1,_|⟨a2,_|⟨c,r⟩⟩⟩⟩<;>first|exact h _ _ _|cases hl
set_option hygiene false
local macro_rules | `(tactic| sleep 990) => `(tactic| exact ⟨rfl, rfl, rfl, by decide +kernel, rfl, by decide +kernel, by decide +kernel⟩)
local macro_rules | `(tactic| sleep 991) => `(tactic| (intro _ _ _ _ _ _ _ hl; apply ar1 hl; intros; rfl))
local macro_rules | `(tactic| sleep 992) => `(tactic| (intro _ _ _ _ _ _ _ hl; apply ar2 hl; intros; rfl))
local macro_rules | `(tactic| sleep 993) => `(tactic| (intro _ _ _ _ _ _ _ hl; apply ar3 hl; intros; rfl))
set_option hygiene true
noncomputable abbrev lD:Stmt:=top 33
noncomputable abbrev sD:List Str:=["_law_script","_law_many","_law_row","_law_odd","_law_deck_here","_law_k","_law_at","_law_one"]
noncomputable abbrev mZ:List Str:=["_law_script","_law_many"]
theorem sc__law_deck:aT sD mZ (aG lD):=by sleep 990
noncomputable def oE:EF:=(cK (aB (fC (.int 48271)) (aB (fC (.int 69621)) (aB (fC (.int 39373)) (aB (fC (.int 40692)) aH)))))
theorem vR(γ:Ga)(M:Sto):oE γ M=some (.d (.list [(.int 48271),(.int 69621),(.int 39373),(.int 40692)]),M):=rfl
noncomputable def dD:SF:=(bB (bI (fOp bD (aD 5) (aK BQ (aB (aD 2) aH))) (hName 6))
 (bB (bI (fOp bD (fOp ixF (aD 2) (aD 6)) (fC (.int 1000000))) (hName 7))
 (bB (sIf (gB (fOp (eqX false) (aD 3) (fC (.int 0))))
  (bB (bI (fOp bD (fOp dM (fOp dM (fOp ixF (aD 2) (aD 6)) (fOp uW (fOp uW (aD 5) (aD 5)) (fC (.int 16807)))) (fOp uW (fC (.int 3)) (aD 5))) (fC (.int 2147483629))) (hName 7))
 (bB (bI (fOp bD (fOp dM (fOp uW (aD 7) (fOp ixF oE (fOp bD (aD 5) (fC (.int 4))))) (fC (.int 7))) (fC (.int 2147483647))) (hName 7))
 (bI (fOp bD (fOp uW (aD 7) (aD 7)) (fC (.int 2147483629))) (hName 7))))
  (bI (fOp bS (fOp ixF (aD 2) (aD 6)) (fC (.int 1000000))) (hSub (aD 2) (aD 6) yN)))
 (oF (aY "list" fT (aD 4) (aB (aD 7) aH))))))
noncomputable def jB:SF:=(bB (bI (aK xA (aB (aD 0) aH)) (hName 2))
 (bB (sIf (gB (fOp (eqY false) (aD 2) (cK aH)))
  (bI (qP (aB (fC (.int 4)) aH)) (hName 2))
  eK)
 (bB (bI (fOp bD (fOp ixF (aD 2) (fC (.int 0))) (fC (.int 2))) (hName 3))
 (bB (bI (fOp bS (fOp ixF (aD 2) (fC (.int 0))) (fC (.int 2))) (hSub (aD 2) (fC (.int 0)) yN))
 (bB (bI (qP aH) (hName 4))
 (bB (qO (fL (aB (aD 1) aH)) (hName 5) dD)
 (bB (oF (aY "list" iF (aD 4) aH))
 (cL (aD 4)))))))))
noncomputable def iY:FN:=fnF 2 8 jB
noncomputable abbrev hX:Stmt:=top 39
noncomputable abbrev mU:List Str:=["_law_deck_here","_law_many","_law_found","_law_turn","_law_draw","_law_i","_law_j","_law_some"]
noncomputable abbrev mS:List Str:=["_law_deck_here","_law_many"]
theorem sc__law_ties:aT mU mS (aG hX):=by sleep 990
noncomputable def oA:EF:=(cK (aB (gG (aB (fC (.int 1)) (aB (fC (.int 1)) aH))) (aB (gG (aB (fC (.int 1)) (aB (fC (.int 2)) aH))) (aB (gG (aB (fC (.int 3)) (aB (fC (.int 4)) aH))) (aB (gG (aB (fOp qW (fC (.int 10)) (fC (.int 12))) (aB (fC (.int 1)) aH))) (aB (gG (aB (fC (.int 1)) (aB (fC (.int 55440)) aH))) (aB (gG (aB (fC (.int 5)) (aB (fC (.int 12)) aH))) (aB (gG (aB (fOp rH (fOp qW (fC (.int 10)) (fC (.int 12))) (fC (.int 3))) (aB (fC (.int 7)) aH))) (aB (gG (aB (fC (.int 0)) (aB (fC (.int 1)) aH))) aH)))))))))
theorem vJ(γ:Ga)(M:Sto):oA γ M=some (.d (.list [(.tuple [(.int 1),(.int 1)]),(.tuple [(.int 1),(.int 2)]),(.tuple [(.int 3),(.int 4)]),(.tuple [(.int 1000000000000),(.int 1)]),(.tuple [(.int 1),(.int 55440)]),(.tuple [(.int 5),(.int 12)]),(.tuple [(.int 999999999997),(.int 7)]),(.tuple [(.int 0),(.int 1)])]),M):=rfl
noncomputable def gC:SF:=(bB (bI (aY "list" eO (aD 0) aH) (hName 4))
 (bB (bI (fOp bD (aD 4) (aD 1)) (hName 5))
 (bB (bI (fOp bD (fOp bS (aD 4) (fC (.int 41))) (aD 1)) (hName 6))
 (bB (bI oA (hName 7))
 (sIf (gB (fOp (eqX true) (aD 5) (aD 6)))
  (oU (aD 2) (sT (aB (aK xH (aB (aD 5) (aB (aD 6) aH))) (aB (aK xB (aB (aD 5) (aB (aD 6) aH))) aH))) (fOp ixF (fOp dM (aD 7) (cK (aB (gG (aB (fOp bD (fOp bS (aD 4) (fC (.int 9))) (fC (.int 99))) (aB (fC (.int 1)) aH))) aH))) (fOp bD (fOp bS (aD 4) (fC (.int 1700))) (fC (.int 9)))))
  eK)))))
noncomputable def jN:EF:=(fLc [some 2,none] (aW (aK lQ (aB (aD 2) aH))) (hName 1) fF (fOp dM (aD 1) (gG (aB (zP (aD 0) (aD 1)) aH))))
noncomputable def mM:SF:=(bB (bI qS (hName 2))
 (bB (qO (fL (aB (fOp bD (aY "list" eO (aD 0) aH) (fC (.int 9))) aH)) (hName 3) gC)
 (cL jN)))
noncomputable def jI:FN:=fnF 2 8 mM
noncomputable abbrev iM:Stmt:=top 35
noncomputable abbrev nV:List Str:=["_law_amount"]
noncomputable abbrev jK:List Str:=["_law_amount"]
theorem uG:aT nV jK (aG iM):=by sleep 990
noncomputable def gA:SF:=(bB (sIf (gB (fOp (eqX false) (fOp ixF (aD 0) (fC (.int 1))) (fC (.int 1))))
 (cL (aK gL (aB (fOp ixF (aD 0) (fC (.int 0))) aH)))
 eK)
 (cL (fOp iQ (fOp iQ (aK gL (aB (fOp ixF (aD 0) (fC (.int 0))) aH)) (fC (.str "/"))) (aK gL (aB (fOp ixF (aD 0) (fC (.int 1))) aH)))))
noncomputable def eQ:FN:=fnF 1 1 gA
noncomputable abbrev lJ:Stmt:=top 40
noncomputable abbrev sH:List Str:=["_law_word","_law_row"]
noncomputable abbrev lX:List Str:=["_law_word","_law_row"]
theorem yQ:aT sH lX (aG lJ):=by sleep 990
noncomputable def mN:SF:=(cL (aY "str" dC (fC (.str " ")) (aB (cK (aB (aD 0) (aB (aK gL (aB (fOp ixF (aD 1) (fC (.int 0))) aH)) (aB (aK gL (aB (fOp ixF (aD 1) (fC (.int 1))) aH)) (aB (aK eQ (aB (fOp ixF (aD 1) (fC (.int 2))) aH)) aH))))) aH)))
noncomputable def cP:FN:=fnF 2 2 mN
noncomputable abbrev kY:Stmt:=top 30
noncomputable abbrev qQ:List Str:=["lines"]
noncomputable abbrev rE:List Str:=["lines"]
theorem DO:aT qQ rE (aG kY):=by sleep 990
noncomputable def iZ:EF:=(fLc [none] (aW (aD 0)) (hName 0) fF (fOp iQ (aD 0) (fC (.str "\n"))))
noncomputable def rC:SF:=(cL (aY "str" dC (fC (.str "")) (aB iZ aH)))
noncomputable def fE:FN:=fnF 1 1 rC
noncomputable abbrev iO:Stmt:=top 24
noncomputable abbrev oB:List Str:=["amount","above","below"]
noncomputable abbrev jS:List Str:=["amount"]
theorem sc_amount_text:aT oB jS (aG iO):=by sleep 990
noncomputable def fU:SF:=(bB (bI (aD 0) (vD 2 (bY (hName 1) (bY (hName 2) nR))))
 (cL (fIf (gB (fOp (eqX false) (aD 2) (fC (.int 1)))) (aK gL (aB (aD 1) aH)) (hV (fB (pY (aD 1)) (fB (fC (.str "/")) (fB (pY (aD 2)) yW)))))))
noncomputable def eN:FN:=fnF 1 3 fU
noncomputable abbrev mY:Stmt:=top 31
noncomputable abbrev uL:List Str:=["name","row","i","j","amount"]
noncomputable abbrev oZ:List Str:=["name","row"]
theorem sc_row_line:aT uL oZ (aG mY):=by sleep 990
noncomputable def pC:SF:=(bB (bI (aD 1) (vD 3 (bY (hName 2) (bY (hName 3) (bY (hName 4) nR)))))
 (cL (hV (fB (pY (aD 0)) (fB (fC (.str " ")) (fB (pY (aD 2)) (fB (fC (.str " ")) (fB (pY (aD 3)) (fB (fC (.str " ")) (fB (pY (aK eN (aB (aD 4) aH))) yW))))))))))
noncomputable def eW:FN:=fnF 2 5 pC
noncomputable abbrev jD:Stmt:=top 26
noncomputable abbrev oQ:List Str:=["web"]
noncomputable abbrev oY:List Str:=["web"]
theorem AD:aT oQ oY (aG jD):=by sleep 990
noncomputable def kP:EF:=(fLc [none] (aW (pG "Web" "ties" (aD 0))) (hName 0) fF (aK eW (aB (fC (.str "tie")) (aB (aD 0) aH))))
noncomputable def kO:SF:=(cL (aK fE (aB (fOp dM (cK (aB (hV (fB (fC (.str "places ")) (fB (pY (pG "Web" "many" (aD 0))) yW))) aH)) kP) aH)))
noncomputable def fQ:FN:=fnF 1 1 kO
noncomputable abbrev mO:Stmt:=top 5
noncomputable abbrev uN:List Str:=["thing"]
noncomputable abbrev oK:List Str:=["thing"]
theorem AR:aT uN oK (aG mO):=by sleep 990
noncomputable def uC:SF:=(cL (kU (sS "int" (aD 0)) (RN (sS "bool" (aD 0)))))
noncomputable def fA:FN:=fnF 1 1 uC
noncomputable abbrev qL:Stmt:=top 6
noncomputable abbrev BH:List Str:=["thing"]
noncomputable abbrev uI:List Str:=["thing"]
theorem HW:aT BH uI (aG qL):=by sleep 990
noncomputable def DD:SF:=(cL (FY "list" "tuple" (aD 0)))
noncomputable def pW:FN:=fnF 1 1 DD
noncomputable abbrev rM:Stmt:=top 17
noncomputable abbrev BP:List Str:=["one","other"]
noncomputable abbrev tK:List Str:=["one","other"]
theorem sc_common:aT BP tK (aG rM):=by sleep 990
noncomputable def oP:SF:=(pD (FP (aD 1)) (vY 0 1 (aB (aD 1) (aB (fOp bD (aD 0) (aD 1)) aH))))
noncomputable def CH:SF:=(bB oP
 (cL (aD 0)))
noncomputable def vT:FN:=fnF 2 2 CH
noncomputable abbrev lE:Stmt:=top 7
noncomputable abbrev sC:List Str:=["thing","length"]
noncomputable abbrev lR:List Str:=["thing","length"]
theorem yY:aT sC lR (aG lE):=by sleep 990
noncomputable def rS:SF:=(cL (kU (aK pW (aB (aD 0) aH)) (fOp (eqX false) (aK BQ (aB (aD 0) aH)) (aD 1))))
noncomputable def jF:FN:=fnF 2 2 rS
noncomputable abbrev dF:Stmt:=top 16
noncomputable abbrev gJ:List Str:=["thing"]
noncomputable abbrev dO:List Str:=["thing"]
theorem lN:aT gJ dO (aG dF):=by sleep 990
noncomputable def bV:SF:=(bB (sIf (gOr (sR (gB (aK jF (aB (aD 0) (aB (fC (.int 2)) aH))))) (gOr (sR (gB (aK fA (aB (fOp ixF (aD 0) (fC (.int 0))) aH)))) (sR (gB (aK fA (aB (fOp ixF (aD 0) (fC (.int 1))) aH))))))
 (cL (fC (.bool false)))
 eK)
 (cL (kU (fOp geI (fOp ixF (aD 0) (fC (.int 0))) (fC (.int 0))) (fOp geI (fOp ixF (aD 0) (fC (.int 1))) (fC (.int 1))))))
noncomputable def bL:FN:=fnF 1 1 bV
noncomputable abbrev iE:Stmt:=top 15
noncomputable abbrev oH:List Str:=["thing"]
noncomputable abbrev jU:List Str:=["thing"]
theorem vA:aT oH jU (aG iE):=by sleep 990
noncomputable def dE:SF:=(cL (kU (aK bL (aB (aD 0) aH)) (kU (fOp (eqX false) (fOp bD (fC (.int 55440)) (fOp ixF (aD 0) (fC (.int 1)))) (fC (.int 0))) (fOp (eqX false) (aK vT (aB (fOp ixF (aD 0) (fC (.int 0))) (aB (fOp ixF (aD 0) (fC (.int 1))) aH))) (fC (.int 1))))))
noncomputable def cD:FN:=fnF 1 1 dE
noncomputable abbrev lH:Stmt:=top 14
noncomputable abbrev rQ:List Str:=["thing"]
noncomputable abbrev lV:List Str:=["thing"]
theorem zD:aT rQ lV (aG lH):=by sleep 990
noncomputable def gI:SF:=(cL (kU (aK cD (aB (aD 0) aH)) (fOp leI (fOp ixF (aD 0) (fC (.int 0))) (fC (.int 1000000000000)))))
noncomputable def dR:FN:=fnF 1 1 gI
noncomputable abbrev lU:Stmt:=top 8
noncomputable abbrev uO:List Str:=["many","thing"]
noncomputable abbrev oT:List Str:=["many","thing"]
theorem CF:aT uO oT (aG lU):=by sleep 990
noncomputable def kX:SF:=(cL (kU (aK fA (aB (aD 1) aH)) (zV leI ltI (fC (.int 0)) (aD 1) (aD 0))))
noncomputable def fS:FN:=fnF 2 2 kX
noncomputable abbrev dP:Stmt:=top 9
noncomputable abbrev gV:List Str:=["many","i","j"]
noncomputable abbrev eD:List Str:=["many","i","j"]
theorem mE:aT gV eD (aG dP):=by sleep 990
noncomputable def bZ:SF:=(cL (kU (aK fS (aB (aD 0) (aB (aD 1) aH))) (kU (aK fS (aB (aD 0) (aB (aD 2) aH))) (fOp (eqX true) (aD 1) (aD 2)))))
noncomputable def bR:FN:=fnF 3 3 bZ
noncomputable abbrev dY:Stmt:=top 10
noncomputable abbrev gW:List Str:=["many","thing"]
noncomputable abbrev eG:List Str:=["many","thing"]
theorem mD:aT gW eG (aG dY):=by sleep 990
noncomputable def cA:SF:=(cL (kU (aK jF (aB (aD 1) (aB (fC (.int 3)) aH))) (kU (aK bR (aB (aD 0) (aB (fOp ixF (aD 1) (fC (.int 0))) (aB (fOp ixF (aD 1) (fC (.int 1))) aH)))) (fOp ltI (fOp ixF (aD 1) (fC (.int 0))) (fOp ixF (aD 1) (fC (.int 1)))))))
noncomputable def bE:FN:=fnF 2 2 cA
noncomputable abbrev qZ:Stmt:=top 22
noncomputable abbrev BE:List Str:=["many","thing"]
noncomputable abbrev uS:List Str:=["many","thing"]
theorem JR:aT BE uS (aG qZ):=by sleep 990
noncomputable def kL:SF:=(cL (kU (aK bE (aB (aD 0) (aB (aD 1) aH))) (aK dR (aB (fOp ixF (aD 1) (fC (.int 2))) aH))))
noncomputable def iL:FN:=fnF 2 2 kL
noncomputable abbrev iC:Stmt:=top 21
noncomputable abbrev mK:List Str:=["many","ties","weights","at","row"]
noncomputable abbrev mP:List Str:=["many","ties"]
theorem sc_kept_ties:aT mK mP (aG iC):=by sleep 990
noncomputable def eJ:SF:=(bB (sIf (gOr (sR (gB (aK iL (aB (aD 0) (aB (aD 4) aH))))) (gB (TB false (sT (aB (fOp ixF (aD 4) (fC (.int 0))) (aB (fOp ixF (aD 4) (fC (.int 1))) aH))) (aD 2))))
 zF
 eK)
 (oU (aD 2) (sT (aB (fOp ixF (aD 4) (fC (.int 0))) (aB (fOp ixF (aD 4) (fC (.int 1))) aH))) (aK cJ (aB (fOp ixF (aD 4) (fC (.int 2))) aH))))
noncomputable def jZ:EF:=(fLc [none,none,none] (aW (qM (aD 2))) (rG 2 (bY (rG 2 (bY (hName 0) (bY (hName 1) nR))) (bY (hName 2) nR))) (gB (fOp gtI (fOp ixF (aD 2) (fC (.int 0))) (fC (.int 0)))) (gG (aB (aD 0) (aB (aD 1) (aB (aD 2) aH)))))
noncomputable def mX:SF:=(bB (sIf (sR (gB (aK pW (aB (aD 1) aH))))
 zF
 eK)
 (bB (bI qS (hName 2))
 (bB (qO (BK (aB (aD 1) aH)) (rG 2 (bY (hName 3) (bY (hName 4) nR))) eJ)
 (cL (aK cJ (aB jZ aH))))))
noncomputable def gK:FN:=fnF 2 5 mX
noncomputable abbrev eC:Stmt:=inClass (top 20) 0
noncomputable abbrev nB:List Str:=["self","many","ties"]
noncomputable abbrev mI:List Str:=["self","many","ties"]
theorem yR:aT nB mI (aG eC):=by sleep 990
noncomputable def jW:EF:=(fDc (.dt []) [none,none,none] (aW (pG "Web" "ties" (aD 0))) (rG 3 (bY (hName 0) (bY (hName 1) (bY (hName 2) nR)))) fF (sT (aB (aD 0) (aB (aD 1) aH))) (aD 2))
noncomputable def mH:SF:=(bB (sIf (gOr (sR (gB (aK fA (aB (aD 1) aH)))) (gOr (gB (fOp ltI (aD 1) (fC (.int 1)))) (gB (fOp gtI (aD 1) (fC (.int 40))))))
 zF
 eK)
 (bB (xR "Web" "many" (aD 0) (aD 1))
 (bB (xR "Web" "ties" (aD 0) (aK gK (aB (aD 1) (aB (aD 2) aH))))
 (xR "Web" "weights" (aD 0) jW))))
noncomputable def dU:FN:=fnF 3 3 mH
noncomputable abbrev iI:Stmt:=top 34
noncomputable abbrev nX:List Str:=["_law_above","_law_below","_law_one","_law_other"]
noncomputable abbrev jV:List Str:=["_law_above","_law_below"]
theorem sc__law_lowest:aT nX jV (aG iI):=by sleep 990
noncomputable def lL:SF:=(pD (gB (fOp gtI (aD 3) (fC (.int 0)))) (vY 2 3 (aB (aD 3) (aB (fOp bD (aD 2) (aD 3)) aH))))
noncomputable def jL:SF:=(bB (vY 2 3 (aB (aD 0) (aB (aD 1) aH)))
 (bB lL
 (cL (gG (aB (fOp bS (aD 0) (aD 2)) (aB (fOp bS (aD 1) (aD 2)) aH))))))
noncomputable def fZ:FN:=fnF 2 4 jL
noncomputable abbrev mR:Stmt:=top 36
noncomputable abbrev tP:List Str:=["_law_deck_here","_law_draw","_law_more","_law_top","_law_low"]
noncomputable abbrev oW:List Str:=["_law_deck_here"]
theorem sc__law_any:aT tP oW (aG mR):=by sleep 990
noncomputable def oR:SF:=(bB (bI (aY "list" eO (aD 0) aH) (hName 1))
 (bB (bI (aY "list" eO (aD 0) aH) (hName 2))
 (bB (bI (fOp ixF (cK (aB (fOp bD (fOp bS (aD 1) (fC (.int 7))) (fC (.int 10))) (aB (fOp bD (fOp bS (aD 1) (fC (.int 7))) (fC (.int 1000))) (aB (fOp rH (fOp rH (fOp qW (fC (.int 10)) (fC (.int 30))) (fC (.int 1))) (fOp bD (fOp bS (aD 1) (fC (.int 7))) (fC (.int 50)))) (aB (fOp dM (fOp uW (aD 1) (fOp qW (fC (.int 10)) (fC (.int 12)))) (aD 2)) aH))))) (fOp bD (aD 1) (fC (.int 4)))) (hName 3))
 (bB (bI (fOp ixF (cK (aB (fC (.int 1)) (aB (fC (.int 1)) (aB (fOp dM (fC (.int 1)) (fOp bD (fOp bS (aD 2) (fC (.int 5))) (fC (.int 40)))) (aB (fC (.int 55440)) (aB (fOp rH (fOp rH (fOp qW (fC (.int 10)) (fC (.int 30))) (fC (.int 1))) (fOp bD (fOp bS (aD 2) (fC (.int 5))) (fC (.int 30)))) (aB (fOp dM (fC (.int 1)) (aD 2)) aH))))))) (fOp bD (aD 2) (fC (.int 6)))) (hName 4))
 (cL (aK fZ (aB (aD 3) (aB (aD 4) aH))))))))
noncomputable def kT:FN:=fnF 1 5 oR
noncomputable abbrev jM:Stmt:=top 37
noncomputable abbrev qF:List Str:=["_law_deck_here","_law_many","_law_found","_law_k","_law_draw"]
noncomputable abbrev lF:List Str:=["_law_deck_here","_law_many"]
theorem sc__law_drawn:aT qF lF (aG jM):=by sleep 990
noncomputable def fI:SF:=(bB (bI (aY "list" eO (aD 0) aH) (hName 4))
 (oF (aY "list" fT (aD 2) (aB (gG (aB (fOp bD (aD 4) (fC (.int 100))) (aB (fOp ixF (cK (aB (fOp bD (fOp bS (aD 4) (fC (.int 100))) (fC (.int 100))) (aB (fOp bD (fOp bS (aD 4) (fC (.int 100))) (fC (.int 10))) aH))) (fOp bD (aD 3) (fC (.int 2)))) (aB (aK kT (aB (aD 0) aH)) aH)))) aH))))
noncomputable def kS:SF:=(bB (bI (qP aH) (hName 2))
 (bB (qO (fL (aB (aD 1) aH)) (hName 3) fI)
 (cL (aD 2))))
noncomputable def iD:FN:=fnF 2 5 kS
noncomputable abbrev fK:Stmt:=top 38
noncomputable abbrev jT:List Str:=["_law_deck_here","_law_many","_law_found","_law_k","_law_draw"]
noncomputable abbrev jY:List Str:=["_law_deck_here","_law_many"]
theorem sc__law_places:aT jT jY (aG fK):=by sleep 990
noncomputable def eU:EF:=(cK (aB (fC (.int 100)) (aB (fC (.int 10)) (aB (fC (.int 40)) aH))))
theorem rK(γ:Ga)(M:Sto):eU γ M=some (.d (.list [(.int 100),(.int 10),(.int 40)]),M):=rfl
noncomputable def gN:EF:=(fLc [some 0,some 4,none] (fL (aB (fOp dM (fC (.int 1)) (fOp bD (aD 4) (fC (.int 6)))) aH)) (hName 2) fF (fOp bD (aY "list" eO (aD 0) aH) (fOp ixF eU (fOp bD (fOp bS (aD 1) (fC (.int 9))) (fC (.int 3))))))
noncomputable def eT:SF:=(bB (bI (aY "list" eO (aD 0) aH) (hName 4))
 (oF (aY "list" fT (aD 2) (aB (aK cJ (aB gN aH)) aH))))
noncomputable def jX:SF:=(bB (bI (qP aH) (hName 2))
 (bB (qO (fL (aB (aD 1) aH)) (hName 3) eT)
 (cL (aD 2))))
noncomputable def fV:FN:=fnF 2 5 jX
noncomputable abbrev fX:Stmt:=top 41
noncomputable abbrev gZ:List Str:=["_law_thing"]
noncomputable abbrev iA:List Str:=["_law_thing"]
theorem nU:aT gZ iA (aG fX):=by sleep 990
noncomputable def fH(self:FN):EF:=(fLc [none] (aW (aD 0)) (hName 0) fF (aK self (aB (aD 0) aH)))
noncomputable def eB(self:FN):SF:=(bB (sIf (gB (sS "tuple" (aD 0)))
 (cL (fH self))
 eK)
 (cL (aD 0)))
noncomputable def aR:Nat->FN
 |0=>fun _ _=>none
 |n+1=>fnF 1 1 (eB (aR n))
noncomputable abbrev hJ:Stmt:=top 27
noncomputable abbrev mG:List Str:=["tree"]
noncomputable abbrev mL:List Str:=["tree"]
theorem yX:aT mG mL (aG hJ):=by sleep 990
noncomputable def oG:EF:=(fLc [none] (aW (aD 0)) (hName 0) fF (aK eW (aB (fC (.str "branch")) (aB (aD 0) aH))))
noncomputable def lW:SF:=(cL (aK fE (aB oG aH)))
noncomputable def dN:FN:=fnF 1 1 lW
noncomputable abbrev hZ:Stmt:=top 28
noncomputable abbrev lP:List Str:=["flow"]
noncomputable abbrev mC:List Str:=["flow"]
theorem yI:aT lP mC (aG hZ):=by sleep 990
noncomputable def oC:EF:=(fLc [none] (aW (aD 0)) (hName 0) fF (aK eW (aB (fC (.str "flow")) (aB (aD 0) aH))))
noncomputable def mB:SF:=(cL (aK fE (aB oC aH)))
noncomputable def dZ:FN:=fnF 1 1 mB
noncomputable abbrev gE:Stmt:=top 29
noncomputable abbrev kN:List Str:=["sides"]
noncomputable abbrev kR:List Str:=["sides"]
theorem wB:aT kN kR (aG gE):=by sleep 990
noncomputable def lY:EF:=(cK (aB (fC (.str "side")) aH))
theorem sM(γ:Ga)(M:Sto):lY γ M=some (.d (.list [(.str "side")]),M):=rfl
noncomputable def uQ:EF:=(fLc [none] (aW (aD 0)) (hName 0) fF (aK gL (aB (aD 0) aH)))
noncomputable def iK:EF:=(fLc [none] (aW (aD 0)) (hName 0) fF (aY "str" dC (fC (.str " ")) (aB (fOp dM lY uQ) aH)))
noncomputable def lC:SF:=(cL (aK fE (aB iK aH)))
noncomputable def cY:FN:=fnF 1 1 lC
noncomputable abbrev nA:Stmt:=top 42
noncomputable abbrev uK:List Str:=["_law_script","_law_deck_here","_law_many","_law_ties_here","_law_lines","_law_found","_law_rows","_law_sides","_law_handed","_law_before","_law_due"]
noncomputable abbrev WW:List Str:=["_law_script"]
theorem sc_law:aT uK WW (aG nA):=by sleep 990
noncomputable def GM:EF:=(gG (aB (fC (.int 0)) (aB (fC (.int 1)) aH)))
theorem NL(γ:Ga)(M:Sto):GM γ M=some (.d (.tuple [(.int 0),(.int 1)]),M):=rfl
noncomputable def tE:EF:=(fLc [none] (aW (aD 3)) (hName 0) (gB (fOp (eqX true) (fOp ixF (aD 0) (fC (.int 2))) GM)) (aK cP (aB (fC (.str "tie")) (aB (aD 0) aH))))
noncomputable def pS:EF:=(fLc [none] (aW (aD 4)) (hName 0) fF (fOp iQ (aD 0) (fC (.str "\n"))))
noncomputable def HN:EF:=(fLc [none] (aW (aD 6)) (hName 0) fF (fOp iQ (aK cP (aB (fC (.str "branch")) (aB (aD 0) aH))) (fC (.str "\n"))))
noncomputable def GQ:EF:=(fLc [none] (aW (aD 6)) (hName 0) fF (fOp iQ (aK cP (aB (fC (.str "flow")) (aB (aD 0) aH))) (fC (.str "\n"))))
noncomputable def nM:SF:=(bB (bI (aK pO (aB (aD 8) aH)) (hName 9))
 (bB (sIf (gB (fOp (eqX true) (aK dN (aB (aD 8) aH)) (aY "str" dC (fC (.str "")) (aB HN aH))))
  (cL (fC (.bool false)))
  eK)
 (sIf (gOr (gB (fOp (eqX true) (aK dZ (aB (aD 8) aH)) (aY "str" dC (fC (.str "")) (aB GQ aH)))) (gB (fOp (eqX true) (aK pO (aB (aD 8) aH)) (aD 9))))
  (cL (fC (.bool false)))
  eK)))
noncomputable def sW:EF:=(cK (aB (fC (.str "side")) aH))
theorem KL(γ:Ga)(M:Sto):sW γ M=some (.d (.list [(.str "side")]),M):=rfl
noncomputable def zK:EF:=(fLc [none] (aW (aD 0)) (hName 0) fF (aK gL (aB (aD 0) aH)))
noncomputable def pK:EF:=(fLc [none] (aW (aD 7)) (hName 0) fF (fOp iQ (aY "str" dC (fC (.str " ")) (aB (fOp dM sW zK) aH)) (fC (.str "\n"))))
noncomputable def nI:SF:=(sIf (gB (fOp (eqX true) (aK cY (aB (aD 8) aH)) (aD 10)))
 (cL (fC (.bool false)))
 eK)
noncomputable def HP:SF:=(bB (bI (aK iY (aB (aD 0) (aB (fC (.int 140)) aH))) (hName 1))
 (bB (bI (fOp ixF (cK (aB (fC (.int 1)) (aB (fC (.int 2)) (aB (fC (.int 40)) (aB (fOp dM (fC (.int 2)) (fOp bD (aY "list" eO (aD 1) aH) (fC (.int 30)))) aH))))) (fOp bD (aY "list" eO (aD 1) aH) (fC (.int 4)))) (hName 2))
 (bB (bI (aK jI (aB (aD 1) (aB (aD 2) aH))) (hName 3))
 (bB (bI (fOp dM (cK (aB (fOp iQ (fC (.str "places ")) (aK gL (aB (aD 2) aH))) aH)) tE) (hName 4))
 (bB (bI (aK fQ (aB (tX "Web" dU (aB (aD 2) (aB (IY (aD 3) (xU (fUn DU (fC (.int 1))))) aH))) aH)) (hName 5))
 (bB (sIf (gOr (sR (gB (sS "str" (aD 5)))) (gB (fOp (eqX true) (aD 5) (aY "str" dC (fC (.str "")) (aB pS aH)))))
  (cL (fC (.bool false)))
  eK)
 (bB (bI (jJ (aK iD (aB (aD 1) (aB (fOp bD (aY "list" eO (aD 1) aH) (fC (.int 7))) aH)))) (hName 6))
 (bB (bI (jJ (aK fV (aB (aD 1) (aB (fOp bD (aY "list" eO (aD 1) aH) (fC (.int 6))) aH)))) (hName 7))
 (bB (qO (aW (cK (aB (aD 6) (aB (aK cJ (aB (aD 6) aH)) (aB (aK (aR 9) (aB (aK cJ (aB (aD 6) aH)) aH)) aH))))) (hName 8) nM)
 (bB (bI (aY "str" dC (fC (.str "")) (aB pK aH)) (hName 10))
 (bB (qO (aW (cK (aB (aD 7) (aB (aK cJ (aB (aD 7) aH)) (aB (aK (aR 9) (aB (aK cJ (aB (aD 7) aH)) aH)) aH))))) (hName 8) nI)
 (cL (kU (fOp (eqX false) (aK dN (aB (gG aH) aH)) (fC (.str ""))) (kU (fOp (eqX false) (aK dZ (aB (cK aH) aH)) (fC (.str ""))) (fOp (eqX false) (aK cY (aB (gG aH) aH)) (fC (.str "")))))))))))))))))
noncomputable def F_law:FN:=fnF 1 11 HP
structure Txt(K:Fg)(mg:Str->Option Value):Prop where
 hB:IB mg ["bool","enumerate","int","isinstance","len","list","max","min","range","repr","sorted","str","tuple"]
 v63:∃t:Tok,mg "MOST_ABOVE"=some (.int 1000000000000 t)
 v64:∃t:Tok,mg "BELOW"=some (.int 55440 t)
 v65:∃t:Tok,mg "MOST_PLACES"=some (.int 40 t)
 v60:mg "Web"=some (.ref (eR K "Web"))
 v61:Cls K (eR K "Web")
 v21:fR K (eR K "Web") "many"
 v22:fR K (eR K "Web") "ties"
 v23:fR K (eR K "Web") "weights"
 v62:SM K "Web" "__init__" "Web.__init__" eC
 v29:PySem.W.makesIn K (eR K "Web")=true
 v30:PySem.W.keepIn K (.ref (eR K "Web"))=true
 v31:Def K mg "_law_deck" lD
 v32:Def K mg "_law_ties" hX
 v33:Def K mg "_law_number" iM
 v34:Def K mg "_law_line" lJ
 v35:Def K mg "text_of" kY
 v36:Def K mg "amount_text" iO
 v37:Def K mg "row_line" mY
 v38:Def K mg "show_web" jD
 v39:Def K mg "is_whole" mO
 v40:Def K mg "is_row" qL
 v41:Def K mg "common" rM
 v42:Def K mg "is_row_of" lE
 v43:Def K mg "has_amount_numbers" dF
 v44:Def K mg "is_in_parts" iE
 v45:Def K mg "is_weight" lH
 v46:Def K mg "is_place" lU
 v47:Def K mg "are_unlike_places" dP
 v48:Def K mg "is_between_places" dY
 v49:Def K mg "is_tie" qZ
 v50:Def K mg "kept_ties" iC
 v51:Def K mg "_law_lowest" iI
 v52:Def K mg "_law_any" mR
 v53:Def K mg "_law_drawn" jM
 v54:Def K mg "_law_places" fK
 v55:Def K mg "_law_lists" fX
 v56:Def K mg "show_tree" hJ
 v57:Def K mg "show_flow" hZ
 v58:Def K mg "show_sides" gE
 v59:Def K mg "law" nA
section
variable{P:Program}{w:World}{K:Fg}{mg:Str->Option Value}{base:Heap}
theorem zA(T:Txt K mg):Callee P w K mg base 1 "_law_deck" mZ (spM K iY):=
 T.v31.okG (N:=sD) (ps:=mZ) (k:=0) (b:=jB) sc__law_deck (by sleep 992) fun f cdv A outer s H E hr=>
  (aL (bJ 2 (fun _=>sc__law_deck.nd) (bX (RI (fun _=>rfl)) (fun _=>T.hB.of "list") boot_list (aA (aC 0) aF)))
   (aL (kJ (eX (aCh (fun _=>rfl) (fun _=>hr.units)) (aC 2) (dQ aF))
    (aS (bJ 2 (fun _=>sc__law_deck.nd) (AB (aA aE aF))))
    gQ)
   (aL (bJ 3 (fun _=>sc__law_deck.nd) (aP cB (bQ cX (aC 2) aE) aE))
   (aL (zN (aP eV (bQ cX (aC 2) aE) aE) (OC WB (aC 2) aE))
   (aL (bJ 4 (fun _=>sc__law_deck.nd) (AB aF))
   (aL (oO (fun _=>F9) (fun _=>rfl) (pU (fun _=>T.hB.of "range") (aA (aC 1) aF)) (bA 5 (fun _=>sc__law_deck.nd))
    (aL (bJ 6 (fun _=>sc__law_deck.nd) (aP cB (aC 5) (iG VO (fun _=>T.hB.of "len") boot_len (aA (aC 2) aF))))
   (aL (bJ 7 (fun _=>sc__law_deck.nd) (aP cB (bQ cX (aC 2) (aC 6)) aE))
   (aL (kJ (eX (yU (fun _=>rfl) (fun _=>hr.units)) (aC 3) aE)
    (aL (bJ 7 (fun _=>sc__law_deck.nd) (aP cB (aP jC (aP jC (bQ cX (aC 2) (aC 6)) (aP wZ (aP wZ (aC 5) (aC 5)) aE)) (aP wZ aE (aC 5))) aE))
   (aL (bJ 7 (fun _=>sc__law_deck.nd) (aP cB (aP jC (aP wZ (aC 7) (bQ cX (dQ (aA aE (aA aE (aA aE (aA aE aF))))) (aP cB (aC 5) aE))) aE) aE))
   (aS (bJ 7 (fun _=>sc__law_deck.nd) (aP cB (aP wZ (aC 7) (aC 7)) aE)))))
    (aS (zN (aP eV (bQ cX (aC 2) (aC 6)) aE) (OC WB (aC 2) (aC 6)))))
   (aS (tH (qI (fun _=>rfl) (aC 4) (aA (aC 7) aF))))))))
   (aL (tH (DW (fun _=>rfl) (aC 4)))
   (aS (bF (aC 4))))))))))
theorem zR(T:Txt K mg):Callee P w K mg base 1 "_law_ties" mS (spM K jI):=
 T.v32.okG (N:=mU) (ps:=mS) (k:=0) (b:=mM) sc__law_ties (by sleep 992) fun f cdv A outer s H E hr=>
  (aL (bJ 2 (fun _=>sc__law_ties.nd) BD)
   (aL (oO (fun _=>F9) (fun _=>rfl) (pU (fun _=>T.hB.of "range") (aA (aP cB (iJ (fun _=>rfl) (aC 0)) aE) aF)) (bA 3 (fun _=>sc__law_ties.nd))
    (aL (bJ 4 (fun _=>sc__law_ties.nd) (iJ (fun _=>rfl) (aC 0)))
   (aL (bJ 5 (fun _=>sc__law_ties.nd) (aP cB (aC 4) (aC 1)))
   (aL (bJ 6 (fun _=>sc__law_ties.nd) (aP cB (aP eV (aC 4) aE) (aC 1)))
   (aL (bJ 7 (fun _=>sc__law_ties.nd) (dQ (aA (eE (aA aE (aA aE aF))) (aA (eE (aA aE (aA aE aF))) (aA (eE (aA aE (aA aE aF))) (aA (eE (aA (aP DC aE aE) (aA aE aF))) (aA (eE (aA aE (aA aE aF))) (aA (eE (aA aE (aA aE aF))) (aA (eE (aA (aP AN (aP DC aE aE) aE) (aA aE aF))) (aA (eE (aA aE (aA aE aF))) aF))))))))))
   (aS (kJ (eX (BL (fun _=>rfl) (fun _=>hr.units)) (aC 5) (aC 6))
    (aS (FT (fun _=>hr.u1) (aC 2) (zL (aA (iG (XD (fun _=>rfl)) (fun _=>T.hB.of "min") boot_min (aA (aC 5) (aA (aC 6) aF))) (aA (iG (YV (fun _=>rfl)) (fun _=>T.hB.of "max") boot_max (aA (aC 5) (aA (aC 6) aF))) aF))) (bQ cX (aP jC (aC 7) (dQ (aA (eE (aA (aP cB (aP eV (aC 4) aE) aE) (aA aE aF))) aF))) (aP cB (aP eV (aC 4) aE) aE))))
    gQ)))))))
   (aS (bF (gX (N':=(["_law_found","_law_pair"]:List Str)) (cap:=[some 2,none]) (fun _=>rfl) (fun _=>cS (sc0:=aG hX) (N:=mU) rfl rfl (by decide +kernel)) (dG (fun _=>rfl) (iG (RY (fun _=>rfl) (fun _=>hr.units2) (fun _=>rfl)) (fun _=>T.hB.of "sorted") boot_sorted (aA (aC 2) aF))) (bA 1 (fun _=>(show(["_law_found","_law_pair"]:List Str).Nodup by decide +kernel))) eY (aP jC (aC 1) (eE (aA (OX (fun _=>rfl) (fun _=>hr.u1) (aC 0) (aC 1)) aF))))))))
theorem uB(T:Txt K mg):Callee P w K mg base 1 "_law_number" jK (spM K eQ):=
 T.v33.okG (N:=nV) (ps:=jK) (k:=0) (b:=gA) uG (by sleep 991) fun f cdv A outer s H E hr=>
  (aL (kJ (eX (yU (fun _=>rfl) (fun _=>hr.units)) (bQ cX (aC 0) aE) aE)
   (aS (bF (bX kM (fun _=>T.hB.of "str") U1 (aA (bQ cX (aC 0) aE) aF))))
   gQ)
   (aS (bF (aP (mQ (fun _=>rfl)) (aP (mQ (fun _=>rfl)) (bX kM (fun _=>T.hB.of "str") U1 (aA (bQ cX (aC 0) aE) aF)) bK) (bX kM (fun _=>T.hB.of "str") U1 (aA (bQ cX (aC 0) aE) aF))))))
theorem kW(T:Txt K mg):Callee P w K mg base 2 "_law_line" lX (spM K cP):=
 T.v34.okG (N:=sH) (ps:=lX) (k:=1) (b:=mN) yQ (by sleep 992) fun f cdv A outer s H E hr=>
  (aS (bF (jE (fun _=>rfl) bK (aA (dQ (aA (aC 0) (aA (bX kM (fun _=>T.hB.of "str") U1 (aA (bQ cX (aC 1) aE) aF)) (aA (bX kM (fun _=>T.hB.of "str") U1 (aA (bQ cX (aC 1) aE) aF)) (aA (aQ (fun _=>uB T) hr.le (aA (bQ cX (aC 1) aE) aF)) aF))))) aF))))
theorem lA(T:Txt K mg):Callee P w K mg base 1 "text_of" rE (spM K fE):=
 T.v35.okG (N:=qQ) (ps:=rE) (k:=0) (b:=rC) DO (by sleep 991) fun f cdv A outer s H E hr=>
  (aS (bF (jE (fun _=>rfl) bK (aA (gX (N':=(["line"]:List Str)) (cap:=[none]) (fun _=>rfl) (fun _=>cS (sc0:=aG kY) (N:=qQ) rfl rfl (by decide +kernel)) (dG (fun _=>rfl) (aC 0)) (bA 0 (fun _=>(show(["line"]:List Str).Nodup by decide +kernel))) eY (aP (mQ (fun _=>rfl)) (aC 0) bK)) aF))))
theorem vL(T:Txt K mg):Callee P w K mg base 1 "amount_text" jS (spM K eN):=
 T.v36.okG (N:=oB) (ps:=jS) (k:=0) (b:=fU) sc_amount_text (by sleep 991) fun f cdv A outer s H E hr=>
  (aL (zN (aC 0) (GS (fun _=>rfl) (fun _=>rfl) (cQ (bA 1 (fun _=>sc_amount_text.nd)) (cQ (bA 2 (fun _=>sc_amount_text.nd)) nL))))
   (aS (bF (aBu (eX (yU (fun _=>rfl) (fun _=>hr.units)) (aC 2) aE) (bX kM (fun _=>T.hB.of "str") U1 (aA (aC 1) aF)) (rO (eS (oV (aC 1)) (eS bK (eS (oV (aC 2)) EV))))))))
theorem nE(T:Txt K mg):Callee P w K mg base 2 "row_line" oZ (spM K eW):=
 T.v37.okG (N:=uL) (ps:=oZ) (k:=1) (b:=pC) sc_row_line (by sleep 992) fun f cdv A outer s H E hr=>
  (aL (zN (aC 1) (GS (fun _=>rfl) (fun _=>rfl) (cQ (bA 2 (fun _=>sc_row_line.nd)) (cQ (bA 3 (fun _=>sc_row_line.nd)) (cQ (bA 4 (fun _=>sc_row_line.nd)) nL)))))
   (aS (bF (rO (eS (oV (aC 0)) (eS bK (eS (oV (aC 2)) (eS bK (eS (oV (aC 3)) (eS bK (eS (oV (aQ (fun _=>vL T) hr.le (aA (aC 4) aF))) EV)))))))))))
theorem CT(T:Txt K mg):Callee P w K mg base 3 "show_web" oY (spM K fQ):=
 T.v38.okG (N:=oQ) (ps:=oY) (k:=2) (b:=kO) AD (by sleep 991) fun f cdv A outer s H E hr=>
  (aS (bF (aQ (fun _=>lA T) hr.le (aA (aP jC (dQ (aA (rO (eS bK (eS (oV (DM (nm:="Web") (fun _=>rfl) T.v61 T.v21 (aC 0))) EV))) aF)) (gX (N':=(["row"]:List Str)) (cap:=[none]) (fun _=>rfl) (fun _=>cS (sc0:=aG jD) (N:=oQ) rfl rfl (by decide +kernel)) (dG (fun _=>rfl) (DM (nm:="Web") (fun _=>rfl) T.v61 T.v22 (aC 0))) (bA 0 (fun _=>(show(["row"]:List Str).Nodup by decide +kernel))) eY (aQ (fun _=>nE T) hr.le (aA bK (aA (aC 0) aF))))) aF))))
theorem jG(T:Txt K mg):Callee P w K mg base 1 "is_whole" oK (spM K fA):=
 T.v39.okG (N:=uN) (ps:=oK) (k:=0) (b:=uC) AR (by sleep 991) fun f cdv A outer s H E hr=>
  (aS (bF (fG (zG (T:="int") (fun _=>rfl) (by decide) (aC 0) (fun _=>eA) (fun _=>T.hB.of "isinstance") (fun _=>T.hB.of "int") boot_int) (jQ (ZC (zG (T:="bool") (fun _=>rfl) (by decide) (aC 0) (fun _=>eA) (fun _=>T.hB.of "isinstance") (fun _=>T.hB.of "bool") boot_bool))))))
theorem xP(T:Txt K mg):Callee P w K mg base 1 "is_row" uI (spM K pW):=
 T.v40.okG (N:=BH) (ps:=uI) (k:=0) (b:=DD) HW (by sleep 991) fun f cdv A outer s H E hr=>
  (aS (bF (UE (T:="list") (U:="tuple") (fun _=>rfl) (by decide) (by decide) (aC 0) (fun _=>eA) (fun _=>T.hB.of "isinstance") (fun _=>T.hB.of "list") (fun _=>T.hB.of "tuple") boot_list S0)))
theorem JV(T:Txt K mg):Callee P w K mg base 1 "common" tK (spM K vT):=
 T.v41.okG (N:=BP) (ps:=tK) (k:=0) (b:=CH) sc_common (by sleep 992) fun f cdv A outer s H E hr=>
  (aL (CZ (fun _=>F9) (XT (fun _=>rfl) (aC 1)) (aS (FH 0 1 (fun _=>rfl) (fun _=>sc_common.nd) (aA (aC 1) (aA (aP cB (aC 0) (aC 1)) aF)))))
   (aS (bF (aC 0))))
theorem pL(T:Txt K mg):Callee P w K mg base 2 "is_row_of" lR (spM K jF):=
 T.v42.okG (N:=sC) (ps:=lR) (k:=1) (b:=rS) yY (by sleep 992) fun f cdv A outer s H E hr=>
  (aS (bF (fG (aQ (fun _=>xP T) hr.le (aA (aC 0) aF)) (jQ (iH (yU (fun _=>rfl) (fun _=>hr.units)) (iG VO (fun _=>T.hB.of "len") boot_len (aA (aC 0) aF)) (aC 1))))))
theorem lM(T:Txt K mg):Callee P w K mg base 3 "has_amount_numbers" dO (spM K bL):=
 T.v43.okG (N:=gJ) (ps:=dO) (k:=2) (b:=bV) lN (by sleep 991) fun f cdv A outer s H E hr=>
  (aL (kJ (LP (uX (pE (mV (aQ (fun _=>pL T) hr.le (aA (aC 0) (aA aE aF))))) (uX (pE (mV (aQ (fun _=>jG T) hr.le (aA (bQ cX (aC 0) aE) aF)))) (vH (pE (mV (aQ (fun _=>jG T) hr.le (aA (bQ cX (aC 0) aE) aF))))))))
   (aS (bF AQ))
   gQ)
   (aS (bF (fG (iH aCB (bQ cX (aC 0) aE) aE) (jQ (iH aCB (bQ cX (aC 0) aE) aE))))))
theorem uD(T:Txt K mg):Callee P w K mg base 4 "is_in_parts" jU (spM K cD):=
 T.v44.okG (N:=oH) (ps:=jU) (k:=3) (b:=dE) vA (by sleep 991) fun f cdv A outer s H E hr=>
  (aS (bF (fG (aQ (fun _=>lM T) hr.le (aA (aC 0) aF)) (fG (iH (yU (fun _=>rfl) (fun _=>hr.units)) (aP cB (uR (fun _=>T.v64)) (bQ cX (aC 0) aE)) aE) (jQ (iH (yU (fun _=>rfl) (fun _=>hr.units)) (aQ (fun _=>JV T) hr.le (aA (bQ cX (aC 0) aE) (aA (bQ cX (aC 0) aE) aF))) aE))))))
theorem zT(T:Txt K mg):Callee P w K mg base 5 "is_weight" lV (spM K dR):=
 T.v45.okG (N:=rQ) (ps:=lV) (k:=4) (b:=gI) zD (by sleep 991) fun f cdv A outer s H E hr=>
  (aS (bF (fG (aQ (fun _=>uD T) hr.le (aA (aC 0) aF)) (jQ (iH aBI (bQ cX (aC 0) aE) (uR (fun _=>T.v63)))))))
theorem sJ(T:Txt K mg):Callee P w K mg base 2 "is_place" oT (spM K fS):=
 T.v46.okG (N:=uO) (ps:=oT) (k:=1) (b:=kX) CF (by sleep 992) fun f cdv A outer s H E hr=>
  (aS (bF (fG (aQ (fun _=>jG T) hr.le (aA (aC 1) aF)) (jQ (ND aBI aAC aE (aC 1) (aC 0))))))
theorem mW(T:Txt K mg):Callee P w K mg base 3 "are_unlike_places" eD (spM K bR):=
 T.v47.okG (N:=gV) (ps:=eD) (k:=2) (b:=bZ) mE (by sleep 993) fun f cdv A outer s H E hr=>
  (aS (bF (fG (aQ (fun _=>sJ T) hr.le (aA (aC 0) (aA (aC 1) aF))) (fG (aQ (fun _=>sJ T) hr.le (aA (aC 0) (aA (aC 2) aF))) (jQ (iH (BL (fun _=>rfl) (fun _=>hr.units)) (aC 1) (aC 2)))))))
theorem lT(T:Txt K mg):Callee P w K mg base 4 "is_between_places" eG (spM K bE):=
 T.v48.okG (N:=gW) (ps:=eG) (k:=3) (b:=cA) mD (by sleep 992) fun f cdv A outer s H E hr=>
  (aS (bF (fG (aQ (fun _=>pL T) hr.le (aA (aC 1) (aA aE aF))) (fG (aQ (fun _=>mW T) hr.le (aA (aC 0) (aA (bQ cX (aC 1) aE) (aA (bQ cX (aC 1) aE) aF)))) (jQ (iH aAC (bQ cX (aC 1) aE) (bQ cX (aC 1) aE)))))))
theorem JO(T:Txt K mg):Callee P w K mg base 6 "is_tie" uS (spM K iL):=
 T.v49.okG (N:=BE) (ps:=uS) (k:=5) (b:=kL) JR (by sleep 992) fun f cdv A outer s H E hr=>
  (aS (bF (fG (aQ (fun _=>lT T) hr.le (aA (aC 0) (aA (aC 1) aF))) (jQ (aQ (fun _=>zT T) hr.le (aA (bQ cX (aC 1) aE) aF))))))
theorem yH(T:Txt K mg):Callee P w K mg base 7 "kept_ties" mP (spM K gK):=
 T.v50.okG (N:=mK) (ps:=mP) (k:=6) (b:=mX) sc_kept_ties (by sleep 992) fun f cdv A outer s H E hr=>
  (aL (kJ (pE (mV (aQ (fun _=>xP T) hr.le (aA (aC 1) aF))))
   (aS tS)
   gQ)
   (aL (bJ 2 (fun _=>sc_kept_ties.nd) BD)
   (aL (oO (fun _=>F9) (fun _=>rfl) (QT (fun _=>rfl) (fun _=>T.hB.of "enumerate") (aA (aC 1) aF)) (zY (fun _=>rfl) (fun _=>rfl) (cQ (bA 3 (fun _=>sc_kept_ties.nd)) (cQ (bA 4 (fun _=>sc_kept_ties.nd)) nL)))
    (aL (kJ (LP (uX (pE (mV (aQ (fun _=>JO T) hr.le (aA (aC 0) (aA (aC 4) aF))))) (vH (ZU (fun _=>hr.u1) (zL (aA (bQ cX (aC 4) aE) (aA (bQ cX (aC 4) aE) aF))) (aC 2)))))
    (aS tS)
    gQ)
   (aS (FT (fun _=>hr.u1) (aC 2) (zL (aA (bQ cX (aC 4) aE) (aA (bQ cX (aC 4) aE) aF))) (bX (kZ (fun _=>rfl)) (fun _=>T.hB.of "tuple") S0 (aA (bQ cX (aC 4) aE) aF))))))
   (aS (bF (bX (kZ (fun _=>rfl)) (fun _=>T.hB.of "tuple") S0 (aA (gX (N':=(["i","j","weight"]:List Str)) (cap:=[none,none,none]) (fun _=>rfl) (fun _=>cS (sc0:=aG iC) (N:=mK) rfl rfl (by decide +kernel)) (dG (fun _=>rfl) (NF (fun _=>rfl) (fun _=>hr.units2) (fun _=>rfl) (fun _=>T.hB.of "sorted") (aC 2))) (zY (fun _=>rfl) (fun _=>rfl) (cQ (zY (fun _=>rfl) (fun _=>rfl) (cQ (bA 0 (fun _=>(show(["i","j","weight"]:List Str).Nodup by decide +kernel))) (cQ (bA 1 (fun _=>(show(["i","j","weight"]:List Str).Nodup by decide +kernel))) nL))) (cQ (bA 2 (fun _=>(show(["i","j","weight"]:List Str).Nodup by decide +kernel))) nL))) (OY (eX XQ (bQ cX (aC 2) aE) aE)) (eE (aA (aC 0) (aA (aC 1) (aA (aC 2) aF))))) aF)))))))
theorem zO(T:Txt K mg):zX P w K mg base 8 "Web" mI (spM K dU):=
 T.v62.okI (N:=nB) (ps:=mI) (k:=7) (b:=mH) T.v29 T.v30 T.v60 yR (by sleep 993) fun f cdv A outer s H E hr=>
  (aL (kJ (LP (uX (pE (mV (aQ (fun _=>jG T) hr.le (aA (aC 1) aF)))) (uX (eX aAC (aC 1) aE) (vH (eX XQ (aC 1) (uR (fun _=>T.v65)))))))
   (aS tS)
   gQ)
   (aL (DZ (nm:="Web") (fun _=>rfl) T.v61 T.v21 (aC 0) (aC 1))
   (aL (DZ (nm:="Web") (fun _=>rfl) T.v61 T.v22 (aC 0) (aQ (fun _=>yH T) hr.le (aA (aC 1) (aA (aC 2) aF))))
   (aS (DZ (nm:="Web") (fun _=>rfl) T.v61 T.v23 (aC 0) (aAD (N':=(["i","j","weight"]:List Str)) (cap:=[none,none,none]) (fun _=>hr.u0) (fun _=>rfl) (fun _=>cS (sc0:=aG eC) (N:=nB) rfl rfl (by decide +kernel)) (dG (fun _=>rfl) (DM (nm:="Web") (fun _=>rfl) T.v61 T.v22 (aC 0))) (zY (fun _=>rfl) (fun _=>rfl) (cQ (bA 0 (fun _=>(show(["i","j","weight"]:List Str).Nodup by decide +kernel))) (cQ (bA 1 (fun _=>(show(["i","j","weight"]:List Str).Nodup by decide +kernel))) (cQ (bA 2 (fun _=>(show(["i","j","weight"]:List Str).Nodup by decide +kernel))) nL)))) eY (zL (aA (aC 0) (aA (aC 1) aF))) (aC 2)))))))
theorem tL(T:Txt K mg):Callee P w K mg base 1 "_law_lowest" jV (spM K fZ):=
 T.v51.okG (N:=nX) (ps:=jV) (k:=0) (b:=jL) sc__law_lowest (by sleep 992) fun f cdv A outer s H E hr=>
  (aL (FH 2 3 (fun _=>rfl) (fun _=>sc__law_lowest.nd) (aA (aC 0) (aA (aC 1) aF)))
   (aL (CZ (fun _=>F9) (eX XQ (aC 3) aE) (aS (FH 2 3 (fun _=>rfl) (fun _=>sc__law_lowest.nd) (aA (aC 3) (aA (aP cB (aC 2) (aC 3)) aF)))))
   (aS (bF (eE (aA (aP eV (aC 0) (aC 2)) (aA (aP eV (aC 1) (aC 2)) aF)))))))
theorem CO(T:Txt K mg):Callee P w K mg base 2 "_law_any" oW (spM K kT):=
 T.v52.okG (N:=tP) (ps:=oW) (k:=1) (b:=oR) sc__law_any (by sleep 991) fun f cdv A outer s H E hr=>
  (aL (bJ 1 (fun _=>sc__law_any.nd) (iJ (fun _=>rfl) (aC 0)))
   (aL (bJ 2 (fun _=>sc__law_any.nd) (iJ (fun _=>rfl) (aC 0)))
   (aL (bJ 3 (fun _=>sc__law_any.nd) (bQ cX (dQ (aA (aP cB (aP eV (aC 1) aE) aE) (aA (aP cB (aP eV (aC 1) aE) aE) (aA (aP AN (aP AN (aP DC aE aE) aE) (aP cB (aP eV (aC 1) aE) aE)) (aA (aP jC (aP wZ (aC 1) (aP DC aE aE)) (aC 2)) aF))))) (aP cB (aC 1) aE)))
   (aL (bJ 4 (fun _=>sc__law_any.nd) (bQ cX (dQ (aA aE (aA aE (aA (aP jC aE (aP cB (aP eV (aC 2) aE) aE)) (aA aE (aA (aP AN (aP AN (aP DC aE aE) aE) (aP cB (aP eV (aC 2) aE) aE)) (aA (aP jC aE (aC 2)) aF))))))) (aP cB (aC 2) aE)))
   (aS (bF (aQ (fun _=>tL T) hr.le (aA (aC 3) (aA (aC 4) aF)))))))))
theorem vV(T:Txt K mg):Callee P w K mg base 3 "_law_drawn" lF (spM K iD):=
 T.v53.okG (N:=qF) (ps:=lF) (k:=2) (b:=kS) sc__law_drawn (by sleep 992) fun f cdv A outer s H E hr=>
  (aL (bJ 2 (fun _=>sc__law_drawn.nd) (AB aF))
   (aL (oO (fun _=>F9) (fun _=>rfl) (pU (fun _=>T.hB.of "range") (aA (aC 1) aF)) (bA 3 (fun _=>sc__law_drawn.nd))
    (aL (bJ 4 (fun _=>sc__law_drawn.nd) (iJ (fun _=>rfl) (aC 0)))
   (aS (tH (qI (fun _=>rfl) (aC 2) (aA (eE (aA (aP cB (aC 4) aE) (aA (bQ cX (dQ (aA (aP cB (aP eV (aC 4) aE) aE) (aA (aP cB (aP eV (aC 4) aE) aE) aF))) (aP cB (aC 3) aE)) (aA (aQ (fun _=>CO T) hr.le (aA (aC 0) aF)) aF)))) aF))))))
   (aS (bF (aC 2)))))
theorem vB(T:Txt K mg):Callee P w K mg base 1 "_law_places" jY (spM K fV):=
 T.v54.okG (N:=jT) (ps:=jY) (k:=0) (b:=jX) sc__law_places (by sleep 992) fun f cdv A outer s H E hr=>
  (aL (bJ 2 (fun _=>sc__law_places.nd) (AB aF))
   (aL (oO (fun _=>F9) (fun _=>rfl) (pU (fun _=>T.hB.of "range") (aA (aC 1) aF)) (bA 3 (fun _=>sc__law_places.nd))
    (aL (bJ 4 (fun _=>sc__law_places.nd) (iJ (fun _=>rfl) (aC 0)))
   (aS (tH (qI (fun _=>rfl) (aC 2) (aA (bX (kZ (fun _=>rfl)) (fun _=>T.hB.of "tuple") S0 (aA (gX (N':=(["_law_deck_here","_law_draw","_law_at"]:List Str)) (cap:=[some 0,some 4,none]) (fun _=>rfl) (fun _=>cS (sc0:=aG fK) (N:=jT) rfl rfl (by decide +kernel)) (pU (fun _=>T.hB.of "range") (aA (aP jC aE (aP cB (aC 4) aE)) aF)) (bA 2 (fun _=>(show(["_law_deck_here","_law_draw","_law_at"]:List Str).Nodup by decide +kernel))) eY (aP cB (iJ (fun _=>rfl) (aC 0)) (bQ cX (dQ (aA aE (aA aE (aA aE aF)))) (aP cB (aP eV (aC 1) aE) aE)))) aF)) aF))))))
   (aS (bF (aC 2)))))
theorem jP(T:Txt K mg):∀n:Nat,Callee P w K mg base (n+1) "_law_lists" iA (spM K (aR n))
 |0=>(T.v55.okNone (N:=gZ) (ps:=iA) (k:=0) nU (by intro _ _ _ _ _ _ _ hl;apply ar1 hl;intros;rfl)).mono (by decide)
 |n+1=>(T.v55.okG (N:=gZ) (ps:=iA) (k:=n+1) (b:=eB (aR n)) nU (by sleep 991) fun f cdv A outer s H E hr=>
  (aL (kJ (mV (zG (T:="tuple") (fun _=>rfl) (by decide) (aC 0) (fun _=>eA) (fun _=>T.hB.of "isinstance") (fun _=>T.hB.of "tuple") S0))
   (aS (bF (gX (N':=(["_law_inner"]:List Str)) (cap:=[none]) (fun _=>rfl) (fun _=>cS (sc0:=aG fX) (N:=gZ) rfl rfl (by decide +kernel)) (dG (fun _=>rfl) (aC 0)) (bA 0 (fun _=>(show(["_law_inner"]:List Str).Nodup by decide +kernel))) eY (aQ (fun _=>jP T n) (fun _=>hr.mono (by omega)) (aA (aC 0) aF)))))
   gQ)
   (aS (bF (aC 0))))).mono (by omega)
theorem qH(T:Txt K mg):Callee P w K mg base 3 "show_tree" mL (spM K dN):=
 T.v56.okG (N:=mG) (ps:=mL) (k:=2) (b:=lW) yX (by sleep 991) fun f cdv A outer s H E hr=>
  (aS (bF (aQ (fun _=>lA T) hr.le (aA (gX (N':=(["row"]:List Str)) (cap:=[none]) (fun _=>rfl) (fun _=>cS (sc0:=aG hJ) (N:=mG) rfl rfl (by decide +kernel)) (dG (fun _=>rfl) (aC 0)) (bA 0 (fun _=>(show(["row"]:List Str).Nodup by decide +kernel))) eY (aQ (fun _=>nE T) hr.le (aA bK (aA (aC 0) aF)))) aF))))
theorem pH(T:Txt K mg):Callee P w K mg base 3 "show_flow" mC (spM K dZ):=
 T.v57.okG (N:=lP) (ps:=mC) (k:=2) (b:=mB) yI (by sleep 991) fun f cdv A outer s H E hr=>
  (aS (bF (aQ (fun _=>lA T) hr.le (aA (gX (N':=(["row"]:List Str)) (cap:=[none]) (fun _=>rfl) (fun _=>cS (sc0:=aG hZ) (N:=lP) rfl rfl (by decide +kernel)) (dG (fun _=>rfl) (aC 0)) (bA 0 (fun _=>(show(["row"]:List Str).Nodup by decide +kernel))) eY (aQ (fun _=>nE T) hr.le (aA bK (aA (aC 0) aF)))) aF))))
theorem nZ(T:Txt K mg):Callee P w K mg base 2 "show_sides" kR (spM K cY):=
 T.v58.okG (N:=kN) (ps:=kR) (k:=1) (b:=lC) wB (by sleep 991) fun f cdv A outer s H E hr=>
  (aS (bF (aQ (fun _=>lA T) hr.le (aA (gX (N':=(["side"]:List Str)) (cap:=[none]) (fun _=>rfl) (fun _=>cS (sc0:=aG gE) (N:=kN) rfl rfl (by decide +kernel)) (dG (fun _=>rfl) (aC 0)) (bA 0 (fun _=>(show(["side"]:List Str).Nodup by decide +kernel))) eY (jE (fun _=>rfl) bK (aA (aP jC (dQ (aA bK aF)) (gX (N':=(["place"]:List Str)) (cap:=[none]) (fun _=>rfl) (fun _=>HR (by decide +kernel)) (dG (fun _=>rfl) (aC 0)) (bA 0 (fun _=>(show(["place"]:List Str).Nodup by decide +kernel))) eY (bX kM (fun _=>T.hB.of "str") U1 (aA (aC 0) aF)))) aF))) aF))))
theorem fn_law(T:Txt K mg):∃f fd,mg "law"=some (.ref f)/\(∀(s:Shared)(u:Value),BindsTo s fd ⟨[u],[]⟩ [("_law_script",u)])/\∀base,lB P w K mg base CX0 11 f fd WW (spM K F_law):=
 T.v59.okLG (N:=uK) (k:=10) (b:=HP) sc_law rfl (by sleep 991) fun base f cdv A outer s H E hr=>
  (aL (bJ 1 (fun _=>sc_law.nd) (aQ (fun _=>zA T) hr.le (aA (aC 0) (aA aE aF))))
   (aL (bJ 2 (fun _=>sc_law.nd) (bQ cX (dQ (aA aE (aA aE (aA aE (aA (aP jC aE (aP cB (iJ (fun _=>rfl) (aC 1)) aE)) aF))))) (aP cB (iJ (fun _=>rfl) (aC 1)) aE)))
   (aL (bJ 3 (fun _=>sc_law.nd) (aQ (fun _=>zR T) hr.le (aA (aC 1) (aA (aC 2) aF))))
   (aL (bJ 4 (fun _=>sc_law.nd) (aP jC (dQ (aA (aP (mQ (fun _=>rfl)) bK (bX kM (fun _=>T.hB.of "str") U1 (aA (aC 2) aF))) aF)) (gX (N':=(["_law_row"]:List Str)) (cap:=[none]) (fun _=>rfl) (fun _=>cS (sc0:=aG nA) (N:=uK) rfl rfl (by decide +kernel)) (dG (fun _=>rfl) (aC 3)) (bA 0 (fun _=>(show(["_law_row"]:List Str).Nodup by decide +kernel))) (OY (eX (BL (fun _=>rfl) (fun _=>hr.units)) (bQ cX (aC 0) aE) (eE (aA aE (aA aE aF))))) (aQ (fun _=>kW T) hr.le (aA bK (aA (aC 0) aF))))))
   (aL (bJ 5 (fun _=>sc_law.nd) (aQ (fun _=>CT T) hr.le (aA (UX (fun _=>zO T) (fun _=>rfl) hr.le (aA (aC 2) (aA (ZD (fun _=>rfl) (aC 3) (SB (aCm aBB aE))) aF))) aF)))
   (aL (kJ (LP (uX (pE (mV (zG (T:="str") (fun _=>rfl) (by decide) (aC 5) (fun _=>eA) (fun _=>T.hB.of "isinstance") (fun _=>T.hB.of "str") U1))) (vH (eX (BL (fun _=>rfl) (fun _=>hr.units)) (aC 5) (jE (fun _=>rfl) bK (aA (gX (N':=(["_law_line_here"]:List Str)) (cap:=[none]) (fun _=>rfl) (fun _=>cS (sc0:=aG nA) (N:=uK) rfl rfl (by decide +kernel)) (dG (fun _=>rfl) (aC 4)) (bA 0 (fun _=>(show(["_law_line_here"]:List Str).Nodup by decide +kernel))) eY (aP (mQ (fun _=>rfl)) (aC 0) bK)) aF))))))
    (aS (bF AQ))
    gQ)
   (aL (bJ 6 (fun _=>sc_law.nd) (wW (aQ (fun _=>vV T) hr.le (aA (aC 1) (aA (aP cB (iJ (fun _=>rfl) (aC 1)) aE) aF)))))
   (aL (bJ 7 (fun _=>sc_law.nd) (wW (aQ (fun _=>vB T) hr.le (aA (aC 1) (aA (aP cB (iJ (fun _=>rfl) (aC 1)) aE) aF)))))
   (aL (oO (fun _=>F9) (fun _=>rfl) (dG (fun _=>rfl) (dQ (aA (aC 6) (aA (bX (kZ (fun _=>rfl)) (fun _=>T.hB.of "tuple") S0 (aA (aC 6) aF)) (aA (aQ (fun _=>jP T 9) hr.le (aA (bX (kZ (fun _=>rfl)) (fun _=>T.hB.of "tuple") S0 (aA (aC 6) aF)) aF)) aF))))) (bA 8 (fun _=>sc_law.nd))
    (aL (bJ 9 (fun _=>sc_law.nd) (iG (HH (fun _=>rfl) (fun _=>hr.gd) (fun _=>hr.u200)) (fun _=>T.hB.of "repr") boot_repr (aA (aC 8) aF)))
   (aL (kJ (eX (BL (fun _=>rfl) (fun _=>hr.units)) (aQ (fun _=>qH T) hr.le (aA (aC 8) aF)) (jE (fun _=>rfl) bK (aA (gX (N':=(["_law_row"]:List Str)) (cap:=[none]) (fun _=>rfl) (fun _=>cS (sc0:=aG nA) (N:=uK) rfl rfl (by decide +kernel)) (dG (fun _=>rfl) (aC 6)) (bA 0 (fun _=>(show(["_law_row"]:List Str).Nodup by decide +kernel))) eY (aP (mQ (fun _=>rfl)) (aQ (fun _=>kW T) hr.le (aA bK (aA (aC 0) aF))) bK)) aF)))
    (aS (bF AQ))
    gQ)
   (aS (kJ (LP (uX (eX (BL (fun _=>rfl) (fun _=>hr.units)) (aQ (fun _=>pH T) hr.le (aA (aC 8) aF)) (jE (fun _=>rfl) bK (aA (gX (N':=(["_law_row"]:List Str)) (cap:=[none]) (fun _=>rfl) (fun _=>cS (sc0:=aG nA) (N:=uK) rfl rfl (by decide +kernel)) (dG (fun _=>rfl) (aC 6)) (bA 0 (fun _=>(show(["_law_row"]:List Str).Nodup by decide +kernel))) eY (aP (mQ (fun _=>rfl)) (aQ (fun _=>kW T) hr.le (aA bK (aA (aC 0) aF))) bK)) aF))) (vH (eX (BL (fun _=>rfl) (fun _=>hr.units)) (iG (HH (fun _=>rfl) (fun _=>hr.gd) (fun _=>hr.u200)) (fun _=>T.hB.of "repr") boot_repr (aA (aC 8) aF)) (aC 9)))))
    (aS (bF AQ))
    gQ)))))
   (aL (bJ 10 (fun _=>sc_law.nd) (jE (fun _=>rfl) bK (aA (gX (N':=(["_law_side"]:List Str)) (cap:=[none]) (fun _=>rfl) (fun _=>cS (sc0:=aG nA) (N:=uK) rfl rfl (by decide +kernel)) (dG (fun _=>rfl) (aC 7)) (bA 0 (fun _=>(show(["_law_side"]:List Str).Nodup by decide +kernel))) eY (aP (mQ (fun _=>rfl)) (jE (fun _=>rfl) bK (aA (aP jC (dQ (aA bK aF)) (gX (N':=(["_law_place"]:List Str)) (cap:=[none]) (fun _=>rfl) (fun _=>HR (by decide +kernel)) (dG (fun _=>rfl) (aC 0)) (bA 0 (fun _=>(show(["_law_place"]:List Str).Nodup by decide +kernel))) eY (bX kM (fun _=>T.hB.of "str") U1 (aA (aC 0) aF)))) aF)) bK)) aF)))
   (aL (oO (fun _=>F9) (fun _=>rfl) (dG (fun _=>rfl) (dQ (aA (aC 7) (aA (bX (kZ (fun _=>rfl)) (fun _=>T.hB.of "tuple") S0 (aA (aC 7) aF)) (aA (aQ (fun _=>jP T 9) hr.le (aA (bX (kZ (fun _=>rfl)) (fun _=>T.hB.of "tuple") S0 (aA (aC 7) aF)) aF)) aF))))) (bA 8 (fun _=>sc_law.nd))
    (aS (kJ (eX (BL (fun _=>rfl) (fun _=>hr.units)) (aQ (fun _=>nZ T) hr.le (aA (aC 8) aF)) (aC 10))
    (aS (bF AQ))
    gQ)))
   (aS (bF (fG (iH (yU (fun _=>rfl) (fun _=>hr.units)) (aQ (fun _=>qH T) hr.le (aA (eE aF) aF)) bK) (fG (iH (yU (fun _=>rfl) (fun _=>hr.units)) (aQ (fun _=>pH T) hr.le (aA (dQ aF) aF)) bK) (jQ (iH (yU (fun _=>rfl) (fun _=>hr.units)) (aQ (fun _=>nZ T) hr.le (aA (eE aF) aF)) bK)))))))))))))))))
theorem txt_mk{h:Heap}{v67:Tok}{v68:Tok}{v69:Tok}{v70:Addr}{v71:Addr}{od_Web__init an_Web__init:Option Addr}{sl_Web__init:Array (Option Value)}{oc_Web__init kV_Web__init dc_Web__init pm_Web__init cd_Web__init ct_Web__init:Value}(X:K.In h)(G:h.Ns mainGlobals mg)(v0:PySem.W.nsIn K mainGlobals "bool"=some none)(v1:PySem.W.nsIn K mainGlobals "enumerate"=some none)(v2:PySem.W.nsIn K mainGlobals "int"=some none)(v3:PySem.W.nsIn K mainGlobals "isinstance"=some none)(v4:PySem.W.nsIn K mainGlobals "len"=some none)(v5:PySem.W.nsIn K mainGlobals "list"=some none)(v6:PySem.W.nsIn K mainGlobals "max"=some none)(v7:PySem.W.nsIn K mainGlobals "min"=some none)(v8:PySem.W.nsIn K mainGlobals "range"=some none)(v9:PySem.W.nsIn K mainGlobals "repr"=some none)(v10:PySem.W.nsIn K mainGlobals "sorted"=some none)(v11:PySem.W.nsIn K mainGlobals "str"=some none)(v12:PySem.W.nsIn K mainGlobals "tuple"=some none)(v13:PySem.W.nsIn K mainGlobals "MOST_ABOVE"=some (some (.int 1000000000000 v67)))(v14:PySem.W.nsIn K mainGlobals "BELOW"=some (some (.int 55440 v68)))(v15:PySem.W.nsIn K mainGlobals "MOST_PLACES"=some (some (.int 40 v69)))(v16:PySem.W.nsIn K mainGlobals "Web"=some (some (.ref v70)))(v17:PySem.W.plainGet K v70 Str.empty=true)(v18:PySem.W.hasDictIn K v70=true)(v19:PySem.W.plainOver K v70=true)(v20:PySem.W.findIn K (.ref v70) "__setattr__"=some (some (.builtin "object.__setattr__")))(v21:PySem.W.findIn K (.ref v70) "many"=some none)(v22:PySem.W.findIn K (.ref v70) "ties"=some none)(v23:PySem.W.findIn K (.ref v70) "weights"=some none)(v24:PySem.W.findIn K (.ref v70) "__init__"=some (some (.ref v71)))(v25:K.lookup v71=some ⟨oc_Web__init,od_Web__init,.func (PySem.W.fnOf "__init__" "Web.__init__" (dJ eC) (bO eC) (aG eC) .none kV_Web__init dc_Web__init pm_Web__init an_Web__init cd_Web__init ct_Web__init),sl_Web__init⟩)(v26:PySem.W.codeIn K cd_Web__init "Web.__init__"=true)(v27:PySem.W.keepIn K (.ref v71)=true)(v28:PySem.W.isFn K (.ref v71)=true)(v29:PySem.W.makesIn K v70=true)(v30:PySem.W.keepIn K (.ref v70)=true)(v31:Def K mg "_law_deck" lD)(v32:Def K mg "_law_ties" hX)(v33:Def K mg "_law_number" iM)(v34:Def K mg "_law_line" lJ)(v35:Def K mg "text_of" kY)(v36:Def K mg "amount_text" iO)(v37:Def K mg "row_line" mY)(v38:Def K mg "show_web" jD)(v39:Def K mg "is_whole" mO)(v40:Def K mg "is_row" qL)(v41:Def K mg "common" rM)(v42:Def K mg "is_row_of" lE)(v43:Def K mg "has_amount_numbers" dF)(v44:Def K mg "is_in_parts" iE)(v45:Def K mg "is_weight" lH)(v46:Def K mg "is_place" lU)(v47:Def K mg "are_unlike_places" dP)(v48:Def K mg "is_between_places" dY)(v49:Def K mg "is_tie" qZ)(v50:Def K mg "kept_ties" iC)(v51:Def K mg "_law_lowest" iI)(v52:Def K mg "_law_any" mR)(v53:Def K mg "_law_drawn" jM)(v54:Def K mg "_law_places" fK)(v55:Def K mg "_law_lists" fX)(v56:Def K mg "show_tree" hJ)(v57:Def K mg "show_flow" hZ)(v58:Def K mg "show_sides" gE)(v59:Def K mg "law" nA):Txt K mg:=by
 cases VL v16;exact⟨(cG (D3 X G v0) (cG (D3 X G v1) (cG (D3 X G v2) (cG (D3 X G v3) (cG (D3 X G v4) (cG (D3 X G v5) (cG (D3 X G v6) (cG (D3 X G v7) (cG (D3 X G v8) (cG (D3 X G v9) (cG (D3 X G v10) (cG (D3 X G v11) (cG (D3 X G v12) MR))))))))))))),⟨_,PySem.W.mg_of X G v13⟩,⟨_,PySem.W.mg_of X G v14⟩,⟨_,PySem.W.mg_of X G v15⟩,PySem.W.mg_of X G v16,⟨v17,v18,v19,v20⟩,v21,v22,v23,QX rfl v24 v25 v26 v27 v28,v29,v30,v31,v32,v33,v34,v35,v36,v37,v38,v39,v40,v41,v42,v43,v44,v45,v46,v47,v48,v49,v50,v51,v52,v53,v54,v55,v56,v57,v58,v59⟩
end
end Q68
end
end
section
namespace Q68
variable{L M M':Sto}{γ:Ga}{J a b i j n p y z:Int}{c d m v:Nat}{r x:PyData}{ts us vs:List Tie}{xs:List CD}{f f3 f4 g:EF}{fa:AF}{sep w:Str}{ds ys:List PyData}{s:Tie}{ns:List Int}{k':Bool}
open PySem PySem.Spec PyProof.Rows L2
local macro_rules | `(tactic| simp! [$a,*]) => `(tactic| simp only [fnF, fnX, aCH, aDj, aBH, aAf, aCj, aCY, WC, aCW, liA, liE, liS, YD, aCZ, YX, aCU, RA, setG, aBY, aAH, bB, sIf, cL, aBS, eK, bI, oF, hName, rG, bY, nR, hSub, gOr, aDb, sR, gB, FP, UI, aK, aB, aH, aD, fC, fOp, fUn, kU, fOr, RN, fIf, zV, asB, gG, cK, qP, iS, sS, FY, pI, ifS, ZQ, rH, uW, bS, bD, qW, ltI, leI, gtI, geI, Option.bind_some, Option.bind_none, Option.map_some, List.getElem?_cons_zero, List.getElem?_cons_succ, List.length_cons, List.length_nil, List.set_cons_zero, List.set_cons_succ, List.map_cons, List.map_nil, List.replicate_zero, List.replicate_succ, List.cons_append, List.nil_append, List.append_nil, if_true, ite_true, ite_false, Nat.reduceAdd, Nat.reduceSub, reduceIte, Bool.not_true, Bool.not_false, Bool.false_eq_true, $a,*])
noncomputable def pX:PyData->Bool
 |.int _=>true
 |_=>false
noncomputable def PR:PyData->Bool
 |.list _=>true
 |.tuple _=>true
 |_=>false
theorem iR(x:PyData)(M:Sto):fA [.d x] M=some (.d (.bool (pX x)),M):=by cases x<;>rfl
theorem PL(x:PyData)(M:Sto):pW [.d x] M=some (.d (.bool (PR x)),M):=by cases x<;>rfl
noncomputable def gM(d:PyData)(n:Int):Bool:=match bG d with
 |some ds=>((ds.length:Int)==n)
 |none=>false
theorem fD(x:PyData)(n:Int)(M:Sto):jF [.d x,.d (.int n)] M=some (.d (.bool (gM x n)),M):=by cases x<;>rfl
theorem AJ(x y:Int):Int.gcd y (x % y)=Int.gcd x y:=by
 rw[Int.gcd_comm x y];have:x % y=x-y*(x / y):=by have:=Int.emod_add_mul_ediv x y;omega
 rw[this];simp
noncomputable abbrev I(n:Int):CD:=.d (.int n)
theorem fY{x:Int}(h:0<y):mF x y=true:=by simp[mF,h]
theorem rR(M:Sto):∀(n:Nat)(x y:Int),0<=x->0<=y->y.toNat<n->
 eF (FP (aD 1)) (vY 0 1 (aB (aD 1) (aB (fOp bD (aD 0) (aD 1)) aH))) n [some (I x),some (I y)] M=some (.nx [some (I (Int.gcd x y)),some (I 0)],M)
 |0=>fun _ _ _ _ h=>by omega
 |n+1=>fun x y hx hy h=>by
  by_cases e:y=0
  .subst e;have:(Int.gcd x 0:Int)=x:=by rw[Int.gcd_zero_right];omega
   rw[this];rfl
  .have hp:0<y:=by omega
   have ih:=rR M n y (x % y) hy (C1 _ e) (by have:=B6 x hp;omega);rw[AJ]at ih;rw[<- ih];have hb:(y != 0)=true:=by simp[e]
   simp only[eF,FP,aD,UI,vY,aB,fOp,aH,bD,pI,ifS,fY hp,hb,Option.bind,List.getElem?_cons_succ,List.getElem?_cons_zero,if_true,List.set]
theorem OQ(M:Sto)(ha:0<=a)(hb:0<=b):vT [I a,I b] M=some (I (Int.gcd a b),M):=by
 have h:oP [some (I a),some (I b)] M=_:=AY (rR M (b.toNat+1) a b ha hb (E6 _));show((bB oP _ [some (I a),some (I b)] M).bind _)=_;unfold bB;rw[h];rfl
noncomputable abbrev B(b:Bool):CD:=.d (.bool b)
noncomputable def pV(d:PyData):Bool:=match bG d with
 |some [.int a,.int b]=>decide (0<=a)&&decide (1<=b)
 |_=>false
theorem NB(h:gM x 2=true):∃a b,x=.list [a,b]\/x=.tuple [a,b]:=by
 unfold gM at h;cases x with
 |list ds=>
  have h:((ds.length:Int)==2)=true:=h;rcases ds with _|⟨a,_|⟨b,_|⟨c,r⟩⟩⟩
  .simp at h
  .simp at h
  .exact⟨a,b,.inl rfl⟩
  .simp at h;omega
 |tuple ds=>
  have h:((ds.length:Int)==2)=true:=h;rcases ds with _|⟨a,_|⟨b,_|⟨c,r⟩⟩⟩
  .simp at h
  .simp at h
  .exact⟨a,b,.inr rfl⟩
  .simp at h;omega
 |_=>simp[bG]at h
theorem AO(h:gM x 2=false):pV x=false:=by
 unfold pV;unfold gM at h;cases q:bG x with
 |none=>rfl
 |some ds=>
  rw[q]at h;rcases ds with _|⟨a,_|⟨b,_|⟨c,r⟩⟩⟩
  .rfl
  .cases a<;>rfl
  .simp at h
  .cases a<;>cases b<;>rfl
theorem aDk{a b:PyData}:ixF (.d (.list [a,b])) (I 0) M=some (.d a,M):=rfl
theorem aDl{a b:PyData}:ixF (.d (.list [a,b])) (I 1) M=some (.d b,M):=rfl
theorem aDu{a b:PyData}:ixF (.d (.tuple [a,b])) (I 0) M=some (.d a,M):=rfl
theorem aDh{a b:PyData}:ixF (.d (.tuple [a,b])) (I 1) M=some (.d b,M):=rfl
theorem aBK{p q:Bool}:(if p=true then some (B q,M)else some (B false,M))=some (B (p&&q),M):=by cases p<;>rfl
theorem cN(x:PyData)(M:Sto):bL [.d x] M=some (B (pV x),M):=by
 cases h:gM x 2 with
 |false=>
  rw[AO h];simp![bL,bV,fD,h]
 |true=>
  obtain⟨a,b,rfl|rfl⟩:=NB h
  .cases a<;>cases b<;>first|rfl|(rename_i a b;simp![bL,bV,fD,h,iR,aDk,aDl,pX,aBK];rfl)
  .cases a<;>cases b<;>first|rfl|(rename_i a b;simp![bL,bV,fD,h,iR,aDu,aDh,pX,aBK];rfl)
noncomputable def P(k:Bool)(a b:Int):PyData:=if k then .list [.int a,.int b]else .tuple [.int a,.int b]
theorem NQ{k:Bool}:ixF (.d (P k a b)) (I 0) M=some (I a,M):=by cases k<;>rfl
theorem RK{k:Bool}:ixF (.d (P k a b)) (I 1) M=some (I b,M):=by cases k<;>rfl
theorem AL:eqX false (I i) (I j) M=some (B (i==j),M):=rfl
theorem aCQ:eqX true (I i) (I j) M=some (B (!(i==j)),M):=rfl
theorem AS:dM (I i) (I j) M=some (I (i+j),M):=rfl
theorem MD{k:Bool}:pV (P k a b)=(decide (0<=a)&&decide (1<=b)):=by cases k<;>rfl
theorem aDo(n m:Nat):((n:Int)==(m:Int))=(n==m):=by
 rw[O9];simp;omega
noncomputable def gP(a b:Int):Bool:=decide (0<=a)&&decide (1<=b)&&(55440 % b==0)&&(Int.gcd a b==1)&&decide (a<=1000000000000)
theorem nY(k:Bool)(a b:Int)(M:Sto):cD [.d (P k a b)] M=some (B (decide (0<=a)&&decide (1<=b)&&(55440 % b==0)&&(Int.gcd a b==1)),M):=by
 cases h:(decide (0<=a)&&decide (1<=b))with
 |false=>
  simp![cD,dE,cN,MD,h,Bool.false_and]
 |true=>
  have hh:=h;rw[B0]at h;have h1:=C3 h.1;have h2:=C3 h.2;have hm:mF 55440 b=true:=fY (by omega);cases h3:(55440 % b==0)with
  |false=>simp![cD,dE,cN,MD,hh,NQ,RK,hm,AL,h3,Bool.true_and,Bool.false_and]
  |true=>
   simp![cD,dE,cN,MD,hh,NQ,RK,hm,AL,h3,Bool.true_and,OQ M h1 (Int.le_trans (by decide) h2)];rw[show(1:Int)=((1:Nat):Int)from rfl,aDo]
theorem AU(k:Bool)(a b:Int)(M:Sto):dR [.d (P k a b)] M=some (B (gP a b),M):=by
 cases h:(decide (0<=a)&&decide (1<=b)&&(55440 % b==0)&&(Int.gcd a b==1))with
 |false=>
  have e:gP a b=false:=by unfold gP;rw[h];rfl
  rw[e];simp![dR,gI,nY,h]
 |true=>
  have e:gP a b=decide (a<=1000000000000):=by unfold gP;rw[h];rfl
  rw[e];simp![dR,gI,nY,h,NQ]
theorem vE(M:Sto)(a b:Int):∀(n:Nat)(x y:Int),0<=x->0<=y->y.toNat<n->
 eF (gB (fOp gtI (aD 3) (fC (.int 0)))) (vY 2 3 (aB (aD 3) (aB (fOp bD (aD 2) (aD 3)) aH))) n [some (I a),some (I b),some (I x),some (I y)] M=some (.nx [some (I a),some (I b),some (I (Int.gcd x y)),some (I 0)],M)
 |0=>fun _ _ _ _ h=>by omega
 |n+1=>fun x y hx hy h=>by
  by_cases e:y=0
  .subst e;have:(Int.gcd x 0:Int)=x:=by rw[Int.gcd_zero_right];omega
   rw[this];rfl
  .have hp:0<y:=by omega
   have ih:=vE M a b n y (x % y) hy (C1 _ e) (by have:=B6 x hp;omega);rw[AJ]at ih;rw[<- ih];have hb:decide (0<y)=true:=C8 hp;simp![eF,vY,fY hp,hb]
theorem HE(h:1<=b):1<=(Int.gcd a b:Int):=by
 have:Int.gcd a b≠0:=fun z=>by have:=(Int.gcd_eq_zero_iff.mp z).2;omega
 omega
theorem aAT(h:1<=b):(Int.gcd a b:Int)<=b:=Int.le_of_dvd (by omega) (Int.gcd_dvd_right a b)
theorem wsm(h:0<=y)(h2:y<2 ^ 200):y.natAbs<sF:=by
 have h1:y.natAbs<2 ^ 200:=by omega
 exact B5 h1 (Nat.pow_le_pow_right (by decide) (by decide))
theorem sZ{x:Int}(h:0<y)(h2:y.natAbs<sF):rT x y=true:=by simp[rT,h,h2]
theorem PD(M:Sto)(ha:0<=a)(hb:1<=b)(hw:b.natAbs<sF):fZ [I a,I b] M=some (.d (.tuple [.int (a / (Int.gcd a b:Int)),.int (b / (Int.gcd a b:Int))]),M):=by
 have h:lL [some (I a),some (I b),some (I a),some (I b)] M=_:=AY (vE M a b (b.toNat+1) a b ha (by omega) (E6 _));have g1:=HE (a:=a) hb;have g2:=aAT (a:=a) hb;have d1:∀x,rT x (Int.gcd a b:Int)=true:=fun x=>sZ (by omega) (Nat.lt_of_le_of_lt (by omega) hw);have sz:(2:Nat)<=sizeLine:=by decide
 simp![fZ,jL,vY,h,d1,sz]
theorem WY(h:gP a b=true):0<=a/\a<=1000000000000/\1<=b/\b<=55440:=by
 unfold gP at h;simp only[Bool.and_eq_true,decide_eq_true_eq,beq_iff_eq]at h;obtain⟨⟨⟨⟨h1,h2⟩,h3⟩,_⟩,h5⟩:=h;exact⟨h1,h5,h2,Int.le_of_dvd (by decide) (Int.dvd_of_emod_eq_zero h3)⟩
noncomputable def iB(x:PyData):Bool:=match bG x with
 |some [.int a,.int b]=>gP a b
 |_=>false
noncomputable def R2'(k:Bool)(p q:PyData):PyData:=if k then .list [p,q]else .tuple [p,q]
theorem NS(k:Bool)(p q:PyData):bG (R2' k p q)=some [p,q]:=by cases k<;>rfl
theorem SV(h:gM x 2=true):∃k p q,x=R2' k p q:=by
 obtain⟨a,b,rfl|rfl⟩:=NB h
 .exact⟨true,a,b,rfl⟩
 .exact⟨false,a,b,rfl⟩
theorem QR(h:pV x=true):∃k a b,x=P k a b:=by
 have hr:gM x 2=true:=by
  cases e:gM x 2 with
  |true=>rfl
  |false=>rw[AO e]at h;cases h
 obtain⟨k,p,q,rfl⟩:=SV hr;unfold pV at h;rw[NS]at h;cases p<;>cases q<;>first|exact⟨k,_,_,rfl⟩|simp at h
theorem RH(k:Bool)(a b:Int):iB (P k a b)=gP a b:=by cases k<;>rfl
theorem DF(h:pV x=false):iB x=false:=by
 unfold pV at h;unfold iB;split
 .rename_i a b e;rw[e]at h;dsimp only at h;unfold gP;rw[h];rfl
 .rfl
theorem BV(x:PyData)(M:Sto):dR [.d x] M=some (B (iB x),M):=by
 cases h:pV x with
 |false=>
  rw[DF h];have e:cD [.d x] M=some (B false,M):=by simp![cD,dE,cN,h]
  simp![dR,gI,e]
 |true=>
  obtain⟨k,a,b,rfl⟩:=QR h;rw[RH];exact AU k a b M
theorem qA:∀ds:List PyData,iS (ds.map .d)=some ds
 |[]=>rfl
 |d::ds=>by
  show(iS (ds.map .d)).map (d::·)=_;rw[qA ds];rfl
structure Tie where
 i:Int
 j:Int
 a:Int
 b:Int
deriving DecidableEq
noncomputable def Tie.key(t:Tie):List Key:=[.inl t.i,.inl t.j]
noncomputable def Tie.val(t:Tie):CD:=.d (.tuple [.int t.a,.int t.b])
noncomputable def aV(ts:List Tie):List (List Key×CD):=ts.map fun t=>(t.key,t.val)
theorem SZ{ts:List Tie}{t:Tie}(h:∀s∈ts,s.key≠t.key):lkC (aV ts) t.key=none:=by
 unfold lkC aV;rw[List.find?_map];have:List.find? ((fun kv=>decide (kv.1=t.key)) ∘ fun s:Tie=>(s.key,s.val)) ts=none:=List.find?_eq_none.mpr fun s hs=>by simpa using h s hs
 rw[this];rfl
theorem HS{ts:List Tie}{t:Tie}(h:∀s∈ts,s.key≠t.key):putD (aV ts) t.key t.val=aV (ts++[t]):=by
 unfold putD
 have:((aV ts).any fun kv=>decide (kv.1=t.key))=false:=by
  rw[aV,List.any_map];exact List.any_eq_false.mpr fun s hs=>by simpa using h s hs
 rw[this,A5 A7];unfold aV;rw[E4];rfl
theorem sz{n:Nat}(hn:n<=1000):n<=sizeLine:=by rw[E7];exact C4 hn (by decide)
noncomputable def f1(t:Tie):List PyData:=[.tuple [.int t.i,.int t.j],.tuple [.int t.a,.int t.b]]
noncomputable def f2(t:Tie):List PyData:=[.int t.i,.int t.j,.tuple [.int t.a,.int t.b]]
theorem DN{c d:Int}:PyData.eqv (.tuple [.int a,.int b]) (.tuple [.int c,.int d])=(a==c&&(b==d&&true)):=rfl
theorem uA{f:Tie->List PyData}{i:Nat}(h:i<us.length):(us.map f).getD i []=f us[i]:=by
 rw[D1,D2,B9 h];rfl
noncomputable def t0:Tie:=⟨0,0,0,0⟩
theorem IP(us:List Tie):(List.range us.length).map (fun i=>us.getD i t0)=us:=by
 refine List.ext_getElem? fun i=>?_;rw[D2];by_cases h:i<us.length
 .rw[List.getElem?_range h,B9 h];show some (us.getD i t0)=_;rw[D1,B9 h];rfl
 .rw[O7 (by rw[List.length_range];omega),O7 (by omega)];rfl
theorem DT{i:Nat}(h:i<us.length):us.getD i t0=us[i]:=by
 rw[D1,B9 h];rfl
noncomputable def big(t:Tie):Bool:=decide (t.a > 0)
noncomputable def cZ(vs:List Tie):List PyData:=(vs.filter big).map fun t=>.tuple (f2 t)
theorem KH{cap:List (Option Nat)}{f:AF}{g:GF}{c:TF}{ee:EF}{M1 M2:Sto}(it:f γ M=some (xs,M1))(hl:xs.length<=sizeLine)(e:lcF g c ee xs (kH cap γ) M1=some (ds.map .d,M2))(hd:ds.length<=sizeLine):fLc cap f g c ee γ M=some (.d (.list ds),M2):=by
 have h1:BA cap f g c ee γ M=some (ds.map .d,M2):=by
  unfold BA;rw[it,A2,A4 hl];exact e
 show(BA cap f g c ee γ M).bind _=_;rw[h1,A2,qA,A2,A4 hd]
noncomputable abbrev kG:GF:=rG 2 (bY (rG 2 (bY (hName 0) (bY (hName 1) nR))) (bY (hName 2) nR))
noncomputable abbrev kC:TF:=gB (fOp gtI (fOp ixF (aD 2) (fC (.int 0))) (fC (.int 0)))
noncomputable abbrev kE:EF:=gG (aB (aD 0) (aB (aD 1) (aB (aD 2) aH)))
theorem yA{M:Sto}:∀(vs:List Tie)(s1 s2 s3:Option CD),lcF kG kC kE (vs.map fun t=>.d (.tuple (f1 t))) [s1,s2,s3] M=some ((cZ vs).map .d,M)
 |[]=>fun _ _ _=>rfl
 |t::vs=>fun s1 s2 s3=>by
  have ih:=yA (M:=M) vs (some (I t.i)) (some (I t.j)) (some (.d (.tuple [.int t.a,.int t.b])));have g1:kG (.d (.tuple (f1 t))) [s1,s2,s3] M=some ([some (I t.i),some (I t.j),some (.d (.tuple [.int t.a,.int t.b]))],M):=rfl;have c1:kC [some (I t.i),some (I t.j),some (.d (.tuple [.int t.a,.int t.b]))] M=some (big t,M):=rfl
  have e1:kE [some (I t.i),some (I t.j),some (.d (.tuple [.int t.a,.int t.b]))] M=some (.d (.tuple (f2 t)),M):=by
   have l3:3<=sizeLine:=sz (by decide);simp![kE,f2,if_pos l3,Nat.zero_add]
  rw[C0];unfold lcF;rw[g1,A2];dsimp only;rw[c1,A2];dsimp only;by_cases hb:big t=true
  .rw[A4 hb,e1,A2];dsimp only;rw[ih,A2];unfold cZ;rw[List.filter_cons_of_pos hb];rfl
  .rw[A5 hb,ih];unfold cZ;rw[List.filter_cons_of_neg hb]
theorem DG:∀us:List Tie,xX (aV us)=some (us.map fun t=>(t.key,.tuple [.int t.a,.int t.b]))
 |[]=>rfl
 |t::us=>by
  show(xX (aV us)).bind _=_;rw[DG us];rfl
theorem TM(us:List Tie):(us.map fun t=>(t.key,PyData.tuple [.int t.a,.int t.b])).map CM=us.map f1:=by
 rw[D5];rfl
theorem PQ(h:vs.length<=1000):(cZ vs).length<=sizeLine:=by
 unfold cZ;rw[A1];exact sz (C4 (J6 ..) h)
noncomputable def bM(us:List Tie):List PyData:=us.map fun t=>.tuple (f2 t)
noncomputable def Ok(n:Int)(us:List Tie):Prop:=(∀t∈us,gP t.a t.b=true/\0<=t.i/\t.i<t.j/\t.j<n)/\(us.map Tie.key).Nodup/\us.length<64
theorem EU(nd:(us.map Tie.key).Nodup):((us.filter big).map Tie.key).Nodup:=(List.filter_sublist.map Tie.key).nodup nd
theorem CK{N:Sto}:∀(ws ts:List Tie)(s1 s2 s3:Option CD),((ts++ws).map Tie.key).Nodup->ts.length+ws.length<1000->
 dcF N.length (rG 3 (bY (hName 0) (bY (hName 1) (bY (hName 2) nR)))) fF (sT (aB (aD 0) (aB (aD 1) aH))) (aD 2) ((bM ws).map .d) [s1,s2,s3] (N++[.dt (aV ts)])=some (N++[.dt (aV (ts++ws))])
 |[]=>fun ts _ _ _ _ _=>by rw[J4];rfl
 |t::ws=>fun ts s1 s2 s3 nd hl=>by
  have nk:∀s∈ts,s.key≠t.key:=fun s hs q=>by
   rw[E4,List.nodup_append]at nd;exact nd.2.2 _ (List.mem_map_of_mem hs) _ (by rw[C0];exact B3) q
  have ih:=CK (N:=N) ws (ts++[t]) (some (I t.i)) (some (I t.j)) (some t.val) (by rw[O3];exact nd) (by rw[B8];simp only[List.length_cons,List.length_nil]at hl ⊢;omega);have hD:(N++[.dt (aV ts)])[N.length]?=some (.dt (aV ts)):=by rw[D7 (A9 _),O4];rfl
  have len:(aV ts).length<sizeLine:=by unfold aV;rw[A1,E7];omega
  have st:tT (N++[.dt (aV ts)]) (.c N.length) (.inr t.key) t.val=some (N++[.dt (aV (ts++[t]))]):=by
   simp only[tT,hD,if_pos len,HS nk];rw[List.set_append_right _ _ (A9 _),O4];rfl
  have l2:(Tie.key t).length<=sizeLine:=sz (show 2<=1000 by decide)
  have kf:sT (aB (aD 0) (aB (aD 1) aH)) [some (I t.i),some (I t.j),some t.val] (N++[.dt (aV ts)])=some (.inr t.key,N++[.dt (aV ts)]):=by
   have kk:keysOf [I t.i,I t.j]=some t.key:=rfl;simp![sT,kk,if_pos l2]
  show dcF _ _ _ _ _ (.d (.tuple (f2 t))::(bM ws).map .d) [s1,s2,s3] _=_;unfold dcF;rw[show rG 3 (bY (hName 0) (bY (hName 1) (bY (hName 2) nR))) (.d (.tuple (f2 t))) [s1,s2,s3] (N++[.dt (aV ts)])=some ([some (I t.i),some (I t.j),some t.val],N++[.dt (aV ts)])from rfl,A2];dsimp only;rw[show fF [some (I t.i),some (I t.j),some t.val] (N++[.dt (aV ts)])=some (true,N++[.dt (aV ts)])from rfl,A2];dsimp only;rw[A4 rfl,kf,A2];dsimp only;rw[show aD 2 [some (I t.i),some (I t.j),some t.val] (N++[.dt (aV ts)])=some (t.val,N++[.dt (aV ts)])from rfl,A2];dsimp only;rw[st,A2,ih,O3];rfl
noncomputable def aDd(w:Nat)(n:Int)(vs:List Tie):Cell:=.obj "Web" [("many",I n),("ties",.d (.tuple (cZ vs))),("weights",.c (w+2))]
noncomputable def QA(w:Nat)(n:Int)(us vs:List Tie):List Cell:=[aDd w n vs,.dt (aV us),.dt (aV (vs.filter big))]
theorem yZ{fs:List (Str×CD)}:objOf "Web" (M++(.obj "Web" fs::L)) (.c M.length)=some (M.length,fs):=by
 have:(M++(Cell.obj "Web" fs::L))[M.length]?=some (.obj "Web" fs):=by rw[D7 (A9 _),O4];rfl
 simp only[objOf,this,if_true]
theorem yJ{c c':Cell}:(M++(c::L)).set M.length c'=M++(c'::L):=by
 rw[List.set_append_right _ _ (A9 _),O4];rfl
noncomputable def R3(k:Bool)(p q w:PyData):PyData:=if k then .list [p,q,w]else .tuple [p,q,w]
theorem pJ(k:Bool)(p q w:PyData):bG (R3 k p q w)=some [p,q,w]:=by cases k<;>rfl
theorem RF(h:gM x 3=true):∃k p q w,x=R3 k p q w:=by
 have aux:∀ds:List PyData,((ds.length:Int)==3)=true->∃p q w,ds=[p,q,w]:=fun ds h=>by
  match ds,h with
  |[p,q,w],_=>exact⟨p,q,w,rfl⟩
  |[],h=>exact absurd h (by decide)
  |[_],h=>exact absurd h (by simp)
  |[_,_],h=>exact absurd h (by simp)
  |_::_::_::_::r,h=>
   have:((r.length+1+1+1+1:Nat):Int)=3:=by simpa using h
   omega
 cases x with
 |list ds=>obtain⟨p,q,w,rfl⟩:=aux ds h;exact⟨true,p,q,w,rfl⟩
 |tuple ds=>obtain⟨p,q,w,rfl⟩:=aux ds h;exact⟨false,p,q,w,rfl⟩
 |_=>cases h
noncomputable def plc(n:Int):PyData->Bool
 |.int i=>decide (0<=i)&&decide (i<n)
 |_=>false
theorem oX(n:Int)(p:PyData)(M:Sto):fS [I n,.d p] M=some (B (plc n p),M):=by
 cases hp:pX p with
 |false=>
  have e:plc n p=false:=by cases p<;>first|rfl|cases hp
  rw[e];simp![fS,kX,iR,hp]
 |true=>
  obtain⟨i,rfl⟩:∃i,p=.int i:=by cases p<;>first|exact⟨_,rfl⟩|cases hp
  have hc:plc n (.int i)=(decide (0<=i)&&decide (i<n)):=rfl;rw[hc];cases h0:decide (0<=i)<;>simp![fS,kX,iR,hp,h0,Bool.true_and,Bool.false_and]
noncomputable def ulk(n:Int)(p q:PyData):Bool:=match p,q with
 |.int i,.int j=>plc n p&&(plc n q&&!(i==j))
 |_,_=>false
theorem sY{p:PyData}(h:plc n p=true):∃i,p=.int i/\0<=i/\i<n:=by
 cases p with
 |int i=>simp only[plc,Bool.and_eq_true,decide_eq_true_eq]at h;exact⟨i,rfl,h.1,h.2⟩
 |_=>cases h
theorem WS(n:Int)(p q:PyData)(M:Sto):bR [I n,.d p,.d q] M=some (B (ulk n p q),M):=by
 cases h1:plc n p with
 |false=>
  have e:ulk n p q=false:=by
   unfold ulk;split
   .rw[h1];rfl
   .rfl
  rw[e];simp![bR,bZ,oX,h1]
 |true=>
  obtain⟨i,rfl,_⟩:=sY h1;cases h2:plc n q with
  |false=>
   have e:ulk n (.int i) q=false:=by
    unfold ulk;split
    .rw[h2,Bool.false_and,Bool.and_false]
    .rfl
   rw[e];simp![bR,bZ,oX,h1,h2]
  |true=>
   obtain⟨j,rfl,_⟩:=sY h2;have e:ulk n (.int i) (.int j)=!(i==j):=by show(plc n (.int i)&&(plc n (.int j)&&!(i==j)))=_;rw[h1,h2];rfl
   rw[e];simp![bR,bZ,oX,h1,h2,aCQ]
noncomputable def gS(n:Int)(r:PyData):Option Tie:=match bG r with
 |some [.int i,.int j,w]=>match bG w with
  |some [.int a,.int b]=>if 0<=i/\i<j/\j<n/\gP a b=true then some ⟨i,j,a,b⟩else none
  |_=>none
 |_=>none
theorem IX{w:PyData}(h:iB w=true):∃a b,bG w=some [.int a,.int b]/\gP a b=true:=by
 unfold iB at h;split at h
 .rename_i a b e;exact⟨a,b,e,h⟩
 .cases h
theorem HF{w:PyData}(hr:bG r=some [.int i,.int j,w])(hw:bG w=some [.int a,.int b])(h:0<=i/\i<j/\j<n/\gP a b=true):gS n r=some ⟨i,j,a,b⟩:=by
 unfold gS;rw[hr];dsimp only;rw[hw];dsimp only;rw[A4 h]
theorem pT{t:Tie}(h:gS n r=some t):∃w,bG r=some [.int t.i,.int t.j,w]/\bG w=some [.int t.a,.int t.b]/\0<=t.i/\t.i<t.j/\t.j<n/\gP t.a t.b=true:=by
 unfold gS at h;split at h
 .rename_i i j w hr;split at h
  .rename_i a b hw;split at h
   .rename_i c;cases h;exact⟨w,hr,hw,c⟩
   .cases h
  .cases h
 .cases h
theorem ix3(k:Bool)(p q w:PyData)(M:Sto):ixF (.d (R3 k p q w)) (I 0) M=some (.d p,M)/\ixF (.d (R3 k p q w)) (I 1) M=some (.d q,M)/\ixF (.d (R3 k p q w)) (I 2) M=some (.d w,M):=by cases k<;>exact⟨rfl,rfl,rfl⟩
theorem MH(n:Int)(r:PyData)(M:Sto):iL [I n,.d r] M=some (B (gS n r).isSome,M):=by
 cases h3:gM r 3 with
 |false=>
  have e:gS n r=none:=by
   cases h:gS n r with
   |none=>rfl
   |some t=>
    obtain⟨w,hr,_⟩:=pT h;unfold gM at h3;rw[hr]at h3;cases h3
  have bt:bE [I n,.d r] M=some (B false,M):=by
   simp![bE,cA,fD,h3]
  rw[e];simp![iL,kL,bt,Option.isSome_none]
 |true=>
  obtain⟨k,p,q,w,rfl⟩:=RF h3;obtain⟨x0,x1,x2⟩:=ix3 k p q w M;cases hu:ulk n p q with
  |false=>
   have e:gS n (R3 k p q w)=none:=by
    cases h:gS n (R3 k p q w)with
    |none=>rfl
    |some t=>
     obtain⟨w',hr,_,i0,ij,jn,_⟩:=pT h;rw[pJ]at hr;cases hr
     have:ulk n (.int t.i) (.int t.j)=true:=by
      have ne:(!(t.i==t.j))=true:=by simp;omega
      show(plc n (.int t.i)&&(plc n (.int t.j)&&!(t.i==t.j)))=true;rw[ne];simp only[plc,decide_eq_true i0,decide_eq_true jn,decide_eq_true (show t.i<n by omega),decide_eq_true (show(0:Int)<=t.j by omega),Bool.and_true,Bool.true_and]
     rw[this]at hu;cases hu
   have bt:bE [I n,.d (R3 k p q w)] M=some (B false,M):=by
    simp![bE,cA,fD,h3,x0,x1,WS,hu]
   rw[e];simp![iL,kL,bt,Option.isSome_none]
  |true=>
   obtain⟨i,j,rfl,rfl,i0,jn⟩:∃i j,p=.int i/\q=.int j/\0<=i/\j<n:=by
    unfold ulk at hu;split at hu
    .rename_i i j;rw[B0,B0]at hu;obtain⟨i',e1,q1,_⟩:=sY hu.1;obtain⟨j',e2,_,q2⟩:=sY hu.2.1;cases e1;cases e2;exact⟨i,j,rfl,rfl,q1,q2⟩
    .cases hu
   have bt:bE [I n,.d (R3 k (.int i) (.int j) w)] M=some (B (decide (i<j)),M):=by
    simp![bE,cA,fD,h3,x0,x1,WS,hu]
   cases ij:decide (i<j)with
   |false=>
    have e:gS n (R3 k (.int i) (.int j) w)=none:=by
     cases h:gS n (R3 k (.int i) (.int j) w)with
     |none=>rfl
     |some t=>
      obtain⟨w',hr,_,_,z,_⟩:=pT h;rw[pJ]at hr;cases hr;exact absurd z (D8 ij)
    rw[ij]at bt;rw[e];simp![iL,kL,bt,Option.isSome_none]
   |true=>
    rw[ij]at bt
    have e:(gS n (R3 k (.int i) (.int j) w)).isSome=iB w:=by
     cases hw:iB w with
     |true=>
      obtain⟨a,b,w1,w2⟩:=IX hw;rw[HF (pJ ..) w1 ⟨i0,C3 ij,jn,w2⟩];rfl
     |false=>
      cases h:gS n (R3 k (.int i) (.int j) w)with
      |none=>rfl
      |some t=>
       obtain⟨w',hr,h2,_,_,_,h3'⟩:=pT h;rw[pJ]at hr;cases hr;unfold iB at hw;rw[h2]at hw;dsimp only at hw;rw[h3']at hw;cases hw
    rw[e];simp![iL,kL,bt,x2,BV]
noncomputable def Tie.lt(s t:Tie):Prop:=s.i<t.i\/(s.i=t.i/\s.j<t.j)
instance(s t:Tie):Decidable (Tie.lt s t):=by unfold Tie.lt;infer_instance
theorem key_ne{t:Tie}(h:s.key≠t.key):¬(s.i=t.i/\s.j=t.j):=fun⟨a,b⟩=>h (by unfold Tie.key;rw[a,b])
theorem Tie.lt_tot{t:Tie}(h:s.key≠t.key)(n:¬Tie.lt t s):Tie.lt s t:=by
 have:=key_ne h;unfold Tie.lt at n ⊢;omega
theorem Tie.lt_tr{t u:Tie}(h:Tie.lt s t)(k:Tie.lt t u):Tie.lt s u:=by unfold Tie.lt at h k ⊢;omega
theorem Tie.lt_ir(h:Tie.lt s s):False:=by unfold Tie.lt at h;omega
theorem uM:∀{xs ys:List Tie},xs.Pairwise Tie.lt->ys.Pairwise Tie.lt->xs.Perm ys->xs=ys
 |[],ys=>fun _ _ p=>(List.nil_perm.mp p).symm
 |x::xs,[]=>fun _ _ p=>absurd p.length_eq (by simp)
 |x::xs,y::ys=>fun hx hy p=>by
  obtain⟨x1,x2⟩:=List.pairwise_cons.mp hx;obtain⟨y1,y2⟩:=List.pairwise_cons.mp hy
  have e:x=y:=by
   have mx:x∈y::ys:=p.mem_iff.mp B3;have my:y∈x::xs:=p.mem_iff.mpr B3;rcases List.mem_cons.mp mx with e|mx
   .exact e
   .rcases List.mem_cons.mp my with e|my
    .exact e.symm
    .exact(Tie.lt_ir (Tie.lt_tr (x1 y my) (y1 x mx))).elim
  subst e;rw[uM x2 y2 (List.perm_cons x |>.mp p)]
structure BW(f:Tie->List PyData):Prop where
 sh:∀t,(f t).all SeqAt.shaped=true
 on:∀t,cH (f t)=true
 hd:∀us:List Tie,(jA (us.map f) || lZ (us.map f))=true
 lt:∀s t,s.key≠t.key->cO (f s) (f t)=some (decide (Tie.lt s t))
 eq:∀s,(cO (f s) (f s)).isSome=true
theorem rf1:BW f1:=by
 refine⟨fun t=>rfl,fun t=>rfl,fun us=>?_,fun s t h=>?_,fun s=>?_⟩
 .rw[Bool.or_eq_true];exact .inr (by unfold lZ;rw[List.all_map];exact List.all_eq_true.mpr fun t _=>rfl)
 .have k:=key_ne h
  have e:(s.i==t.i&&(s.j==t.j&&true))=false:=by
   rw[Bool.and_true,Bool.and_eq_false_iff];by_cases q:s.i=t.i
   .exact .inr (by simpa using fun z=>k ⟨q,z⟩)
   .exact .inl (by simpa using q)
  unfold f1 cO;rw[DN,e,A5 A7];show some (HT.lexLt [s.i,s.j] [t.i,t.j])=_;congr 1;rw[HT.lexLt_cons,HT.lexLt_cons];by_cases q:s.i=t.i
  .have q':¬s.j=t.j:=fun z=>k ⟨q,z⟩;rw[A4 q,A5 q'];simp[Tie.lt,q]
  .rw[A5 q];simp[Tie.lt,q]
 .unfold f1 cO;rw[DN];simp only[beq_self_eq_true,Bool.and_true,if_true];unfold cO;rw[DN];simp only[beq_self_eq_true,Bool.and_true,if_true];rfl
noncomputable def f0(t:Tie):List PyData:=[.int t.i,.int t.j]
theorem rf0:BW f0:=by
 refine⟨fun t=>rfl,fun t=>rfl,fun us=>?_,fun s t h=>?_,fun s=>?_⟩
 .rw[Bool.or_eq_true];exact .inl (by unfold jA;rw[List.all_map];exact List.all_eq_true.mpr fun t _=>rfl)
 .have k:=key_ne h;show(if (s.i==t.i)=true then(if (s.j==t.j)=true then cO [] []else some (decide (s.j<t.j)))else some (decide (s.i<t.i)))=_;by_cases e:s.i=t.i
  .have e2:¬s.j=t.j:=fun q=>k ⟨e,q⟩;rw[A4 (by simpa using e),A5 (by simpa using e2)];congr 1;exact decide_eq_decide.mpr ⟨fun q=>.inr ⟨e,q⟩,fun q=>by rcases q with q|q<;>omega⟩
  .rw[A5 (by simpa using e)];congr 1;exact decide_eq_decide.mpr ⟨fun q=>.inl q,fun q=>by rcases q with q|q<;>omega⟩
 .show(if (s.i==s.i)=true then(if (s.j==s.j)=true then cO [] []else some (decide (s.j<s.j)))else some (decide (s.i<s.i))).isSome=true;simp only[beq_self_eq_true,if_true];rfl
theorem WZ(nd:(us.map Tie.key).Nodup){i j:Nat}(hi:i<us.length)(hj:j<us.length)(h:i≠j):us[i].key≠us[j].key:=fun q=>by
 have:=(List.getElem_inj (h₀:=by rw[A1];exact hi) (h₁:=by rw[A1];exact hj) nd).mp (by rw[List.getElem_map,List.getElem_map];exact q);exact h this
theorem aDp{f:Tie->List PyData}(R:BW f)(nd:(us.map Tie.key).Nodup)(h2:2<=us.length)(h64:us.length<64):sortable (us.map f)=true:=by
 unfold sortable;rw[A1,C8 h2,C8 h64,R.hd us,Bool.true_and,Bool.true_and,Bool.and_true,B0];refine⟨List.all_eq_true.mpr fun r hr=>?_,List.all_eq_true.mpr fun i hi=>List.all_eq_true.mpr fun j hj=>?_⟩
 .obtain⟨t,_,rfl⟩:=List.mem_map.mp hr;rw[R.sh,R.on];rfl
 .have hi:=List.mem_range.mp hi;have hj:=List.mem_range.mp hj;rw[uA hi,uA hj];by_cases q:i=j
  .subst q;exact R.eq _
  .rw[R.lt _ _ (WZ nd hi hj q)];rfl
theorem RO{f:Tie->List PyData}(R:BW f){i j:Nat}(hi:i<us.length)(hj:j<us.length)(k:us[i].key≠us[j].key):eZ (us.map f) i j=decide (Tie.lt us[i] us[j]):=by
 unfold eZ;rw[uA hi,uA hj,R.lt _ _ k];rfl
theorem wV{f:Tie->List PyData}(R:BW f)(nd:(us.map Tie.key).Nodup)(h64:us.length<64):∃vs:List Tie,vs.Perm us/\vs.Pairwise Tie.lt/\iN (us.map f)=some (vs.map fun t=>.tuple (f t))/\(2<=us.length->GI (us.map f)=vs.map fun t=>.tuple (f t))/\(us.length<2->vs=us):=by
 by_cases h2:2<=us.length
 .have ab:=aDp R nd h2 h64;have pm:=mJ (n:=(us.map f).length) (eZ (us.map f)) (by rw[A1];omega);have so:=wA ab;rw[A1]at pm so;have mem:∀i∈dB (eZ (us.map f)) us.length,i<us.length:=fun i hi=>List.mem_range.mp (pm.mem_iff.mp hi)
  have sd:GI (us.map f)=((dB (eZ (us.map f)) us.length).map fun i=>us.getD i t0).map fun t=>.tuple (f t):=by
   unfold GI;rw[A1,D5];refine S1 fun i hi=>?_;show PyData.tuple ((us.map f).getD i [])=.tuple (f (us.getD i t0));rw[uA (mem i hi),DT (mem i hi)]
  refine⟨(dB (eZ (us.map f)) us.length).map fun i=>us.getD i t0,?_,?_,?_,fun _=>sd,fun q=>by omega⟩
  .have:=pm.map fun i=>us.getD i t0
   rwa [IP]at this
  .rw[List.pairwise_map];have nd2:(dB (eZ (us.map f)) us.length).Nodup:=pm.nodup_iff.mpr List.nodup_range;have len:(dB (eZ (us.map f)) us.length).length=us.length:=by rw[pm.length_eq,List.length_range]
   rw[List.pairwise_iff_getElem];intro a b ha hb hab;have hx:=mem _ (O8 ha);have hy:=mem _ (O8 hb)
   have g:∀c (hc:c<(dB (eZ (us.map f)) us.length).length),(II (eZ (us.map f)) (PySem.W.kas_sort us.length)).getD c 0=(dB (eZ (us.map f)) us.length)[c]:=fun c hc=>by
    unfold dB at hc ⊢;rw[L4]at hc;simp[Array.getD,hc]
   have s1:=so a b hab (by rw[<- len];exact hb);rw[g a ha,g b hb]at s1
   have ne:(dB (eZ (us.map f)) us.length)[b]≠(dB (eZ (us.map f)) us.length)[a]:=fun q=>by
    have:=(List.getElem_inj nd2).mp q;omega
   have kn:=WZ nd hy hx ne;rw[RO R hy hx kn]at s1;rw[DT hx,DT hy];exact Tie.lt_tot (F5 kn) (D8 s1)
  .unfold iN;rw[ab,A4 rfl,sd]
 .have hl:us.length<2:=by omega
  refine⟨us,.refl _,?_,?_,fun q=>absurd q h2,fun _=>rfl⟩
  .match us,hl with
   |[],_=>exact .nil
   |[t],_=>exact List.pairwise_singleton _ _
  .unfold iN
   have:sortable (us.map f)=false:=by
    unfold sortable;rw[A1,C6 h2];rfl
   rw[this,A5 A7,A1,A4 hl,D5];rfl
noncomputable abbrev LG(n:Int)(x:CD)(c k:Nat)(r:PyData):Ga:=[some (I n),some x,some (.c c),some (I (k:Nat)),some (.d r)]
noncomputable def uH(k:Nat)(l:List PyData):List CD:=(l.zipIdx k).map fun p=>.d (.tuple [.int (p.2:Nat),p.1])
noncomputable abbrev G2:GF:=rG 2 (bY (hName 3) (bY (hName 4) nR))
theorem aCv{x:CD}{k:Nat}{g3 g4:Option CD}:G2 (.d (.tuple [.int (k:Nat),r])) [some (I n),some x,some (.c c),g3,g4] M=some (LG n x c k r,M):=rfl
theorem uT{c:Cell}:(M++[c])[M.length]?=some c:=by rw[D7 (A9 _),O4];rfl
theorem aDq{w:PyData}(h:bG w=some [.int a,.int b])(M:Sto):cJ [.d w] M=some (.d (.tuple [.int a,.int b]),M):=by
 cases w<;>first|(cases h;rfl)|cases h
theorem YK{t:Tie}(h:gP t.a t.b=true/\0<=t.i/\t.i<t.j/\t.j<n):gS n (.tuple (f2 t))=some t:=
 HF (w:=.tuple [.int t.a,.int t.b]) rfl rfl ⟨h.2.1,h.2.2.1,h.2.2.2,h.1⟩
theorem IS{x:CD}{M:Sto}{k:Nat}{ts:List Tie}{t:Tie}(hl:ts.length<1000)(ht:gS n (.tuple (f2 t))=some t)(nk:∀s∈ts,s.key≠t.key):
 eJ (LG n x M.length k (.tuple (f2 t))) (M++[.dt (aV ts)])=some (.nx (LG n x M.length k (.tuple (f2 t))),M++[.dt (aV (ts++[t]))]):=by
 have ti:=MH n (.tuple (f2 t)) (M++[.dt (aV ts)]);rw[ht,Option.isSome_some]at ti;have x0:ixF (.d (.tuple (f2 t))) (I 0) (M++[.dt (aV ts)])=some (I t.i,M++[.dt (aV ts)]):=rfl;have x1:ixF (.d (.tuple (f2 t))) (I 1) (M++[.dt (aV ts)])=some (I t.j,M++[.dt (aV ts)]):=rfl;have x2:ixF (.d (.tuple (f2 t))) (I 2) (M++[.dt (aV ts)])=some (.d (.tuple [.int t.a,.int t.b]),M++[.dt (aV ts)]):=rfl;have tu:=aDq (w:=.tuple [.int t.a,.int t.b]) rfl (M++[.dt (aV ts)]);have hD:(M++[Cell.dt (aV ts)])[M.length]?=some (.dt (aV ts)):=uT;have kk':keysOf [I t.i,I t.j]=some t.key:=rfl;have l2:(Tie.key t).length<=sizeLine:=sz (show 2<=1000 by decide);have at_:atD (M++[.dt (aV ts)]) (.c M.length) (.inr t.key)=some none:=by simp only[atD,hD,SZ nk]
 have len:(aV ts).length<sizeLine:=by unfold aV;rw[A1,E7];omega
 have st:tT (M++[.dt (aV ts)]) (.c M.length) (.inr t.key) (.d (.tuple [.int t.a,.int t.b]))=some (M++[.dt (aV (ts++[t]))]):=by
  have pn:putD (aV ts) t.key (.d (.tuple [.int t.a,.int t.b]))=aV (ts++[t]):=HS nk;simp only[tT,hD,if_pos len,pn];rw[yJ]
 simp![eJ,ti,TB,sT,x0,x1,x2,kk',if_pos l2,at_,oU,tu,st,Option.isSome_none]
theorem wQ{n:Int}{x:CD}{M:Sto}:∀(ws ts:List Tie)(k:Nat)(g3 g4:Option CD),((ts++ws).map Tie.key).Nodup->(∀t∈ws,gS n (.tuple (f2 t))=some t)->ts.length+ws.length<1000->
 ∃g3' g4',jR G2 eJ (uH k (bM ws)) [some (I n),some x,some (.c M.length),g3,g4] (M++[.dt (aV ts)])=some (.nx [some (I n),some x,some (.c M.length),g3',g4'],M++[.dt (aV (ts++ws))])
 |[]=>fun ts k g3 g4 _ _ _=>⟨g3,g4,by rw[J4];rfl⟩
 |t::ws=>fun ts k g3 g4 nd ok hl=>by
  have nk:∀s∈ts,s.key≠t.key:=fun s hs e=>by
   rw[E4,List.nodup_append]at nd;exact nd.2.2 _ (List.mem_map_of_mem hs) _ (List.mem_map_of_mem (B3 ..)) e
  rw[C5]at hl;have tn:=IS (n:=n) (x:=x) (M:=M) (k:=k) (ts:=ts) (t:=t) (by omega) (ok t (B3 ..)) nk;have e:ts++t::ws=ts++[t]++ws:=by simp
  rw[e]at nd ⊢;obtain⟨a,b,h⟩:=wQ (n:=n) (x:=x) (M:=M) ws (ts++[t]) (k+1) (some (I (k:Nat))) (some (.d (.tuple (f2 t)))) nd (fun s hs=>ok s (B1 _ hs)) (by rw[B8,E2];omega);refine⟨a,b,?_⟩;rw[<- h];show jR G2 eJ (.d (.tuple [.int (k:Nat),.tuple (f2 t)])::uH (k+1) (bM ws)) _ _=_
  conv=>lhs;unfold jR
  rw[aCv,A2];dsimp only;rw[tn,A2]
theorem UC{d:PyData}{l:List PyData}{c:CD}(hd:bG d=some l):BK (aB (aD 1) aH) [some (I n),some (.d d),some c,none,none] M=some (uH 0 l,M):=by
 simp![BK,hd];rfl
theorem RU{M:Sto}(ok:Ok n us):
 ∃vs:List Tie,vs.Perm us/\vs.Pairwise Tie.lt/\gK [I n,.d (.list (bM us))] M=some (.d (.tuple (cZ vs)),M++[.dt (aV us)]):=by
 obtain⟨o1,nd,h64⟩:=ok;obtain⟨g3,g4,lp⟩:=wQ (n:=n) (x:=.d (.list (bM us))) (M:=M) us [] 0 none none (by rw[List.nil_append];exact nd) (fun t ht=>YK (o1 t ht)) (by rw[List.length_nil];omega);rw[List.nil_append]at lp;obtain⟨vs,pm,pw,sr,_⟩:=wV rf1 nd h64;refine⟨vs,pm,pw,?_⟩;have rw1:PR (.list (bM us))=true:=rfl;have m0:(M++[Cell.dt []])=M++[.dt (aV [])]:=rfl;have hD:(M++[Cell.dt (aV us)])[M.length]?=some (.dt (aV us)):=uT;have lv:vs.length<64:=by rw[pm.length_eq];exact h64
 have it:aW (qM (aD 2)) [some (I n),some (.d (.list (bM us))),some (.c M.length),g3,g4] (M++[.dt (aV us)])=some (vs.map fun t=>.d (.tuple (f1 t)),M++[.dt (aV us)]):=by
  have s1:qM (aD 2) [some (I n),some (.d (.list (bM us))),some (.c M.length),g3,g4] (M++[.dt (aV us)])=some (.d (.list (vs.map fun t=>.tuple (f1 t))),M++[.dt (aV us)]):=by
   simp![qM,hD,DG,TM,sr]
  unfold aW;rw[s1,A2];show(some (vs.map fun t=>PyData.tuple (f1 t))).bind _=_;rw[A2,D5];rfl
 have cp:jZ [some (I n),some (.d (.list (bM us))),some (.c M.length),g3,g4] (M++[.dt (aV us)])=some (.d (.list (cZ vs)),M++[.dt (aV us)]):=by
  unfold jZ;exact KH it (sz (by rw[A1];omega)) (yA vs none none none) (PQ (by omega))
 have tf:cJ [.d (.list (cZ vs))] (M++[.dt (aV us)])=some (.d (.tuple (cZ vs)),M++[.dt (aV us)]):=rfl;have hi:bG (.list (bM us))=some (bM us):=rfl;simp![gK,mX,PL,rw1,qS,m0,qO,UC hi,lp,cp,tf]
theorem RJ{M:Sto}(ok:Ok n us)(n1:1<=n)(n40:n<=40):
 ∃vs:List Tie,vs.Perm us/\vs.Pairwise Tie.lt/\dU [.c M.length,I n,.d (.list (bM us))] (M++[.obj "Web" []])=some (.d .none,M++QA M.length n us vs):=by
 obtain⟨vs,pm,pw,k1⟩:=RU (M:=M++[.obj "Web" [("many",I n)]]) ok;obtain⟨o1,nd,h64⟩:=ok;refine⟨vs,pm,pw,?_⟩;have w1:fA [I n] (M++[.obj "Web" []])=some (B true,M++[.obj "Web" []]):=iR _ _;have c1:decide (n<1)=false:=C6 (by omega);have c2:decide (n > 40)=false:=C6 (by omega);have o1:objOf "Web" (M++[.obj "Web" []]) (.c M.length)=some (M.length,[]):=yZ;have s1:(M++[Cell.obj "Web" []]).set M.length (.obj "Web" (wF "many" (I n) []))=M++[.obj "Web" [("many",I n)]]:=yJ
 have k1:gK [I n,.d (.list (bM us))] (M++[.obj "Web" [("many",I n)]])=some (.d (.tuple (cZ vs)),M++[.obj "Web" [("many",I n)],.dt (aV us)]):=by
  rw[k1,O3];rfl
 have o2:objOf "Web" (M++[.obj "Web" [("many",I n)],.dt (aV us)]) (.c M.length)=some (M.length,([("many",I n)]:List (Str×CD))):=yZ;have p2:wF "ties" (.d (.tuple (cZ vs))) ([("many",I n)]:List (Str×CD))=([("many",I n),("ties",.d (.tuple (cZ vs)))]:List (Str×CD)):=rfl;have s2:(M++[Cell.obj "Web" [("many",I n)],.dt (aV us)]).set M.length (.obj "Web" [("many",I n),("ties",.d (.tuple (cZ vs)))])=M++[.obj "Web" [("many",I n),("ties",.d (.tuple (cZ vs)))],.dt (aV us)]:=yJ;have o3:∀L,objOf "Web" (M++(.obj "Web" [("many",I n),("ties",.d (.tuple (cZ vs)))]::L)) (.c M.length)=some (M.length,([("many",I n),("ties",.d (.tuple (cZ vs)))]:List (Str×CD))):=fun L=>yZ;have lk:List.lookup ("ties":Str) [("many",I n),("ties",.d (.tuple (cZ vs)))]=some (.d (.tuple (cZ vs))):=rfl
 have it:aW (pG "Web" "ties" (aD 0)) [some (.c M.length),some (I n),some (.d (.list (bM us)))] (M++[.obj "Web" [("many",I n),("ties",.d (.tuple (cZ vs)))],.dt (aV us)])=some ((bM (vs.filter big)).map .d,M++[.obj "Web" [("many",I n),("ties",.d (.tuple (cZ vs)))],.dt (aV us)]):=by
  have:pG "Web" "ties" (aD 0) [some (.c M.length),some (I n),some (.d (.list (bM us)))] (M++[.obj "Web" [("many",I n),("ties",.d (.tuple (cZ vs)))],.dt (aV us)])=some (.d (.tuple (cZ vs)),M++[.obj "Web" [("many",I n),("ties",.d (.tuple (cZ vs)))],.dt (aV us)]):=by
   simp![pG,o3,lk]
  unfold aW;rw[this];rfl
 have fl:(vs.filter big).length<=vs.length:=J6 ..;have lv:vs.length<64:=by rw[pm.length_eq];exact h64
 have nv:(vs.map Tie.key).Nodup:=(pm.map Tie.key).nodup_iff.mpr nd;have ln:(M++[Cell.obj "Web" [("many",I n),("ties",.d (.tuple (cZ vs)))],.dt (aV us)]).length=M.length+2:=by rw[B8];rfl
 have wc:=CK (N:=M++[.obj "Web" [("many",I n),("ties",.d (.tuple (cZ vs)))],.dt (aV us)]) (vs.filter big) [] none none none (by rw[List.nil_append];exact EU nv) (by simp only[List.length_nil];omega);rw[List.nil_append]at wc
 have dc:jW [some (.c M.length),some (I n),some (.d (.list (bM us)))] (M++[.obj "Web" [("many",I n),("ties",.d (.tuple (cZ vs)))],.dt (aV us)])=some (.c (M.length+2),M++[.obj "Web" [("many",I n),("ties",.d (.tuple (cZ vs)))],.dt (aV us),.dt (aV (vs.filter big))]):=by
  unfold jW fDc;rw[it,A2];dsimp only;rw[show kH [none,none,none] [some (CD.c M.length),some (I n),some (.d (.list (bM us)))]=[none,none,none]from rfl,show(M++[Cell.obj "Web" [("many",I n),("ties",CD.d (.tuple (cZ vs)))],.dt (aV us)]++[Cell.dt []])=M++[Cell.obj "Web" [("many",I n),("ties",CD.d (.tuple (cZ vs)))],.dt (aV us)]++[Cell.dt (aV [])]from rfl,wc,A2,ln,O3];rfl
 have p3:wF "weights" (.c (M.length+2)) ([("many",I n),("ties",.d (.tuple (cZ vs)))]:List (Str×CD))=([("many",I n),("ties",.d (.tuple (cZ vs))),("weights",.c (M.length+2))]:List (Str×CD)):=rfl;have s3:(M++[Cell.obj "Web" [("many",I n),("ties",.d (.tuple (cZ vs)))],.dt (aV us),.dt (aV (vs.filter big))]).set M.length (.obj "Web" [("many",I n),("ties",.d (.tuple (cZ vs))),("weights",.c (M.length+2))])=M++QA M.length n us vs:=yJ;have q0:([]:List (Str×CD)).length<1000:=by decide
 have q1:([("many",I n)]:List (Str×CD)).length<1000:=by show 1<1000;decide
 have q2:([("many",I n),("ties",.d (.tuple (cZ vs)))]:List (Str×CD)).length<1000:=by show 2<1000;decide
 simp![dU,mH,w1,c1,c2,xR,o1,s1,k1,o2,p2,s2,dc,o3,p3,s3,if_true,if_pos q0,if_pos q1,if_pos q2,show(0:Nat)<1000 from by decide,show(0+1:Nat)<1000 from by decide,show(1:Nat)<1000 from by decide,show(2:Nat)<1000 from by decide,show(0+1+1:Nat)<1000 from by decide]
noncomputable abbrev Inn(n:Nat)(p:Int):Prop:=0<=p/\p<n
theorem yM{α:Type}{xs:List α}{k:Nat}{x:α}(h:xs[k]?=some x):atI xs (k:Int)=some x:=by
 have hk:k<xs.length:=(List.getElem?_eq_some_iff.mp h).1;unfold atI ixN;rw[A4 (Int.natCast_nonneg k),A4 (by omega),A2,J7,h]
theorem bC{f g:SF}{γ':Ga}(h:f γ M=some (.nx γ',M')):bB f g γ M=g γ' M':=by
 unfold bB;rw[h,A2]
theorem dA{i:Nat}{x:CD}(h:f γ M=some (x,M')):bI f (hName i) γ M=some (.nx (γ.set i (some x)),M'):=by
 unfold bI;rw[h,A2];rfl
theorem nW{ps N:Nat}{b:SF}{x:CD}(h:xs.length=ps)(hb:b (xs.map some++List.replicate (N-xs.length) none) M=some (.rt x,M')):fnF ps N b xs M=some (x,M'):=by
 unfold fnF;rw[A4 h,hb,A2]
theorem rJ{f:AF}{g:GF}{b:SF}{M1:Sto}{r:Option (Out×Sto)}(h:f γ M=some (xs,M1))(hb:jR g b xs γ M1=r):qO f g b γ M=r:=by
 unfold qO;rw[h,A2];exact hb
theorem qD{g:GF}{b:SF}{x:CD}{γ1 γ2:Ga}{M1 M2:Sto}(h:g x γ M=some (γ1,M1))(hb:b γ1 M1=some (.nx γ2,M2)):jR g b (x::xs) γ M=jR g b xs γ2 M2:=by
 conv=>lhs;unfold jR
 rw[h,A2];dsimp only;rw[hb,A2]
theorem VE{xs:List PyData}(hl:xs.length+ys.length<=1000):dM (.d (.tuple xs)) (.d (.tuple ys)) M=some (.d (.tuple (xs++ys)),M):=by
 cases xs with
 |nil=>rfl
 |cons x xs=>
  have h:(x::xs:List PyData)≠[]/\(x::xs).length+ys.length<=sizeLine:=⟨by simp,sz hl⟩;show(if (x::xs:List PyData)≠[]/\(x::xs).length+ys.length<=sizeLine then some (CD.d (.tuple (x::xs++ys)),M)else none)=_;rw[A4 h]
theorem zE{α:Type}{ds:List α}{k m:Int}(hm:0<m)(hl:(ds.length:Int)=m):∃d,atI ds (k % m)=some d/\d∈ds:=by
 have h1:=C1 k (show m≠0 by omega);have h2:=B6 k hm;have hk:(k % m).toNat<ds.length:=by omega
 obtain⟨q,hq⟩:∃q:Nat,k % m=(q:Nat):=⟨(k % m).toNat,by omega⟩;rw[hq]at hk ⊢;rw[J7]at hk;exact⟨ds[q],yM (B9 hk),O8 hk⟩
noncomputable abbrev cI(xs:List Int):Cell:=.lst (xs.map fun i=>I i)
noncomputable def Li(M:Sto)(c:Nat)(xs:List Int):Prop:=M[c]?=some (cI xs)
structure Oth(c:Nat)(M M':Sto):Prop where
 len:M'.length=M.length
 at_:∀i,i≠c->M'[i]?=M[i]?
theorem Li.lt{xs:List Int}(h:Li M c xs):c<M.length:=(List.getElem?_eq_some_iff.mp h).1
theorem Li.set{xs ys:List Int}(h:Li M c xs):Li (M.set c (cI ys)) c ys/\Oth c M (M.set c (cI ys)):=
 ⟨by unfold Li;rw[D9 h.lt],by rw[L9],fun i hi=>by rw[J0 (F5 hi)]⟩
theorem Li.oth{xs:List Int}(h:Li M c xs)(o:Oth d M M')(ne:c≠d):Li M' c xs:=by unfold Li;rw[o.at_ c ne];exact h
theorem Li.app{xs:List Int}(h:Li M c xs):Li (M++L) c xs:=by unfold Li;rw[List.getElem?_append_left h.lt];exact h
theorem Li.ty{xs:List Int}(h:Li M c xs):tyB "list" M (.c c)=true:=by
 unfold Li at h;simp only[tyB,h];decide
theorem Li.ln{xs:List Int}(h:Li M c xs):BQ [.c c] M=some (I xs.length,M):=by
 unfold Li at h;simp only[BQ,h,List.length_map]
theorem aCT{α:Type}{xs:List α}(h:Inn xs.length p):∃z,atI xs p=some z/\z∈xs:=by
 obtain⟨q,rfl⟩:∃q:Nat,p=(q:Nat):=⟨p.toNat,by omega⟩;have hk:q<xs.length:=by omega
 exact⟨xs[q],yM (B9 hk),O8 hk⟩
theorem Li.ix{xs:List Int}(h:Li M c xs)(hp:Inn xs.length p):∃z,ixF (.c c) (I p) M=some (I z,M):=by
 obtain⟨z,h1,h2⟩:=aCT (xs:=xs.map fun i=>I i) (p:=p) (by rw[A1];exact hp);obtain⟨y,_,rfl⟩:=List.mem_map.mp h2;refine⟨y,?_⟩;unfold Li at h;simp only[ixF,h,h1,Option.bind_some]
theorem Li.put{xs:List Int}(h:Li M c xs)(hp:Inn xs.length p):∃ys,ys.length=xs.length/\yN (.c c) (I p) (I z) M=some (M.set c (cI ys)):=by
 obtain⟨q,rfl⟩:∃q:Nat,p=(q:Nat):=⟨p.toNat,by omega⟩;refine⟨xs.set q z,by rw[L9],?_⟩
 have hn:ixN (xs.map fun i=>I i).length (q:Int)=some q:=by
  unfold ixN;rw[A4 (Int.natCast_nonneg q),A4 (by rw[A1];omega),J7]
 unfold Li at h;simp only[yN,h,hn,Option.bind_some,cI,List.map_set]
theorem Li.push{xs:List Int}(h:Li M c xs)(hl:xs.length<1000):fT (.c c) [I z] M=some (.d .none,M.set c (cI (xs++[z]))):=by
 have l:(xs.map fun i=>I i).length<sizeLine:=by rw[A1,E7];omega
 unfold Li at h;simp only[fT,h,if_pos l,cI,List.map_append,List.map_singleton]
theorem Li.pop{xs:List Int}(h:Li M c (xs++[z])):eO (.c c) [] M=some (I z,M.set c (cI xs)):=by
 have e1:((xs++[z]).map fun i=>I i)[((xs++[z]).map fun i=>I i).length-1]?=some (I z):=by
  rw[A1,B8,E2,Nat.add_sub_cancel,D2,D7 (A9 _),O4];rfl
 have e2:((xs++[z]).map fun i=>I i).dropLast=xs.map fun i=>I i:=by
  rw[E4,List.map_singleton,List.dropLast_concat]
 unfold Li at h;simp only[eO,h,e1,e2,Option.bind_some]
noncomputable def Rn(x:Int):Prop:=0<=x/\x<2147483647
theorem OU(h:0<b)(hb:b<=2147483647):Rn (y % b):=⟨C1 _ (by omega),Int.lt_of_lt_of_le (B6 _ h) hb⟩
noncomputable def Dk(M:Sto)(c m:Nat):Prop:=∃xs,Li M c xs/\m<=xs.length/\∀x∈xs,Rn x
theorem Dk.app(h:Dk M c m):Dk (M++L) c m:=let⟨xs,a,b⟩:=h;⟨xs,a.app,b⟩
theorem Dk.pop(h:Dk M c (m+1)):∃z M',eO (.c c) [] M=some (I z,M')/\Dk M' c m/\Oth c M M'/\Rn z:=by
 obtain⟨xs,a,b,r⟩:=h;rcases List.eq_nil_or_concat xs with rfl|⟨ys,z,rfl⟩
 .simp at b
 .rw[List.concat_eq_append]at a b r;rw[B8,E2]at b;exact⟨z,_,a.pop,⟨ys,(a.set).1,by omega,fun x hx=>r x (L0 _ hx)⟩,(a.set).2,r z (by simp)⟩
theorem Dk.ty(h:Dk M c m):tyB "list" M (.c c)=true:=let⟨_,a,_⟩:=h;a.ty
theorem BB(lo:Int)(n:Nat):jO lo (n+1)=I lo::jO (lo+1) n:=by
 unfold jO;rw[List.range_succ_eq_map,C0,D5];refine congr (L5 List.cons ?_) (S1 fun k _=>?_)
 .show CD.d (.int (lo+((0:Nat):Int)))=I lo;rw[show lo+((0:Nat):Int)=lo by omega]
 .show CD.d (.int (lo+((k+1:Nat):Int)))=.d (.int (lo+1+(k:Nat)));rw[show lo+((k+1:Nat):Int)=lo+1+(k:Nat)by omega]
theorem QD(h:i.natAbs<2 ^ 64):kB i j=true:=by unfold kB;rw[C8 h];rfl
theorem mul_r(h:j.natAbs<2 ^ 64):kB i j=true:=by unfold kB;rw[C8 h,Bool.or_true];rfl
theorem nab(h0:0<=z)(h1:z<b)(hb:b<=2 ^ 62):z.natAbs<2 ^ 64:=by omega
noncomputable abbrev GD(s many:CD)(r d:Nat)(o:Int)(k at_ one:Option CD):Ga:=[some s,some many,some (.c r),some (I o),some (.c d),k,at_,one]
theorem JL{s many:CD}{r:Nat}{o k:Int}{xs ds:List Int}{g6 g7:Option CD}(hr:Li M r xs)(hd:Li M d ds)(ne:r≠d)(x0:0<xs.length)(hl:ds.length<1000)(k0:0<=k)(k1:k<1000)(rd:∀x∈ds,Rn x):
 ∃xs' ds' g6' g7' M',dD (GD s many r d o (some (I k)) g6 g7) M=some (.nx (GD s many r d o (some (I k)) g6' g7'),M')/\Li M' r xs'/\Li M' d ds'/\xs'.length=xs.length/\ds'.length=ds.length+1/\∀x∈ds',Rn x:=by
 have rapp:∀y,Rn y->∀x∈ds++[y],Rn x:=fun y hy x hx=>by
  rcases List.mem_append.mp hx with h|h
  .exact rd x h
  .rw[List.mem_singleton.mp h];exact hy
 have ln:=hr.ln;have p1:=C1 k (show(xs.length:Int)≠0 by omega);have p2:=B6 k (show(0:Int)<xs.length by omega);obtain⟨z,ix⟩:=hr.ix (p:=k % xs.length) ⟨p1,p2⟩;have m1:mF k xs.length=true:=fY (by omega);have m2:∀y,mF y 1000000=true:=fun y=>fY (by decide);have m3:∀y,mF y 2147483629=true:=fun y=>fY (by decide);have m4:∀y,mF y 2147483647=true:=fun y=>fY (by decide);have m5:∀y,mF y 4=true:=fun y=>fY (by decide);have dv:∀y,rT y 1000000=true:=fun y=>sZ (by decide) (wsm (by decide) (by decide));obtain⟨ys,yl,st⟩:=hr.put (p:=k % xs.length) (z:=z / 1000000) ⟨p1,p2⟩;generalize (xs.length:Int)=J at ln p1 p2 ix m1 st;cases h:(o==0)with
 |true=>
  obtain⟨c,hc,hcm⟩:=zE (ds:=([.int 48271,.int 69621,.int 39373,.int 40692]:List PyData)) (k:=k) (m:=4) (by decide) rfl
  obtain⟨cv,rfl,hcv⟩:∃v:Int,c=.int v/\v.natAbs<2 ^ 64:=by
   simp only[List.mem_cons,List.not_mem_nil,or_false]at hcm;rcases hcm with rfl|rfl|rfl|rfl<;>exact⟨_,rfl,by decide⟩
  have xk:ixF (.d (.list [.int 48271,.int 69621,.int 39373,.int 40692])) (I (k % 4)) M=some (I cv,M):=by
   show(atI [PyData.int 48271,.int 69621,.int 39373,.int 40692] (k % 4)).bind _=_;rw[hc];rfl
  have q1:kB k k=true:=QD (nab k0 (b:=1000) k1 (by decide));have q2:kB (k*k) 16807=true:=mul_r (by decide);have q3:kB 3 k=true:=QD (by decide);have q4:∀y,kB y cv=true:=fun y=>mul_r hcv;have a1:∀i j:Int,dM (I i) (I j) M=some (I (i+j),M):=fun i j=>rfl;have q5:∀y,kB (y % 2147483647) (y % 2147483647)=true:=fun y=>QD (nab (C1 _ (by decide)) (B6 _ (by decide)) (by decide));generalize hv:(z+k*k*16807+3*k) % 2147483629=v1;have pu:=fun y=>hd.push (z:=y) hl;refine⟨xs,ds++[(v1*cv+7) % 2147483647*((v1*cv+7) % 2147483647) % 2147483629],some (I (k % J)),some (I ((v1*cv+7) % 2147483647*((v1*cv+7) % 2147483647) % 2147483629)),_,?_,hr.oth (hd.set).2 ne,(hd.set).1,rfl,by rw[B8,E2],rapp _ (OU (by decide) (by decide))⟩;simp![dD,ln,m1,m2,ix,AL,h,q1,q2,q3,a1,m3,hv,vR,m5,xk,q4,m4,q5,aY,hd.ty,pu]
 |false=>
  have hr':=hr.set (ys:=ys);have hd':=hd.oth hr'.2 (F5 ne);have pu:=hd'.push (z:=z % 1000000) hl;refine⟨ys,ds++[z % 1000000],some (I (k % J)),some (I (z % 1000000)),_,?_,hr'.1.oth (hd'.set).2 ne,(hd'.set).1,yl,by rw[B8,E2],rapp _ (OU (by decide) (by decide))⟩;simp![dD,ln,m1,m2,ix,AL,h,dv,st,aY,hd'.ty,pu]
theorem wU{s many:CD}{r d:Nat}{o:Int}:∀(m:Nat)(k:Int)(M:Sto)(xs ds:List Int)(g5 g6 g7:Option CD),Li M r xs->Li M d ds->r≠d->0<xs.length->0<=k->k+m<900->ds.length+m<900->(∀x∈ds,Rn x)->
 ∃ds' g5' g6' g7' M',jR (hName 5) dD (jO k m) (GD s many r d o g5 g6 g7) M=some (.nx (GD s many r d o g5' g6' g7'),M')/\Li M' d ds'/\ds'.length=ds.length+m/\∀x∈ds',Rn x
 |0=>fun k M xs ds g5 g6 g7 hr hd ne x0 k0 _ _ rd=>⟨ds,g5,g6,g7,M,rfl,hd,rfl,rd⟩
 |m+1=>fun k M xs ds g5 g6 g7 hr hd ne x0 k0 hk hl rd=>by
  obtain⟨xs1,ds1,a6,a7,M1,t,h1,h2,h3,h4,r1⟩:=JL (s:=s) (many:=many) (o:=o) (g6:=g6) (g7:=g7) hr hd ne x0 (by omega) k0 (show k<1000 by omega) rd;obtain⟨ds',b5,b6,b7,M',l,h5,h6,r2⟩:=wU (s:=s) (many:=many) (o:=o) m (k+1) M1 xs1 ds1 (some (I k)) a6 a7 h1 h2 ne (by omega) (by omega) (by omega) (by omega) r1;refine⟨ds',b5,b6,b7,M',?_,h5,by omega,r2⟩;rw[BB,qD (show hName 5 (I k) (GD s many r d o g5 g6 g7) M=some (GD s many r d o (some (I k)) g6 g7,M)from rfl) t];exact l
theorem tW(n:Nat)(M:Sto):∀ns:List Int,mT n M (ns.map fun i=>I i)=some (ns.map .int)
 |[]=>by unfold mT;rfl
 |i::ns=>by
  rw[C0];unfold mT;rw[EB,A2,tW n M ns];rfl
theorem rZ:∀ns:List Int,PyData.canLayAll0 (ns.map .int)=true
 |[]=>rfl
 |n::ns=>by show(true&&PyData.canLayAll0 (ns.map .int))=true;rw[rZ ns];rfl
theorem uJ:∀ns:List Int,PyData.depthAll (ns.map .int)=0
 |[]=>rfl
 |n::ns=>by show max 0 (PyData.depthAll (ns.map .int))=0;rw[uJ ns];rfl
theorem shaped_ints(ns:List Int):SeqAt.shaped (.list (ns.map .int))=true:=by
 unfold SeqAt.shaped;have e1:PyData.canLay0 (.list (ns.map .int))=true:=rZ ns;have e2:PyData.depth (.list (ns.map .int))=1:=by show PyData.depthAll (ns.map .int)+1=1;rw[uJ]
 rw[e1,e2];rfl
theorem VD(h:Li M c ns):eqY false (.c c) (.d (.list [])) M=some (B ns.isEmpty,M):=by
 have s1:snap 5 M (.c c)=some (.list (ns.map .int)):=by
  unfold Li at h;unfold snap;rw[h];show(mT 4 M (ns.map fun i=>I i)).bind _=_;rw[tW];rfl
 have s2:snap 5 M (.d (.list []))=some (.list []):=by rw[EB]
 show eqC false (.c c) (.d (.list [])) M=_;unfold eqC;rw[s1,A2,s2,A2,shaped_ints,show SeqAt.shaped (.list [])=true from rfl];cases ns<;>rfl
theorem aCz{x:CD}(sm:fW J=true):fL (aB (aD 1) aH) (x::some (I J)::γ) M=some (jO 0 J.toNat,M):=by
 simp![fL,sm]
theorem YZ(ns:List Int):∃c M,iY [.d (.list (ns.map .int)),I 140] []=some (.c c,M)/\Dk M c 140:=by
 have s0:(0:Nat)<=sizeLine:=F8 _;have s1:(1:Nat)<=sizeLine:=by decide
 have st:∀(r:Nat)(M:Sto)(xs:List Int),Li M r xs->0<xs.length->∃c M',(bB (bI (fOp bD (fOp ixF (aD 2) (fC (.int 0))) (fC (.int 2))) (hName 3))
 (bB (bI (fOp bS (fOp ixF (aD 2) (fC (.int 0))) (fC (.int 2))) (hSub (aD 2) (fC (.int 0)) yN))
 (bB (bI (qP aH) (hName 4))
 (bB (qO (fL (aB (aD 1) aH)) (hName 5) dD)
 (bB (oF (aY "list" iF (aD 4) aH))
 (cL (aD 4))))))) [some (.d (.list (ns.map .int))),some (I 140),some (.c r),none,none,none,none,none] M=some (.rt (.c c),M')/\Dk M' c 140:=by
  intro r M xs hr x0;obtain⟨z,ix⟩:=hr.ix (p:=0) ⟨by decide,by omega⟩;have m2:∀y,mF y 2=true:=fun y=>fY (by decide);have d2:∀y,rT y 2=true:=fun y=>sZ (by decide) (wsm (by decide) (by decide));obtain⟨ys,yl,pt⟩:=hr.put (p:=0) (z:=z / 2) ⟨by decide,by omega⟩;have hr1:=(hr.set (ys:=ys)).1;have hr2:=hr1.app (L:=[Cell.lst []]);have ml:(M.set r (cI ys)).length=M.length:=by rw[L9]
  have hd:Li (M.set r (cI ys)++[Cell.lst []]) M.length []:=by
   unfold Li;rw[<- ml,D7 (A9 _),O4];rfl
  have rl:=hr.lt;obtain⟨ds,a5,a6,a7,M',lp,hd',hl,rr⟩:=wU (s:=.d (.list (ns.map .int))) (many:=I 140) (o:=z % 2) 140 0 _ ys [] none none none hr2 hd (by omega) (by omega) (by decide) (by decide) (by decide) (fun x hx=>by simp at hx);have rg:fL (aB (aD 1) aH) (GD (.d (.list (ns.map .int))) (I 140) r M.length (z % 2) none none none) (M.set r (cI ys)++[Cell.lst []])=some (jO 0 140,M.set r (cI ys)++[Cell.lst []]):=aCz (J:=140) (by decide);have sf:=rJ rg lp
  have rv:iF (.c M.length) [] M'=some (.d .none,M'.set M.length (cI ds.reverse)):=by
   have:=hd';unfold Li at this;simp only[iF,this];rw[cI,List.map_reverse]
  refine⟨M.length,M'.set M.length (cI ds.reverse),?_,ds.reverse,(hd'.set).1,by rw[J2,hl];exact A9 _,fun x hx=>rr x (List.mem_reverse.mp hx)⟩
  have a1:bI (fOp bD (fOp ixF (aD 2) (fC (.int 0))) (fC (.int 2))) (hName 3) [some (.d (.list (ns.map .int))),some (I 140),some (.c r),none,none,none,none,none] M=some (.nx [some (.d (.list (ns.map .int))),some (I 140),some (.c r),some (I (z % 2)),none,none,none,none],M):=by
   simp![ix,m2]
  have a2:bI (fOp bS (fOp ixF (aD 2) (fC (.int 0))) (fC (.int 2))) (hSub (aD 2) (fC (.int 0)) yN) [some (.d (.list (ns.map .int))),some (I 140),some (.c r),some (I (z % 2)),none,none,none,none] M=some (.nx [some (.d (.list (ns.map .int))),some (I 140),some (.c r),some (I (z % 2)),none,none,none,none],M.set r (cI ys)):=by
   simp![ix,d2,pt]
  have a3:bI (qP aH) (hName 4) [some (.d (.list (ns.map .int))),some (I 140),some (.c r),some (I (z % 2)),none,none,none,none] (M.set r (cI ys))=some (.nx (GD (.d (.list (ns.map .int))) (I 140) r M.length (z % 2) none none none),M.set r (cI ys)++[Cell.lst []]):=by
   simp![s0,ml]
  rw[bC a1,bC a2,bC a3,bC sf];simp![aY,hd'.ty,rv]
 have l0:xA [.d (.list (ns.map .int))] []=some (.c 0,[cI ns]):=by
  show some (CD.c 0,[]++[Cell.lst ((ns.map PyData.int).map .d)])=_;rw[D5];rfl
 have h0:Li [cI ns] 0 ns:=rfl;have eq:=VD h0
 have b1:bI (aK xA (aB (aD 0) aH)) (hName 2) [some (.d (.list (ns.map .int))),some (I 140),none,none,none,none,none,none] []=some (.nx [some (.d (.list (ns.map .int))),some (I 140),some (.c 0),none,none,none,none,none],[cI ns]):=by
  simp![l0]
 cases he:ns.isEmpty with
 |true=>
  rw[he]at eq;obtain⟨c,M',h1,h2⟩:=st 1 ([cI ns]++[cI [4]]) [4] rfl (by decide);refine⟨c,M',nW rfl ?_,h2⟩
  have b2:sIf (gB (fOp (eqY false) (aD 2) (cK aH))) (bI (qP (aB (fC (.int 4)) aH)) (hName 2)) eK [some (.d (.list (ns.map .int))),some (I 140),some (.c 0),none,none,none,none,none] [cI ns]=some (.nx [some (.d (.list (ns.map .int))),some (I 140),some (.c 1),none,none,none,none,none],[cI ns]++[cI [4]]):=by
   simp![s0,s1,eq];rfl
  unfold jB;show bB _ _ [some (.d (.list (ns.map .int))),some (I 140),none,none,none,none,none,none] []=_;rw[bC b1,bC b2];exact h1
 |false=>
  rw[he]at eq;obtain⟨c,M',h1,h2⟩:=st 0 [cI ns] ns rfl (by cases ns with|nil=>cases he|cons _ _=>simp);refine⟨c,M',nW rfl ?_,h2⟩
  have b2:sIf (gB (fOp (eqY false) (aD 2) (cK aH))) (bI (qP (aB (fC (.int 4)) aH)) (hName 2)) eK [some (.d (.list (ns.map .int))),some (I 140),some (.c 0),none,none,none,none,none] [cI ns]=some (.nx [some (.d (.list (ns.map .int))),some (I 140),some (.c 0),none,none,none,none,none],[cI ns]):=by
   simp![s0,s1,eq]
  unfold jB;show bB _ _ [some (.d (.list (ns.map .int))),some (I 140),none,none,none,none,none,none] []=_;rw[bC b1,bC b2];exact h1
theorem Dk.le{n:Nat}(h:Dk M c m)(l:n<=m):Dk M c n:=let⟨xs,a,b,r⟩:=h;⟨xs,a,C4 l b,r⟩
theorem Dk.lt(h:Dk M c m):c<M.length:=let⟨_,a,_⟩:=h;a.lt
theorem Dk.put{j:Nat}{x:Cell}(h:Dk M c m)(n:j≠c):Dk (M.set j x) c m:=let⟨xs,a,b⟩:=h;⟨xs,by unfold Li;rw[J0 n];exact a,b⟩
theorem pop_at(hv:γ[v]?=some (some (.c c)))(ty:tyB "list" M (.c c)=true)(h:eO (.c c) [] M=some (I z,M')):aY "list" eO (aD v) aH γ M=some (I z,M'):=by
 simp only[aY,aD,hv,aH,Option.bind_some,ty,if_true,h]
theorem tG{g:GF}{b:SF}{n:Nat}{Inv:Nat->Ga->Sto->Prop}(step:∀k,k<n->∀γ M,Inv k γ M->∃γ1 γ' M',g (I (k:Nat)) γ M=some (γ1,M)/\b γ1 M=some (.nx γ',M')/\Inv (k+1) γ' M'):
 ∀(m k:Nat)(γ:Ga)(M:Sto),k+m=n->Inv k γ M->∃γ' M',jR g b (jO (k:Nat) m) γ M=some (.nx γ',M')/\Inv n γ' M'
 |0=>fun k γ M h i=>⟨γ,M,rfl,by rw[<- h];exact i⟩
 |m+1=>fun k γ M h i=>by
  obtain⟨γ1,γ2,M1,e1,e2,i1⟩:=step k (by omega) γ M i;obtain⟨γ',M',e3,i2⟩:=tG step m (k+1) γ2 M1 (by omega) i1;refine⟨γ',M',?_,i2⟩;rw[BB,qD e1 e2,show((k:Nat):Int)+1=((k+1:Nat):Int)by omega];exact e3
theorem FG{g:GF}{c:TF}{e:EF}{X E:CD->Prop}{Inv:Nat->Ga->Sto->Prop}
 (step:∀m x γ M,X x->Inv (m+1) γ M->∃γ1,g x γ M=some (γ1,M)/\∃b M2,c γ1 M=some (b,M2)/\(b=false->Inv m γ1 M2)/\(b=true->∃y M3,e γ1 M2=some (y,M3)/\E y/\Inv m γ1 M3)):
 ∀(xs:List CD)(γ:Ga)(M:Sto),(∀x∈xs,X x)->Inv xs.length γ M->∃ys γ' M',lcF g c e xs γ M=some (ys,M')/\(∀y∈ys,E y)/\ys.length<=xs.length/\Inv 0 γ' M'
 |[]=>fun γ M _ i=>⟨[],γ,M,rfl,fun y h=>by simp at h,A9 _,i⟩
 |x::xs=>fun γ M hx i=>by
  obtain⟨γ1,e1,b,M2,e2,hf,ht⟩:=step _ x γ M (hx x B3) i;cases b with
  |false=>
   obtain⟨ys,γ',M',e3,h1,h2,h3⟩:=FG step xs γ1 M2 (fun y hy=>hx y (B1 _ hy)) (hf rfl);refine⟨ys,γ',M',?_,h1,Nat.le_succ_of_le h2,h3⟩;simp only[lcF,e1,Option.bind_some,e2,Bool.false_eq_true,if_false,e3]
  |true=>
   obtain⟨y,M3,e4,hy,i3⟩:=ht rfl;obtain⟨ys,γ',M',e3,h1,h2,h3⟩:=FG step xs γ1 M3 (fun y hy=>hx y (B1 _ hy)) i3;refine⟨y::ys,γ',M',?_,fun z hz=>?_,Nat.succ_le_succ h2,h3⟩
   .simp only[lcF,e1,Option.bind_some,e2,if_true,e4,e3]
   .rcases List.mem_cons.mp hz with rfl|hz
    .exact hy
    .exact h1 z hz
theorem RV(lo:Int)(n:Nat):(jO lo n).length=n:=by unfold jO;rw[A1,List.length_range]
theorem FJ(h:fa γ M=some ([I J],M))(sm:fW J=true):fL fa γ M=some (jO 0 J.toNat,M):=by
 simp only[fL,h,Option.bind_some,sm,if_true]
theorem FW(h0:-1000<=i)(h1:i<=1000):fW i=true:=by
 unfold fW;rw[B0];exact⟨C8 (by omega),C8 (by omega)⟩
theorem iP{cap:List (Option Nat)}{f:AF}{g:GF}{c:TF}{e:EF}{M1 M2:Sto}(it:f γ M=some (xs,M1))(hl:xs.length<=1000)(l:lcF g c e xs (kH cap γ) M1=some (ds.map .d,M2))(hy:ds.length<=1000):fLc cap f g c e γ M=some (.d (.list ds),M2):=KH it (sz hl) l (sz hy)
theorem WL{c:TF}{a b:SF}(h:c γ M=some (true,M')):sIf c a b γ M=a γ M':=by simp only[sIf,h,Option.bind_some,if_true]
theorem yB{c:TF}{a b:SF}(h:c γ M=some (false,M')):sIf c a b γ M=b γ M':=by simp only[sIf,h,Option.bind_some,Bool.false_eq_true,if_false]
noncomputable abbrev S(x:Str):CD:=.d (.str x)
noncomputable def sI(i:Int):Str:=toString i
noncomputable def Bd(i:Int):Prop:=i.natAbs<2 ^ 1900
theorem Bd.of(h0:0<=i)(h:i<2 ^ 200):Bd i:=by
 show i.natAbs<2 ^ 1900;have h1:i.natAbs<2 ^ 200:=by omega
 exact B5 h1 (Nat.pow_le_pow_right (by decide) (by decide))
theorem dW(h:Bd i):(sI i).length<=2000:=GZ h
theorem iT(h:Bd i):gL [I i] M=some (S (sI i),M):=by
 have:i.natAbs.log2<1920:=F6 (AA h) (by decide);simp only[gL,if_pos this];rfl
theorem cW(x y:Str):(x++y).length=x.length+y.length:=Str.length_append x y
theorem szl:sizeLine=16777216:=E7
theorem oN{x y:Str}(h:x.length+y.length<=sizeLine):iQ (S x) (S y) M=some (S (x++y),M):=by
 have e:dM (S x) (S y) M=none:=rfl;simp only[iQ,vW,e,SW,if_pos h]
noncomputable def kI(a b:Int):Str:=if (b==1)=true then sI a else sI a++"/"++sI b
theorem sl1:(("/":Str)).length=1:=by decide
theorem sp1:((" ":Str)).length=1:=by decide
theorem vN(ha:Bd a)(hb:Bd b):(kI a b).length<=4001:=by
 have h1:=dW ha;have h2:=dW hb;unfold kI;split
 .omega
 .rw[cW,cW,sl1];omega
theorem KG{k:Bool}(ha:Bd a)(hb:Bd b):eQ [.d (P k a b)] M=some (S (kI a b),M):=by
 have h1:=dW ha;have h2:=dW hb;have z1:iQ (S (sI a)) (S "/") M=some (S (sI a++"/"),M):=oN (by rw[sl1,szl];omega);have z2:iQ (S (sI a++"/")) (S (sI b)) M=some (S (sI a++"/"++sI b),M):=oN (by rw[cW,sl1,szl];omega);cases c:(b==1)with
 |true=>simp![eQ,gA,NQ,RK,AL,c,iT ha,kI,if_true]
 |false=>simp![eQ,gA,NQ,RK,AL,c,iT ha,iT hb,z1,z2,kI,Bool.false_eq_true,if_false]
theorem NY(h:Bd i):CP (I i)=some (sI i):=by
 have:i.natAbs.log2<1920:=F6 (AA h) (by decide);simp only[CP,if_pos this];rfl
theorem aBX{x:Str}(h:x.length<=sizeLine):CP (S x)=some x:=by simp only[CP,if_pos h]
theorem vX{k:Bool}(ha:Bd a)(hb:Bd b):eN [.d (P k a b)] M=some (S (kI a b),M):=by
 have h1:=dW ha;have h2:=dW hb;have u:vD 2 (bY (hName 1) (bY (hName 2) nR)) (.d (P k a b)) [some (.d (P k a b)),none,none] M=some ([some (.d (P k a b)),some (I a),some (I b)],M):=by cases k<;>rfl
 have l1:(Str.empty++sI a).length<=sizeLine:=by rw[O0,szl];omega
 have l2:(Str.empty++sI a++"/").length<=sizeLine:=by rw[O0,cW,sl1,szl];omega
 have l3:(Str.empty++sI a++"/"++sI b).length<=sizeLine:=by rw[O0,cW,cW,sl1,szl];omega
 cases c:(b==1)with
 |true=>simp![eN,fU,u,AL,c,iT ha,kI,if_true]
 |false=>
  simp![eN,fU,u,AL,c,hV,fB,yW,pY,NY ha,NY hb,l1,l2,l3,kI,Bool.false_eq_true,if_false,if_true];rw[O0]
noncomputable def qG(w:Str)(i j a b:Int):Str:=w++" "++sI i++" "++sI j++" "++kI a b
theorem kF(hw:w.length<=100)(hi:Bd i)(hj:Bd j)(ha:Bd a)(hb:Bd b):(qG w i j a b).length<=8200:=by
 have h1:=dW hi;have h2:=dW hj;have h3:=vN ha hb;unfold qG;rw[cW,cW,cW,cW,cW,cW,sp1];omega
theorem aCR(w x y z:Str):Txt.join " " [w,x,y,z]=w++" "++x++" "++y++" "++z:=by
 show Builtin.Str.glued " " [w,x,y,z]=_;rfl
theorem tR{k:Bool}(hw:w.length<=100)(hi:Bd i)(hj:Bd j)(ha:Bd a)(hb:Bd b):cP [S w,.d (R3 k (.int i) (.int j) (P k' a b))] M=some (S (qG w i j a b),M):=by
 have h1:=dW hi;have h2:=dW hj;have h3:=vN ha hb;obtain⟨x0,x1,x2⟩:=ix3 k (.int i) (.int j) (P k' a b) M;have nm:=KG (k:=k') (M:=M) ha hb
 have js:nH " " [w,sI i,sI j,kI a b]<=16777216:=by
  show([w,sI i,sI j,kI a b].map (·.length)).sum+4*(" ":Str).length<=_;rw[sp1];simp only[List.map_cons,List.map_nil,List.sum_cons,List.sum_nil];omega
 have sd:tJ [.str w,.str (sI i),.str (sI j),.str (kI a b)]=some [w,sI i,sI j,kI a b]:=rfl;have s4:(4:Nat)<=sizeLine:=by decide
 have jf:dC (S " ") [.d (.list [.str w,.str (sI i),.str (sI j),.str (kI a b)])] M=some (S (qG w i j a b),M):=by
  simp only[dC,sd,Option.bind_some,if_pos js,aCR];rfl
 have ty:tyB "str" M (S " ")=true:=rfl;have al:iS [S w,S (sI i),S (sI j),S (kI a b)]=some [.str w,.str (sI i),.str (sI j),.str (kI a b)]:=rfl;have ln:([PyData.str w,.str (sI i),.str (sI j),.str (kI a b)]:List PyData).length<=sizeLine:=s4;simp![cP,mN,aY,x0,x1,x2,iT hi,iT hj,nm,ty,al,s4,if_true,jf]
theorem DS{k:Bool}(hw:w.length<=100)(hi:Bd i)(hj:Bd j)(ha:Bd a)(hb:Bd b):eW [S w,.d (R3 k (.int i) (.int j) (P k' a b))] M=some (S (qG w i j a b),M):=by
 have h1:=dW hi;have h2:=dW hj;have h3:=vN ha hb;have at_:=vX (k:=k') (M:=M) ha hb;have u:vD 3 (bY (hName 2) (bY (hName 3) (bY (hName 4) nR))) (.d (R3 k (.int i) (.int j) (P k' a b))) [some (S w),some (.d (R3 k (.int i) (.int j) (P k' a b))),none,none,none] M=some ([some (S w),some (.d (R3 k (.int i) (.int j) (P k' a b))),some (I i),some (I j),some (.d (P k' a b))],M):=by cases k<;>rfl
 have f0:CP (S w)=some w:=aBX (by rw[szl];omega);have f3:CP (S (kI a b))=some (kI a b):=aBX (by rw[szl];omega);have l1:w.length<=sizeLine:=by rw[szl];omega
 have l2:(w++" ").length<=sizeLine:=by rw[cW,sp1,szl];omega
 have l3:(w++" "++sI i).length<=sizeLine:=by rw[cW,cW,sp1,szl];omega
 have l4:(w++" "++sI i++" ").length<=sizeLine:=by rw[cW,cW,cW,sp1,szl];omega
 have l5:(w++" "++sI i++" "++sI j).length<=sizeLine:=by rw[cW,cW,cW,cW,sp1,szl];omega
 have l6:(w++" "++sI i++" "++sI j++" ").length<=sizeLine:=by rw[cW,cW,cW,cW,cW,sp1,szl];omega
 have l7:(w++" "++sI i++" "++sI j++" "++kI a b).length<=sizeLine:=by rw[cW,cW,cW,cW,cW,cW,sp1,szl];omega
 have e0:Str.empty++w=w:=O0 w;simp![eW,pC,u,hV,fB,yW,pY,f0,NY hi,NY hj,at_,f3,e0,l1,l2,l3,l4,l5,l6,l7,if_true];rfl
theorem gY{α:Type}{e:EF}{M:Sto}(f:α->CD)(h:α->PyData):∀(xs:List α)(g:Option CD),(∀x∈xs,e [some (f x)] M=some (.d (h x),M))->lcF (hName 0) fF e (xs.map f) [g] M=some ((xs.map h).map .d,M)
 |[]=>fun _ _=>rfl
 |x::xs=>fun g he=>by
  have ih:=gY (M:=M) (e:=e) f h xs (some (f x)) fun y hy=>he y (B1 _ hy);have e1:=he x B3;rw[C0,C0,C0];show(hName 0 (f x) [g] M).bind _=_;rw[show hName 0 (f x) [g] M=some ([some (f x)],M)from rfl,A2];show(fF _ M).bind _=_;rw[show fF [some (f x)] M=some (true,M)from rfl,A2,A4 rfl,e1,A2];dsimp only;rw[ih,A2]
noncomputable def nl(l:Str):Str:=l++"\n"
noncomputable def Tx(ls:List Str):Str:=Txt.join "" (ls.map nl)
theorem nl1:(("\n":Str)).length=1:=by decide
theorem em0:(("":Str)).length=0:=by decide
theorem FR{n:Nat}:∀{ls:List Nat},(∀l∈ls,l<=n)->ls.sum<=ls.length*n
 |[]=>fun _=>by simp
 |l::ls=>fun h=>by
  have:=FR (n:=n) (ls:=ls) fun x hx=>h x (B1 _ hx);have h1:=h l B3;rw[List.sum_cons,C5,Nat.succ_mul];omega
theorem xN:∀ls:List Str,tJ (ls.map .str)=some ls
 |[]=>rfl
 |l::ls=>by
  show(tJ (ls.map .str)).bind _=_;rw[xN ls];rfl
theorem VF{ls:List Str}{n:Nat}(h:∀l∈ls,l.length<=n)(hn:ls.length*n+ls.length*sep.length<=16777216):dC (S sep) [.d (.list (ls.map .str))] M=some (S (Txt.join sep ls),M):=by
 have js:nH sep ls<=16777216:=by
  unfold nH
  have:=FR (n:=n) (ls:=ls.map (·.length)) fun x hx=>by
   obtain⟨l,hl,rfl⟩:=List.mem_map.mp hx;exact h l hl
  rw[A1]at this;omega
 simp only[dC,xN,Option.bind_some,if_pos js]
theorem kD{c:EF}{ls:List Str}{n:Nat}(hc:c γ M=some (.d (.list (ls.map .str)),M'))(h:∀l∈ls,l.length<=n)(hn:ls.length*n+ls.length*sep.length<=16777216):aY "str" dC (fC (.str sep)) (aB c aH) γ M=some (S (Txt.join sep ls),M'):=by
 have ty:tyB "str" M (S sep)=true:=rfl;have j:=VF (M:=M') h hn;simp![aY,ty,hc,j]
theorem nN{ls:List Str}(h:∀l∈ls,l.length<=100000)(hl:ls.length<=100):fE [.d (.list (ls.map .str))] M=some (S (Tx ls),M):=by
 have cp:iZ [some (.d (.list (ls.map .str)))] M=some (.d (.list ((ls.map nl).map .str)),M):=by
  unfold iZ
  have it:aW (aD 0) [some (.d (.list (ls.map .str)))] M=some (ls.map (fun l=>S l),M):=by
   simp![aW,bG,List.map_map];rfl
  refine iP it (by rw[A1];omega) ?_ (by rw[A1,A1];omega);rw[show kH [none] [some (CD.d (.list (ls.map .str)))]=[none]from rfl];refine(gY (fun l=>S l) (fun l=>.str (nl l)) ls none fun l hl'=>?_).trans (by simp only[List.map_map];rfl);have z:iQ (S l) (S "\n") M=some (S (l++"\n"),M):=oN (by have:=h l hl';rw[nl1,szl];omega);simp![z];rfl
 have j:=kD (c:=iZ) (sep:="") (γ:=[some (.d (.list (ls.map .str)))]) (n:=100001) cp (fun l hl'=>by
  obtain⟨l0,h0,rfl⟩:=List.mem_map.mp hl';have:=h l0 h0;show(l0++"\n").length<=_;rw[cW,nl1];omega) (by rw[A1,em0];omega)
 simp![fE,rC,j];rfl
noncomputable def aX(k:Bool)(t:Tie):PyData:=R3 k (.int t.i) (.int t.j) (P k t.a t.b)
noncomputable def BdT(t:Tie):Prop:=Bd t.i/\Bd t.j/\Bd t.a/\Bd t.b
noncomputable def gF(w:Str)(t:Tie):Str:=qG w t.i t.j t.a t.b
theorem qX{k:Bool}{f:AF}{ts:List Tie}{cap:List (Option Nat)}(hw:w.length<=100)(it:f γ M=some (ts.map (fun t=>.d (aX k t)),M))(hb:∀t∈ts,BdT t)(hl:ts.length<=100)(hc:kH cap γ=[none]):
 fLc cap f (hName 0) fF (aK eW (aB (fC (.str w)) (aB (aD 0) aH))) γ M=some (.d (.list ((ts.map (gF w)).map .str)),M):=by
 refine iP it (by rw[A1];omega) ?_ (by rw[A1,A1];omega);rw[hc];refine(gY (fun t=>.d (aX k t)) (fun t=>.str (gF w t)) ts none fun t ht=>?_).trans (by simp only[List.map_map];rfl);obtain⟨b1,b2,b3,b4⟩:=hb t ht;have e:=DS (k:=k) (k':=k) (M:=M) hw b1 b2 b3 b4;simp![aX,e];rfl
theorem PV{f:AF}{ts:List Tie}{cap:List (Option Nat)}(hw:w.length<=100)(it:f γ M=some (ts.map (fun t=>.d (aX false t)),M))(hb:∀t∈ts,BdT t)(hl:ts.length<=100)(hc:kH cap γ=[none]):
 fLc cap f (hName 0) fF (fOp iQ (aK cP (aB (fC (.str w)) (aB (aD 0) aH))) (fC (.str "\n"))) γ M=some (.d (.list (((ts.map (gF w)).map nl).map .str)),M):=by
 refine iP it (by rw[A1];omega) ?_ (by rw[A1,A1,A1];omega);rw[hc];refine(gY (fun t=>.d (aX false t)) (fun t=>.str (nl (gF w t))) ts none fun t ht=>?_).trans (by simp only[List.map_map];rfl);obtain⟨b1,b2,b3,b4⟩:=hb t ht;have e:=tR (k:=false) (k':=false) (M:=M) hw b1 b2 b3 b4;have z:iQ (S (qG w t.i t.j t.a t.b)) (S "\n") M=some (S (qG w t.i t.j t.a t.b++"\n"),M):=oN (by have:=kF hw b1 b2 b3 b4;rw[nl1,szl];omega);simp![aX,e,z];rfl
theorem vK{k:Bool}(hv:γ[v]?=some (some (.d x)))(hx:bG x=some (ts.map (aX k))):aW (aD v) γ M=some (ts.map (fun t=>.d (aX k t)),M):=by
 simp only[aW,aD,hv,Option.bind_some,hx,List.map_map];rfl
theorem rP{k:Bool}{ts:List Tie}(hx:bG x=some (ts.map (aX k)))(hb:∀t∈ts,BdT t)(hl:ts.length<=100):dN [.d x] M=some (S (Tx (ts.map (gF "branch"))),M):=by
 have cp:oG [some (.d x)] M=some (.d (.list ((ts.map (gF "branch")).map .str)),M):=qX (by decide) (vK rfl hx) hb hl rfl
 have t:=nN (M:=M) (ls:=ts.map (gF "branch")) (fun l hl'=>by
  obtain⟨t,ht,rfl⟩:=List.mem_map.mp hl';obtain⟨b1,b2,b3,b4⟩:=hb t ht;exact C4 (kF (by decide) b1 b2 b3 b4) (by decide)) (by rw[A1];exact hl)
 simp![dN,lW,cp,t]
theorem sA{k:Bool}{ts:List Tie}(hx:bG x=some (ts.map (aX k)))(hb:∀t∈ts,BdT t)(hl:ts.length<=100):dZ [.d x] M=some (S (Tx (ts.map (gF "flow"))),M):=by
 have cp:oC [some (.d x)] M=some (.d (.list ((ts.map (gF "flow")).map .str)),M):=qX (by decide) (vK rfl hx) hb hl rfl
 have t:=nN (M:=M) (ls:=ts.map (gF "flow")) (fun l hl'=>by
  obtain⟨t,ht,rfl⟩:=List.mem_map.mp hl';obtain⟨b1,b2,b3,b4⟩:=hb t ht;exact C4 (kF (by decide) b1 b2 b3 b4) (by decide)) (by rw[A1];exact hl)
 simp![dZ,mB,cp,t]
theorem AK{M:Sto}{ts:List Tie}{cap:List (Option Nat)}(hw:w.length<=100)(hv:γ[v]?=some (some (.d (.list (ts.map (aX false))))))(hb:∀t∈ts,BdT t)(hl:ts.length<=100)(hc:kH cap γ=[none]):
 aY "str" dC (fC (.str "")) (aB (fLc cap (aW (aD v)) (hName 0) fF (fOp iQ (aK cP (aB (fC (.str w)) (aB (aD 0) aH))) (fC (.str "\n")))) aH) γ M=some (S (Tx (ts.map (gF w))),M):=by
 refine kD (n:=10000) (PV hw (vK hv rfl) hb hl hc) (fun l hl'=>?_) (by rw[A1,A1,em0];omega);obtain⟨l0,h0,rfl⟩:=List.mem_map.mp hl';obtain⟨t,ht,rfl⟩:=List.mem_map.mp h0;obtain⟨b1,b2,b3,b4⟩:=hb t ht;have:=kF (w:=w) hw b1 b2 b3 b4;show(qG w t.i t.j t.a t.b++"\n").length<=10000;rw[cW,nl1];omega
noncomputable def sqK(k:Bool)(ns:List Int):PyData:=if k then .list (ns.map .int)else .tuple (ns.map .int)
theorem OG(k:Bool)(ns:List Int):bG (sqK k ns)=some (ns.map .int):=by cases k<;>rfl
noncomputable def cR(ns:List Int):Str:=Txt.join " " ("side"::ns.map sI)
theorem tD{xs:List PyData}(hl:xs.length+ys.length<=1000):dM (.d (.list xs)) (.d (.list ys)) M=some (.d (.list (xs++ys)),M):=by
 have h:xs.length+ys.length<=sizeLine:=sz hl;have e1:ZQ (.d (.list xs)) (.d (.list ys)) M=none:=rfl
 have e2:YN (.d (.list xs)) (.d (.list ys)) M=some (.d (.list (xs++ys)),M):=by
  have a:iS (xs.map CD.d++ys.map CD.d)=some (xs++ys):=by rw[<- E4];exact qA _
  show(iS (xs.map CD.d++ys.map CD.d)).bind _=_;rw[a,A2,A4 (by rw[B8];exact h)]
 simp only[dM,vW,e1,e2]
theorem xE{f:AF}{ns:List Int}{cap:List (Option Nat)}(it:f γ M=some (ns.map (fun i=>I i),M))(hb:∀n∈ns,Bd n)(hl:ns.length<=100)(hc:kH cap γ=[none]):
 fLc cap f (hName 0) fF (aK gL (aB (aD 0) aH)) γ M=some (.d (.list ((ns.map sI).map .str)),M):=by
 refine iP it (by rw[A1];omega) ?_ (by rw[A1,A1];omega);rw[hc];refine(gY (fun i=>I i) (fun i=>.str (sI i)) ns none fun n hn=>?_).trans (by simp only[List.map_map];rfl);have e:=iT (M:=M) (hb n hn);simp![e]
theorem sd4:(("side":Str)).length=4:=by decide
theorem vC{ns:List Int}(hb:∀n∈ns,Bd n)(hl:ns.length<=20):(cR ns).length<=50000:=by
 have h:=StrLaws.join_length_le " " ("side"::ns.map sI)
 have h2:=FR (n:=2000) (ls:=(ns.map sI).map (·.length)) fun x hx=>by
  rw[D5]at hx;obtain⟨n,hn,rfl⟩:=List.mem_map.mp hx;exact dW (hb n hn)
 rw[A1,A1]at h2;rw[C0,List.sum_cons,C5,A1,sp1,sd4]at h;show(Builtin.Str.glued " " ("side"::ns.map sI)).length<=_;rw[StrLaws.glued_eq_join];refine C4 h ?_;omega
theorem xJ{K c:EF}{ns:List Int}(hK:K γ M=some (.d (.list [.str "side"]),M))(hc:c γ M=some (.d (.list ((ns.map sI).map .str)),M))(hb:∀n∈ns,Bd n)(hl:ns.length<=20):
 aY "str" dC (fC (.str " ")) (aB (fOp dM K c) aH) γ M=some (S (cR ns),M):=by
 have ad:=tD (M:=M) (xs:=[.str "side"]) (ys:=(ns.map sI).map .str) (by rw[A1,A1];show 1+ns.length<=1000;omega)
 have e:fOp dM K c γ M=some (.d (.list (((("side":Str)::ns.map sI)).map .str)),M):=by
  simp only[fOp,hK,hc,Option.bind_some,ad];rfl
 refine kD (n:=2000) e (fun l hl'=>?_) (by rw[C5,A1,sp1];omega);rcases List.mem_cons.mp hl' with rfl|h
 .decide
 .obtain⟨n,hn,rfl⟩:=List.mem_map.mp h;exact dW (hb n hn)
noncomputable def BdS(ns:List Int):Prop:=(∀n∈ns,Bd n)/\ns.length<=20
theorem CQ{k:Bool}:aW (aD 0) (some (.d (sqK k ns))::γ) M=some (ns.map (fun i=>I i),M):=by
 simp only[aW,aD,List.getElem?_cons_zero,Option.bind_some,OG,List.map_map];rfl
theorem BS{k:Bool}{ss:List (List Int)}(hv:γ[v]?=some (some (.d x)))(hx:bG x=some (ss.map (sqK k))):aW (aD v) γ M=some (ss.map (fun t=>.d (sqK k t)),M):=by
 simp only[aW,aD,hv,Option.bind_some,hx,List.map_map];rfl
theorem pN{k:Bool}{ss:List (List Int)}(hx:bG x=some (ss.map (sqK k)))(hb:∀s∈ss,BdS s)(hl:ss.length<=100):cY [.d x] M=some (S (Tx (ss.map cR)),M):=by
 have cp:iK [some (.d x)] M=some (.d (.list ((ss.map cR).map .str)),M):=by
  unfold iK;refine iP (BS rfl hx) (by rw[A1];omega) ?_ (by rw[A1,A1];omega);rw[show kH [none] [some (CD.d x)]=[none]from rfl];refine(gY (fun t=>.d (sqK k t)) (fun t=>.str (cR t)) ss none fun s hs=>?_).trans (by simp only[List.map_map];rfl);obtain⟨b1,b2⟩:=hb s hs;exact xJ (sM _ _) (xE CQ b1 (by omega) rfl) b1 b2
 have t:=nN (M:=M) (ls:=ss.map cR) (fun l hl'=>by
  obtain⟨s,hs,rfl⟩:=List.mem_map.mp hl';obtain⟨b1,b2⟩:=hb s hs;exact C4 (vC b1 b2) (by decide)) (by rw[A1];exact hl)
 simp![cY,lC,cp,t]
theorem IJ{M:Sto}{ss:List (List Int)}(hv:γ[7]?=some (some (.d (.list (ss.map (sqK false))))))(hb:∀s∈ss,BdS s)(hl:ss.length<=100):
 aY "str" dC (fC (.str "")) (aB pK aH) γ M=some (S (Tx (ss.map cR)),M):=by
 have cp:pK γ M=some (.d (.list (((ss.map cR).map nl).map .str)),M):=by
  unfold pK;refine iP (BS hv rfl) (by rw[A1];omega) ?_ (by rw[A1,A1,A1];omega);rw[show kH [none] γ=[none]from rfl];refine(gY (fun t=>.d (sqK false t)) (fun t=>.str (nl (cR t))) ss none fun s hs=>?_).trans (by simp only[List.map_map];rfl);obtain⟨b1,b2⟩:=hb s hs;have e:=xJ (γ:=[some (.d (sqK false s))]) (M:=M) (K:=sW) (c:=zK) (KL _ _) (xE CQ b1 (by omega) rfl) b1 b2;have z:iQ (S (cR s)) (S "\n") M=some (S (cR s++"\n"),M):=oN (by have:=vC b1 b2;rw[nl1,szl];omega);show(aY "str" dC (fC (.str " ")) (aB (fOp dM sW zK) aH) [some (.d (sqK false s))] M).bind (fun r=>(fC (.str "\n") [some (.d (sqK false s))] r.2).bind fun q=>iQ r.1 q.1 q.2)=_;rw[e,A2];exact z
 refine kD (n:=50001) cp (fun l hl'=>?_) (by rw[A1,A1,em0];omega);obtain⟨l0,h0,rfl⟩:=List.mem_map.mp hl';obtain⟨s,hs,rfl⟩:=List.mem_map.mp h0;obtain⟨b1,b2⟩:=hb s hs;have:=vC b1 b2;show(cR s++"\n").length<=_;rw[cW,nl1];omega
theorem s9{n:Nat}(h:n<=9):n<=sizeLine:=sz (by omega)
theorem aDx{f1 f2:EF}(h1:f1 γ M=some (I a,M))(h2:f2 γ M=some (I b,M)):cK (aB f1 (aB f2 aH)) γ M=some (.d (.list ([a,b].map .int)),M):=by
 have e:aB f1 (aB f2 aH) γ M=some ([I a,I b],M):=by simp only[aB,aH,h1,h2,Option.bind_some]
 unfold cK;rw[e,A2];show(some ([a,b].map PyData.int)).bind _=_;rw[A2];exact A4 (s9 (show(2:Nat)<=9 by decide))
theorem aDy{f1 f2:EF}{c d:Int}(h1:f1 γ M=some (I a,M))(h2:f2 γ M=some (I b,M))(h3:f3 γ M=some (I c,M))(h4:f4 γ M=some (I d,M)):cK (aB f1 (aB f2 (aB f3 (aB f4 aH)))) γ M=some (.d (.list ([a,b,c,d].map .int)),M):=by
 have e:aB f1 (aB f2 (aB f3 (aB f4 aH))) γ M=some ([I a,I b,I c,I d],M):=by simp only[aB,aH,h1,h2,h3,h4,Option.bind_some]
 unfold cK;rw[e,A2];show(some ([a,b,c,d].map PyData.int)).bind _=_;rw[A2];exact A4 (s9 (show(4:Nat)<=9 by decide))
theorem aDc{f1 f2 f5 f6:EF}{c d e f:Int}(h1:f1 γ M=some (I a,M))(h2:f2 γ M=some (I b,M))(h3:f3 γ M=some (I c,M))(h4:f4 γ M=some (I d,M))(h5:f5 γ M=some (I e,M))(h6:f6 γ M=some (I f,M)):cK (aB f1 (aB f2 (aB f3 (aB f4 (aB f5 (aB f6 aH)))))) γ M=some (.d (.list ([a,b,c,d,e,f].map .int)),M):=by
 have ee:aB f1 (aB f2 (aB f3 (aB f4 (aB f5 (aB f6 aH))))) γ M=some ([I a,I b,I c,I d,I e,I f],M):=by simp only[aB,aH,h1,h2,h3,h4,h5,h6,Option.bind_some]
 unfold cK;rw[ee,A2];show(some ([a,b,c,d,e,f].map PyData.int)).bind _=_;rw[A2];exact A4 (s9 (show(6:Nat)<=9 by decide))
theorem vU{m:Int}(hm:0<m)(hl:(ns.length:Int)=m):∃v,v∈ns/\ixF (.d (.list (ns.map .int))) (I (z % m)) M=some (I v,M):=by
 obtain⟨d,hd,hm'⟩:=zE (ds:=ns.map PyData.int) (k:=z) hm (by rw[A1];exact hl);obtain⟨v,hv,rfl⟩:=List.mem_map.mp hm';refine⟨v,hv,?_⟩;show(atI (ns.map PyData.int) (z % m)).bind _=_;rw[hd];rfl
theorem bT{k:F2}{c:Int}(h1:f γ M=some (I a,M))(h2:g γ M=some (I b,M))(h:k (I a) (I b) M=some (I c,M)):fOp k f g γ M=some (I c,M):=by
 simp only[fOp,h1,h2,Option.bind_some,h]
theorem eL{k:F2}{a b c:CD}(h1:f γ M=some (a,M))(h2:g γ M=some (b,M))(h:k a b M=some (c,M)):fOp k f g γ M=some (c,M):=by
 simp only[fOp,h1,h2,Option.bind_some,h]
theorem cF:fC (.int i) γ M=some (I i,M):=rfl
theorem dX(h:0<b):bD (I a) (I b) M=some (I (a % b),M):=by
 have:mF a b=true:=fY h;simp![this]
theorem uP(h:0<b)(h2:b<1000000):bS (I a) (I b) M=some (I (a / b),M):=by
 have w:(1000000:Int)<2 ^ 200:=by decide
 have:rT a b=true:=sZ h (wsm (by omega) (by omega));simp![this]
theorem aCi(h:b.natAbs<2 ^ 64):uW (I a) (I b) M=some (I (a*b),M):=by
 have:kB a b=true:=mul_r h;simp![this]
theorem HA:rH (I a) (I b) M=some (I (a-b),M):=rfl
theorem aBD:qW (I 10) (I 30) M=some (I 1000000000000000000000000000000,M):=rfl
theorem aDm:qW (I 10) (I 12) M=some (I 1000000000000,M):=rfl
theorem Oth.trans{M1 M2:Sto}(a:Oth c M M1)(b:Oth c M1 M2):Oth c M M2:=⟨b.len.trans a.len,fun i h=>(b.at_ i h).trans (a.at_ i h)⟩
theorem pF:(10000000000000000000000000000000000000000:Int)<2 ^ 200:=by decide
theorem aDn(ha:0<=a)(ha2:a<10000000000000000000000000000000000000000)(hb:1<=b)(hb2:b<10000000000000000000000000000000000000000):Bd (a / (Int.gcd a b:Int))/\Bd (b / (Int.gcd a b:Int)):=by
 have g:=HE (a:=a) hb;have t:=pF;have h1:a / (Int.gcd a b:Int)<=a:=Int.ediv_le_self _ ha;have h2:b / (Int.gcd a b:Int)<=b:=Int.ediv_le_self _ (by omega);exact⟨Bd.of (Int.ediv_nonneg ha (by omega)) (by omega),Bd.of (Int.ediv_nonneg (by omega) (by omega)) (by omega)⟩
theorem aCS(dk:Dk M c (m+2)):∃a b M',kT [.c c] M=some (.d (.tuple [.int a,.int b]),M')/\Bd a/\Bd b/\Dk M' c m/\Oth c M M':=by
 obtain⟨z,M1,p1,d1,o1,r1⟩:=dk.pop;obtain⟨y,M2,p2,d2,o2,r2⟩:=d1.pop;obtain⟨z0,z1⟩:=r1;obtain⟨y0,y1⟩:=r2;have a1:bI (aY "list" eO (aD 0) aH) (hName 1) [some (.c c),none,none,none,none] M=some (.nx [some (.c c),some (I z),none,none,none],M1):=dA (pop_at rfl dk.ty p1);have a2:bI (aY "list" eO (aD 0) aH) (hName 2) [some (.c c),some (I z),none,none,none] M1=some (.nx [some (.c c),some (I z),some (I y),none,none],M2):=dA (pop_at rfl d1.ty p2);have v1:∀g3 g4,aD 1 [some (.c c),some (I z),some (I y),g3,g4] M2=some (I z,M2):=fun _ _=>rfl;have v2:∀g3 g4,aD 2 [some (.c c),some (I z),some (I y),g3,g4] M2=some (I y,M2):=fun _ _=>rfl;have n1:=C1 (z / 7) (show(10:Int)≠0 by decide);have n2:=B6 (z / 7) (show(0:Int)<10 by decide);have n3:=C1 (z / 7) (show(1000:Int)≠0 by decide);have n4:=B6 (z / 7) (show(0:Int)<1000 by decide);have n5:=C1 (z / 7) (show(50:Int)≠0 by decide);have n6:=B6 (z / 7) (show(0:Int)<50 by decide);have n7:=C1 (y / 5) (show(40:Int)≠0 by decide);have n8:=B6 (y / 5) (show(0:Int)<40 by decide);have n9:=C1 (y / 5) (show(30:Int)≠0 by decide);have n10:=B6 (y / 5) (show(0:Int)<30 by decide);obtain⟨a,ha,xa⟩:=vU (M:=M2) (ns:=[z / 7 % 10,z / 7 % 1000,1000000000000000000000000000000-1-z / 7 % 50,z*1000000000000+y]) (z:=z) (m:=4) (by decide) rfl;obtain⟨b,hb,xb⟩:=vU (M:=M2) (ns:=[1,1,1+y / 5 % 40,55440,1000000000000000000000000000000-1-y / 5 % 30,1+y]) (z:=y) (m:=6) (by decide) rfl
 have a3:∀g3 g4,bI (fOp ixF (cK (aB (fOp bD (fOp bS (aD 1) (fC (.int 7))) (fC (.int 10))) (aB (fOp bD (fOp bS (aD 1) (fC (.int 7))) (fC (.int 1000))) (aB (fOp rH (fOp rH (fOp qW (fC (.int 10)) (fC (.int 30))) (fC (.int 1))) (fOp bD (fOp bS (aD 1) (fC (.int 7))) (fC (.int 50)))) (aB (fOp dM (fOp uW (aD 1) (fOp qW (fC (.int 10)) (fC (.int 12)))) (aD 2)) aH))))) (fOp bD (aD 1) (fC (.int 4)))) (hName 3) [some (.c c),some (I z),some (I y),g3,g4] M2=some (.nx [some (.c c),some (I z),some (I y),some (I a),g4],M2):=fun g3 g4=>by
  have dv:=bT (k:=bS) (v1 g3 g4) (cF (i:=7)) (uP (by decide) (by decide));have l:=aDy (bT dv (cF (i:=10)) (dX (by decide))) (bT dv (cF (i:=1000)) (dX (by decide))) (bT (bT (bT cF cF aBD) (cF (i:=1)) HA) (bT dv (cF (i:=50)) (dX (by decide))) HA) (bT (bT (v1 g3 g4) (bT cF cF aDm) (aCi (by decide))) (v2 g3 g4) AS);have mm:=bT (k:=bD) (v1 g3 g4) (cF (i:=4)) (dX (by decide));exact dA (eL l mm xa)
 have a4:∀g3 g4,bI (fOp ixF (cK (aB (fC (.int 1)) (aB (fC (.int 1)) (aB (fOp dM (fC (.int 1)) (fOp bD (fOp bS (aD 2) (fC (.int 5))) (fC (.int 40)))) (aB (fC (.int 55440)) (aB (fOp rH (fOp rH (fOp qW (fC (.int 10)) (fC (.int 30))) (fC (.int 1))) (fOp bD (fOp bS (aD 2) (fC (.int 5))) (fC (.int 30)))) (aB (fOp dM (fC (.int 1)) (aD 2)) aH))))))) (fOp bD (aD 2) (fC (.int 6)))) (hName 4) [some (.c c),some (I z),some (I y),g3,g4] M2=some (.nx [some (.c c),some (I z),some (I y),g3,some (I b)],M2):=fun g3 g4=>by
  have dv:=bT (k:=bS) (v2 g3 g4) (cF (i:=5)) (uP (by decide) (by decide));have l:=aDc (cF (i:=1)) (cF (i:=1)) (bT (cF (i:=1)) (bT dv (cF (i:=40)) (dX (by decide))) AS) (cF (i:=55440)) (bT (bT (bT cF cF aBD) (cF (i:=1)) HA) (bT dv (cF (i:=30)) (dX (by decide))) HA) (bT (cF (i:=1)) (v2 g3 g4) AS);have mm:=bT (k:=bD) (v2 g3 g4) (cF (i:=6)) (dX (by decide));exact dA (eL l mm xb)
 have ba:0<=a/\a<10000000000000000000000000000000000000000:=by
  simp only[List.mem_cons,List.not_mem_nil,or_false]at ha;rcases ha with rfl|rfl|rfl|rfl<;>omega
 have bb:1<=b/\b<10000000000000000000000000000000000000000:=by
  simp only[List.mem_cons,List.not_mem_nil,or_false]at hb;rcases hb with rfl|rfl|rfl|rfl|rfl|rfl<;>omega
 have t:=pF;have lo:=PD (a:=a) (b:=b) M2 ba.1 bb.1 (wsm (by omega) (by omega));obtain⟨q1,q2⟩:=aDn ba.1 ba.2 bb.1 bb.2;refine⟨_,_,M2,nW rfl ?_,q1,q2,d2,o1.trans o2⟩;unfold oR;show bB _ _ [some (.c c),none,none,none,none] M=_;rw[bC a1,bC a2,bC (a3 none none),bC (a4 (some (I a)) none)];simp only[cL,aK,aB,aD,aH,List.getElem?_cons_zero,List.getElem?_cons_succ,Option.bind_some,lo]
theorem GN{f:Nat}{y:CD}(h:M[f]?=some (.lst xs))(hl:xs.length<=500):fT (.c f) [y] M=some (.d .none,M.set f (.lst (xs++[y]))):=by
 have:xs.length<sizeLine:=by rw[szl];omega
 simp only[fT,h,if_pos this]
theorem WV{f:Nat}(h:M[f]?=some (.lst xs)):tyB "list" M (.c f)=true:=by
 simp only[tyB,h];rfl
theorem aN{g:AF}{M1 M2:Sto}{x:CD}(h1:f γ M=some (x,M1))(h2:g γ M1=some (xs,M2)):aB f g γ M=some (x::xs,M2):=by
 simp only[aB,h1,h2,Option.bind_some]
theorem bH:aH γ M=some ([],M):=rfl
theorem FI{M1:Sto}(h:fa γ M=some (xs,M1))(hd:iS xs=some ds)(hl:ds.length<=500):gG fa γ M=some (.d (.tuple ds),M1):=by
 have:ds.length<=sizeLine:=sz (by omega);simp only[gG,h,Option.bind_some,hd,if_pos this]
theorem GP{T:String}{h:FM}{M1 M2 M3:Sto}{x z:CD}{ys:List CD}(hf:f γ M=some (x,M1))(ty:tyB T M1 x=true)(ha:fa γ M1=some (ys,M2))(hh:h x ys M2=some (z,M3)):aY T h f fa γ M=some (z,M3):=by
 simp only[aY,hf,Option.bind_some,ty,if_true,ha,hh]
theorem HK{M1:Sto}{x:CD}(h:f γ M=some (x,M1)):oF f γ M=some (.nx γ,M1):=by simp only[oF,h,Option.bind_some]
theorem bP{F:FN}{M1 M2:Sto}{y:CD}(ha:fa γ M=some (xs,M1))(h:F xs M1=some (y,M2)):aK F fa γ M=some (y,M2):=by simp only[aK,ha,Option.bind_some,h]
theorem QH{f:Nat}{x:Cell}(h:M[f]?=some x):f<M.length:=(List.getElem?_eq_some_iff.mp h).1
theorem DQ{f:Nat}{n k:Int}{g4:Option CD}(dk:Dk M c (m+3))(hf:M[f]?=some (.lst xs))(ne:f≠c)(hl:xs.length<=500):
 ∃t g M',fI [some (.c c),some (I n),some (.c f),some (I k),g4] M=some (.nx [some (.c c),some (I n),some (.c f),some (I k),g],M')/\BdT t/\M'[f]?=some (.lst (xs++[.d (aX false t)]))/\Dk M' c m:=by
 obtain⟨z,M1,p1,d1,o1,z0,z1⟩:=dk.pop;obtain⟨a,b,M2,ea,ba,bb,d2,o2⟩:=aCS d1;have a1:bI (aY "list" eO (aD 0) aH) (hName 4) [some (.c c),some (I n),some (.c f),some (I k),g4] M=some (.nx [some (.c c),some (I n),some (.c f),some (I k),some (I z)],M1):=dA (pop_at rfl dk.ty p1);have v4:aD 4 [some (.c c),some (I n),some (.c f),some (I k),some (I z)] M1=some (I z,M1):=rfl;have v3:aD 3 [some (.c c),some (I n),some (.c f),some (I k),some (I z)] M1=some (I k,M1):=rfl;have dv:=bT (k:=bS) v4 (cF (i:=100)) (uP (by decide) (by decide));have l:=aDx (bT dv (cF (i:=100)) (dX (by decide))) (bT dv (cF (i:=10)) (dX (by decide)));obtain⟨j,hj,xj⟩:=vU (M:=M1) (ns:=[z / 100 % 100,z / 100 % 10]) (z:=k) (m:=2) (by decide) rfl;have ej:=eL l (bT (k:=bD) v3 (cF (i:=2)) (dX (by decide))) xj;have ei:=bT (k:=bD) v4 (cF (i:=100)) (dX (by decide));have f1:M1[f]?=some (.lst xs):=by rw[o1.at_ f ne];exact hf
 have f2:M2[f]?=some (.lst xs):=by rw[o2.at_ f ne];exact f1
 have e3:=bP (F:=kT) (aN (show aD 0 [some (CD.c c),some (I n),some (.c f),some (I k),some (I z)] M1=some (.c c,M1)from rfl) bH) ea;have et:=FI (aN ei (aN ej (aN e3 bH))) (ds:=[.int (z % 100),.int j,.tuple [.int a,.int b]]) rfl (show(3:Nat)<=500 by decide);have n1:=C1 z (show(100:Int)≠0 by decide);have n2:=B6 z (show(0:Int)<100 by decide);have n3:=C1 (z / 100) (show(100:Int)≠0 by decide);have n4:=B6 (z / 100) (show(0:Int)<100 by decide);have n5:=C1 (z / 100) (show(10:Int)≠0 by decide);have n6:=B6 (z / 100) (show(0:Int)<10 by decide)
 have bj:0<=j/\j<100:=by
  simp only[List.mem_cons,List.not_mem_nil,or_false]at hj;rcases hj with rfl|rfl<;>omega
 have t2:=pF;have b1:Bd (z % 100):=Bd.of n1 (by omega);have b2:Bd j:=Bd.of bj.1 (by omega);refine⟨⟨z % 100,j,a,b⟩,some (I z),M2.set f (.lst (xs++[.d (aX false ⟨z % 100,j,a,b⟩)])),?_,⟨b1,b2,ba,bb⟩,D9 (QH f2),d2.put ne⟩;unfold fI;rw[bC a1];have pu:=GN (y:=.d (aX false ⟨z % 100,j,a,b⟩)) f2 hl;exact HK (GP (show aD 2 [some (CD.c c),some (I n),some (.c f),some (I k),some (I z)] M1=some (.c f,M1)from rfl) (WV f1) (aN et bH) pu)
theorem BN{α:Type}{P:α->Prop}{xs:List α}{y:α}(h:∀x∈xs,P x)(hy:P y):∀x∈xs++[y],P x:=fun x hx=>by
 rcases List.mem_append.mp hx with q|q
 .exact h x q
 .rw[List.mem_singleton.mp q];exact hy
theorem RG(n0:0<=n)(n6:n<=6)(dk:Dk M c (m+18)):∃(f:Nat)(ts:List Tie)(M':Sto),iD [.c c,I n] M=some (.c f,M')/\M'[f]?=some (.lst (ts.map fun t=>.d (aX false t)))/\ts.length<=6/\(∀t∈ts,BdT t)/\Dk M' c m/\f≠c:=by
 obtain⟨N,hN⟩:∃N:Nat,n.toNat=N:=⟨_,rfl⟩;have N6:N<=6:=by omega
 have cl:=dk.lt;have ne:M.length≠c:=by omega
 have a1:bI (qP aH) (hName 2) [some (.c c),some (I n),none,none,none] M=some (.nx [some (.c c),some (I n),some (.c M.length),none,none],M++[.lst []]):=by
  have s0:(0:Nat)<=sizeLine:=F8 _;simp![s0]
 have rg:fL (aB (aD 1) aH) [some (.c c),some (I n),some (.c M.length),none,none] (M++[.lst []])=some (jO 0 N,M++[.lst []]):=by
  rw[<- hN];exact FJ (J:=n) rfl (FW (by omega) (by omega))
 obtain⟨γ',M',lp,ts,g3,g4,rfl,h2,h3,h4,h5⟩:=tG (g:=hName 3) (b:=fI) (n:=N) (Inv:=fun k γ M1=>∃(ts:List Tie)(g3 g4:Option CD),γ=[some (.c c),some (I n),some (.c M.length),g3,g4]/\M1[M.length]?=some (.lst (ts.map fun t=>.d (aX false t)))/\ts.length=k/\(∀t∈ts,BdT t)/\Dk M1 c (m+3*(N-k)))
  (fun k hk γ M1 i=>by
   obtain⟨ts,g3,g4,rfl,h2,h3,h4,h5⟩:=i;obtain⟨t,g,M2,e,bt,h6,h7⟩:=DQ (n:=n) (k:=(k:Nat)) (g4:=g4) (m:=m+3*(N-(k+1))) (h5.le (by omega)) h2 ne (by rw[A1];omega);exact⟨_,_,M2,rfl,e,ts++[t],_,_,rfl,by rw[h6,E4];rfl,by rw[B8,h3];rfl,BN h4 bt,h7⟩)
  N 0 [some (.c c),some (I n),some (.c M.length),none,none] (M++[.lst []]) (by omega) ⟨[],none,none,rfl,uT,rfl,fun t h=>by simp at h,(dk.app).le (by omega)⟩
 refine⟨M.length,ts,M',nW rfl ?_,h2,by omega,h4,h5.le (by omega),ne⟩;unfold kS;show bB _ _ [some (.c c),some (I n),none,none,none] M=_;rw[bC a1,bC (rJ rg lp)];rfl
theorem xZ{k:F2}{M1:Sto}{a b c:CD}(h1:f γ M=some (a,M1))(h2:g γ M1=some (b,M1))(h:k a b M1=some (c,M1)):fOp k f g γ M=some (c,M1):=by
 simp only[fOp,h1,h2,Option.bind_some,h]
theorem BM:∀{ys:List CD},(∀y∈ys,∃i,y=I i/\Bd i)->∃ns:List Int,ys=(ns.map PyData.int).map .d/\∀n∈ns,Bd n
 |[]=>fun _=>⟨[],rfl,fun n h=>by simp at h⟩
 |y::ys=>fun h=>by
  obtain⟨i,rfl,hi⟩:=h y B3;obtain⟨ns,rfl,hn⟩:=BM (ys:=ys) fun z hz=>h z (B1 _ hz);refine⟨i::ns,rfl,fun n hn'=>?_⟩;rcases List.mem_cons.mp hn' with rfl|q
  .exact hi
  .exact hn n q
theorem LQ{g:Option CD}(dk:Dk M c (m+1)):∃i M1,fOp bD (aY "list" eO (aD 0) aH) (fOp ixF eU (fOp bD (fOp bS (aD 1) (fC (.int 9))) (fC (.int 3)))) [some (.c c),some (I z),g] M=some (I i,M1)/\Bd i/\Dk M1 c m/\Oth c M M1:=by
 obtain⟨y,M1,p1,d1,o1,y0,y1⟩:=dk.pop;have v1:aD 1 [some (.c c),some (I z),g] M1=some (I z,M1):=rfl;have dv:=bT (k:=bS) v1 (cF (i:=9)) (uP (by decide) (by decide));have mm:=bT (k:=bD) dv (cF (i:=3)) (dX (by decide));obtain⟨v,hv,xv⟩:=vU (M:=M1) (ns:=[100,10,40]) (z:=z / 9) (m:=3) (by decide) rfl;have ek:=eL (k:=ixF) (rK [some (.c c),some (I z),g] M1) mm xv
 have bv:0<v/\v<=100:=by
  simp only[List.mem_cons,List.not_mem_nil,or_false]at hv;rcases hv with rfl|rfl|rfl<;>omega
 have n1:=C1 y (show v≠0 by omega);have n2:=B6 y (show 0<v by omega);have t2:=pF;exact⟨y % v,M1,xZ (pop_at rfl dk.ty p1) ek (dX bv.1),Bd.of n1 (by omega),d1,o1⟩
theorem DB{f:Nat}{n k z:Int}(dk:Dk M c (m+6))(hf:M[f]?=some (.lst xs))(ne:f≠c):
 ∃ns M1,gN [some (.c c),some (I n),some (.c f),some (I k),some (I z)] M=some (.d (.list (ns.map .int)),M1)/\BdS ns/\M1[f]?=some (.lst xs)/\Dk M1 c m:=by
 have n1:=C1 z (show(6:Int)≠0 by decide);have n2:=B6 z (show(0:Int)<6 by decide)
 have rg:fL (aB (fOp dM (fC (.int 1)) (fOp bD (aD 4) (fC (.int 6)))) aH) [some (.c c),some (I n),some (.c f),some (I k),some (I z)] M=some (jO 0 (1+z % 6).toNat,M):=
  FJ (J:=1+z % 6) (aN (bT cF (bT (k:=bD) (show aD 4 [some (CD.c c),some (I n),some (.c f),some (I k),some (I z)] M=some (I z,M)from rfl) (cF (i:=6)) (dX (by decide))) AS) bH) (FW (by omega) (by omega))
 have hlen:(jO 0 (1+z % 6).toNat).length<=6:=by rw[RV];omega
 obtain⟨ys,γ',M1,e,hy,hl,h1,h2,h3⟩:=FG (g:=hName 2) (c:=fF) (e:=fOp bD (aY "list" eO (aD 0) aH) (fOp ixF eU (fOp bD (fOp bS (aD 1) (fC (.int 9))) (fC (.int 3))))) (X:=fun _=>True) (E:=fun y=>∃i,y=I i/\Bd i) (Inv:=fun p γ M1=>(∃g,γ=[some (.c c),some (I z),g])/\Dk M1 c (m+p)/\M1[f]?=some (.lst xs))
  (fun p x γ M1 _ i=>by
   obtain⟨⟨g,rfl⟩,d1,f1⟩:=i;refine⟨[some (.c c),some (I z),some x],rfl,true,M1,rfl,fun h=>(by cases h),fun _=>?_⟩;obtain⟨i,M2,e,bi,d2,o2⟩:=LQ (m:=m+p) (z:=z) (g:=some x) d1;exact⟨_,M2,e,⟨i,rfl,bi⟩,⟨_,rfl⟩,d2,by rw[o2.at_ f ne];exact f1⟩)
  (jO 0 (1+z % 6).toNat) [some (.c c),some (I z),none] M (fun _ _=>trivial) ⟨⟨none,rfl⟩,dk.le (by omega),hf⟩
 obtain⟨ns,rfl,hn⟩:=BM hy;rw[A1,A1]at hl;refine⟨ns,M1,?_,⟨hn,by omega⟩,h3,h2⟩;unfold gN;exact iP rg (by omega) e (by rw[A1];omega)
theorem BF{f:Nat}{n k:Int}{g4:Option CD}(dk:Dk M c (m+7))(hf:M[f]?=some (.lst xs))(ne:f≠c)(hl:xs.length<=500):
 ∃ns g M',eT [some (.c c),some (I n),some (.c f),some (I k),g4] M=some (.nx [some (.c c),some (I n),some (.c f),some (I k),g],M')/\BdS ns/\M'[f]?=some (.lst (xs++[.d (sqK false ns)]))/\Dk M' c m:=by
 obtain⟨z,M1,p1,d1,o1,z0,z1⟩:=dk.pop;have f1:M1[f]?=some (.lst xs):=by rw[o1.at_ f ne];exact hf
 have a1:bI (aY "list" eO (aD 0) aH) (hName 4) [some (.c c),some (I n),some (.c f),some (I k),g4] M=some (.nx [some (.c c),some (I n),some (.c f),some (I k),some (I z)],M1):=dA (pop_at rfl dk.ty p1);obtain⟨ns,M2,ec,bs,f2,d2⟩:=DB (n:=n) (k:=k) (z:=z) (m:=m) d1 f1 ne;have et:=bP (F:=cJ) (aN ec bH) (show cJ [.d (.list (ns.map .int))] M2=some (.d (sqK false ns),M2)from rfl);have pu:=GN (y:=.d (sqK false ns)) f2 hl;refine⟨ns,some (I z),M2.set f (.lst (xs++[.d (sqK false ns)])),?_,bs,D9 (QH f2),d2.put ne⟩;unfold eT;rw[bC a1];exact HK (GP (show aD 2 [some (CD.c c),some (I n),some (.c f),some (I k),some (I z)] M1=some (.c f,M1)from rfl) (WV f1) (aN et bH) pu)
theorem MN(n0:0<=n)(n6:n<=5)(dk:Dk M c (m+35)):∃(f:Nat)(ss:List (List Int))(M':Sto),fV [.c c,I n] M=some (.c f,M')/\M'[f]?=some (.lst (ss.map fun t=>.d (sqK false t)))/\ss.length<=5/\(∀t∈ss,BdS t)/\Dk M' c m/\f≠c:=by
 obtain⟨N,hN⟩:∃N:Nat,n.toNat=N:=⟨_,rfl⟩;have N6:N<=5:=by omega
 have cl:=dk.lt;have ne:M.length≠c:=by omega
 have a1:bI (qP aH) (hName 2) [some (.c c),some (I n),none,none,none] M=some (.nx [some (.c c),some (I n),some (.c M.length),none,none],M++[.lst []]):=by
  have s0:(0:Nat)<=sizeLine:=F8 _;simp![s0]
 have rg:fL (aB (aD 1) aH) [some (.c c),some (I n),some (.c M.length),none,none] (M++[.lst []])=some (jO 0 N,M++[.lst []]):=by
  rw[<- hN];exact FJ (J:=n) rfl (FW (by omega) (by omega))
 obtain⟨γ',M',lp,ss,g3,g4,rfl,h2,h3,h4,h5⟩:=tG (g:=hName 3) (b:=eT) (n:=N) (Inv:=fun k γ M1=>∃(ss:List (List Int))(g3 g4:Option CD),γ=[some (.c c),some (I n),some (.c M.length),g3,g4]/\M1[M.length]?=some (.lst (ss.map fun t=>.d (sqK false t)))/\ss.length=k/\(∀t∈ss,BdS t)/\Dk M1 c (m+7*(N-k)))
  (fun k hk γ M1 i=>by
   obtain⟨ss,g3,g4,rfl,h2,h3,h4,h5⟩:=i;obtain⟨t,g,M2,e,bt,h6,h7⟩:=BF (n:=n) (k:=(k:Nat)) (g4:=g4) (m:=m+7*(N-(k+1))) (h5.le (by omega)) h2 ne (by rw[A1];omega);exact⟨_,_,M2,rfl,e,ss++[t],_,_,rfl,by rw[h6,E4];rfl,by rw[B8,h3];rfl,BN h4 bt,h7⟩)
  N 0 [some (.c c),some (I n),some (.c M.length),none,none] (M++[.lst []]) (by omega) ⟨[],none,none,rfl,uT,rfl,fun t h=>by simp at h,(dk.app).le (by omega)⟩
 refine⟨M.length,ss,M',nW rfl ?_,h2,by omega,h4,h5.le (by omega),ne⟩;unfold jX;show bB _ _ [some (.c c),some (I n),none,none,none] M=_;rw[bC a1,bC (rJ rg lp)];rfl
noncomputable def OkV(n:Int)(us:List Tie):Prop:=(∀t∈us,gP t.a t.b=true/\0<=t.i/\t.i<t.j/\t.j<n)/\(us.map Tie.key).Nodup
theorem ZH(ok:OkV n us)(h0:0<=i)(h1:i<j)(h2:j<n)(hw:gP a b=true):∃vs,putD (aV us) [.inl i,.inl j] (.d (.tuple [.int a,.int b]))=aV vs/\OkV n vs/\vs.length<=us.length+1:=by
 unfold putD;by_cases c:((aV us).any fun kv=>decide (kv.1=[.inl i,.inl j]))=true
 .rw[A4 c];refine⟨us.map fun t=>if t.key=[.inl i,.inl j]then⟨t.i,t.j,a,b⟩else t,?_,⟨fun t ht=>?_,?_⟩,by rw[A1];omega⟩
  .unfold aV;rw[D5,D5];refine S1 fun t _=>?_;show(if t.key=_ then(t.key,CD.d (.tuple [.int a,.int b]))else(t.key,t.val))=_;by_cases q:t.key=[.inl i,.inl j]
   .rw[A4 q];show(t.key,CD.d (.tuple [.int a,.int b]))=((if t.key=[.inl i,.inl j]then(⟨t.i,t.j,a,b⟩:Tie)else t).key,(if t.key=[.inl i,.inl j]then(⟨t.i,t.j,a,b⟩:Tie)else t).val);rw[A4 q];rfl
   .rw[A5 q];show(t.key,t.val)=((if t.key=[.inl i,.inl j]then(⟨t.i,t.j,a,b⟩:Tie)else t).key,(if t.key=[.inl i,.inl j]then(⟨t.i,t.j,a,b⟩:Tie)else t).val);rw[A5 q]
  .obtain⟨s,hs,rfl⟩:=List.mem_map.mp ht;obtain⟨a1,a2,a3,a4⟩:=ok.1 s hs;split
   .exact⟨hw,a2,a3,a4⟩
   .exact⟨a1,a2,a3,a4⟩
  .rw[D5,show us.map (Tie.key ∘ fun t=>if t.key=[.inl i,.inl j]then(⟨t.i,t.j,a,b⟩:Tie)else t)=us.map Tie.key from S1 fun t _=>by
    show(if t.key=[.inl i,.inl j]then(⟨t.i,t.j,a,b⟩:Tie)else t).key=t.key;split<;>rfl]
   exact ok.2
 .rw[A5 c];refine⟨us++[⟨i,j,a,b⟩],by unfold aV;rw[E4];rfl,⟨fun t ht=>?_,?_⟩,by rw[B8,E2];omega⟩
  .rcases List.mem_append.mp ht with h|h
   .exact ok.1 t h
   .rw[List.mem_singleton.mp h];exact⟨hw,h0,h1,h2⟩
  .rw[E4,List.map_singleton];refine List.nodup_append.mpr ⟨ok.2,by simp,fun k hk l hl q=>?_⟩;rw[List.mem_singleton.mp hl]at q;subst q;obtain⟨t,ht,e⟩:=List.mem_map.mp hk;refine c (List.any_eq_true.mpr ⟨(t.key,t.val),List.mem_map.mpr ⟨t,ht,rfl⟩,?_⟩);rw[e];exact C8 rfl
theorem aAx:xH [I i,I j] M=some (I (if j<i then j else i),M):=rfl
theorem XN:xB [I i,I j] M=some (I (if j > i then j else i),M):=rfl
theorem s2:(2:Nat)<=sizeLine:=by decide
theorem UZ{fo fv:EF}{fk:KF}{M1 M2:Sto}{v o:CD}{k:KY}(hv:fv γ M=some (v,M1))(ho:fo γ M1=some (o,M1))(hk:fk γ M1=some (k,M1))(hs:tT M1 o k v=some M2):oU fo fk fv γ M=some (.nx γ,M2):=by
 simp only[oU,hv,ho,hk,hs,Option.bind_some]
noncomputable def xM(z:Int):List PyData:=[.tuple [.int 1,.int 1],.tuple [.int 1,.int 2],.tuple [.int 3,.int 4],.tuple [.int 1000000000000,.int 1],.tuple [.int 1,.int 55440],.tuple [.int 5,.int 12],.tuple [.int 999999999997,.int 7],.tuple [.int 0,.int 1],.tuple [.int (z / 9 % 99),.int 1]]
theorem SL{x:Int}(h0:0<=x)(h1:x<99):gP x 1=true:=by
 unfold gP;have g:Int.gcd x 1=1:=Int.gcd_one_right x;rw[C8 h0,g,C8 (show x<=1000000000000 by omega)];rfl
theorem KD{d:PyData}(h:d∈xM z):∃a b,d=.tuple [.int a,.int b]/\gP a b=true:=by
 have n1:=C1 (z / 9) (show(99:Int)≠0 by decide);have n2:=B6 (z / 9) (show(0:Int)<99 by decide);simp only[xM,List.mem_cons,List.not_mem_nil,or_false]at h;rcases h with rfl|rfl|rfl|rfl|rfl|rfl|rfl|rfl|rfl
 all_goals first
  |exact⟨_,_,rfl,SL n1 n2⟩
  |exact⟨_,_,rfl,by decide +kernel⟩
noncomputable abbrev GT(c:Nat)(n:Int)(d:Nat)(g3 g4 g5 g6 g7:Option CD):Ga:=[some (.c c),some (I n),some (.c d),g3,g4,g5,g6,g7]
theorem IM{L:Nat}{k:Int}{g4 g5 g6 g7:Option CD}(n0:0<n)(dk:Dk M c (m+1))(hd:M[d]?=some (.dt (aV us)))(ok:OkV n us)(hl:us.length<=500)(ne:d≠c):
 ∃g4' g5' g6' g7' M' vs,gC (GT c n d (some (I k)) g4 g5 g6 g7) M=some (.nx (GT c n d (some (I k)) g4' g5' g6' g7'),M')/\Dk M' c m/\M'[d]?=some (.dt (aV vs))/\OkV n vs/\vs.length<=us.length+1:=by
 obtain⟨z,M1,p1,d1,o1,z0,z1⟩:=dk.pop;have u1:M1[d]?=some (.dt (aV us)):=by rw[o1.at_ d ne];exact hd
 have a1:bI (aY "list" eO (aD 0) aH) (hName 4) (GT c n d (some (I k)) g4 g5 g6 g7) M=some (.nx (GT c n d (some (I k)) (some (I z)) g5 g6 g7),M1):=dA (pop_at rfl dk.ty p1);have v4:∀a b e,aD 4 (GT c n d (some (I k)) (some (I z)) a b e) M1=some (I z,M1):=fun _ _ _=>rfl;have v1:∀a b e,aD 1 (GT c n d (some (I k)) (some (I z)) a b e) M1=some (I n,M1):=fun _ _ _=>rfl;have a2:bI (fOp bD (aD 4) (aD 1)) (hName 5) (GT c n d (some (I k)) (some (I z)) g5 g6 g7) M1=some (.nx (GT c n d (some (I k)) (some (I z)) (some (I (z % n))) g6 g7),M1):=dA (bT (v4 _ _ _) (v1 _ _ _) (dX n0));have a3:bI (fOp bD (fOp bS (aD 4) (fC (.int 41))) (aD 1)) (hName 6) (GT c n d (some (I k)) (some (I z)) (some (I (z % n))) g6 g7) M1=some (.nx (GT c n d (some (I k)) (some (I z)) (some (I (z % n))) (some (I (z / 41 % n))) g7),M1):=dA (bT (bT (v4 _ _ _) (cF (i:=41)) (uP (by decide) (by decide))) (v1 _ _ _) (dX n0));have a4:=dA (i:=7) (vJ (GT c n d (some (I k)) (some (I z)) (some (I (z % n))) (some (I (z / 41 % n))) g7) M1);have i0:=C1 z (show n≠0 by omega);have i1:=B6 z n0;have j0:=C1 (z / 41) (show n≠0 by omega);have j1:=B6 (z / 41) n0;unfold gC;rw[bC a1,bC a2,bC a3,bC a4];generalize hi:z % n=i at i0 i1;generalize hj:z / 41 % n=j at j0 j1;generalize hK:CD.d (PyData.list [.tuple [.int 1,.int 1],.tuple [.int 1,.int 2],.tuple [.int 3,.int 4],.tuple [.int 1000000000000,.int 1],.tuple [.int 1,.int 55440],.tuple [.int 5,.int 12],.tuple [.int 999999999997,.int 7],.tuple [.int 0,.int 1]])=KK;show ∃g4' g5' g6' g7' M' vs,sIf (gB (fOp (eqX true) (aD 5) (aD 6))) _ eK (GT c n d (some (I k)) (some (I z)) (some (I i)) (some (I j)) (some KK)) M1=_/\_
 have tA:gB (fOp (eqX true) (aD 5) (aD 6)) (GT c n d (some (I k)) (some (I z)) (some (I i)) (some (I j)) (some KK)) M1=some (!(i==j),M1):=by
  simp![aCQ]
 cases h:(!(i==j))with
 |false=>
  rw[yB (tA.trans (by rw[h]))];exact⟨_,_,_,_,M1,us,rfl,d1,u1,ok,by omega⟩
 |true=>
  rw[WL (tA.trans (by rw[h]))];have nij:i≠j:=by simpa using h
  obtain⟨w,hw,hm⟩:=zE (ds:=xM z) (k:=z / 1700) (m:=9) (by decide) rfl;obtain⟨a,b,rfl,wg⟩:=KD hm
  have e1:cK (aB (gG (aB (fOp bD (fOp bS (aD 4) (fC (.int 9))) (fC (.int 99))) (aB (fC (.int 1)) aH))) aH) (GT c n d (some (I k)) (some (I z)) (some (I i)) (some (I j)) (some KK)) M1=some (.d (.list [.tuple [.int (z / 9 % 99),.int 1]]),M1):=by
   have t:=FI (aN (bT (k:=bD) (bT (k:=bS) (v4 (some (I i)) (some (I j)) (some KK)) (cF (i:=9)) (uP (by decide) (by decide))) (cF (i:=99)) (dX (by decide))) (aN (cF (i:=1)) bH)) (ds:=[.int (z / 9 % 99),.int 1]) rfl (show(2:Nat)<=500 by decide);unfold cK;rw[aN t bH,A2];show(some [PyData.tuple [.int (z / 9 % 99),.int 1]]).bind _=_;rw[A2];exact A4 (s9 (show(1:Nat)<=9 by decide))
  have e2:fOp dM (aD 7) (cK (aB (gG (aB (fOp bD (fOp bS (aD 4) (fC (.int 9))) (fC (.int 99))) (aB (fC (.int 1)) aH))) aH)) (GT c n d (some (I k)) (some (I z)) (some (I i)) (some (I j)) (some KK)) M1=some (.d (.list (xM z)),M1):=by
   refine eL (a:=KK) rfl e1 ?_;subst hK;exact tD (show(8+1:Nat)<=1000 by decide)
  have ev:=eL (k:=ixF) e2 (bT (k:=bD) (bT (k:=bS) (v4 (some (I i)) (some (I j)) (some KK)) (cF (i:=1700)) (uP (by decide) (by decide))) (cF (i:=9)) (dX (by decide))) (show ixF (.d (.list (xM z))) (I (z / 1700 % 9)) M1=some (.d (.tuple [.int a,.int b]),M1)by
   show(atI (xM z) (z / 1700 % 9)).bind _=_;rw[hw];rfl)
  obtain⟨vs,w1,w2,w3⟩:=ZH (i:=if j<i then j else i) (j:=if j > i then j else i) ok (by split<;>omega) (by split<;>split<;>omega) (by split<;>omega) wg;have ll:(aV us).length<sizeLine:=by unfold aV;rw[A1,E7];omega
  have sd:tT M1 (.c d) (.inr [.inl (if j<i then j else i),.inl (if j > i then j else i)]) (.d (.tuple [.int a,.int b]))=some (M1.set d (.dt (aV vs))):=by
   simp only[tT,u1,if_pos ll,w1]
  have ek:sT (aB (aK xH (aB (aD 5) (aB (aD 6) aH))) (aB (aK xB (aB (aD 5) (aB (aD 6) aH))) aH)) (GT c n d (some (I k)) (some (I z)) (some (I i)) (some (I j)) (some KK)) M1=some (.inr [.inl (if j<i then j else i),.inl (if j > i then j else i)],M1):=by
   simp![sT,aAx,XN,keysOf,keyOf,s2]
  exact⟨_,_,_,_,M1.set d (.dt (aV vs)),vs,UZ ev rfl ek sd,d1.put ne,D9 (QH u1),w2,w3⟩
theorem aCy{t:Tie}(nd:(us.map Tie.key).Nodup)(ht:t∈us):lkC (aV us) t.key=some t.val:=by
 unfold lkC aV;rw[List.find?_map]
 have:us.find? ((fun kv:List Key×CD=>decide (kv.1=t.key)) ∘ fun t=>(t.key,t.val))=some t:=by
  induction us with
  |nil=>simp at ht
  |cons s us ih=>
   rw[C0,List.nodup_cons]at nd;by_cases e:s.key=t.key
   .rcases List.mem_cons.mp ht with rfl|h
    .rw[List.find?_cons_of_pos (by simp)]
    .exact absurd (List.mem_map.mpr ⟨t,h,e.symm⟩) nd.1
   .rw[List.find?_cons_of_neg (by simpa using e)];rcases List.mem_cons.mp ht with rfl|h
    .exact absurd rfl e
    .exact ih nd.2 h
 rw[this];rfl
theorem BC{α:Type}{e:EF}{M:Sto}{x0:Option CD}(f:α->CD)(h:α->PyData):∀(xs:List α)(g:Option CD),(∀x∈xs,e [x0,some (f x)] M=some (.d (h x),M))->lcF (hName 1) fF e (xs.map f) [x0,g] M=some ((xs.map h).map .d,M)
 |[]=>fun _ _=>rfl
 |x::xs=>fun g he=>by
  have ih:=BC (M:=M) (e:=e) (x0:=x0) f h xs (some (f x)) fun y hy=>he y (B1 _ hy);have e1:=he x B3;rw[C0,C0,C0];show(hName 1 (f x) [x0,g] M).bind _=_;rw[show hName 1 (f x) [x0,g] M=some ([x0,some (f x)],M)from rfl,A2];show(fF _ M).bind _=_;rw[show fF [x0,some (f x)] M=some (true,M)from rfl,A2,A4 rfl,e1,A2];dsimp only;rw[ih,A2]
theorem JJ{c:Nat}{n:Int}{g3 g4 g5 g6 g7:Option CD}(hd:M[d]?=some (.dt (aV us)))(nd:(us.map Tie.key).Nodup)(hl:us.length<=20):
 ∃vs:List Tie,vs.Perm us/\vs.Pairwise Tie.lt/\jN (GT c n d g3 g4 g5 g6 g7) M=some (.d (.list (bM vs)),M):=by
 obtain⟨vs,pm,pw,sr,_⟩:=wV rf0 nd (by omega);have lv:vs.length=us.length:=pm.length_eq;refine⟨vs,pm,pw,?_⟩
 have sk:lQ [.c d] M=some (.d (.list (vs.map fun t=>.tuple (f0 t))),M):=by
  have e:(aV us).map (fun kv=>kv.1.map sO)=us.map f0:=by unfold aV;rw[D5];rfl
  simp only[lQ,hd,e,sr,Option.bind_some]
 have it:aW (aK lQ (aB (aD 2) aH)) (GT c n d g3 g4 g5 g6 g7) M=some (vs.map fun t=>.d (.tuple (f0 t)),M):=by
  have:=bP (F:=lQ) (aN (show aD 2 (GT c n d g3 g4 g5 g6 g7) M=some (.c d,M)from rfl) bH) sk;unfold aW;rw[this,A2];show(some (vs.map fun t=>PyData.tuple (f0 t))).bind _=_;rw[A2,D5];rfl
 unfold jN;refine iP it (by rw[A1];omega) ?_ (by unfold bM;rw[A1];omega);rw[show kH [some 2,none] (GT c n d g3 g4 g5 g6 g7)=[some (.c d),none]from rfl];refine BC (x0:=some (.c d)) (fun t=>.d (.tuple (f0 t))) (fun t=>.tuple (f2 t)) vs none fun t ht=>?_
 have lk:atD M (.c d) (.inr [.inl t.i,.inl t.j])=some (some t.val):=by
  simp only[atD,hd];exact L5 some (aCy nd (pm.mem_iff.mp ht))
 have g:zP (aD 0) (aD 1) [some (.c d),some (.d (.tuple (f0 t)))] M=some (t.val,M):=by
  show((keysOf ((f0 t).map CD.d)).bind fun ks=>(atD M (.c d) (.inr ks)).bind fun r=>r.bind fun x=>some (x,M))=_;rw[show keysOf ((f0 t).map CD.d)=some [.inl t.i,.inl t.j]from rfl,A2,lk];rfl
 have tt:=FI (aN g bH) (ds:=[.tuple [.int t.a,.int t.b]]) rfl (show(1:Nat)<=500 by decide);exact eL (show aD 1 [some (CD.c d),some (.d (.tuple (f0 t)))] M=some (.d (.tuple (f0 t)),M)from rfl) tt (VE (show(2+1:Nat)<=1000 by decide))
theorem aAZ(n0:1<=n)(dk:Dk M c (m+9)):∃(vs:List Tie)(M':Sto),jI [.c c,I n] M=some (.d (.list (bM vs)),M')/\OkV n vs/\vs.Pairwise Tie.lt/\vs.length<=8/\Dk M' c m:=by
 have cl:=dk.lt;have ne:M.length≠c:=by omega
 have a1:bI qS (hName 2) [some (.c c),some (I n),none,none,none,none,none,none] M=some (.nx (GT c n M.length none none none none none),M++[.dt []]):=rfl;have dk1:=dk.app (L:=[Cell.dt []]);obtain⟨z,M1,p1,d1,o1,z0,z1⟩:=dk1.pop;have u1:M1[M.length]?=some (.dt (aV [])):=by rw[o1.at_ _ ne];exact uT
 have n1:=C1 z (show(9:Int)≠0 by decide);have n2:=B6 z (show(0:Int)<9 by decide);obtain⟨N,hN⟩:∃N:Nat,(z % 9).toNat=N:=⟨_,rfl⟩;have N8:N<=8:=by omega
 have rg:fL (aB (fOp bD (aY "list" eO (aD 0) aH) (fC (.int 9))) aH) (GT c n M.length none none none none none) (M++[.dt []])=some (jO 0 N,M1):=by
  have e:=aN (xZ (pop_at (γ:=GT c n M.length none none none none none) (v:=0) rfl dk1.ty p1) (cF (i:=9)) (dX (by decide))) bH;have sm:fW (z % 9)=true:=FW (by omega) (by omega);unfold fL;rw[e,A2];dsimp only;rw[A4 sm,hN]
 obtain⟨γ',M',lp,us,g3,g4,g5,g6,g7,rfl,h2,h3,h4,h5⟩:=tG (g:=hName 3) (b:=gC) (n:=N) (Inv:=fun k γ M2=>∃(us:List Tie)(g3 g4 g5 g6 g7:Option CD),γ=GT c n M.length g3 g4 g5 g6 g7/\M2[M.length]?=some (.dt (aV us))/\us.length<=k/\OkV n us/\Dk M2 c (m+(N-k)))
  (fun k hk γ M2 i=>by
   obtain⟨us,g3,g4,g5,g6,g7,rfl,h2,h3,h4,h5⟩:=i;obtain⟨q4,q5,q6,q7,M3,vs,e,e2,e3,e4,e5⟩:=IM (L:=0) (n:=n) (k:=(k:Nat)) (g4:=g4) (g5:=g5) (g6:=g6) (g7:=g7) (m:=m+(N-(k+1))) (by omega) (h5.le (by omega)) h2 h4 (by omega) ne;exact⟨_,_,M3,rfl,e,vs,_,_,_,_,_,rfl,e3,by omega,e4,e2⟩)
  N 0 (GT c n M.length none none none none none) M1 (by omega) ⟨[],none,none,none,none,none,rfl,u1,A9 _,⟨fun t h=>by simp at h,List.nodup_nil⟩,d1.le (by omega)⟩
 obtain⟨vs,pm,pw,cp⟩:=JJ (c:=c) (n:=n) (g3:=g3) (g4:=g4) (g5:=g5) (g6:=g6) (g7:=g7) h2 h4.2 (by omega);refine⟨vs,M',nW rfl ?_,⟨fun t ht=>h4.1 t (pm.mem_iff.mp ht),(pm.map Tie.key).nodup_iff.mpr h4.2⟩,pw,by rw[pm.length_eq];omega,h5.le (by omega)⟩;unfold mM;show bB _ _ [some (.c c),some (I n),none,none,none,none,none,none] M=_;rw[bC a1,bC (rJ rg lp)];simp only[cL,cp,Option.bind_some]
noncomputable def pl(n:Int):Str:="places "++sI n
theorem pl7:(("places ":Str)).length=7:=by decide
theorem aAQ(h:Bd n):(pl n).length<=2007:=by
 have:=dW h;unfold pl;rw[cW,pl7];omega
theorem FA{t:Tie}(n40:n<=40)(h:gP t.a t.b=true/\0<=t.i/\t.i<t.j/\t.j<n):BdT t:=by
 obtain⟨h1,h2,h3,h4⟩:=h;obtain⟨w1,w2,w3,w4⟩:=WY h1;have t2:=pF;exact⟨Bd.of h2 (by omega),Bd.of (by omega) (by omega),Bd.of w1 (by omega),Bd.of (by omega) (by omega)⟩
noncomputable def qJ(n:Int)(ws:List Tie):List Str:=pl n::ws.map (gF "tie")
theorem BX{n:Int}{ws:List Tie}(bn:Bd n)(hb:∀t∈ws,BdT t):∀l∈qJ n ws,l.length<=10000:=fun l hl=>by
 rcases List.mem_cons.mp hl with rfl|h
 .have:=aAQ bn;omega
 .obtain⟨t,ht,rfl⟩:=List.mem_map.mp h;obtain⟨b1,b2,b3,b4⟩:=hb t ht;exact C4 (kF (by decide) b1 b2 b3 b4) (by decide)
theorem aCN{M1:Sto}{d:PyData}(h:f γ M=some (.d d,M1)):cK (aB f aH) γ M=some (.d (.list [d]),M1):=by
 unfold cK;rw[aN h bH,A2];show(some [d]).bind _=_;rw[A2];exact A4 (s9 (show(1:Nat)<=9 by decide))
theorem JB(vs:List Tie):cZ vs=(vs.filter big).map (aX false):=rfl
theorem ET{vs:List Tie}(n0:0<=n)(n40:n<=40)(hb:∀t∈vs.filter big,BdT t)(hl:(vs.filter big).length<=90):fQ [.c M.length] (M++QA M.length n us vs)=some (S (Tx (qJ n (vs.filter big))),M++QA M.length n us vs):=by
 have t2:=pF;have bn:Bd n:=Bd.of n0 (by omega);obtain⟨N,hN⟩:∃N,M++QA M.length n us vs=N:=⟨_,rfl⟩
 have o1:objOf "Web" N (.c M.length)=some (M.length,([("many",I n),("ties",.d (.tuple (cZ vs))),("weights",.c (M.length+2))]:List (Str×CD))):=by
  rw[<- hN];exact yZ
 rw[hN]
 have f1:pG "Web" "many" (aD 0) [some (.c M.length)] N=some (I n,N):=by
  unfold pG;rw[show aD 0 [some (CD.c M.length)] N=some (.c M.length,N)from rfl,A2];dsimp only;rw[o1];rfl
 have f2:pG "Web" "ties" (aD 0) [some (.c M.length)] N=some (.d (.tuple (cZ vs)),N):=by
  unfold pG;rw[show aD 0 [some (CD.c M.length)] N=some (.c M.length,N)from rfl,A2];dsimp only;rw[o1];rfl
 have it:aW (pG "Web" "ties" (aD 0)) [some (.c M.length)] N=some ((vs.filter big).map (fun t=>.d (aX false t)),N):=by
  unfold aW;rw[f2,A2];show(some (cZ vs)).bind _=_;rw[A2,JB,D5];rfl
 have cp:kP [some (.c M.length)] N=some (.d (.list (((vs.filter big).map (gF "tie")).map .str)),N):=qX (by decide) it hb (by omega) rfl;have ls:=dW bn;have e0:Str.empty++("places ":Str)="places ":=O0 _;have l1:("places ":Str).length<=sizeLine:=by decide
 have l2:(("places ":Str)++sI n).length<=sizeLine:=by rw[cW,pl7,szl];omega
 have j:hV (fB (fC (.str "places ")) (fB (pY (pG "Web" "many" (aD 0))) yW)) [some (.c M.length)] N=some (.d (.str (pl n)),N):=by
  simp only[hV,fB,yW,pY,f1,fC,Option.bind_some,NY bn,e0,l1,l2,if_true];rfl
 have ad:fOp dM (cK (aB (hV (fB (fC (.str "places ")) (fB (pY (pG "Web" "many" (aD 0))) yW))) aH)) kP [some (.c M.length)] N=some (.d (.list ((qJ n (vs.filter big)).map .str)),N):=
  eL (aCN j) cp (tD (by rw[A1,A1];show 1+_<=1000;omega))
 have tx:=nN (M:=N) (ls:=qJ n (vs.filter big)) (fun l hl'=>C4 (BX bn hb l hl') (by decide)) (by unfold qJ;rw[C5,A1];omega);unfold fQ;refine nW rfl ?_;show kO [some (.c M.length)] N=_;unfold kO;simp only[cL,bP (F:=fE) (aN ad bH) tx,Option.bind_some]
theorem GH{α:Type}{c:TF}{e:EF}{M:Sto}(f:α->CD)(p:α->Bool)(h:α->PyData):∀(xs:List α)(g:Option CD),(∀x∈xs,c [some (f x)] M=some (p x,M)/\e [some (f x)] M=some (.d (h x),M))->lcF (hName 0) c e (xs.map f) [g] M=some (((xs.filter p).map h).map .d,M)
 |[]=>fun _ _=>rfl
 |x::xs=>fun g he=>by
  have ih:=GH (M:=M) (c:=c) (e:=e) f p h xs (some (f x)) fun y hy=>he y (B1 _ hy);obtain⟨e1,e2⟩:=he x B3;rw[C0];show(hName 0 (f x) [g] M).bind _=_;rw[show hName 0 (f x) [g] M=some ([some (f x)],M)from rfl,A2];dsimp only;rw[e1,A2];cases q:p x with
  |true=>
   dsimp only;rw[A4 rfl,e2,A2];dsimp only;rw[ih,A2,List.filter_cons_of_pos q];rfl
  |false=>
   dsimp only;rw[A5 A7,ih,List.filter_cons_of_neg (by rw[q];exact A7)]
theorem OV(h:gP a b=true)(e:a=0):b=1:=by
 subst e;unfold gP at h;simp only[Bool.and_eq_true,decide_eq_true_eq,beq_iff_eq]at h;have:Int.gcd 0 b=b.natAbs:=Int.gcd_zero_left b;omega
theorem aAt(h:gP a b=true):eqX true (.d (.tuple [.int a,.int b])) (.d (.tuple [.int 0,.int 1])) M=some (B (decide (a > 0)),M):=by
 have e:eqX true (.d (.tuple [.int a,.int b])) (.d (.tuple [.int 0,.int 1])) M=some (B (!(a==0&&(b==1&&true))),M):=rfl;rw[e];obtain⟨w1,w2,w3,w4⟩:=WY h;by_cases q:a=0
 .rw[OV h q,q];rfl
 .rw[show(a==0)=false by simpa using q,C8 (show a > 0 by omega)];rfl
theorem JX(n40:n<=40)(hv:γ[3]?=some (some (.d (.list (bM vs)))))(ok:OkV n vs)(hl:vs.length<=90):tE γ M=some (.d (.list (((vs.filter big).map (gF "tie")).map .str)),M):=by
 have it:aW (aD 3) γ M=some (vs.map (fun t=>.d (aX false t)),M):=by
  simp only[aW,aD,hv,Option.bind_some];show(some (bM vs)).bind _=_;rw[A2];unfold bM;rw[D5];rfl
 have fl:(vs.filter big).length<=vs.length:=J6 ..;unfold tE;refine iP it (by rw[A1];omega) ?_ (by rw[A1,A1];omega);rw[show kH [none] γ=[none]from rfl];refine(GH (fun t=>.d (aX false t)) big (fun t=>.str (gF "tie" t)) vs none fun t ht=>?_).trans (by simp only[List.map_map];rfl);obtain⟨b1,b2,b3,b4⟩:=FA n40 (ok.1 t ht);have e:=tR (k:=false) (k':=false) (w:="tie") (M:=M) (by decide) b1 b2 b3 b4;have x2:=(ix3 false (.int t.i) (.int t.j) (P false t.a t.b) M).2.2;have bg:=aAt (M:=M) (ok.1 t ht).1;refine⟨?_,bP (F:=cP) (aN (show fC (.str "tie") [some (.d (aX false t))] M=some (S "tie",M)from rfl) (aN (show aD 0 [some (CD.d (aX false t))] M=some (.d (aX false t),M)from rfl) bH)) e⟩;have q:=eL (k:=eqX true) (eL (k:=ixF) (show aD 0 [some (CD.d (aX false t))] M=some (.d (aX false t),M)from rfl) (cF (i:=2)) x2) (NL [some (.d (aX false t))] M) bg;unfold gB;rw[q];rfl
theorem aAB{f g:SF}{x:CD}(h:f γ M=some (.rt x,M')):bB f g γ M=some (.rt x,M'):=by simp only[bB,h,Option.bind_some]
theorem nF{α:Type}{k:Nat}(f g:α->PyData)(ts:List α)(h:∀t∈ts,aR k [.d (f t)] M=some (.d (g t),M))(hl:ts.length<=500):aR (k+1) [.d (.tuple (ts.map f))] M=some (.d (.list (ts.map g)),M):=by
 have cp:fH (aR k) [some (.d (.tuple (ts.map f)))] M=some (.d (.list (ts.map g)),M):=by
  unfold fH
  have it:aW (aD 0) [some (CD.d (.tuple (ts.map f)))] M=some (ts.map (fun t=>.d (f t)),M):=by
   unfold aW;rw[show aD 0 [some (CD.d (.tuple (ts.map f)))] M=some (.d (.tuple (ts.map f)),M)from rfl,A2];show(some (ts.map f)).bind _=_;rw[A2,D5];rfl
  refine iP it (by rw[A1];omega) ?_ (by rw[A1];omega);rw[show kH [none] [some (CD.d (.tuple (ts.map f)))]=[none]from rfl];exact gY (fun t=>.d (f t)) g ts none fun t ht=>bP (aN (show aD 0 [some (CD.d (f t))] M=some (.d (f t),M)from rfl) bH) (h t ht)
 unfold aR;refine nW rfl ?_;show eB (aR k) [some (.d (.tuple (ts.map f)))] M=_;unfold eB;refine aAB ?_;rw[WL (show gB (sS "tuple" (aD 0)) [some (CD.d (.tuple (ts.map f)))] M=some (true,M)from rfl)];simp only[cL,cp,Option.bind_some]
theorem qU{k:Nat}:aR (k+1) [I i] M=some (I i,M):=by
 unfold aR;refine nW rfl ?_;show eB (aR k) [some (I i)] M=_;unfold eB;rw[bC (show sIf (gB (sS "tuple" (aD 0))) (cL (fH (aR k))) eK [some (I i)] M=some (.nx [some (I i)],M)by rw[yB (show gB (sS "tuple" (aD 0)) [some (I i)] M=some (false,M)from rfl)];rfl)];rfl
theorem CN{k:Nat}(hl:ns.length<=500):aR (k+2) [.d (sqK false ns)] M=some (.d (sqK true ns),M):=
 nF (k:=k+1) (fun i=>.int i) (fun i=>.int i) ns (fun _ _=>qU) hl
theorem JS{k:Nat}{t:Tie}:aR (k+3) [.d (aX false t)] M=some (.d (aX true t),M):=by
 refine nF (k:=k+2) (fun p:PyData×PyData=>p.1) (fun p=>p.2) [(.int t.i,.int t.i),(.int t.j,.int t.j),(P false t.a t.b,P true t.a t.b)] (fun p hp=>?_) (show(3:Nat)<=500 by decide);simp only[List.mem_cons,List.not_mem_nil,or_false]at hp;rcases hp with rfl|rfl|rfl
 .exact qU
 .exact qU
 .exact CN (k:=k) (ns:=[t.a,t.b]) (show(2:Nat)<=500 by decide)
theorem EK(hl:ts.length<=500):aR 9 [.d (.tuple (ts.map (aX false)))] M=some (.d (.list (ts.map (aX true))),M):=
 nF (k:=8) (aX false) (aX true) ts (fun _ _=>JS (k:=5)) hl
theorem BI{ss:List (List Int)}(hb:∀s∈ss,BdS s)(hl:ss.length<=500):aR 9 [.d (.tuple (ss.map (sqK false)))] M=some (.d (.list (ss.map (sqK true))),M):=
 nF (k:=8) (sqK false) (sqK true) ss (fun s hs=>CN (k:=6) (by have:=(hb s hs).2;omega)) hl
theorem YA(k:Bool)(t:Tie):wt (aX k t)=8016:=by cases k<;>rfl
theorem aAG(k:Bool)(t:Tie):(aX k t).depth=2:=by cases k<;>rfl
theorem YO{k:Bool}{t:Tie}(h:BdT t):oks (aX k t)=true:=by
 obtain⟨h1,h2,h3,h4⟩:=h;have e1:oks (.int t.i)=true:=C8 h1;have e2:oks (.int t.j)=true:=C8 h2;have e3:oks (.int t.a)=true:=C8 h3;have e4:oks (.int t.b)=true:=C8 h4
 have g:gO [.int t.a,.int t.b]=true:=by
  show(oks (.int t.a)&&(oks (.int t.b)&&true))=true;rw[e3,e4];rfl
 cases k with
 |true=>
  show(oks (.int t.i)&&(oks (.int t.j)&&(gO [.int t.a,.int t.b]&&true)))=true;rw[e1,e2,g];rfl
 |false=>
  show(oks (.int t.i)&&(oks (.int t.j)&&(gO [.int t.a,.int t.b]&&true)))=true;rw[e1,e2,g];rfl
theorem yV(k:Bool):∀ts:List Tie,kK (ts.map (aX k))=ts.length*8018
 |[]=>by simp[kK]
 |t::ts=>by
  show wt (aX k t)+2+kK (ts.map (aX k))=_;rw[YA,yV k ts,C5];omega
theorem yK(k:Bool):∀ts:List Tie,PyData.depthAll (ts.map (aX k))<=2
 |[]=>by show(0:Nat)<=2;decide
 |t::ts=>by
  show max (aX k t).depth (PyData.depthAll (ts.map (aX k)))<=2;have:=yK k ts;rw[aAG];omega
theorem yT(k:Bool):∀ts:List Tie,(∀t∈ts,BdT t)->gO (ts.map (aX k))=true
 |[]=>fun _=>rfl
 |t::ts=>fun h=>by
  show(oks (aX k t)&&gO (ts.map (aX k)))=true;rw[YO (h t B3),yT k ts fun u hu=>h u (B1 _ hu)];rfl
theorem BR{k:Bool}{ts:List Tie}(hb:∀t∈ts,BdT t)(hl:ts.length<=6):Fit 60000 3 (.list (ts.map (aX k))):=by
 refine⟨yT k ts hb,?_,?_⟩
 .show kK (ts.map (aX k))+3<=60000;rw[yV];omega
 .show PyData.depthAll (ts.map (aX k))+1<=3;have:=yK k ts;omega
theorem RW{k:Bool}{ts:List Tie}(hb:∀t∈ts,BdT t)(hl:ts.length<=6):Fit 60000 3 (.tuple (ts.map (aX k))):=by
 refine⟨yT k ts hb,?_,?_⟩
 .show kK (ts.map (aX k))+3<=60000;rw[yV];omega
 .show PyData.depthAll (ts.map (aX k))+1<=3;have:=yK k ts;omega
theorem QV(f:Fit 60000 3 x):pO [.d x] M=some (S x.shown,M):=by
 rw[VM];exact PZ f
theorem qE{x:Str}:eqX true (S x) (S x) M=some (B false,M):=by
 show some (CD.d (.bool (!(x==x))),M)=_;rw[beq_self_eq_true];rfl
theorem yS{x:Str}:eqX false (S x) (S x) M=some (B true,M):=by
 show some (CD.d (.bool (x==x)),M)=_;rw[beq_self_eq_true]
noncomputable abbrev GL(g0 g1 g2 g3 g4 g5 g6 g7 g8 g9 g10:Option CD):Ga:=[g0,g1,g2,g3,g4,g5,g6,g7,g8,g9,g10]
theorem aCp{g0 g1 g2 g3 g4 g5 g7 g9 g10:Option CD}{k:Bool}{ts:List Tie}{M:Sto}(hx:bG x=some (ts.map (aX k)))(ft:Fit 60000 3 x)(hb:∀t∈ts,BdT t)(hl:ts.length<=6):
 nM (GL g0 g1 g2 g3 g4 g5 (some (.d (.list (ts.map (aX false))))) g7 (some (.d x)) g9 g10) M=some (.nx (GL g0 g1 g2 g3 g4 g5 (some (.d (.list (ts.map (aX false))))) g7 (some (.d x)) (some (S x.shown)) g10),M):=by
 have v8:∀g9,aD 8 (GL g0 g1 g2 g3 g4 g5 (some (.d (.list (ts.map (aX false))))) g7 (some (.d x)) g9 g10) M=some (.d x,M):=fun _=>rfl;have r:∀g9,aK pO (aB (aD 8) aH) (GL g0 g1 g2 g3 g4 g5 (some (.d (.list (ts.map (aX false))))) g7 (some (.d x)) g9 g10) M=some (S x.shown,M):=fun g9=>bP (aN (v8 g9) bH) (QV ft);have a1:=dA (i:=9) (r g9);have t1:=bP (F:=dN) (aN (v8 (some (S x.shown))) bH) (rP (M:=M) hx hb (by omega));have t2:aY "str" dC (fC (.str "")) (aB HN aH) (GL g0 g1 g2 g3 g4 g5 (some (.d (.list (ts.map (aX false))))) g7 (some (.d x)) (some (S x.shown)) g10) M=some (S (Tx (ts.map (gF "branch"))),M):=AK (w:="branch") (v:=6) (cap:=[none]) (by decide) rfl hb (by omega) rfl;have t3:=bP (F:=dZ) (aN (v8 (some (S x.shown))) bH) (sA (M:=M) hx hb (by omega));have t4:aY "str" dC (fC (.str "")) (aB GQ aH) (GL g0 g1 g2 g3 g4 g5 (some (.d (.list (ts.map (aX false))))) g7 (some (.d x)) (some (S x.shown)) g10) M=some (S (Tx (ts.map (gF "flow"))),M):=AK (w:="flow") (v:=6) (cap:=[none]) (by decide) rfl hb (by omega) rfl;have c1:=eL (k:=eqX true) t1 t2 qE;have c2:=eL (k:=eqX true) t3 t4 qE;have c3:=eL (k:=eqX true) (r (some (S x.shown))) (show aD 9 (GL g0 g1 g2 g3 g4 g5 (some (.d (.list (ts.map (aX false))))) g7 (some (.d x)) (some (S x.shown)) g10) M=some (S x.shown,M)from rfl) qE
 have gb:∀{f:EF}{γ:Ga}{b:Bool},f γ M=some (B b,M)->gB f γ M=some (b,M):=fun h=>by
  unfold gB;rw[h];rfl
 unfold nM;rw[bC a1];show bB _ _ (GL g0 g1 g2 g3 g4 g5 (some (.d (.list (ts.map (aX false))))) g7 (some (.d x)) (some (S x.shown)) g10) M=_;rw[bC (show sIf _ _ eK (GL g0 g1 g2 g3 g4 g5 (some (.d (.list (ts.map (aX false))))) g7 (some (.d x)) (some (S x.shown)) g10) M=some (.nx (GL g0 g1 g2 g3 g4 g5 (some (.d (.list (ts.map (aX false))))) g7 (some (.d x)) (some (S x.shown)) g10),M)from(yB (gb c1)).trans rfl)];refine(yB ?_).trans rfl;unfold gOr;rw[gb c2];exact gb c3
theorem aBp{g0 g1 g2 g3 g4 g5 g6 g9:Option CD}{k:Bool}{ss:List (List Int)}{M:Sto}(hx:bG x=some (ss.map (sqK k)))(hb:∀s∈ss,BdS s)(hl:ss.length<=6){g7:Option CD}:
 nI (GL g0 g1 g2 g3 g4 g5 g6 g7 (some (.d x)) g9 (some (S (Tx (ss.map cR))))) M=some (.nx (GL g0 g1 g2 g3 g4 g5 g6 g7 (some (.d x)) g9 (some (S (Tx (ss.map cR))))),M):=by
 have t1:=bP (F:=cY) (aN (show aD 8 (GL g0 g1 g2 g3 g4 g5 g6 g7 (some (.d x)) g9 (some (S (Tx (ss.map cR))))) M=some (.d x,M)from rfl) bH) (pN (M:=M) hx hb (by omega));have c1:=eL (k:=eqX true) t1 (show aD 10 (GL g0 g1 g2 g3 g4 g5 g6 g7 (some (.d x)) g9 (some (S (Tx (ss.map cR))))) M=some (S (Tx (ss.map cR)),M)from rfl) qE;unfold nI;refine(yB ?_).trans rfl;unfold gB;rw[c1];rfl
theorem NX{k:F2}{M1 M2:Sto}{a b c:CD}(h1:f γ M=some (a,M1))(h2:g γ M1=some (b,M2))(h:k a b M2=some (c,M2)):fOp k f g γ M=some (c,M2):=by
 simp only[fOp,h1,h2,Option.bind_some,h]
theorem aBQ{M1:Sto}{b:Bool}(h:f γ M=some (B b,M1)):gB f γ M=some (b,M1):=by
 unfold gB;rw[h];rfl
theorem TR{nm:Str}{h:FN}{M1 M2:Sto}(ha:fa γ M=some (xs,M1))(hh:h (.c M1.length::xs) (M1++[.obj nm []])=some (.d .none,M2)):tX nm h fa γ M=some (.c M1.length,M2):=by
 simp only[tX,ha,hh,Option.bind_some];rfl
theorem xO{M1:Sto}{i:Nat}(h:f γ M=some (.c i,M1))(hi:M1[i]?=some (.lst (ds.map .d))):jJ f γ M=some (.d (.list ds),M1.set i .dead):=by
 simp only[jJ,h,Option.bind_some,hi,qA]
theorem aBq{ls:List Str}(hv:γ[4]?=some (some (.d (.list (ls.map .str)))))(h:∀l∈ls,l.length<=10000)(hl:ls.length<=100):aY "str" dC (fC (.str "")) (aB pS aH) γ M=some (S (Tx ls),M):=by
 have cp:pS γ M=some (.d (.list ((ls.map nl).map .str)),M):=by
  unfold pS
  have it:aW (aD 4) γ M=some (ls.map (fun l=>S l),M):=by
   simp only[aW,aD,hv,Option.bind_some];show(some (ls.map PyData.str)).bind _=_;rw[A2,D5];rfl
  refine iP it (by rw[A1];omega) ?_ (by rw[A1,A1];omega);rw[show kH [none] γ=[none]from rfl];refine(gY (fun l=>S l) (fun l=>.str (nl l)) ls none fun l hl'=>?_).trans (by simp only[List.map_map];rfl);have z:iQ (S l) (S "\n") M=some (S (l++"\n"),M):=oN (by have:=h l hl';rw[nl1,szl];omega);exact eL (show aD 0 [some (S l)] M=some (S l,M)from rfl) (show fC (.str "\n") [some (S l)] M=some (S "\n",M)from rfl) z
 refine kD (n:=10001) cp (fun l hl'=>?_) (by rw[A1,em0];omega);obtain⟨l0,h0,rfl⟩:=List.mem_map.mp hl';have:=h l0 h0;show(l0++"\n").length<=_;rw[cW,nl1];omega
theorem QW(nd:(vs.map Tie.key).Nodup):(vs.reverse.map Tie.key).Nodup:=by
 exact((List.reverse_perm vs).map Tie.key).nodup_iff.mpr nd
theorem QE{g0 g1 g4 g5 g6 g7 g8 g9 g10:Option CD}{M:Sto}(n0:1<=n)(n40:n<=40)(ok:OkV n vs)(pw:vs.Pairwise Tie.lt)(l8:vs.length<=8):
 ∃L,aK fQ (aB (tX "Web" dU (aB (aD 2) (aB (IY (aD 3) (xU (fUn DU (fC (.int 1))))) aH))) aH) (GL g0 g1 (some (I n)) (some (.d (.list (bM vs)))) g4 g5 g6 g7 g8 g9 g10) M=some (S (Tx (qJ n (vs.filter big))),M++L):=by
 have hr:(bM vs).reverse=bM vs.reverse:=by unfold bM;rw[List.map_reverse]
 obtain⟨ws,pm,pw2,e⟩:=RJ (n:=n) (us:=vs.reverse) (M:=M) ⟨fun t ht=>ok.1 t (List.mem_reverse.mp ht),QW ok.2,by rw[J2];omega⟩ n0 n40;have ew:ws=vs:=uM pw2 pw (pm.trans (List.reverse_perm vs));subst ew
 have rv:IY (aD 3) (xU (fUn DU (fC (.int 1)))) (GL g0 g1 (some (I n)) (some (.d (.list (bM ws)))) g4 g5 g6 g7 g8 g9 g10) M=some (.d (.list (bM ws.reverse)),M):=by
  rw[<- hr];rfl
 have mk:=TR (nm:="Web") (h:=dU) (aN (show aD 2 (GL g0 g1 (some (I n)) (some (.d (.list (bM ws)))) g4 g5 g6 g7 g8 g9 g10) M=some (I n,M)from rfl) (aN rv bH)) e;have fl:(ws.filter big).length<=ws.length:=J6 ..;have sw:=ET (n:=n) (us:=ws.reverse) (vs:=ws) (M:=M) (by omega) n40 (fun t ht=>FA n40 (ok.1 t (List.mem_filter.mp ht).1)) (by omega);exact⟨_,bP (aN mk bH) sw⟩
theorem KJ{x:CD}(h:f γ M=some (B true,M))(hg:g γ M=some (x,M)):kU f g γ M=some (x,M):=by
 unfold kU;rw[h];exact hg
theorem PP{a b c:PyData}(e:fa γ M=some ([.d a,.d b,.d c],M)):aW (cK fa) γ M=some ([.d a,.d b,.d c],M):=by
 have l:cK fa γ M=some (.d (.list [a,b,c]),M):=by
  unfold cK;rw[e,A2];show(some [a,b,c]).bind _=_;rw[A2];exact A4 (s9 (show(3:Nat)<=9 by decide))
 unfold aW;rw[l];rfl
theorem KR{g0 g1 g2 g3 g4 g5 g7 g8 g9 g10:Option CD}{k:Bool}{ts:List Tie}{xs:List CD}{M:Sto}(hx:bG x=some (ts.map (aX k)))(ft:Fit 60000 3 x)(hb:∀t∈ts,BdT t)(hl:ts.length<=6):
 jR (hName 8) nM (.d x::xs) (GL g0 g1 g2 g3 g4 g5 (some (.d (.list (ts.map (aX false))))) g7 g8 g9 g10) M=jR (hName 8) nM xs (GL g0 g1 g2 g3 g4 g5 (some (.d (.list (ts.map (aX false))))) g7 (some (.d x)) (some (S x.shown)) g10) M:=
 qD (γ1:=GL g0 g1 g2 g3 g4 g5 (some (.d (.list (ts.map (aX false))))) g7 (some (.d x)) g9 g10) rfl (aCp hx ft hb hl)
theorem KM{g0 g1 g2 g3 g4 g5 g6 g7 g8 g9:Option CD}{k:Bool}{ss:List (List Int)}{xs:List CD}{M:Sto}(hx:bG x=some (ss.map (sqK k)))(hb:∀s∈ss,BdS s)(hl:ss.length<=6):
 jR (hName 8) nI (.d x::xs) (GL g0 g1 g2 g3 g4 g5 g6 g7 g8 g9 (some (S (Tx (ss.map cR))))) M=jR (hName 8) nI xs (GL g0 g1 g2 g3 g4 g5 g6 g7 (some (.d x)) g9 (some (S (Tx (ss.map cR))))) M:=
 qD (γ1:=GL g0 g1 g2 g3 g4 g5 g6 g7 (some (.d x)) g9 (some (S (Tx (ss.map cR))))) rfl (aBp hx hb hl)
theorem main(ns:List Int)(hl:ns.length<=63):∃M',F_law [.d (.list (ns.map .int))] []=some (.d (.bool true),M'):=by
 obtain⟨c,M0,e0,d0⟩:=YZ ns;generalize hs:some (CD.d (PyData.list (ns.map PyData.int)))=s0
 have a1:bI (aK iY (aB (aD 0) (aB (fC (.int 140)) aH))) (hName 1) (GL s0 none none none none none none none none none none) []=some (.nx (GL s0 (some (.c c)) none none none none none none none none none),M0):=by
  subst hs;exact dA (bP (aN (show aD 0 (GL (some (CD.d (PyData.list (ns.map PyData.int)))) none none none none none none none none none none) []=some (.d (.list (ns.map .int)),[])from rfl) (aN cF bH)) e0)
 have d0:Dk M0 c (73+1+1+9+1+18+1+35+1):=d0;have d0:Dk M0 c (((35+1+18+1+9)+1)+1):=d0.le (by decide);obtain⟨z,M1,p1,d1,o1,z0,z1⟩:=d0.pop;obtain⟨y,M2,p2,d2,o2,y0,y1⟩:=d1.pop;obtain⟨n,hn,xn⟩:=vU (M:=M2) (ns:=[1,2,40,2+z % 30]) (z:=y) (m:=4) (by decide) rfl;have n1:=C1 z (show(30:Int)≠0 by decide);have n2:=B6 z (show(0:Int)<30 by decide)
 have bn:1<=n/\n<=40:=by
  simp only[List.mem_cons,List.not_mem_nil,or_false]at hn;rcases hn with rfl|rfl|rfl|rfl<;>omega
 have a2:bI (fOp ixF (cK (aB (fC (.int 1)) (aB (fC (.int 2)) (aB (fC (.int 40)) (aB (fOp dM (fC (.int 2)) (fOp bD (aY "list" eO (aD 1) aH) (fC (.int 30)))) aH))))) (fOp bD (aY "list" eO (aD 1) aH) (fC (.int 4)))) (hName 2) (GL s0 (some (.c c)) none none none none none none none none none) M0=some (.nx (GL s0 (some (.c c)) (some (I n)) none none none none none none none none),M2):=by
  have l:cK (aB (fC (.int 1)) (aB (fC (.int 2)) (aB (fC (.int 40)) (aB (fOp dM (fC (.int 2)) (fOp bD (aY "list" eO (aD 1) aH) (fC (.int 30)))) aH)))) (GL s0 (some (.c c)) none none none none none none none none none) M0=some (.d (.list (([1,2,40,2+z % 30]:List Int).map .int)),M1):=by
   have e:=aN (γ:=GL s0 (some (.c c)) none none none none none none none none none) (M:=M0) (cF (i:=1)) (aN (cF (i:=2)) (aN (cF (i:=40)) (aN (NX (k:=dM) (cF (i:=2)) (xZ (k:=bD) (pop_at (γ:=GL s0 (some (.c c)) none none none none none none none none none) (v:=1) rfl d0.ty p1) (cF (i:=30)) (dX (by decide))) AS) bH)));unfold cK;rw[e,A2];show(some (([1,2,40,2+z % 30]:List Int).map PyData.int)).bind _=_;rw[A2];exact A4 (s9 (show(4:Nat)<=9 by decide))
  exact dA (NX l (xZ (k:=bD) (pop_at (γ:=GL s0 (some (.c c)) none none none none none none none none none) (v:=1) rfl d1.ty p2) (cF (i:=4)) (dX (by decide))) xn)
 obtain⟨vs,M3,e3,ok,pw,l8,d3⟩:=aAZ (c:=c) (m:=35+1+18+1) bn.1 d2
 have a3:bI (aK jI (aB (aD 1) (aB (aD 2) aH))) (hName 3) (GL s0 (some (.c c)) (some (I n)) none none none none none none none none) M2=some (.nx (GL s0 (some (.c c)) (some (I n)) (some (.d (.list (bM vs)))) none none none none none none none),M3):=
  dA (bP (aN (show aD 1 (GL s0 (some (.c c)) (some (I n)) none none none none none none none none) M2=some (.c c,M2)from rfl) (aN (show aD 2 (GL s0 (some (.c c)) (some (I n)) none none none none none none none none) M2=some (I n,M2)from rfl) bH)) e3)
 have t2:=pF;have bdn:Bd n:=Bd.of (by omega) (by omega);have fl:(vs.filter big).length<=vs.length:=J6 ..;have ll:=JX (γ:=GL s0 (some (.c c)) (some (I n)) (some (.d (.list (bM vs)))) none none none none none none none) (M:=M3) bn.2 rfl ok (by omega);have sl:=dW bdn
 have a4:bI (fOp dM (cK (aB (fOp iQ (fC (.str "places ")) (aK gL (aB (aD 2) aH))) aH)) tE) (hName 4) (GL s0 (some (.c c)) (some (I n)) (some (.d (.list (bM vs)))) none none none none none none none) M3=some (.nx (GL s0 (some (.c c)) (some (I n)) (some (.d (.list (bM vs)))) (some (.d (.list ((qJ n (vs.filter big)).map .str)))) none none none none none none),M3):=by
  have pz:iQ (S "places ") (S (sI n)) M3=some (S (pl n),M3):=oN (by rw[pl7,szl];omega);have q:=eL (k:=iQ) (γ:=GL s0 (some (.c c)) (some (I n)) (some (.d (.list (bM vs)))) none none none none none none none) (show fC (.str "places ") _ M3=some (S "places ",M3)from rfl) (bP (F:=gL) (aN (show aD 2 (GL s0 (some (.c c)) (some (I n)) (some (.d (.list (bM vs)))) none none none none none none none) M3=some (I n,M3)from rfl) bH) (iT bdn)) pz;exact dA (eL (aCN q) ll (tD (by rw[A1,A1];show 1+_<=1000;omega)))
 obtain⟨L,e5⟩:=QE (g0:=s0) (g1:=some (.c c)) (g4:=some (.d (.list ((qJ n (vs.filter big)).map .str)))) (g5:=none) (g6:=none) (g7:=none) (g8:=none) (g9:=none) (g10:=none) (M:=M3) bn.1 bn.2 ok pw l8;have a5:bI (aK fQ (aB (tX "Web" dU (aB (aD 2) (aB (IY (aD 3) (xU (fUn DU (fC (.int 1))))) aH))) aH)) (hName 5) (GL s0 (some (.c c)) (some (I n)) (some (.d (.list (bM vs)))) (some (.d (.list ((qJ n (vs.filter big)).map .str)))) none none none none none none) M3=some (.nx (GL s0 (some (.c c)) (some (I n)) (some (.d (.list (bM vs)))) (some (.d (.list ((qJ n (vs.filter big)).map .str)))) (some (S (Tx (qJ n (vs.filter big))))) none none none none none),M3++L):=dA e5;have d4:=d3.app (L:=L);generalize hM4:M3++L=M4 at e5 a5 d4;have wl:=BX (n:=n) (ws:=vs.filter big) bdn fun t ht=>FA bn.2 (ok.1 t (List.mem_filter.mp ht).1);generalize hR:some (CD.d (.list (bM vs)))=R at a3 a4 a5;generalize hW:qJ n (vs.filter big)=W at a4 a5 wl;have wn:W.length<=100:=by rw[<- hW];unfold qJ;rw[C5,A1];omega
 have c6:gOr (sR (gB (sS "str" (aD 5)))) (gB (fOp (eqX true) (aD 5) (aY "str" dC (fC (.str "")) (aB pS aH)))) (GL s0 (some (.c c)) (some (I n)) R (some (.d (.list (W.map .str)))) (some (S (Tx W))) none none none none none) M4=some (false,M4):=by
  have q:=eL (k:=eqX true) (show aD 5 (GL s0 (some (.c c)) (some (I n)) R (some (.d (.list (W.map .str)))) (some (S (Tx W))) none none none none none) M4=some (S (Tx W),M4)from rfl) (aBq rfl wl wn) qE;unfold gOr;rw[show sR (gB (sS "str" (aD 5))) (GL s0 (some (.c c)) (some (I n)) R (some (.d (.list (W.map .str)))) (some (S (Tx W))) none none none none none) M4=some (false,M4)from rfl,A2];exact aBQ q
 obtain⟨x,M5,p5,d5,o5,x0,x1⟩:=Dk.pop (m:=35+1+18) d4;have k0:=C1 x (show(7:Int)≠0 by decide);have k1:=B6 x (show(0:Int)<7 by decide);obtain⟨f,ts,M6,e6,f6,l6,b6,d6,ne6⟩:=RG (c:=c) (m:=35+1) (n:=x % 7) k0 (by omega) d5
 have a7:bI (jJ (aK iD (aB (aD 1) (aB (fOp bD (aY "list" eO (aD 1) aH) (fC (.int 7))) aH)))) (hName 6) (GL s0 (some (.c c)) (some (I n)) R (some (.d (.list (W.map .str)))) (some (S (Tx W))) none none none none none) M4=some (.nx (GL s0 (some (.c c)) (some (I n)) R (some (.d (.list (W.map .str)))) (some (S (Tx W))) (some (.d (.list (ts.map (aX false))))) none none none none),M6.set f .dead):=
  dA (xO (bP (aN (show aD 1 (GL s0 (some (.c c)) (some (I n)) R (some (.d (.list (W.map .str)))) (some (S (Tx W))) none none none none none) M4=some (.c c,M4)from rfl) (aN (xZ (k:=bD) (pop_at rfl d4.ty p5) (cF (i:=7)) (dX (by decide))) bH)) e6) (by rw[f6,D5];rfl))
 have d7:Dk (M6.set f .dead) c (35+1):=d6.put ne6;generalize hM7:M6.set f .dead=M7 at a7 d7;obtain⟨w,M8,p8,d8,o8,w0,w1⟩:=Dk.pop (m:=35) d7;have j0:=C1 w (show(6:Int)≠0 by decide);have j1:=B6 w (show(0:Int)<6 by decide);obtain⟨f',ss,M9,e9,f9,l9,b9,d9,ne9⟩:=MN (c:=c) (m:=0) (n:=w % 6) j0 (by omega) (d8.le (by decide));generalize hG5:some (S (Tx W))=G5 at a5 c6 a7;generalize hG4:some (CD.d (.list (W.map .str)))=G4 at a4 a5 c6 a7;generalize hG2:some (I n)=G2 at a2 a3 a4 a5 c6 a7
 have a8:bI (jJ (aK fV (aB (aD 1) (aB (fOp bD (aY "list" eO (aD 1) aH) (fC (.int 6))) aH)))) (hName 7) (GL s0 (some (.c c)) G2 R G4 G5 (some (.d (.list (ts.map (aX false))))) none none none none) M7=some (.nx (GL s0 (some (.c c)) G2 R G4 G5 (some (.d (.list (ts.map (aX false))))) (some (.d (.list (ss.map (sqK false))))) none none none),M9.set f' .dead):=
  dA (xO (bP (aN (show aD 1 (GL s0 (some (.c c)) G2 R G4 G5 (some (.d (.list (ts.map (aX false))))) none none none none) M7=some (.c c,M7)from rfl) (aN (xZ (k:=bD) (pop_at rfl d7.ty p8) (cF (i:=6)) (dX (by decide))) bH)) e9) (by rw[f9,D5];rfl))
 generalize hM:M9.set f' .dead=M at a8
 have it6:aW (cK (aB (aD 6) (aB (aK cJ (aB (aD 6) aH)) (aB (aK (aR 9) (aB (aK cJ (aB (aD 6) aH)) aH)) aH)))) (GL s0 (some (.c c)) G2 R G4 G5 (some (.d (.list (ts.map (aX false))))) (some (.d (.list (ss.map (sqK false))))) none none none) M=some ([.d (.list (ts.map (aX false))),.d (.tuple (ts.map (aX false))),.d (.list (ts.map (aX true)))],M):=by
  have v6:aD 6 (GL s0 (some (.c c)) G2 R G4 G5 (some (.d (.list (ts.map (aX false))))) (some (.d (.list (ss.map (sqK false))))) none none none) M=some (.d (.list (ts.map (aX false))),M):=rfl;have tp:=bP (F:=cJ) (aN v6 bH) (show cJ [.d (.list (ts.map (aX false)))] M=some (.d (.tuple (ts.map (aX false))),M)from rfl);have e:=aN v6 (aN tp (aN (bP (F:=aR 9) (aN tp bH) (EK (M:=M) (by omega))) bH));exact PP e
 have lp6:∃g8 g9,jR (hName 8) nM [.d (.list (ts.map (aX false))),.d (.tuple (ts.map (aX false))),.d (.list (ts.map (aX true)))] (GL s0 (some (.c c)) G2 R G4 G5 (some (.d (.list (ts.map (aX false))))) (some (.d (.list (ss.map (sqK false))))) none none none) M=some (.nx (GL s0 (some (.c c)) G2 R G4 G5 (some (.d (.list (ts.map (aX false))))) (some (.d (.list (ss.map (sqK false))))) g8 g9 none),M):=by
  refine⟨some (.d (.list (ts.map (aX true)))),some (S (PyData.list (ts.map (aX true))).shown),?_⟩;rw[KR (k:=false) rfl (BR b6 l6) b6 l6,KR (k:=false) rfl (RW b6 l6) b6 l6,KR (k:=true) rfl (BR b6 l6) b6 l6];rfl
 obtain⟨g8,g9,lp6⟩:=lp6;have a10:bI (aY "str" dC (fC (.str "")) (aB pK aH)) (hName 10) (GL s0 (some (.c c)) G2 R G4 G5 (some (.d (.list (ts.map (aX false))))) (some (.d (.list (ss.map (sqK false))))) g8 g9 none) M=some (.nx (GL s0 (some (.c c)) G2 R G4 G5 (some (.d (.list (ts.map (aX false))))) (some (.d (.list (ss.map (sqK false))))) g8 g9 (some (S (Tx (ss.map cR))))),M):=dA (IJ (γ:=GL s0 (some (.c c)) G2 R G4 G5 (some (.d (.list (ts.map (aX false))))) (some (.d (.list (ss.map (sqK false))))) g8 g9 none) (M:=M) rfl b9 (by omega))
 have it7:aW (cK (aB (aD 7) (aB (aK cJ (aB (aD 7) aH)) (aB (aK (aR 9) (aB (aK cJ (aB (aD 7) aH)) aH)) aH)))) (GL s0 (some (.c c)) G2 R G4 G5 (some (.d (.list (ts.map (aX false))))) (some (.d (.list (ss.map (sqK false))))) g8 g9 (some (S (Tx (ss.map cR))))) M=some ([.d (.list (ss.map (sqK false))),.d (.tuple (ss.map (sqK false))),.d (.list (ss.map (sqK true)))],M):=by
  have v7:aD 7 (GL s0 (some (.c c)) G2 R G4 G5 (some (.d (.list (ts.map (aX false))))) (some (.d (.list (ss.map (sqK false))))) g8 g9 (some (S (Tx (ss.map cR))))) M=some (.d (.list (ss.map (sqK false))),M):=rfl;have tp:=bP (F:=cJ) (aN v7 bH) (show cJ [.d (.list (ss.map (sqK false)))] M=some (.d (.tuple (ss.map (sqK false))),M)from rfl);have e:=aN v7 (aN tp (aN (bP (F:=aR 9) (aN tp bH) (BI (M:=M) b9 (by omega))) bH));exact PP e
 have lp7:∃g8',jR (hName 8) nI [.d (.list (ss.map (sqK false))),.d (.tuple (ss.map (sqK false))),.d (.list (ss.map (sqK true)))] (GL s0 (some (.c c)) G2 R G4 G5 (some (.d (.list (ts.map (aX false))))) (some (.d (.list (ss.map (sqK false))))) g8 g9 (some (S (Tx (ss.map cR))))) M=some (.nx (GL s0 (some (.c c)) G2 R G4 G5 (some (.d (.list (ts.map (aX false))))) (some (.d (.list (ss.map (sqK false))))) g8' g9 (some (S (Tx (ss.map cR))))),M):=by
  refine⟨some (.d (.list (ss.map (sqK true)))),?_⟩;rw[KM (k:=false) rfl b9 (by omega),KM (k:=false) rfl b9 (by omega),KM (k:=true) rfl b9 (by omega)];rfl
 obtain⟨g8',lp7⟩:=lp7;have q1:=eL (k:=eqX false) (γ:=GL s0 (some (.c c)) G2 R G4 G5 (some (.d (.list (ts.map (aX false))))) (some (.d (.list (ss.map (sqK false))))) g8' g9 (some (S (Tx (ss.map cR))))) (bP (F:=dN) (aN (show gG aH _ M=some (.d (.tuple []),M)from rfl) bH) (rP (k:=false) (ts:=[]) (M:=M) rfl (fun t h=>by simp at h) (by decide))) (show fC (.str "") _ M=some (S (Tx []),M)from rfl) yS;have q2:=eL (k:=eqX false) (γ:=GL s0 (some (.c c)) G2 R G4 G5 (some (.d (.list (ts.map (aX false))))) (some (.d (.list (ss.map (sqK false))))) g8' g9 (some (S (Tx (ss.map cR))))) (bP (F:=dZ) (aN (show cK aH _ M=some (.d (.list []),M)from rfl) bH) (sA (k:=false) (ts:=[]) (M:=M) rfl (fun t h=>by simp at h) (by decide))) (show fC (.str "") _ M=some (S (Tx []),M)from rfl) yS;have q3:=eL (k:=eqX false) (γ:=GL s0 (some (.c c)) G2 R G4 G5 (some (.d (.list (ts.map (aX false))))) (some (.d (.list (ss.map (sqK false))))) g8' g9 (some (S (Tx (ss.map cR))))) (bP (F:=cY) (aN (show gG aH _ M=some (.d (.tuple []),M)from rfl) bH) (pN (k:=false) (ss:=[]) (M:=M) rfl (fun t h=>by simp at h) (by decide))) (show fC (.str "") _ M=some (S (Tx []),M)from rfl) yS;have rt:=KJ q1 (KJ q2 q3);subst hs;refine⟨M,nW rfl ?_⟩;show HP (GL (some (CD.d (PyData.list (ns.map PyData.int)))) none none none none none none none none none none) []=_;unfold HP;rw[bC a1,bC a2,bC a3,bC a4,bC a5];rw[bC (show sIf _ _ eK (GL (some (CD.d (PyData.list (ns.map PyData.int)))) (some (.c c)) G2 R G4 G5 none none none none none) M4=some (.nx (GL (some (CD.d (PyData.list (ns.map PyData.int)))) (some (.c c)) G2 R G4 G5 none none none none none),M4)from(yB c6).trans rfl)];rw[bC a7,bC a8,bC (rJ it6 lp6),bC a10];rw[bC (rJ it7 lp7)];simp only[cL,rt,Option.bind_some]
end Q68
end
end
open PySem PySem.W PyProof.Rows
set_option maxRecDepth 100000 in
set_option maxHeartbeats 0 in
theorem PySem.Challenge.cw_cutstree_k68_shown_holds : PySem.Challenge.rw_cutstree_k68_shown.Holds := by
 refine Q68.k_top ?_
 k_fill
 refine L2.law_walk (l:=PySem.Challenge.rw_cutstree_k68_shown) (F:=Q68.F_law) (k:=11) (p:="_law_script") (by decide +kernel) rfl rfl ⟨fun _=>rfl,by decide,by decide,rfl⟩ (fun w h Y=>PySem.W.kIn_of Y) ?T Q68.main
 case T=>
  intro w mg h KX G;refine Q68.fn_law (K:=_) (mg:=mg) ?TT
  refine' Q68.txt_mk KX G ?v0 ?v1 ?v2 ?v3 ?v4 ?v5 ?v6 ?v7 ?v8 ?v9 ?v10 ?v11 ?v12 ?v13 ?v14 ?v15 ?v16 ?v17 ?v18 ?v19 ?v20 ?v21 ?v22 ?v23 ?v24 ?v25 ?v26 ?v27 ?v28 ?v29 ?v30 ?v31 ?v32 ?v33 ?v34 ?v35 ?v36 ?v37 ?v38 ?v39 ?v40 ?v41 ?v42 ?v43 ?v44 ?v45 ?v46 ?v47 ?v48 ?v49 ?v50 ?v51 ?v52 ?v53 ?v54 ?v55 ?v56 ?v57 ?v58 ?v59
  (case v0|v1|v2|v3|v4|v5|v6|v7|v8|v9|v10|v11|v12|v13|v14|v15|v16|v20|v21|v22|v23|v24|v25|v26|v27|v30=>k_is)
  (case v17|v18|v19|v28|v29=>kernel_rfl)
  (case v31|v32|v33|v34|v35|v36|v37|v38|v39|v40|v41|v42|v43|v44|v45|v46|v47|v48|v49|v50|v51|v52|v53|v54|v55|v56|v57|v58|v59=>exact L2.def_mk KX G (by k_is) (by k_is) (by k_is) (by k_is))