import PyProof.Rows.All
import OpenK.KLine
import OpenK.KWalk
import OpenK.KMore
import OpenK.KOwn
import OpenK.KRaise
import KE.KSortTup
import PyProof.EqAt
import PyProof.EqKinds
import PyProof.TupleCall
import PyProof.ReprLen
import KE.KIsAll
import PyProof.ExcArgsOwn
import PyProof.NsDelKeeps
import KE.KTryMore
import PyProof.InstStoreFacts
import PyProof.ExcInit
import PyProof.ExcClass2
import PyProof.Rows.ListMul
import PyProof.Draws
import PyProof.EnumMake
import PyProof.Rows.EnumRows
import KE.KItemsList
import PyProof.DictCompW
import PyProof.ListRange
import PyProof.ZipIter
import PyProof.AttrMissHeap
import KE.KDictOf
import KE.KUnpack
import PyProof.SetKind
import PyProof.Rows.SetFrom
import PySem.Challenge.RW_cutstree_k10_side_weight
set_option Elab.async false
section
set_option maxRecDepth 100000
set_option maxHeartbeats 0
namespace Q10
open PySem
noncomputable def qv:Program:={ PySem.Challenge.rw_cutstree_k10_side_weight.prog with main:={ PySem.Challenge.rw_cutstree_k10_side_weight.prog.main with body:=((((((PySem.Challenge.rw_cutstree_k10_side_weight.prog.main.body.eraseIdx 34).eraseIdx 29).eraseIdx 24).eraseIdx 14).eraseIdx 5).eraseIdx 0) } }
end Q10
open PySem PySem.W PyProof.Rows
local macro_rules | `(tactic| o_head $H) => `(tactic| (
 refine holds_open (r:=PySem.Challenge.rw_cutstree_k10_side_weight.row) (q:=Q10.qv) (loose:=[]) (Xt:=fun s=>xlAt Q10.qv [] s&&recOk (RowW.records (OpenRow.toRowW PySem.Challenge.rw_cutstree_k10_side_weight.row)) s) (XP:=XL Q10.qv []) (Yf:=Hook.obs $H) (Ya:=Hook.val $H) (YP:=Hook.says $H) (N:=6100) ?hl (Hook.of $H) (Hook.keeps $H) (fun s e=>xl_of s (Bool.and_eq_true_iff.mp e).1) XL.keeps (by rfl) (by rfl) (by rfl) (fun s e=>recFacts_of (Bool.and_eq_true_iff.mp e).2) (by rfl) (by first|assumption|decide +kernel) (by decide +kernel) ⟨rfl,rfl,rfl,rfl,rfl,by decide +kernel⟩ ?hw ?hc
 (case hl=>intro w;kernel_rfl)))
open_top Q10.k_top for PySem.Challenge.rw_cutstree_k10_side_weight
end
section
set_option linter.all false
set_option maxRecDepth 100000
set_option maxHeartbeats 4000000
noncomputable abbrev Fg:=PySem.W.Frag
noncomputable section
abbrev A1:=@PySem.wpAny_bind
abbrev A2:=@PySem.Heap.get?_push_of_some
abbrev A3:=@List.length_map
abbrev A4:=@PySem.wpAny_pure
abbrev A6:=@PySem.Heap.lt_size
abbrev A7:=@Nat.le_refl
abbrev A8:=@List.mem_cons_of_mem
abbrev A9:=@List.mem_cons_self
abbrev B0:=@if_pos
abbrev B1:=@PySem.Heap.get?_push_size
abbrev B2:=@if_neg
abbrev B3:=@Option.bind_some
abbrev B4:=@Bool.false_ne_true
abbrev B5:=@Bool.and_eq_true
abbrev B6:=@List.getElem?_eq_getElem
abbrev B7:=@Nat.ne_of_lt
abbrev B8:=@Nat.lt_of_lt_of_le
abbrev B9:=@List.length_append
abbrev C0:=@List.getElem?_map
abbrev C1:=@List.size_toArray
abbrev C2:=@Array.getD_eq_getD_getElem?
abbrev C3:=@of_decide_eq_true
abbrev C4:=@Array.length_toList
abbrev C5:=@decide_eq_true
abbrev C6:=@List.map_cons
abbrev C7:=@Nat.le_trans
abbrev C8:=@List.mem_append_right
abbrev C9:=@PySem.wpAny_newObj_type
abbrev D0:=@List.getD_eq_getElem?_getD
abbrev D7:=@PySem.W.mg_none_of
abbrev D8:=@List.lookup_cons
abbrev D9:=@Option.some.inj
abbrev E1:=@Array.getElem?_toList
abbrev E2:=@decide_eq_false
abbrev E3:=@Array.getElem?_eq_getElem
abbrev E4:=@PySem.wpAny_call_entry
abbrev E5:=@List.map_map
abbrev E6:=@PySem.wpAny_callSpecial?_slot
abbrev E7:=@List.length_singleton
abbrev E8:=@PySem.wpAny_setField_rec
abbrev E9:=@List.length_cons
abbrev F0:=@List.getElem?_append_right
abbrev F4:=@PySem.wpAny_field
abbrev F5:=@PySem.Heap.get?_update_self
abbrev F6:=@List.getElem?_set_ne
abbrev F7:=@PySem.wpAny_holding
abbrev F8:=@PySem.sizeLine_eq
abbrev F9:=@PySem.wpAny_mono
abbrev I0:=@List.length_filter_le
abbrev J0:=@Nat.ne_of_gt
abbrev J1:=@PySem.Heap.SameBut.update
abbrev J2:=@Nat.lt_irrefl
abbrev J3:=@List.getElem?_set_self
abbrev J4:=@PySem.mem_of_lookup
abbrev J5:=@Nat.zero_le
abbrev J6:=@Int.toNat_natCast
abbrev J7:=@List.getElem?_eq_none
abbrev J8:=@List.map_append
abbrev J9:=@PyProof.Rows.callWith_type1
abbrev L0:=@PySem.PassesOwn.never
abbrev L3:=@Array.getElem?_eq_none
abbrev L4:=@List.append_nil
abbrev L5:=@List.getElem?_append_left
abbrev L6:=@Nat.lt_succ_self
abbrev L7:=@List.mem_of_getElem?
abbrev L8:=@PySem.Heap.size_push
abbrev L9:=@List.map_congr_left
abbrev O0:=@PySem.wpAny_truthy_bool
abbrev O1:=@List.any_cons
abbrev O6:=@List.length_set
abbrev O7:=@Ne.symm
abbrev O8:=@Nat.lt_trans
abbrev O9:=@PySem.wpAny_pyIter_tuple
abbrev S0:=@List.append_assoc
abbrev S3:=@PySem.Obj.data_mapFields
abbrev S4:=@Nat.sub_self
abbrev S5:=@PyProof.Rows.slot_tuple_getitem
abbrev S6:=@PySem.Around.under_plainId
abbrev S7:=@Int.emod_lt_of_pos
abbrev S8:=@PySem.wpAny_seqItems
abbrev S9:=@PySem.wpAny_setField
abbrev U0:=@PySem.wpAny_isInstance
abbrev U1:=@List.getElem?_toArray
abbrev U2:=@PySem.wpAny_Call_Name_kw
abbrev U3:=@PySem.Heap.get?_update_other
abbrev U4:=@PySem.SeqAt.canLay_of_shaped
abbrev U5:=@List.mem_append_left
abbrev U6:=@congrArg
abbrev U7:=@PySem.wpAny_passesOwn
abbrev U8:=@PySem.codeAny_builtin
abbrev U9:=@List.getElem_mem
abbrev Y0:=@PySem.Obj.isFreed_of_fields
abbrev Y1:=@List.drop_eq_getElem_cons
abbrev Y2:=@PySem.F.plain_extend_loop
abbrev Y3:=@List.filterMap_cons
abbrev Y4:=@PySem.F.slot_tuple_iterator_next
abbrev Y5:=@Bool.eq_iff_iff
abbrev Y6:=@Int.emod_nonneg
abbrev Y7:=@List.filter_cons_of_pos
abbrev Y8:=@List.filter_cons_of_neg
abbrev Y9:=@Nat.le_of_lt
abbrev Z0:=@List.length_range
abbrev Z1:=@List.ext_getElem?
abbrev Z2:=@PySem.wpAny_loadPart'
abbrev Z3:=@PySem.F.slot_zip_next
abbrev Z4:=@PyProof.Rows.callWith_builtin1
abbrev Z5:=@List.all_cons
abbrev Z6:=@Nat.le_succ
abbrev Z7:=@PySem.wpAny_typeOf
abbrev Z8:=@PySem.wpAny_setState_of
abbrev Z9:=@Nat.pow_le_pow_right
abbrev A0a:=@List.nil_append
abbrev A0b:=@List.getElem?_range
abbrev A0c:=@PySem.wpAny_rule
abbrev A0d:=@PySem.wpAny_typeNameOfWhole_itemiter
abbrev A0e:=@PySem.Paired.length
abbrev A0f:=@PySem.wpAny_standAt
abbrev A0g:=@PySem.wpAny_attempt
abbrev A0h:=@PySem.plainId_quiet
abbrev A0i:=@PySem.wpAny_typeNameOfWhole_keyiter
abbrev A0j:=@PySem.codeAny_mono
abbrev A0k:=@PyProof.Rows.boot_tuple
namespace L2
variable{H:Hp}{s:Shared}{A:Around}{σ:St}{K:Fg}{pos:Pos}
open PySem PySem.Spec PyProof.Rows
noncomputable abbrev Key:=Sum Int Str
noncomputable def xB:Key->Value->Bool
 |.inl k,v=>Value.isInt k v
 |.inr x,v=>Value.isStrOf x v
noncomputable def aFC(w:World):Key->Int
 |.inl k=>hashInt k
 |.inr x=>hashStr w x
theorem cG:∀{k:Key}{v:Value},xB k v=true->(∃i t,k=Sum.inl i/\v=Value.int i t)\/(∃x t,k=Sum.inr x/\v=Value.str x t)
 |.inl i,v=>fun h=>by
  obtain⟨t,e⟩:=Value.isInt_shape (k:=i) (v:=v) h;exact .inl ⟨i,t,rfl,e⟩
 |.inr x,v=>fun h=>by
  obtain⟨t,e⟩:=Value.isStrOf_shape (x:=x) (v:=v) h;exact .inr ⟨x,t,rfl,e⟩
theorem MJ(i:Int)(t:Tok):xB (.inl i) (.int i t)=true:=by simp[xB,Value.isInt]
theorem LP(x:Str)(t:Tok):xB (.inr x) (.str x t)=true:=by simp[xB,Value.isStrOf]
theorem aAI(a b:Int):decide ((Sum.inl a:Key)=Sum.inl b)=(a==b):=by
 by_cases e:a=b
 .subst e;simp
 .have h:¬(Sum.inl a:Key)=Sum.inl b:=fun q=>e (Sum.inl.inj q);rw[E2 h];exact(beq_eq_false_iff_ne.mpr e).symm
theorem aBx(a b:Str):decide ((Sum.inr a:Key)=Sum.inr b)=decide (a=b):=by
 by_cases e:a=b
 .subst e;simp
 .have h:¬(Sum.inr a:Key)=Sum.inr b:=fun q=>e (Sum.inr.inj q);rw[E2 h,E2 e]
theorem aDh(a:Int)(b:Str):decide ((Sum.inl a:Key)=Sum.inr b)=false:=E2 (fun q=>nomatch q)
theorem aBD(a:Str)(b:Int):decide ((Sum.inr a:Key)=Sum.inl b)=false:=E2 (fun q=>nomatch q)
noncomputable def cW(prog:Program)(w:World):PySem.KeyKind prog w Key where
 is:=xB
 hash:=aFC w
 inj:=fun v a b ha hb=>by
  rcases cG ha with⟨i,t,rfl,rfl⟩|⟨x,t,rfl,rfl⟩
  .rcases cG hb with⟨j,u,rfl,e⟩|⟨y,u,rfl,e⟩
   .injection e with e1 _;rw[e1]
   .exact nomatch e
  .rcases cG hb with⟨j,u,rfl,e⟩|⟨y,u,rfl,e⟩
   .exact nomatch e
   .injection e with e1 _;rw[e1]
 byValue:=fun k v h=>by
  rcases cG h with⟨i,t,rfl,rfl⟩|⟨x,t,rfl,rfl⟩<;>rfl
 pyHash:=fun hv h=>by
  rcases cG hv with⟨i,t,rfl,rfl⟩|⟨x,t,rfl,rfl⟩
  .exact wpAny_pyHash_int h
  .exact wpAny_pyHash_str h
 eqBool:=fun hu hv h=>by
  rcases cG hu with⟨i,t,rfl,rfl⟩|⟨x,t,rfl,rfl⟩
  .rcases cG hv with⟨j,u,rfl,rfl⟩|⟨y,u,rfl,rfl⟩
   .rw[aAI]at h;exact wpAny_eqBool_int h
   .rw[aDh]at h;exact SeqAt.EqAt.int_str i t y u _ _ _ _ h
  .rcases cG hv with⟨j,u,rfl,rfl⟩|⟨y,u,rfl,rfl⟩
   .rw[aBD]at h;exact SeqAt.EqAt.str_int x t j u _ _ _ _ h
   .rw[aBx]at h;exact wpAny_eqBool_str h
 «strs»:=fun k x t v h=>by
  rcases cG h with⟨i,u,rfl,e⟩|⟨y,u,rfl,e⟩
  .exact nomatch e
  .injection e with e1 _
   subst e1;cases v<;>rfl
theorem CZ(prog:Program)(w:World)(i:Int)(t:Tok):(cW prog w).is (.inl i) (.int i t)=true:=MJ i t
theorem DG(prog:Program)(w:World)(x:Str)(t:Tok):(cW prog w).is (.inr x) (.str x t)=true:=LP x t
inductive V where
 |non|bl (b:Bool)|int (i:Int)|str (x:Str)|byt (b:Array UInt8)|flt (b:UInt64)|ref (a:Addr)|ty (n:String)
 deriving DecidableEq
noncomputable def RelV:V->Value->Prop
 |.non,u=>u=Value.none
 |.bl b,u=>u=Value.bool b
 |.int i,u=>∃t,u=Value.int i t
 |.str x,u=>∃t,u=Value.str x t
 |.byt b,u=>∃t,u=Value.bytes b t
 |.flt b,u=>∃t,u=Value.float b t
 |.ref a,u=>u=Value.ref a
 |.ty n,u=>u=Value.type n
noncomputable abbrev aU:List V->List Value->Prop:=Paired RelV
theorem aU.length{xs:List V}{us:List Value}(r:aU xs us):xs.length=us.length:=A0e r
theorem aU.get:∀{xs:List V}{us:List Value}{i:Nat}{x:V},aU xs us->xs[i]?=some x->∃u,us[i]?=some u/\RelV x u
 |_,_,_,_,.nil=>fun e=>by simp at e
 |_,_,0,_,.cons r _=>fun e=>by simp at e;subst e;exact⟨_,rfl,r⟩
 |_,_,i+1,x,.cons _ t=>fun e=>by
  obtain⟨u,h1,h2⟩:=aU.get (i:=i) (x:=x) t (by simpa using e);exact⟨u,by simpa using h1,h2⟩
theorem aU.set{x:V}{u:Value}(r:RelV x u):∀{xs:List V}{us:List Value}(i:Nat),aU xs us->aU (xs.set i x) (us.set i u)
 |_,_,_,.nil=>.nil
 |_,_,0,.cons _ t=>.cons r t
 |_,_,i+1,.cons q t=>.cons q (aU.set r i t)
theorem aU.append:∀{xs ys:List V}{us ws:List Value},aU xs us->aU ys ws->aU (xs++ys) (us++ws)
 |_,_,_,_,.nil=>fun s=>s
 |_,_,_,_,.cons r t=>fun s=>.cons r (aU.append t s)
theorem aU.take:∀{xs:List V}{us:List Value}(n:Nat),aU xs us->aU (xs.take n) (us.take n)
 |_,_,0,_=>.nil
 |_,_,_+1,.nil=>.nil
 |_,_,n+1,.cons r t=>.cons r (aU.take n t)
theorem aU.drop:∀{xs:List V}{us:List Value}(n:Nat),aU xs us->aU (xs.drop n) (us.drop n)
 |_,_,0,r=>r
 |_,_,_+1,.nil=>.nil
 |_,_,n+1,.cons _ t=>aU.drop n t
noncomputable def sU:Option V->Option Value->Prop
 |some v,some u=>RelV v u
 |none,none=>True
 |_,_=>False
noncomputable def KV{κ:Type}:List (κ×V)->List (κ×Value)->Prop:=Paired fun(p:κ×V)(q:κ×Value)=>p.1=q.1/\RelV p.2 q.2
noncomputable def kV:Key->V
 |.inl i=>.int i
 |.inr x=>.str x
inductive HO where
 |lst (xs:List V)
 |tup (xs:List V)
 |dK (kvs:List (Key×V))|dT (kvs:List (List Key×V))
 |set (S:Int->Bool) (n:Nat)
 |ins (C dx:Addr) (fs:List (Str×V))
 |own (x:Addr)
 |xd (fs:List (Str×V))
 |met (f x:Addr)
 |rng (lo hi:Int)
 |frz (o:Obj) (u:HO)
 |tbl (ps:Array Value)
 |ext (φ:Heap->Prop)
noncomputable abbrev Hp:=Addr->Option HO
noncomputable def upd(H:Hp)(a:Addr)(o:HO):Hp:=fun b=>if b=a then some o else H b
theorem aP{a:Addr}{o:HO}:upd H a o a=some o:=by unfold upd;rw[B0 rfl]
theorem aL{a b:Addr}{o:HO}(h:b≠a):upd H a o b=H b:=by unfold upd;rw[B2 h]
theorem aAs{a b:Addr}{o u:HO}(h:H a=some o)(h':H b=some u)(d:o≠u):a≠b:=by
 intro e;subst e;rw[h]at h';exact d (D9 h')
theorem aO{a b:Addr}{o:HO}(h:H a=some o)(h':H b=none):a≠b:=by
 intro e;subst e;rw[h]at h';cases h'
section
variable(P:Program)(w:World)
noncomputable def bT(H:Hp)(h:Heap)(a:Addr):HO->Prop
 |.lst xs=>xs.length<=sizeLine/\∃(its:List Value)(n:Nat),aU xs its/\h.get? a=some { cls:=.type "list",data:=.seq its.toArray n }
 |.tup xs=>xs.length<=sizeLine/\∃its:List Value,aU xs its/\IsTup h a its.toArray
 |.dK kvs=>kvs.length<=sizeLine/\(a==sysModules)=false/\∃vs,KV kvs vs/\h.DictOf (cW P w) a vs
 |.dT kvs=>kvs.length<=sizeLine/\(a==sysModules)=false/\∃xs:List (List Key×Addr×Value),
  Paired (fun(p:List Key×V)(q:List Key×Addr×Value)=>p.1=q.1/\H q.2.1=some (.tup (p.1.map kV))/\RelV p.2 q.2.2) kvs xs /\
  ∃o es ep,h.get? a=some o/\o.ExactDict/\o.data=.dict es ep/\es.toList=xs.map (entryOfKey (tupleKind (cW P w)))/\(xs.map (·.1)).Nodup
 |.set S n=>h.SetOf (intKind P w) a S n
 |.ins C dx fs=>H dx=some (.own a)/\fs.length<=1000/\dx≠a/\h.get? a=some (PySem.W.instObj C dx) /\
  ∃mA,h.Ns1 dx mA/\(∀f,sU (fs.lookup f) (mA f))/\PySem.Within mA (fs.map (·.1))
 |.own _=>∃o,h.get? a=some o
 |.xd fs=>∃mA,h.Ns1 a mA/\∀f,sU (fs.lookup f) (mA f)
 |.rng lo hi=>∃t u v,h.get? a=some { cls:=.type "range",data:=.fields #[.int lo t,.int hi u,.int 1 v] }
 |.frz o u=>h.get? a=some o/\bT H h a u
 |.tbl ps=>h.get? a=some { cls:=.none,data:=.fields ps }
 |.met f x=>h.get? a=some (PySem.W.methodObj (.ref f) (.ref x))
 |.ext φ=>φ h/\(∃o,h.get? a=some o)/\∀h1 h2:Heap,φ h1->(∀o,h1.get? a=some o->h2.get? a=some o)->φ h2
noncomputable def HOk(H:Hp)(h:Heap):Prop:=∀a o,H a=some o->bT P w H h a o
end
section
variable{P:Program}{w:World}{H H':Hp}{h h':Heap}{a:Addr}{o:HO}
theorem bT.lt(x:bT P w H h a o):a<h.objs.size:=by
 cases o with
 |lst xs=>obtain⟨_,_,_,_,e⟩:=x;exact A6 e
 |tup xs=>obtain⟨_,_,_,p⟩:=x;exact p.lt
 |dK kvs=>obtain⟨_,_,_,_,o,_,_,e,_⟩:=x;exact A6 e
 |dT kvs=>obtain⟨_,_,_,_,o,_,_,e,_⟩:=x;exact A6 e
 |set S n=>obtain⟨o,_,_,_,e,_⟩:=x;exact A6 e
 |ins C dx fs=>obtain⟨_,_,_,e,_⟩:=x;exact A6 e
 |own y=>obtain⟨_,e⟩:=x;exact A6 e
 |xd fs=>obtain⟨_,⟨_,_,_,e,_⟩,_⟩:=x;exact A6 e
 |rng lo hi=>obtain⟨_,_,_,e⟩:=x;exact A6 e
 |frz ob u=>obtain⟨e,_⟩:=x;exact A6 e
 |tbl ps=>exact A6 (show h.get? a=some _ from x)
 |met f y=>exact A6 (show h.get? a=some _ from x)
 |ext φ=>obtain⟨_,⟨_,e⟩,_⟩:=x;exact A6 e
theorem Paired.mapP{α β:Type}{F G:α->β->Prop}:∀{l₁:List α}{l₂:List β},Paired F l₁ l₂->(∀a b,F a b->G a b)->Paired G l₁ l₂
 |_,_,.nil=>fun _=>.nil
 |_,_,.cons r t=>fun f=>.cons (f _ _ r) (Paired.mapP t f)
theorem bT.stay(x:bT P w H h a o)(k:∀b u,(b=a\/H b=some (.own a))->h.get? b=some u->h'.get? b=some u)
 (ho:∀b,H b=some (.own a)->H' b=some (.own a)) (ht:∀b xs,H b=some (.tup xs)->H' b=some (.tup xs)):bT P w H' h' a o:=by
 induction o with
 |lst xs=>obtain⟨z,its,n,r,e⟩:=x;exact⟨z,its,n,r,k _ _ (.inl rfl) e⟩
 |tup xs=>obtain⟨z,its,r,ob,e,c⟩:=x;exact⟨z,its,r,ob,k _ _ (.inl rfl) e,c⟩
 |dK kvs=>obtain⟨z,y,vs,r,ob,es,ep,e,c⟩:=x;exact⟨z,y,vs,r,ob,es,ep,k _ _ (.inl rfl) e,c⟩
 |dT kvs=>
  obtain⟨z,y,xs,r,ob,es,ep,e,c⟩:=x;exact⟨z,y,xs,Paired.mapP r fun p q z=>⟨z.1,ht _ _ z.2.1,z.2.2⟩,ob,es,ep,k _ _ (.inl rfl) e,c⟩
 |set S n=>obtain⟨ob,es,ep,t,e,c⟩:=x;exact⟨ob,es,ep,t,k _ _ (.inl rfl) e,c⟩
 |ins C dx fs=>
  obtain⟨d,z,ne,e,mA,⟨od,es,ep,e2,c⟩,r⟩:=x;exact⟨ho _ d,z,ne,k _ _ (.inl rfl) e,mA,⟨od,es,ep,k _ _ (.inr d) e2,c⟩,r⟩
 |own y=>obtain⟨ob,e⟩:=x;exact⟨ob,k _ _ (.inl rfl) e⟩
 |xd fs=>obtain⟨mA,⟨od,es,ep,e,c⟩,r⟩:=x;exact⟨mA,⟨od,es,ep,k _ _ (.inl rfl) e,c⟩,r⟩
 |rng lo hi=>obtain⟨t,u,v,e⟩:=x;exact⟨t,u,v,k _ _ (.inl rfl) e⟩
 |frz ob u ih=>obtain⟨e,q⟩:=x;exact⟨k _ _ (.inl rfl) e,ih q⟩
 |tbl ps=>
  have e:h.get? a=some { cls:=.none,data:=.fields ps }:=x;show h'.get? a=some { cls:=.none,data:=.fields ps };exact k a _ (.inl rfl) e
 |met f y=>
  have e:h.get? a=some (PySem.W.methodObj (.ref f) (.ref y)):=x;show h'.get? a=some (PySem.W.methodObj (.ref f) (.ref y));exact k a _ (.inl rfl) e
 |ext φ=>obtain⟨p,⟨o,e⟩,st⟩:=x;exact⟨st _ _ p fun o q=>k _ _ (.inl rfl) q,⟨o,k _ _ (.inl rfl) e⟩,st⟩
theorem HOk.lt(x:HOk P w H h)(e:H a=some o):a<h.objs.size:=(x a o e).lt
theorem HOk.fresh(x:HOk P w H h)(e:h.objs.size<=a):H a=none:=by
 cases q:H a with
 |none=>rfl
 |some u=>exact absurd (B8 (x.lt q) e) (J2 _)
theorem HOk.kept(x:HOk P w H h)(k:∀b u,h.get? b=some u->h'.get? b=some u):HOk P w H h':=fun a o e=>
 (x a o e).stay (fun b u _ q=>k b u q) (fun _ q=>q) fun _ _ q=>q
theorem HOk.laid(x:HOk P w H h)(k:∀b u,h.get? b=some u->h'.get? b=some u)(hp:h.objs.size<=a)(new:bT P w (upd H a o) h' a o):HOk P w (upd H a o) h':=fun b u e=>by
 have hn:=x.fresh hp;by_cases hb:b=a
 .subst hb;rw[aP]at e;cases e;exact new
 .rw[aL hb]at e;exact(x b u e).stay (fun c v _ q=>k c v q) (fun c q=>by rw[aL (aO q hn)];exact q) fun c xs q=>by rw[aL (aO q hn)];exact q
end
noncomputable def Rd(H:Hp)(a:Addr)(u:HO):Prop:=H a=some u\/∃o,H a=some (.frz o u)
theorem Rd.ok{P:Program}{w:World}{h:Heap}{a:Addr}{u:HO}(r:Rd H a u)(x:HOk P w H h):bT P w H h a u:=by
 rcases r with r|⟨o,r⟩
 .exact x a u r
 .obtain⟨_,q⟩:=x a _ r;exact q
noncomputable def Mut:Option HO->Prop
 |some (.lst _)=>True
 |some (.dK _)=>True
 |some (.dT _)=>True
 |some (.set _ _)=>True
 |some (.ins _ _ _)=>True
 |some (.ext _)=>True
 |_=>False
section
variable{P:Program}{w:World}{H:Hp}{h h':Heap}{x e:Addr}{o':HO}
theorem HOk.write(ok:HOk P w H h)(mu:Mut (H x))(he:e=x\/H e=some (.own x))(k:∀b u,b≠e->h.get? b=some u->h'.get? b=some u)(heo:∃u,h'.get? e=some u)
 (new:bT P w (upd H x o') h' x o'):HOk P w (upd H x o') h':=fun b u q=>by
 have nown:∀c y,H c=some (.own y)->c≠x:=fun c y r z=>by subst z;rw[r]at mu;exact mu
 have ntup:∀c xs,H c=some (.tup xs)->c≠x:=fun c xs r z=>by subst z;rw[r]at mu;exact mu
 by_cases hb:b=x
 .subst hb;rw[aP]at q;cases q;exact new
 .rw[aL hb]at q;by_cases hbe:b=e
  .have q':H b=some (.own x):=by
    rcases he with z|z
    .exact absurd (hbe.trans z) hb
    .rw[hbe];exact z
   rw[q]at q';cases q';obtain⟨v,hv⟩:=heo;exact⟨v,by rw[hbe];exact hv⟩
  .refine(ok b u q).stay (fun c v hc r=>k c v ?_ r) (fun c r=>by rw[aL (nown c b r)];exact r) fun c xs r=>by rw[aL (ntup c xs r)];exact r
   rcases hc with rfl|hc
   .exact hbe
   .rintro rfl;rcases he with z|z
    .exact nown c b hc z
    .rw[hc]at z;cases z;exact hb rfl
end
structure Un(fs ex:List Addr)(H H':Hp)(h h':Heap):Prop where
 keep:∀b o,h.get? b=some o->H b=none->b∉fs->b∉ex->h'.get? b=some o
 slot:∀b o,h.get? b=some o->H b=none->b∈fs->b∉ex->∃sl,h'.get? b=some { o with slots:=sl }
 free:∀b o,h.get? b=some o->H b=none->b∉ex->H' b=none
 there:∀b o,h.get? b=some o->b∉ex->∃o',h'.get? b=some o'
 tups:∀b xs,H b=some (.tup xs)->H' b=some (.tup xs)
 frzs:∀b o u,H b=some (.frz o u)->H' b=some (.frz o u)
 tbls:∀b ps,H b=some (.tbl ps)->∃more,H' b=some (.tbl (ps++more))
section
variable{fs fs' ex ex':List Addr}{H H1 H2:Hp}{h h1 h2 h':Heap}{a x e:Addr}{o:HO}
theorem Un.any(u:Un fs ex H H1 h h1){b:Addr}{ob:Obj}(q:h.get? b=some ob)(n:H b=none)(hx:b∉ex):∃sl,h1.get? b=some { ob with slots:=sl }:=by
 by_cases hb:b∈fs
 .exact u.slot b ob q n hb hx
 .exact⟨ob.slots,u.keep b ob q n hb hx⟩
theorem Un.kept(k:∀b u,h.get? b=some u->h'.get? b=some u):Un fs ex H H h h':=
 ⟨fun b ob q _ _ _=>k b ob q,fun b ob q _ _ _=>⟨ob.slots,k b ob q⟩,fun _ _ _ n _=>n,fun b ob q _=>⟨ob,k b ob q⟩,fun _ _ q=>q,fun _ _ _ q=>q,fun _ ps q=>⟨#[],by rw[q];simp⟩⟩
theorem Un.refl:Un fs ex H H h h:=Un.kept fun _ _ q=>q
theorem Un.laid(k:∀b u,h.get? b=some u->h'.get? b=some u)(hp:h.objs.size<=a)(hn:H a=none):Un fs ex H (upd H a o) h h' where
 keep:=fun b u q _ _ _=>k b u q
 slot:=fun b u q _ _ _=>⟨u.slots,k b u q⟩
 free:=fun b u q n _=>by rw[aL (B7 (B8 (A6 q) hp))];exact n
 there:=fun b u q _=>⟨u,k b u q⟩
 tups:=fun b xs q=>by rw[aL (aO q hn)];exact q
 frzs:=fun b u xs q=>by rw[aL (aO q hn)];exact q
 tbls:=fun b ps q=>⟨#[],by rw[aL (aO q hn),q];simp⟩
theorem Un.write(mu:Mut (H x))(he:e=x\/H e=some (.own x))(k:∀b u,b≠e->h.get? b=some u->h'.get? b=some u)(heo:∃u,h'.get? e=some u):Un fs ex H (upd H x o) h h':=by
 have hx:∀b,H b=none->b≠x:=fun b n z=>by subst z;rw[n]at mu;exact mu
 have hb:∀b,H b=none->b≠e:=fun b n z=>by
  subst z;rcases he with r|r
  .exact hx b n r
  .rw[n]at r;cases r
 have hm:∀b u,H b=some u->¬Mut (some u)->b≠x:=fun b u q nm z=>by subst z;rw[q]at mu;exact nm mu
 refine⟨fun b u q n _ _=>k b u (hb b n) q,fun b u q n _ _=>⟨u.slots,k b u (hb b n) q⟩,fun b u q n _=>by rw[aL (hx b n)];exact n,fun b u q _=>?_,
  fun b xs q=>by rw[aL (hm b _ q fun z=>z)];exact q,fun b u xs q=>by rw[aL (hm b _ q fun z=>z)];exact q,fun b ps q=>⟨#[],by rw[aL (hm b _ q fun z=>z),q];simp⟩⟩
 by_cases hbe:b=e
 .subst hbe;exact heo
 .exact⟨u,k b u hbe q⟩
end
noncomputable def trk(h:Heap)(H:Hp):List Addr:=(List.range h.objs.size).filter fun a=>(H a).isSome
noncomputable def AK(h:Heap)(H:Hp):Heap:=PySem.W.hideAll h (trk h H)
theorem LL(h:Heap)(H:Hp):(AK h H).objs.size=h.objs.size:=PySem.W.hideAll_size _ _
theorem RQ{h:Heap}{b:Addr}{o:Obj}(e:h.get? b=some o)(n:H b=none):(AK h H).get? b=some o:=
 PySem.W.hideAll_get _ e fun hm=>by
  have q:(H b).isSome=true:=(List.mem_filter.mp hm).2;rw[n]at q;simp at q
theorem XJ{h:Heap}{b:Addr}{o:Obj}(e:(AK h H).get? b=some o):h.get? b=some o/\H b=none:=by
 have e':h.get? b=some o:=PySem.W.of_hideAll (trk h H) e;refine⟨e',?_⟩;cases q:H b with
 |none=>rfl
 |some x=>
  have hm:b∈trk h H:=List.mem_filter.mpr ⟨List.mem_range.mpr (A6 e'),by simp[q]⟩;have z:(AK h H).get? b=none:=PySem.W.hideAll_none (trk h H) hm;rw[z]at e;cases e
noncomputable def jS(g h:Heap)(L:Addr):List (Addr×Obj):=(List.range h.objs.size).filterMap fun a=>if a=L\/(g.get? a).isSome=true then none else(h.get? a).map fun o=>(a,o)
theorem jH{g h:Heap}{L a:Addr}{o:Obj}(h1:a≠L)(h2:g.get? a=none)(h3:h.get? a=some o):(a,o)∈jS g h L:=
 List.mem_filterMap.mpr ⟨a,List.mem_range.mpr (A6 h3),by simp[h1,h2,h3]⟩
theorem vA{g h:Heap}{L:Addr}{p:Addr×Obj}(hp:p∈jS g h L):p.1≠L/\g.get? p.1=none/\h.get? p.1=some p.2:=by
 obtain⟨b,_,e⟩:=List.mem_filterMap.mp hp;split at e
 .cases e
 .rename_i hn;cases q:h.get? b with
  |none=>rw[q]at e;simp at e
  |some u=>
   rw[q]at e;simp only[Option.map_some,Option.some.injEq]at e;subst e;refine⟨fun z=>hn (.inl z),?_,q⟩;show g.get? b=none;cases r:g.get? b with
   |none=>rfl
   |some v=>exact(hn (.inr (by simp[r]))).elim
noncomputable def rest(g h:Heap)(L d:Addr):List (Addr×Obj):=(jS g h L).filter fun p=>decide (p.1≠d)
theorem EC{g h:Heap}{L:Addr}:News g L h (jS g h L):=fun p hp=>let⟨a,b,c⟩:=vA hp;⟨c,a,b⟩
structure Mod(K:Fg)(mg:Str->Option Value)(base:Heap):Prop where
 kin:K.In base
 glob:base.Ns mainGlobals mg
 blt:∃mb,base.Ns builtinsNs mb/\∀x:Str,x≠"__name__"->mb x=bootBuiltins x
 nolimit:base.NoLimit
 sysm:∃o es ep,base.get? sysModules=some o/\o.data=.dict es ep
structure Cx where
 prog:Program
 w:World
 K:Fg
 mg:Str->Option Value
 base:Heap
 A:Around
 N:List Str
 s₀:Shared
 H₀:Hp
 env:Env
 outer:List Env
 stack:List Env
 ex:List Addr
 fn:Str->Bool
 calm:Bool
 pn:List (Addr×Obj)
 xe:Value->Shared->Prop
noncomputable def frs(l:List Env):List Addr:=l.filterMap (·.frame)
noncomputable abbrev Cx.fs(X:Cx):List Addr:=frs X.outer
noncomputable def Vis(sc:Scope)(x:Str):Prop:=sc.names.lookup x=some .local\/sc.names.lookup x=some .cell\/sc.names.lookup x=some .free
noncomputable def Loc(sc:Scope)(x:Str):Prop:=sc.names.lookup x=some .local\/sc.names.lookup x=some .cell
noncomputable def Look(env:Env)(h:Heap)(m:Str->Option Value)(x:Str)(u:Value):Prop:=
 (env.kindOf x=some .local/\m x=some u)\/((env.kindOf x=some .cell\/env.kindOf x=some .free)/\∃c,env.cells.lookup x=some c/\h.IsCell c (some u))
structure Cx.Ok(X:Cx):Prop where
 mod:Mod X.K X.mg X.base
 kind:X.env.scope.kind=.function
 glob:X.env.globals=mainGlobals
 blt:X.env.builtins=builtinsNs
 above:X.s₀.heap.objs.size<=X.env.locals
 inj:∀x y c,X.env.cells.lookup x=some c->X.env.cells.lookup y=some c->x=y
 has:∀x,(X.env.kindOf x=some .cell\/X.env.kindOf x=some .free)->∃c,X.env.cells.lookup x=some c
 cab:∀x c,X.fn x=true->X.env.cells.lookup x=some c->X.s₀.heap.objs.size<=c
 hd:X.calm=true->X.A.handled=none
 frames:X.A.frames=some X.stack
 stk:X.stack=X.outer\/(X.stack=X.env::X.outer/\X.env.frame=some X.env.locals)
 exf:∀b∈X.ex,b≠X.env.locals/\∀x c,X.env.cells.lookup x=some c->c≠b
 bs:∀b o,X.base.get? b=some o->X.s₀.heap.get? b=some o/\X.H₀ b=none
 bsz:X.base.objs.size<=X.s₀.heap.objs.size
 noex:∀b o,X.base.get? b=some o->b∉X.ex
 exfs:∀b∈X.ex,b∉X.fs
 funs:X.s₀.heap.FunFrames X.base X.outer
 frf:∀b∈X.fs,X.H₀ b=none
structure Inv(X:Cx)(pins:List (Addr×Obj))(σ:List (Option V))(H:Hp)(s:Shared):Prop where
 ok:X.Ok
 os:s.os=X.s₀.os
 bare:AllBare s.gens
 base:Un X.fs X.ex X.H₀ H X.s₀.heap s.heap
 loc:∃m,s.heap.Ns X.env.locals m/\∀(i:Nat)(x:Str)(v:V),X.N[i]?=some x->σ[i]?=some (some v)->Vis X.env.scope x->∃u,RelV v u/\Look X.env s.heap m x u
 cell:∀x c,X.env.cells.lookup x=some c->∃v,s.heap.IsCell c v
 free:H X.env.locals=none
 freeC:∀x c,X.env.cells.lookup x=some c->H c=none
 pin:∀p∈X.pn++pins,s.heap.get? p.1=some p.2/\H p.1=none/\p.1≠X.env.locals/\p.1∉X.fs/\∀v,p.2.data≠.cell v
 hok:HOk X.prog X.w H s.heap
 len:σ.length=X.N.length
section
variable{X:Cx}{pins:List (Addr×Obj)}{σ:List (Option V)}{H H':Hp}{s:Shared}{h':Heap}
theorem Cx.Ok.nofr(ok:X.Ok){b:Addr}{o:Obj}(e:X.base.get? b=some o):b∉X.fs:=fun hb=>by
 have:=(ok.funs.mem hb).1;rw[e]at this;cases this
theorem Inv.bs(I:Inv X pins σ H s):∀b o,X.base.get? b=some o->s.heap.get? b=some o/\H b=none:=fun b o e=>
 ⟨I.base.keep b o (I.ok.bs b o e).1 (I.ok.bs b o e).2 (I.ok.nofr e) (I.ok.noex b o e),I.base.free b o (I.ok.bs b o e).1 (I.ok.bs b o e).2 (I.ok.noex b o e)⟩
theorem Inv.bk(I:Inv X pins σ H s):∀b o,X.base.get? b=some o->s.heap.get? b=some o:=fun b o e=>(I.bs b o e).1
theorem Inv.mod(I:Inv X pins σ H s):Mod X.K X.mg X.base:=I.ok.mod
theorem Inv.kIn(I:Inv X pins σ H s):X.K.In s.heap:=I.ok.mod.kin.keeps I.bk
theorem Inv.fr(I:Inv X pins σ H s):∃m,Fr X.base X.env.locals s.heap m:=
 let⟨m,hn,_⟩:=I.loc
 ⟨m,hn,I.bk,C7 I.ok.bsz I.ok.above⟩
theorem Inv.lt(I:Inv X pins σ H s):X.env.locals<s.heap.objs.size:=let⟨_,hn,_⟩:=I.loc;hn.lt
theorem Inv.sz(I:Inv X pins σ H s):X.s₀.heap.objs.size<=s.heap.objs.size:=C7 I.ok.above (Y9 I.lt)
theorem Inv.nofs(I:Inv X pins σ H s){a:Addr}(h:s.heap.objs.size<=a):a∉X.fs:=fun hb=>by
 obtain⟨_,o,ho,_⟩:=I.ok.funs.mem hb;exact absurd (B8 (A6 ho) (C7 I.sz h)) (J2 _)
theorem Inv.cne(I:Inv X pins σ H s):∀x c,X.env.cells.lookup x=some c->c≠X.env.locals:=fun x c e z=>by
 obtain⟨v,o,ho,hd⟩:=I.cell x c e;obtain⟨m,⟨o',es,ep,ho',hd',_⟩,_⟩:=I.loc;rw[z,ho']at ho;cases ho;rw[hd']at hd;cases hd
theorem Inv.funs(I:Inv X pins σ H s):s.heap.FunFrames X.base X.outer:=by
 have all:∀(l:List Env),(∀b∈frs l,b∈X.fs)->X.s₀.heap.FunFrames X.base l->s.heap.FunFrames X.base l:=by
  intro l
  induction l with
  |nil=>intro _ _;trivial
  |cons env r ih=>
   intro hs hl;obtain⟨hk,⟨L,o,hf,hn,ho,hd⟩,hr⟩:=hl;have hL:L∈X.fs:=hs L (by unfold frs;rw[Y3,hf];exact A9);obtain⟨sl,e⟩:=I.base.slot L o ho (I.ok.frf L hL) hL fun z=>I.ok.exfs L z hL;exact⟨hk,⟨L,_,hf,hn,e,hd⟩,ih (fun b hb=>hs b (by unfold frs;rw[Y3,hf];exact A8 _ hb)) hr⟩
 exact all X.outer (fun _ hb=>hb) I.ok.funs
theorem Inv.stack(I:Inv X pins σ H s):s.heap.FunFrames X.base X.stack:=by
 rcases I.ok.stk with e|⟨e,hf⟩
 .rw[e];exact I.funs
 .rw[e];obtain⟨m,hn,_⟩:=I.loc;refine .cons (by rw[I.ok.kind];decide) hf hn ?_ I.funs;exact Heap.get?_none_of_le (C7 I.ok.bsz I.ok.above)
theorem Inv.stkSub(I:Inv X pins σ H s):∀b∈frs X.stack,b∈X.env.locals::X.fs:=fun b hb=>by
 rcases I.ok.stk with e|⟨e,hf⟩
 .rw[e]at hb;exact A8 _ hb
 .rw[e]at hb;unfold frs at hb;rw[Y3,hf]at hb;exact hb
theorem Inv.stkFree(I:Inv X pins σ H s):∀b∈frs X.stack,H b=none:=fun b hb=>by
 rcases List.mem_cons.mp (I.stkSub b hb)with e|hb
 .rw[e];exact I.free
 .obtain⟨_,o,ho,_⟩:=I.ok.funs.mem hb;exact I.base.free b o ho (I.ok.frf b hb) fun z=>I.ok.exfs b z hb
theorem Inv.step{g':Array GenState}{t':Nat}{d':Drawn}{ch:List Addr}(I:Inv X pins σ H s)
 (hch:∀b∈ch,(b∈X.ex\/X.s₀.heap.objs.size<=b)/\b≠X.env.locals/\(∀x c,X.env.cells.lookup x=some c->c≠b)/\∀p∈X.pn++pins,p.1≠b)
 (keep:∀b o,b≠X.env.locals->b∉X.fs->b∉ch->s.heap.get? b=some o->H b=none->h'.get? b=some o)
 (slot:∀b o,b≠X.env.locals->b∈X.fs->b∉ch->s.heap.get? b=some o->H b=none->∃sl,h'.get? b=some { o with slots:=sl }) (free:∀b o,b∉ch->s.heap.get? b=some o->H b=none->H' b=none)
 (there:∀b o,b∉ch->s.heap.get? b=some o->∃o',h'.get? b=some o')
 (tups:∀b xs,H b=some (.tup xs)->H' b=some (.tup xs)) (frzs:∀b o u,H b=some (.frz o u)->H' b=some (.frz o u)) (tbls:∀b ps,H b=some (.tbl ps)->∃more,H' b=some (.tbl (ps++more)))
 (ns:∀m,s.heap.Ns X.env.locals m->h'.Ns X.env.locals m) (hok:HOk X.prog X.w H' h') (hg:AllBare g'):
 Inv X pins σ H' { s with heap:=h',gens:=g',drawn:=d',toks:=t' }:=by
 have neL:∀b o,X.s₀.heap.get? b=some o->b≠X.env.locals:=fun b o e=>B7 (B8 (A6 e) I.ok.above)
 have neC:∀b o,X.s₀.heap.get? b=some o->b∉X.ex->b∉ch:=fun b o e hx hb=>by
  rcases (hch b hb).1 with z|z
  .exact hx z
  .exact absurd (B8 (A6 e) z) (J2 _)
 have cellK:∀x c,X.env.cells.lookup x=some c->∀v,s.heap.IsCell c v->h'.IsCell c v:=fun x c e v ⟨o,ho,hd⟩=>by
  have nch:c∉ch:=fun z=>(hch c z).2.2.1 x c e rfl;by_cases hc:c∈X.fs
  .obtain⟨sl,q⟩:=slot c o (I.cne x c e) hc nch ho (I.freeC x c e);exact⟨_,q,hd⟩
  .exact⟨o,keep c o (I.cne x c e) hc nch ho (I.freeC x c e),hd⟩
 refine⟨I.ok,I.os,hg,⟨fun b o e n hb hx=>?_,fun b o e n hb hx=>?_,fun b o e n hx=>?_,fun b o e hx=>?_,fun b xs e=>tups b xs (I.base.tups b xs e),fun b o xs e=>frzs b o xs (I.base.frzs b o xs e),fun b ps e=>?_⟩,?_,fun x c e=>?_,?_,fun x c e=>?_,fun p hp=>?_,hok,I.len⟩
 .exact keep b o (neL b o e) hb (neC b o e hx) (I.base.keep b o e n hb hx) (I.base.free b o e n hx)
 .obtain⟨sl,e1⟩:=I.base.slot b o e n hb hx;obtain⟨sl',e2⟩:=slot b _ (neL b o e) hb (neC b o e hx) e1 (I.base.free b o e n hx);exact⟨sl',e2⟩
 .obtain⟨o',e1⟩:=I.base.there b o e hx;exact free b o' (neC b o e hx) e1 (I.base.free b o e n hx)
 .obtain⟨o',e1⟩:=I.base.there b o e hx;exact there b o' (neC b o e hx) e1
 .obtain⟨m1,e1⟩:=I.base.tbls b ps e;obtain⟨m2,e2⟩:=tbls b _ e1;exact⟨m1++m2,by rw[e2,Array.append_assoc]⟩
 .obtain⟨m,hn,hl⟩:=I.loc;refine⟨m,ns m hn,fun i x v e1 e2 e3=>?_⟩;obtain⟨u,r,l⟩:=hl i x v e1 e2 e3;refine⟨u,r,?_⟩;rcases l with l|⟨k,c,e,z⟩
  .exact .inl l
  .exact .inr ⟨k,c,e,cellK x c e _ z⟩
 .obtain⟨v,z⟩:=I.cell x c e;exact⟨v,cellK x c e v z⟩
 .obtain⟨m,⟨o,_,_,ho,_⟩,_⟩:=I.loc;exact free _ o (fun z=>(hch _ z).2.1 rfl) ho I.free
 .obtain⟨v,o,ho,hd⟩:=I.cell x c e;exact free c o (fun z=>(hch c z).2.2.1 x c e rfl) ho (I.freeC x c e)
 .obtain⟨e,n,ne,nf,d⟩:=I.pin p hp;have nch:p.1∉ch:=fun z=>(hch p.1 z).2.2.2 p hp rfl;exact⟨keep p.1 p.2 ne nf nch e n,free p.1 p.2 nch e n,ne,nf,d⟩
theorem Inv.un{t':Nat}(I:Inv X pins σ H s)(u:Un X.fs [] H H' s.heap h')(hok:HOk X.prog X.w H' h'):Inv X pins σ H' { s with heap:=h',toks:=t' }:=by
 obtain⟨m,⟨o,es,ep,ho,r⟩,_⟩:=id I.loc;obtain⟨sl,hL⟩:=u.any ho I.free (by simp)
 exact I.step (g':=s.gens) (d':=s.drawn) (ch:=[]) (fun _ z=>nomatch z) (fun b o _ hb _ e n=>u.keep b o e n hb (by simp)) (fun b o _ hb _ e n=>u.slot b o e n hb (by simp)) (fun b o _ e n=>u.free b o e n (by simp)) (fun b o _ e=>u.there b o e (by simp)) u.tups u.frzs u.tbls (fun m' hm=>by
  obtain⟨o',es',ep',ho',r'⟩:=hm;rw[ho]at ho';cases ho';exact⟨_,es',ep',hL,r'⟩) hok I.bare
theorem Inv.call{g':Array GenState}{t':Nat}{d':Drawn}{ch:List Addr}(I:Inv X pins σ H s)(u:Un (frs X.stack) ch H H' s.heap h')(hok:HOk X.prog X.w H' h')(hg:AllBare g')
 (hch:∀b∈ch,(b∈X.ex\/X.s₀.heap.objs.size<=b)/\b≠X.env.locals/\(∀x c,X.env.cells.lookup x=some c->c≠b)/\∀p∈X.pn++pins,p.1≠b):
 Inv X pins σ H' { s with heap:=h',gens:=g',drawn:=d',toks:=t' }:=by
 obtain⟨m,⟨o,es,ep,ho,r⟩,_⟩:=id I.loc;obtain⟨sl,hL⟩:=u.any ho I.free fun z=>(hch _ z).2.1 rfl
 exact I.step (ch:=ch) hch (fun b o hL hb hc e n=>u.keep b o e n (fun z=>(List.mem_cons.mp (I.stkSub b z)).elim hL hb) hc) (fun b o _ _ hc e n=>u.any e n hc) (fun b o hc e n=>u.free b o e n hc) (fun b o hc e=>u.there b o e hc) u.tups u.frzs u.tbls (fun m' hm=>by
  obtain⟨o',es',ep',ho',r'⟩:=hm;rw[ho]at ho';cases ho';exact⟨_,es',ep',hL,r'⟩) hok hg
theorem Inv.turned{t':Nat}{it:Addr}(I:Inv X pins σ H s)(k:∀b o,b≠it->s.heap.get? b=some o->h'.get? b=some o)(hn:H it=none)(hL:it≠X.env.locals)
 (h1:it∈X.ex\/X.s₀.heap.objs.size<=it) (h2:∀x c,X.env.cells.lookup x=some c->c≠it) (h3:∀p∈X.pn++pins,p.1≠it):Inv X pins σ H { s with heap:=h',toks:=t' }:=by
 have nit:∀b u,H b=some u->b≠it:=fun b u e z=>by rw[z,hn]at e;cases e
 refine I.step (g':=s.gens) (d':=s.drawn) (ch:=[it]) (fun b hb=>?_) (fun b o _ _ hc e _=>k b o (fun z=>hc (by simp[z])) e) (fun b o _ _ hc e _=>⟨o.slots,k b o (fun z=>hc (by simp[z])) e⟩) (fun _ _ _ _ n=>n)
  (fun b o hc e=>⟨o,k b o (fun z=>hc (by simp[z])) e⟩) (fun _ _ e=>e) (fun _ _ _ e=>e) (fun b ps e=>⟨#[],by rw[e];simp⟩) (fun m hm=>?_) (fun b u e=>?_) I.bare
 .have e:b=it:=by simpa using hb
  subst e;exact⟨h1,hL,h2,h3⟩
 .obtain⟨o,es,ep,ho,r⟩:=hm;exact⟨o,es,ep,k _ o (O7 hL) ho,r⟩
 .refine(I.hok b u e).stay (fun c v hc q=>k c v ?_ q) (fun _ q=>q) fun _ _ q=>q;rcases hc with z|z
  .rw[z];exact nit b u e
  .exact nit c _ z
theorem Inv.tok(I:Inv X pins σ H s)(t:Nat):Inv X pins σ H { s with toks:=t }:=I.un (h':=s.heap) (t':=t) Un.refl I.hok
theorem Inv.kept{t':Nat}(I:Inv X pins σ H s)(k:∀b u,s.heap.get? b=some u->h'.get? b=some u):Inv X pins σ H { s with heap:=h',toks:=t' }:=I.un (Un.kept k) (I.hok.kept k)
theorem Inv.laid{a:Addr}{o:HO}{t':Nat}(I:Inv X pins σ H s)(k:∀b u,s.heap.get? b=some u->h'.get? b=some u)(hp:s.heap.objs.size<=a)(new:bT X.prog X.w (upd H a o) h' a o):
 Inv X pins σ (upd H a o) { s with heap:=h',toks:=t' }:=I.un (Un.laid k hp (I.hok.fresh hp)) (I.hok.laid k hp new)
theorem Inv.write{x e:Addr}{o:HO}{t':Nat}(I:Inv X pins σ H s)(mu:Mut (H x))(he:e=x\/H e=some (.own x))(k:∀b u,b≠e->s.heap.get? b=some u->h'.get? b=some u)(heo:∃u,h'.get? e=some u)
 (new:bT X.prog X.w (upd H x o) h' x o):Inv X pins σ (upd H x o) { s with heap:=h',toks:=t' }:=I.un (Un.write mu he k heo) (I.hok.write mu he k heo new)
theorem Inv.pins_of{pins':List (Addr×Obj)}(I:Inv X pins σ H s)(h:∀p∈pins',s.heap.get? p.1=some p.2/\H p.1=none/\p.1≠X.env.locals/\p.1∉X.fs/\∀v,p.2.data≠.cell v):Inv X pins' σ H s:=
 ⟨I.ok,I.os,I.bare,I.base,I.loc,I.cell,I.free,I.freeC,fun p hp=>(List.mem_append.mp hp).elim (fun z=>I.pin p (U5 _ z)) (h p),I.hok,I.len⟩
theorem EN{N:List Str}(hN:N.Nodup){i j:Nat}{x:Str}(a:N[i]?=some x)(b:N[j]?=some x):i=j:=by
 obtain⟨h1,e1⟩:=List.getElem?_eq_some_iff.mp a;obtain⟨h2,e2⟩:=List.getElem?_eq_some_iff.mp b;exact(List.getElem_inj hN).mp (e1.trans e2.symm)
theorem zA{M:Model}{A:Around}{E:Value->Shared->Prop}{i:Nat}{x:Str}{v:V}{u:Value}{Q:Unit->Shared->Prop}(I:Inv X pins σ H s)(hN:X.N.Nodup)(hi:X.N[i]?=some x)(hx:Loc X.env.scope x)(r:RelV v u)
 (h:∀s',Inv X pins (σ.set i (some v)) H s'->(∃a,Heap.SameBut a s.heap s'.heap/\(a=X.env.locals\/X.env.cells.lookup x=some a))->Q () s') (hf:X.fn x=true\/X.env.scope.names.lookup x=some .local:=by first|exact .inl rfl|exact .inr rfl|assumption):wpAny M A (storeName X.env x u) Q E s:=by
 obtain⟨m,hn,hl⟩:=id I.loc;have hcls:(X.env.scope.kind==.class || (X.env.scope.kind==.module&&X.env.locals != X.env.globals))=false:=by rw[I.ok.kind];rfl
 have hiσ:i<σ.length:=by rw[I.len];exact(List.getElem?_eq_some_iff.mp hi).1
 have cne:=I.cne
 have tracked:∀{a:Addr}{h':Heap},(∃o,s.heap.get? a=some o/\H a=none)->Heap.SameBut a s.heap h'->HOk X.prog X.w H h':=fun{a h'} ha hs b ob e=>by
  obtain⟨_,_,hfree⟩:=ha;refine(I.hok b ob e).stay (fun c w' hc q=>(hs.2 c ?_).trans q) (fun _ q=>q) fun _ _ q=>q;rintro rfl;rcases hc with rfl|hc
  .rw[hfree]at e;cases e
  .rw[hfree]at hc;cases hc
 rcases hx with hk|hk
 .refine wpAny_storeName_local hk hn (fun h' hn' hs=>?_) hcls;obtain⟨oL,_,_,hoL,_⟩:=id hn;refine h _ ⟨I.ok,I.os,I.bare,⟨fun b o e n hb hx=>?_,fun b o e n hb hx=>?_,I.base.free,fun b o e hx=>?_,I.base.tups,I.base.frzs,I.base.tbls⟩,⟨_,hn',fun j y v' e1 e2 e3=>?_⟩,fun y c e=>?_,I.free,I.freeC,fun p hp=>?_,tracked ⟨oL,hoL,I.free⟩ hs,by simpa using I.len⟩ ⟨_,hs,.inl rfl⟩
  .exact(hs.2 b (B7 (B8 (A6 e) I.ok.above))).trans (I.base.keep b o e n hb hx)
  .obtain⟨sl,e1⟩:=I.base.slot b o e n hb hx;exact⟨sl,(hs.2 b (B7 (B8 (A6 e) I.ok.above))).trans e1⟩
  .obtain⟨o',e1⟩:=I.base.there b o e hx;exact⟨o',(hs.2 b (B7 (B8 (A6 e) I.ok.above))).trans e1⟩
  .by_cases hj:j=i
   .subst hj;rw[hi]at e1;cases e1;rw[J3 hiσ]at e2;cases e2;exact⟨u,r,.inl ⟨hk,by simp⟩⟩
   .rw[F6 (O7 hj)]at e2;obtain⟨u',r',q⟩:=hl j y v' e1 e2 e3;refine⟨u',r',?_⟩;rcases q with⟨k,e⟩|⟨k,c,e,z⟩
    .refine .inl ⟨k,?_⟩;have:y≠x:=fun e=>hj (EN hN e1 (e▸hi));simp[this,e]
    .exact .inr ⟨k,c,e,z.sameBut hs (cne y c e)⟩
  .obtain⟨w',z⟩:=I.cell y c e;exact⟨w',z.sameBut hs (cne y c e)⟩
  .obtain⟨e,n,ne,nf,d⟩:=I.pin p hp;exact⟨(hs.2 p.1 ne).trans e,n,ne,nf,d⟩
 .have hfn:X.fn x=true:=by
   rcases hf with z|z
   .exact z
   .rw[z]at hk;cases hk
  obtain⟨c,hc⟩:=I.ok.has x (.inl hk);obtain⟨w',z⟩:=I.cell x c hc;refine wpAny_storeName_cell I.ok.kind hk hc z (fun h' hc' hs=>?_);obtain⟨oc,hoc,hocd⟩:=id z;refine h { s with heap:=h' } ⟨I.ok,I.os,I.bare,⟨fun b o e n hb hx=>?_,fun b o e n hb hx=>?_,I.base.free,fun b o e hx=>?_,I.base.tups,I.base.frzs,I.base.tbls⟩,⟨m,hn.sameBut hs (O7 (cne x c hc)),fun j y v' e1 e2 e3=>?_⟩,fun y c' e=>?_,I.free,I.freeC,fun p hp=>?_,tracked ⟨oc,hoc,I.freeC x c hc⟩ hs,by simpa using I.len⟩ ⟨c,hs,.inr hc⟩
  .exact(hs.2 b (B7 (B8 (A6 e) (I.ok.cab x c hfn hc)))).trans (I.base.keep b o e n hb hx)
  .obtain⟨sl,e1⟩:=I.base.slot b o e n hb hx;exact⟨sl,(hs.2 b (B7 (B8 (A6 e) (I.ok.cab x c hfn hc)))).trans e1⟩
  .obtain⟨o',e1⟩:=I.base.there b o e hx;exact⟨o',(hs.2 b (B7 (B8 (A6 e) (I.ok.cab x c hfn hc)))).trans e1⟩
  .by_cases hj:j=i
   .subst hj;rw[hi]at e1;cases e1;rw[J3 hiσ]at e2;cases e2;exact⟨u,r,.inr ⟨.inl hk,c,hc,hc'⟩⟩
   .rw[F6 (O7 hj)]at e2;obtain⟨u',r',q⟩:=hl j y v' e1 e2 e3;refine⟨u',r',?_⟩;rcases q with q|⟨k,c',e,z'⟩
    .exact .inl q
    .refine .inr ⟨k,c',e,z'.sameBut hs ?_⟩;rintro rfl;exact hj (EN hN e1 (I.ok.inj _ _ _ e hc▸hi))
  .by_cases hcc:c'=c
   .subst hcc;exact⟨_,hc'⟩
   .obtain⟨w2,z2⟩:=I.cell y c' e;exact⟨w2,z2.sameBut hs hcc⟩
  .obtain⟨e,n,ne,nf,d⟩:=I.pin p hp;refine⟨(hs.2 p.1 ?_).trans e,n,ne,nf,d⟩;intro q;rw[q,hoc]at e;have q':oc=p.2:=D9 e;exact d w' (by rw[<- q'];exact hocd)
theorem rC{M:Model}{A:Around}{E:Value->Shared->Prop}{i:Nat}{x:Str}{v:V}{u:Value}{Q:Unit->Shared->Prop}(I:Inv X pins σ H s)(hN:X.N.Nodup)(hi:X.N[i]?=some x)(hx:Loc X.env.scope x)(r:RelV v u)
 (h:∀s',Inv X pins (σ.set i (some v)) H s'->Q () s') (hf:X.fn x=true\/X.env.scope.names.lookup x=some .local:=by first|exact .inl rfl|exact .inr rfl|assumption):wpAny M A (storeName X.env x u) Q E s:=
 zA I hN hi hx r (fun s' I' _=>h s' I') hf
end
noncomputable abbrev XK:=Value->Option Addr->Hp->Prop
noncomputable abbrev St:=List (Option V)
noncomputable abbrev VK:=V->Hp->Prop
noncomputable abbrev TE:=St->Hp->VK->Prop
noncomputable abbrev TT:=St->Hp->(Bool->Hp->Prop)->Prop
noncomputable abbrev TA:=St->Hp->(List V->Hp->Prop)->Prop
structure Ends where
 nx:St->Hp->Prop
 rt:VK
 bk:St->Hp->Prop:=fun _ _=>False
 ct:St->Hp->Prop:=fun _ _=>False
noncomputable abbrev TS:=Ends->St->Hp->Prop
noncomputable def EP(X:Cx)(pins:List (Addr×Obj))(σ:St)(Q:VK)(u:Value)(s':Shared):Prop:=∃v H',Inv X pins σ H' s'/\RelV v u/\Q v H'
noncomputable def TP(X:Cx)(pins:List (Addr×Obj))(σ:St)(Q:Bool->Hp->Prop)(b:Bool)(s':Shared):Prop:=∃H',Inv X pins σ H' s'/\Q b H'
noncomputable def AP(X:Cx)(pins:List (Addr×Obj))(σ:St)(Q:List V->Hp->Prop)(us:List Value)(s':Shared):Prop:=∃vs H',Inv X pins σ H' s'/\aU vs us/\Q vs H'
noncomputable def SP(X:Cx)(pins:List (Addr×Obj))(D:Ends)(f:Flow)(s':Shared):Prop:=
 match f with
 |.next=>∃σ' H',Inv X pins σ' H' s'/\D.nx σ' H'
 |.brk=>∃σ' H',Inv X pins σ' H' s'/\D.bk σ' H'
 |.cont=>∃σ' H',Inv X pins σ' H' s'/\D.ct σ' H'
 |.ret u=>∃v σ' H',Inv X pins σ' H' s'/\RelV v u/\D.rt v H'
noncomputable def PE(X:Cx)(e:Expr)(t:TE):Prop:=
 ∀(pins:List (Addr×Obj))(s:Shared)(σ:St)(H:Hp)(Q:VK),Inv X pins σ H s->t σ H Q->wpAny (model X.prog X.w) X.A (eval e X.env) (EP X pins σ Q) X.xe s
noncomputable def PT(X:Cx)(e:Expr)(t:TT):Prop:=
 ∀(pins:List (Addr×Obj))(s:Shared)(σ:St)(H:Hp)(Q:Bool->Hp->Prop),Inv X pins σ H s->t σ H Q->wpAny (model X.prog X.w) X.A (isTrue e X.env (eval e X.env)) (TP X pins σ Q) X.xe s
noncomputable def PW(X:Cx)(e:Expr)(t:TT):Prop:=
 ∀(whole:Sem Value)(pins:List (Addr×Obj))(s:Shared)(σ:St)(H:Hp)(Q:Bool->Hp->Prop),Inv X pins σ H s->t σ H Q->wpAny (model X.prog X.w) X.A (isTrue e X.env whole) (TP X pins σ Q) X.xe s
theorem PW.pt{X:Cx}{e:Expr}{t:TT}(h:PW X e t):PT X e t:=h _
noncomputable def PA(X:Cx)(es:List Expr)(t:TA):Prop:=
 ∀(pos:Pos)(pins:List (Addr×Obj))(s:Shared)(σ:St)(H:Hp)(Q:List V->Hp->Prop),Inv X pins σ H s->t σ H Q->wpAny (model X.prog X.w) X.A (spliced (backTo pos (starEach es X.env))) (AP X pins σ Q) X.xe s
noncomputable def PS(X:Cx)(st:Stmt)(t:TS):Prop:=
 ∀(pins:List (Addr×Obj))(s:Shared)(σ:St)(H:Hp)(D:Ends),Inv X pins σ H s->t D σ H->wpAny (model X.prog X.w) X.A (exec st X.env) (SP X pins D) X.xe s
noncomputable def PSs(X:Cx)(st:List Stmt)(t:TS):Prop:=
 ∀(pins:List (Addr×Obj))(s:Shared)(σ:St)(H:Hp)(D:Ends),Inv X pins σ H s->t D σ H->wpAny (model X.prog X.w) X.A (execs st X.env) (SP X pins D) X.xe s
theorem thn{α:Type}{t:Sem α}{Q Q':α->Shared->Prop}{M:Model}{E:Value->Shared->Prop}{s:Shared}(h:wpAny M A t Q E s)(hQ:∀a s,Q a s->Q' a s):wpAny M A t Q' E s:=F9 h hQ fun _ _ x=>x
section
variable{X:Cx}
theorem bin{a b:Expr}{ta tb:TE}(ha:PE X a ta)(hb:PE X b tb){pins:List (Addr×Obj)}{R:V->V->Hp->Prop}(I:Inv X pins σ H s)(h:ta σ H fun x H1=>tb σ H1 fun y H2=>R x y H2)
 {α:Type} {Q:α->Shared->Prop} {f:Value->Value->Sem α}
 (hf:∀v u s2 x y H2,Inv X pins σ H2 s2->RelV x v->RelV y u->R x y H2->wpAny (model X.prog X.w) X.A (f v u) Q X.xe s2):
 wpAny (model X.prog X.w) X.A (eval a X.env) (fun v s₁=>wpAny (model X.prog X.w) X.A (eval b X.env) (fun u s₂=>wpAny (model X.prog X.w) X.A (f v u) Q X.xe s₂) X.xe s₁) X.xe s:=by
 refine thn (ha pins s σ H _ I h) fun v s1 ⟨x,H1,I1,r1,q1⟩=>?_;refine thn (hb pins s1 σ H1 _ I1 q1) fun u s2 ⟨y,H2,I2,r2,q2⟩=>?_;exact hf v u s2 x y H2 I2 r1 r2 q2
noncomputable def aFg(i:Nat):TE:=fun σ H Q=>∃v,σ[i]?=some (some v)/\Q v H
noncomputable def tC(v:V):TE:=fun _ H Q=>Q v H
theorem aCa{i:Nat}{x:Str}(hN:X.N[i]?=some x)(hv:Vis X.env.scope x)(hd:(x==("__debug__":Str))=false:=by decide)(hcd:(x==("__classdict__":Str))=false:=by decide):PE X (.Name x pos) (aFg i):=by
 intro pins s σ H Q I h;obtain⟨v,e,h⟩:=h;obtain⟨m,hn,hl⟩:=I.loc;obtain⟨u,r,l⟩:=hl i x v hN e hv;have fin:EP X pins σ Q u s:=⟨v,H,I,r,h⟩;rcases l with⟨hk,hm⟩|⟨hk,c,hc,hcell⟩
 .exact wpAny_Name (wpAny_loadName_local I.ok.kind hk hn hm fin) hd
 .rcases hk with hk|hk
  .exact wpAny_Name (wpAny_loadName_cell I.ok.kind hk hc hcell fin) hd
  .exact wpAny_Name (wpAny_loadName_free I.ok.kind hk hc hcell fin hcd) hd
theorem aCU{i j pos}:PE X (.Constant (.int i) j pos) (tC (.int i)):=fun _ _ _ H _ I h=>wpAny_Constant_int ⟨.int i,H,I.tok _,⟨_,rfl⟩,h⟩
theorem aEO{b j pos}:PE X (.Constant (.bool b) j pos) (tC (.bl b)):=fun _ _ _ H _ I h=>Constant_bool ⟨.bl b,H,I,rfl,h⟩
noncomputable def Gl(X:Cx)(x:Str):Prop:=X.env.kindOf x=some .globalImplicit
theorem zX{E:Value->Shared->Prop}{pins:List (Addr×Obj)}{x:Str}{u:Value}{pos:Pos}{Q:Value->Shared->Prop}(I:Inv X pins σ H s)(hg:Gl X x)(hm:X.mg x=some u)(h:Q u s)
 (hd:(x==("__debug__":Str))=false:=by decide):wpAny (model X.prog X.w) X.A (eval (.Name x pos) X.env) Q E s:=
 Calls.Name_function_global I.ok.kind hg (Calls.loadGlobal_global (by rw[I.ok.glob];exact I.mod.glob.keeps I.bk) hm h) hd
theorem kJ{E:Value->Shared->Prop}{pins:List (Addr×Obj)}{x:Str}{u:Value}{pos:Pos}{Q:Value->Shared->Prop}(I:Inv X pins σ H s)(hg:Gl X x)(hm:X.mg x=none)(hv:bootBuiltins x=some u)(h:Q u s)
 (hn:x≠"__name__":=by decide) (hd:(x==("__debug__":Str))=false:=by decide):wpAny (model X.prog X.w) X.A (eval (.Name x pos) X.env) Q E s:=by
 obtain⟨mb,h1,h2⟩:=I.mod.blt;exact Calls.Name_function_global I.ok.kind hg (Calls.loadGlobal_builtin (by rw[I.ok.glob];exact I.mod.glob.keeps I.bk) hm (by rw[I.ok.blt];exact h1.keeps I.bk) ((h2 x hn).trans hv) h) hd
theorem VP{x:Str}{v:V}{u:Value}(hg:Gl X x)(hm:X.mg x=some u)(r:RelV v u)(hd:(x==("__debug__":Str))=false:=by decide):PE X (.Name x pos) (tC v):=
 fun _ _ _ H _ I h=>zX I hg hm ⟨v,H,I,r,h⟩ hd
theorem BK{x:Str}{v:V}{u:Value}(hg:Gl X x)(hm:X.mg x=none)(hv:bootBuiltins x=some u)(r:RelV v u)(hn:x≠"__name__":=by decide)(hd:(x==("__debug__":Str))=false:=by decide):PE X (.Name x pos) (tC v):=
 fun _ _ _ H _ I h=>kJ I hg hm hv ⟨v,H,I,r,h⟩ hn hd
variable{a b:Expr}{ta tb:TE}{pos:Pos}
noncomputable def PC(X:Cx)(op:CmpOp)(a b:Expr)(t:TE):Prop:=
 ∀(pins:List (Addr×Obj))(s:Shared)(σ:St)(H:Hp)(Q:VK),Inv X pins σ H s->t σ H Q->
  wpAny (model X.prog X.w) X.A (eval a X.env) (fun v s₁=>wpAny (model X.prog X.w) X.A (eval b X.env) (fun u s₂=>wpAny (model X.prog X.w) X.A (compareOp op v u) (EP X pins σ Q) X.xe s₂) X.xe s₁) X.xe s
theorem FF(b:Expr){op:CmpOp}(h:op≠.In)(h2:op≠.NotIn):behindInMarks op b=false:=by
 have e1:(op==CmpOp.In)=false:=by cases op<;>first|rfl|exact absurd rfl h
 have e2:(op==CmpOp.NotIn)=false:=by cases op<;>first|rfl|exact absurd rfl h2
 cases b<;>simp[behindInMarks,e1,e2]
noncomputable def tB(t:TE):TT:=fun σ H Q=>t σ H fun x H1=>∃c,x=.bl c/\Q c H1
theorem aBW{op:CmpOp}{t:TE}(h:PC X op a b t)(h1:behindInMarks op b=false:=by first|exact FF _ (by decide) (by decide)|rfl):PE X (.Compare a [op] [b] pos) t:=fun pins s σ H Q I hw=>wpAny_Compare1 (h pins s σ H Q I hw) h1
theorem aCT{op:CmpOp}{t:TE}(h:PC X op a b t)(h1:behindInMarks op b=false:=by first|exact FF _ (by decide) (by decide)|rfl):PT X (.Compare a [op] [b] pos) (tB t):=by
 intro pins s σ H Q I hw;refine wpAny_isTrue_Compare1 (thn (h pins s σ H _ I hw) fun v s1 h1=>thn h1 fun u s2 h2=>thn h2 fun c s3 ⟨x,H1,I1,r1,q1⟩=>?_) h1;obtain⟨d,rfl,q⟩:=q1;cases r1;exact O0 ⟨H1,I1,q⟩
theorem aCc{e:Expr}{t:TE}(h:PE X e t)(he:∀whole,isTrue e X.env whole=(do let v <- whole;standAt e.pos;holding [v] (truthy v)):=by intro _;rfl):PT X e (tB t):=by
 intro pins s σ H Q I hw;refine isTrue_plain (thn (h pins s σ H _ I hw) fun v s1 ⟨x,H1,I1,r1,q1⟩=>?_) (he _);obtain⟨d,rfl,q⟩:=q1;cases r1;exact O0 ⟨H1,I1,q⟩
variable{tA tB':TT}{rest:List Expr}
noncomputable def aFh(t u:TT):TT:=fun σ H Q=>t σ H fun c H1=>if c=true then u σ H1 Q else Q false H1
noncomputable def tOr(t u:TT):TT:=fun σ H Q=>t σ H fun c H1=>if c=true then Q true H1 else u σ H1 Q
noncomputable def aER(t:TT):TT:=fun σ H Q=>t σ H fun c H1=>Q (!c) H1
theorem VN(ha:PT X a tA):PW X (.BoolOp .And [a] pos) tA:=by
 intro wh pins s σ H Q I h;refine isTrue_and (thn (ha pins s σ H Q I h) fun c s1 e=>?_);cases c with
 |true=>exact isTrue_and_nil e
 |false=>exact e
theorem aBg(ha:PT X a tA):PW X (.BoolOp .Or [a] pos) tA:=by
 intro wh pins s σ H Q I h;refine isTrue_or (thn (ha pins s σ H Q I h) fun c s1 e=>?_);cases c with
 |false=>exact isTrue_or_nil e
 |true=>exact e
theorem aBl(ha:PT X a tA)(hb:PW X (.BoolOp .And (b::rest) pos) tB'):PW X (.BoolOp .And (a::b::rest) pos) (aFh tA tB'):=by
 intro wh pins s σ H Q I h;refine isTrue_and (thn (ha pins s σ H _ I h) fun c s1 ⟨H1,I1,q1⟩=>?_);cases c with
 |true=>exact hb wh pins s1 σ H1 Q I1 q1
 |false=>exact⟨H1,I1,q1⟩
theorem aFi(ha:PT X a tA)(hb:PW X (.BoolOp .Or (b::rest) pos) tB'):PW X (.BoolOp .Or (a::b::rest) pos) (tOr tA tB'):=by
 intro wh pins s σ H Q I h;refine isTrue_or (thn (ha pins s σ H _ I h) fun c s1 ⟨H1,I1,q1⟩=>?_);cases c with
 |true=>exact⟨H1,I1,q1⟩
 |false=>exact hb wh pins s1 σ H1 Q I1 q1
theorem aBq(ha:PT X a tA):PT X (.UnaryOp .Not a pos) (aER tA):=by
 intro pins s σ H Q I h;exact isTrue_not (ha pins s σ H (fun c H1=>Q (!c) H1) I h)
noncomputable def aAd(ta tb:TE):TE:=fun σ H Q=>ta σ H fun x H1=>∃c,x=.bl c/\if c=true then tb σ H1 Q else Q (.bl false) H1
noncomputable def aAw(ta:TE):TE:=fun σ H Q=>ta σ H fun x H1=>∃c,x=.bl c/\Q (.bl (!c)) H1
theorem aBr{op}{t:TE}(h:PE X a t):PE X (.BoolOp op [a] pos) t:=fun pins s σ H Q I hw=>BoolOp_one (h pins s σ H Q I hw)
theorem aBM(ha:PE X a ta)(hb:PE X (.BoolOp .And (b::rest) pos) tb):PE X (.BoolOp .And (a::b::rest) pos) (aAd ta tb):=by
 intro pins s σ H Q I h;refine BoolOp_and (thn (ha pins s σ H _ I h) fun v s1 ⟨x,H1,I1,r1,q1⟩=>?_);obtain⟨c,rfl,q1⟩:=q1;cases r1;refine O0 ?_;cases c with
 |true=>exact hb pins s1 σ H1 Q I1 q1
 |false=>exact⟨.bl false,H1,I1,rfl,q1⟩
theorem aBL(ha:PE X a ta):PE X (.UnaryOp .Not a pos) (aAw ta):=by
 intro pins s σ H Q I h;refine UnaryOp_ (thn (ha pins s σ H _ I h) fun v s1 ⟨x,H1,I1,r1,q1⟩=>?_);obtain⟨c,rfl,q1⟩:=q1;cases r1;exact not_of (O0 ⟨.bl (!c),H1,I1,rfl,q1⟩)
end
noncomputable def SqL(K:Fg)(H:Hp)(a:Addr)(xs:List V):Prop:=
 Rd H a (.lst xs) \/
  ∃(o:Obj)(its:Array Value)(n:Nat),K.lookup a=some o/\o.cls=.type "list"/\o.dict=none/\o.data=.seq its n/\its.size<=sizeLine/\aU xs its.toList
noncomputable def SqT(K:Fg)(H:Hp)(a:Addr)(xs:List V):Prop:=
 Rd H a (.tup xs) \/
  ∃(o:Obj)(its:Array Value)(n:Nat),K.lookup a=some o/\o.cls=.type "tuple"/\o.data=.seq its n/\its.size<=sizeLine/\aU xs its.toList
noncomputable def aFE:Value->Option V
 |.none=>some .non
 |.bool b=>some (.bl b)
 |.int i _=>some (.int i)
 |.str x _=>some (.str x)
 |.bytes b _=>some (.byt b)
 |.float b _=>some (.flt b)
 |.ref a=>some (.ref a)
 |.type n=>some (.ty n)
 |_=>none
theorem RelV.abs{x:V}{u:Value}(r:RelV x u):aFE u=some x:=by
 cases x with
 |non=>cases r;rfl
 |bl _=>cases r;rfl
 |int _=>obtain⟨t,rfl⟩:=r;rfl
 |str _=>obtain⟨t,rfl⟩:=r;rfl
 |byt _=>obtain⟨t,rfl⟩:=r;rfl
 |flt _=>obtain⟨t,rfl⟩:=r;rfl
 |ref _=>cases r;rfl
 |ty _=>cases r;rfl
theorem RelV.inj{x y:V}{u:Value}(r:RelV x u)(q:RelV y u):x=y:=D9 (r.abs.symm.trans q.abs)
theorem aU.inj:∀{xs ys:List V}{us:List Value},aU xs us->aU ys us->xs=ys
 |_,_,_,.nil,.nil=>rfl
 |_,_,_,.cons r t,.cons r' t'=>by rw[r.inj r',aU.inj t t']
section
variable{X:Cx}{pins:List (Addr×Obj)}{σ:St}{H:Hp}{s:Shared}{a:Addr}{xs ys:List V}
theorem SqL.of(h:H a=some (.lst xs)):SqL K H a xs:=.inl (.inl h)
theorem SqT.of(h:H a=some (.tup xs)):SqT K H a xs:=.inl (.inl h)
theorem Inv.list(I:Inv X pins σ H s)(h:SqL X.K H a xs):∃its:List Value,aU xs its/\PlainL s.heap a its.toArray/\xs.length<=sizeLine:=by
 rcases h with h|⟨o,its,n,hk,hc,hd,hs,hz,r⟩
 .obtain⟨z,its,n,r,e⟩:=h.ok I.hok;exact⟨its,r,⟨_,n,e,rfl,rfl,rfl⟩,z⟩
 .refine⟨its.toList,r,⟨o,n,I.kIn a o hk,hc,hd,by simpa using hs⟩,?_⟩;have e:=r.length;simp only[Array.length_toList]at e;omega
theorem Inv.tuple(I:Inv X pins σ H s)(h:SqT X.K H a xs):∃its:List Value,aU xs its/\IsTup s.heap a its.toArray/\xs.length<=sizeLine:=by
 rcases h with h|⟨o,its,n,hk,hc,hs,hz,r⟩
 .obtain⟨z,its,r,p⟩:=h.ok I.hok;exact⟨its,r,p,z⟩
 .refine⟨its.toList,r,⟨o,I.kIn a o hk,hc,n,by simpa using hs⟩,?_⟩;have e:=r.length;simp only[Array.length_toList]at e;omega
theorem Inv.list_inj(I:Inv X pins σ H s)(h:SqL X.K H a xs)(h':SqL X.K H a ys):xs=ys:=by
 obtain⟨its,r,⟨o,n,e,_,_,d⟩,_⟩:=I.list h;obtain⟨its',r',⟨o',n',e',_,_,d'⟩,_⟩:=I.list h';rw[e]at e';cases e';rw[d]at d';injection d' with d1 _
 have:its=its':=by simpa using U6 Array.toList d1
 subst this;exact r.inj r'
theorem Inv.tuple_inj(I:Inv X pins σ H s)(h:SqT X.K H a xs)(h':SqT X.K H a ys):xs=ys:=by
 obtain⟨its,r,⟨o,e,_,n,d⟩,_⟩:=I.tuple h;obtain⟨its',r',⟨o',e',_,n',d'⟩,_⟩:=I.tuple h';rw[e]at e';cases e';rw[d]at d';injection d' with d1 _
 have:its=its':=by simpa using U6 Array.toList d1
 subst this;exact r.inj r'
end
noncomputable abbrev Cx.wish(X:Cx)(E:Value->Shared->Prop):Cx:={ X with xe:=E }
noncomputable abbrev Cx.nox(X:Cx):Cx:=X.wish fun _ _=>False
theorem Cx.Ok.wish{X:Cx}(ok:X.Ok)(E:Value->Shared->Prop):(X.wish E).Ok:=
 ⟨ok.mod,ok.kind,ok.glob,ok.blt,ok.above,ok.inj,ok.has,ok.cab,ok.hd,ok.frames,ok.stk,ok.exf,ok.bs,ok.bsz,ok.noex,ok.exfs,ok.funs,ok.frf⟩
theorem Cx.Ok.unwish{X:Cx}{E:Value->Shared->Prop}(ok:(X.wish E).Ok):X.Ok:=
 ⟨ok.mod,ok.kind,ok.glob,ok.blt,ok.above,ok.inj,ok.has,ok.cab,ok.hd,ok.frames,ok.stk,ok.exf,ok.bs,ok.bsz,ok.noex,ok.exfs,ok.funs,ok.frf⟩
section
variable{X:Cx}{pins:List (Addr×Obj)}{σ:St}{H:Hp}{s:Shared}{E:Value->Shared->Prop}
theorem Inv.wish(I:Inv X pins σ H s)(E:Value->Shared->Prop):Inv (X.wish E) pins σ H s:=⟨I.ok.wish E,I.os,I.bare,I.base,I.loc,I.cell,I.free,I.freeC,I.pin,I.hok,I.len⟩
theorem Inv.unwish(I:Inv (X.wish E) pins σ H s):Inv X pins σ H s:=⟨I.ok.unwish,I.os,I.bare,I.base,I.loc,I.cell,I.free,I.freeC,I.pin,I.hok,I.len⟩
theorem SP.unwish{D:Ends}{f:Flow}{s':Shared}(h:SP (X.wish E) pins D f s'):SP X pins D f s':=by
 cases f with
 |next=>obtain⟨σ',H',I,q⟩:=h;exact⟨σ',H',I.unwish,q⟩
 |brk=>obtain⟨σ',H',I,q⟩:=h;exact⟨σ',H',I.unwish,q⟩
 |cont=>obtain⟨σ',H',I,q⟩:=h;exact⟨σ',H',I.unwish,q⟩
 |ret u=>obtain⟨v,σ',H',I,r,q⟩:=h;exact⟨v,σ',H',I.unwish,r,q⟩
theorem PSs.nox{st:List Stmt}{t:TS}(h:PSs X.nox st t):PSs X st t:=fun pins s σ H D I hw=>
 F9 (h pins s σ H D (I.wish _) hw) (fun _ _ q=>q.unwish) fun _ _ z=>False.elim z
end
section
variable{X:Cx}{st:Stmt}{rest:List Stmt}{t u:TS}{e:Expr}{te:TE}{pos:Pos}
noncomputable def aAq:TS:=fun D σ H=>D.nx σ H
noncomputable def aDX(t u:TS):TS:=fun D σ H=>t { D with nx:=u D } σ H
theorem WH:PSs X [] aAq:=fun _ _ σ H _ I h=>wpAny_execs_nil ⟨σ,H,I,h⟩
theorem TQ(h1:PS X st t)(h2:PSs X rest u):PSs X (st::rest) (aDX t u):=by
 intro pins s σ H D I h;refine wpAny_execs_cons (thn (h1 pins s σ H { D with nx:=u D } I h) fun f s1 q=>?_);cases f with
 |next=>
  obtain⟨σ',H',I',q⟩:=q;exact h2 pins s1 σ' H' D I' q
 |ret v=>exact q
 |brk=>exact q
 |cont=>exact q
theorem UT(h1:PS X st t):PSs X [st] t:=by
 intro pins s σ H D I h;refine wpAny_execs_cons (thn (h1 pins s σ H D I h) fun f s1 q=>?_);cases f with
 |next=>exact wpAny_execs_nil q
 |ret v=>exact q
 |brk=>exact q
 |cont=>exact q
theorem Inv.quiet{pins:List (Addr×Obj)}(I:Inv X pins σ H s):interactive X.env=false:=by simp[interactive,I.ok.kind]
noncomputable def aAC(te:TE):TS:=fun D σ H=>te σ H fun _ H1=>D.nx σ H1
theorem VB(he:PE X e te)(hs:swapsWith e none pos.line X.env=pure false:=by rfl):PS X (.Expr e pos) (aAC te):=by
 intro pins s σ H D I h;exact wpAny_Expr_any (thn (he pins s σ H _ I h) fun v s1 ⟨x,H1,I1,r1,q1⟩=>⟨σ,H1,I1,q1⟩) I.quiet hs
noncomputable def aDS(te:TE):TS:=fun D σ H=>te σ H D.rt
theorem aCw(he:PE X e te):PS X (.Return (some e) pos) (aDS te):=by
 intro pins s σ H D I h;exact wpAny_Return_some (thn (he pins s σ H _ I h) fun v s1 ⟨x,H1,I1,r1,q1⟩=>⟨x,σ,H1,I1,r1,q1⟩)
noncomputable def aEb(c:TT)(t u:TS):TS:=fun D σ H=>c σ H fun b H1=>if b=true then t D σ H1 else u D σ H1
theorem aEu{c:Expr}{a b:List Stmt}{tc:TT}(hc:PT X c tc)(ha:PSs X a t)(hb:PSs X b u):PS X (.If c a b pos) (aEb tc t u):=by
 intro pins s σ H D I h;refine wpAny_If (thn (hc pins s σ H _ I h) fun d s1 ⟨H1,I1,q1⟩=>?_);cases d with
 |true=>exact ha pins s1 σ H1 D I1 q1
 |false=>exact hb pins s1 σ H1 D I1 q1
noncomputable def NK:TS:=fun _ _ _=>False
theorem RM:PS X st NK:=fun _ _ _ _ _ _ h=>h.elim
end
noncomputable abbrev TG:=V->St->Hp->(St->Hp->Prop)->Prop
noncomputable abbrev TGs:=List V->St->Hp->(St->Hp->Prop)->Prop
noncomputable def PG(X:Cx)(target:Expr)(t:TG):Prop:=
 ∀(pins:List (Addr×Obj))(s:Shared)(σ:St)(H:Hp)(v:V)(u:Value)(Q:St->Hp->Prop),Inv X pins σ H s->RelV v u->t v σ H Q->
  wpAny (model X.prog X.w) X.A (assign target X.env u) (fun _ s'=>∃σ' H',Inv X pins σ' H' s'/\Q σ' H') X.xe s
noncomputable def PGs(X:Cx)(ts:List Expr)(t:TGs):Prop:=
 ∀(pins:List (Addr×Obj))(s:Shared)(σ:St)(H:Hp)(vs:List V)(us:List Value)(Q:St->Hp->Prop),Inv X pins σ H s->aU vs us->t vs σ H Q->
  wpAny (model X.prog X.w) X.A (assignInOrder ((assignEach ts X.env).map (·.2)) us) (fun _ s'=>∃σ' H',Inv X pins σ' H' s'/\Q σ' H') X.xe s
noncomputable abbrev XS:=V->V->V->Hp->(Hp->Prop)->Prop
noncomputable def aDe(X:Cx)(t:XS):Prop:=
 ∀(pins:List (Addr×Obj))(s:Shared)(σ:St)(H:Hp)(o i v:V)(ov iv u:Value)(Q:Hp->Prop),Inv X pins σ H s->RelV o ov->RelV i iv->RelV v u->t o i v H Q->
  wpAny (model X.prog X.w) X.A (setItem ov iv u) (fun _ s'=>∃H',Inv X pins σ H' s'/\Q H') X.xe s
section
variable{X:Cx}{pos:Pos}
noncomputable def EB(i:Nat):TG:=fun v σ H Q=>Q (σ.set i (some v)) H
theorem XD{i:Nat}{x:Str}(hN:X.N.Nodup)(hi:X.N[i]?=some x)(hx:Loc X.env.scope x)(hf:X.fn x=true\/X.env.scope.names.lookup x=some .local:=by first|exact .inl rfl|exact .inr rfl|assumption):PG X (.Name x pos) (EB i):=by
 intro pins s σ H v u Q I r h;exact wpAny_assign_Name (rC I hN hi hx r (fun s' I'=>⟨_,H,I',h⟩) hf)
noncomputable def aEx:TGs:=fun vs σ H Q=>vs=[]/\Q σ H
noncomputable def aAl(t:TG)(u:TGs):TGs:=fun vs σ H Q=>∃v r,vs=v::r/\t v σ H fun σ' H'=>u r σ' H' Q
theorem UW:PGs X [] aEx:=by
 intro pins s σ H vs us Q I r h;obtain⟨e,h⟩:=h;subst e;cases r;exact assignInOrder_nil ⟨σ,H,I,h⟩
theorem RV{e:Expr}{es:List Expr}{t:TG}{u:TGs}(h1:PG X e t)(h2:PGs X es u)
 (hs:(assignEach (e::es) X.env).map (·.2)=assign e X.env::(assignEach es X.env).map (·.2):=by rfl):PGs X (e::es) (aAl t u):=by
 intro pins s σ H vs us Q I r h;obtain⟨v,vr,e1,h⟩:=h;subst e1;cases r with
 |cons r rr=>
  rw[hs];refine assignInOrder_cons (thn (h1 pins s σ H _ _ _ I r h) fun _ s1 ⟨σ1,H1,I1,q1⟩=>?_);exact h2 pins s1 σ1 H1 _ _ Q I1 rr q1
noncomputable def aCI(K:Fg)(n:Nat)(t:TGs):TG:=fun v σ H Q=>∃a xs,v=.ref a/\SqT K H a xs/\xs.length=n/\t xs σ H Q
theorem aBf{es:List Expr}{k:Nat}{t:TGs}{n:Nat}(hc:X.calm=true)(h:PGs X es t)
 (hn:(assignEach es X.env).length=n:=by rfl) (hst:(assignEach es X.env).findIdx? (·.1)=none:=by rfl):PG X (.Tuple es k pos) (aCI X.K n t):=by
 intro pins s σ H v u Q I r hw;obtain⟨a,xs,e1,hq,hl,hw⟩:=hw;subst e1;cases r;obtain⟨its,rv,ht,hz⟩:=I.tuple hq;refine assign_Tuple_tuple (I.ok.hd hc) ht (by simp[hn,<- hl,rv.length]) hst fun h' hx=>?_;have I1:Inv X pins σ H { s with heap:=h' }:=I.kept (t':=s.toks) fun b o e=>hx b o (B7 (A6 e)) e;exact h pins _ σ H xs _ Q I1 (by simpa using rv) hw
noncomputable def aEg(to ti:TE)(t:XS):TG:=fun v σ H Q=>to σ H fun o H1=>ti σ H1 fun i H2=>t o i v H2 fun H3=>Q σ H3
theorem aBC{o i:Expr}{to ti:TE}{t:XS}(ho:PE X o to)(hi:PE X i ti)(hs:aDe X t)
 (ha:∀v,assign (.Subscript o i pos) X.env v=(do
  let ov <- holding [v] (eval o X.env);let iv <- holding [v,ov] (eval i X.env)
  standAt pos
  holding [v,ov,iv] (setItem ov iv v)
  release [v,ov,iv] []):=by intro _;rfl):PG X (.Subscript o i pos) (aEg to ti t):=by
 intro pins s σ H v u Q I r h;rw[ha];refine A1 (F7 (thn (ho pins s σ H _ I h) fun ov s1 ⟨x,H1,I1,r1,q1⟩=>?_));refine A1 (F7 (thn (hi pins s1 σ H1 _ I1 q1) fun iv s2 ⟨y,H2,I2,r2,q2⟩=>?_));refine A1 (A0f (A1 (F7 (thn (hs pins s2 σ H2 x y v ov iv u _ I2 r1 r2 r q2) fun _ s3 ⟨H3,I3,q3⟩=>?_))));exact wpAny_release ⟨σ,H3,I3,q3⟩
noncomputable def ZG(te:TE)(g:TG):TS:=fun D σ H=>te σ H fun x H1=>g x σ H1 D.nx
theorem aAR{tg e:Expr}{te:TE}{g:TG}(he:PE X e te)(hg:PG X tg g)(hs:swapsWithSole [tg] e pos.line X.env=pure false:=by rfl)(hw:swappedStores [tg] e X.env=pure none:=by rfl)
 (h1:(assignEach [tg] X.env).map (·.2)=[assign tg X.env]:=by rfl):PS X (.Assign [tg] e pos) (ZG te g):=by
 intro pins s σ H D I h;refine wpAny_Assign_stores (thn (he pins s σ H _ I h) fun v s1 ⟨x,H1,I1,r1,q1⟩=>?_) hs hw;rw[h1];exact thn (hg pins s1 σ H1 x v _ I1 r1 q1) fun _ s2 q=>q
theorem aDn{i:Nat}{x:Str}{e:Expr}{te:TE}{pos':Pos}(hN:X.N.Nodup)(hi:X.N[i]?=some x)(hx:Loc X.env.scope x)(he:PE X e te)(hs:swapsWith e (some (.Name x pos')) pos.line X.env=pure false:=by rfl)(hf:X.fn x=true\/X.env.scope.names.lookup x=some .local:=by first|exact .inl rfl|exact .inr rfl|assumption):
 PS X (.Assign [.Name x pos'] e pos) (ZG te (EB i)):=by
 intro pins s σ H D I h;refine wpAny_Assign_Name (thn (he pins s σ H _ I h) fun v s1 ⟨y,H1,I1,r1,q1⟩=>?_) hs;exact rC I1 hN hi hx r1 (fun s2 I2=>⟨_,H1,I2,q1⟩) hf
noncomputable def aET(i j:Nat)(ta:TA):TS:=fun D σ H=>ta σ H fun vs H1=>∃v w,vs=[v,w]/\D.nx ((σ.set i (some v)).set j (some w)) H1
theorem aAL{i j:Nat}{x y:Str}{a b:Expr}{ta:TA}{px py pt:Pos}{kt k2 pt2}(hc:X.calm=true)(hN:X.N.Nodup)(hi:X.N[i]?=some x)(hj:X.N[j]?=some y)(hij:i≠j)
 (hx:X.env.scope.names.lookup x=some .local) (hy:X.env.scope.names.lookup y=some .local) (ha:PA X [a,b] ta)
 (hw:swappedStores [.Tuple [.Name x px,.Name y py] kt pt] (.Tuple [a,b] k2 pt2) X.env=pure (some [x,y]))
 (hs:swapsWithSole [.Tuple [.Name x px,.Name y py] kt pt] (.Tuple [a,b] k2 pt2) pos.line X.env=pure false:=by rfl):
 PS X (.Assign [.Tuple [.Name x px,.Name y py] kt pt] (.Tuple [a,b] k2 pt2) pos) (aET i j ta):=by
 intro pins s σ H D I h;rw[exec_Assign_arm];refine A1 (A0f ?_);rw[hs];refine A1 (A4 ?_);rw[B2 (by decide)];refine A1 (Tuple_ (thn (ha _ pins s σ H _ I h) fun us s1 ⟨vs,H1,I1,r1,q1⟩=>?_));obtain⟨v,w,e1,q1⟩:=q1;subst e1
 obtain⟨u1,u2,rfl,rv,rw'⟩:∃u1 u2,us=[u1,u2]/\RelV v u1/\RelV w u2:=by
  cases r1 with
  |cons p q=>
   cases q with
   |cons p' q'=>
    cases q';exact⟨_,_,rfl,p,p'⟩
 refine C9 ?_ (by show 2<=sizeLine;decide);have I2:Inv X pins σ H1 { s1 with heap:=s1.heap.push { cls:=.type "tuple",data:=.seq [u1,u2].toArray } }:=I1.kept (t':=s1.toks) fun b o e=>A2 _ e;rw[hw];refine A1 (A4 ?_);show wpAny (model X.prog X.w) X.A (do rule "assign.swapped-stores";let items <- unpackItems (.ref s1.heap.objs.size) 2 none;assignInOrder [fun v=>bindName X.env y v,fun v=>bindName X.env x v] items.reverse;pure Flow.next) _ _ _;refine A1 (A0c (A1 (unpackItems_tuple (items:=#[u1,u2]) (I.ok.hd hc) (IsTup.new s1.heap _) fun h' hx'=>?_)));have I3:=I2.kept (h':=h') (t':=s1.toks) fun b o e=>hx' b o (B7 (A6 e)) e;show wpAny _ _ (assignInOrder [fun v=>bindName X.env y v,fun v=>bindName X.env x v] [u2,u1] >>= fun _=>pure Flow.next) _ _ _;refine A1 (assignInOrder_cons (wpAny_bindName (rC I3 hN hj (.inl hy) rw' (fun s2 I4=>?_) (.inr hy))));refine assignInOrder_cons (wpAny_bindName (rC I4 hN hi (.inl hx) rv (fun s3 I5=>assignInOrder_nil (A4 ?_)) (.inr hx)));rw[List.set_comm _ _ (O7 hij)]at I5;exact⟨_,H1,I5,q1⟩
end
section
variable{X:Cx}{pos:Pos}
noncomputable def QP(c:TT)(tb:TS):TS:=fun D σ H=>∃W:Nat->St->Hp->Prop,(∃m,W m σ H)/\∀m σ H,W m σ H->
 c σ H fun b H1=>if b=true then ∃N:St->Hp->Prop,(∀σ' H',N σ' H'->∃m',m'<m/\W m' σ' H')/\tb { D with nx:=N,ct:=N,bk:=D.nx } σ H1 else D.nx σ H1
theorem NY{c:Expr}{body:List Stmt}{tc:TT}{tb:TS}(hp:PassesOwn (model X.prog X.w) X.A X.env X.xe)(hc:PT X c tc)(hb:PSs X body tb):PS X (.While c body [] pos) (QP tc tb):=by
 intro pins s σ H D I h;obtain⟨W,⟨m0,w0⟩,turn⟩:=h;refine wpAny_While (codeAny_whileLoop (fun n s'=>∃σ' H',Inv X pins σ' H' s'/\W n σ' H') ?_ m0 ⟨σ,H,I,w0⟩);rintro n s1 ⟨σ1,H1,I1,w1⟩;refine U7 hp (thn (hc pins s1 σ1 H1 _ I1 (turn n σ1 H1 w1)) fun b s2 ⟨H2,I2,q2⟩=>?_);cases b with
 |true=>
  obtain⟨N,hN,q2⟩:=q2;rw[B0 rfl];refine U7 hp (thn (hb pins s2 σ1 H2 _ I2 q2) fun f s3 q3=>?_);cases f with
  |next=>
   obtain⟨σ3,H3,I3,n3⟩:=q3;obtain⟨m',hm,w3⟩:=hN σ3 H3 n3;exact⟨m',hm,σ3,H3,I3,w3⟩
  |cont=>
   obtain⟨σ3,H3,I3,n3⟩:=q3;obtain⟨m',hm,w3⟩:=hN σ3 H3 n3;exact⟨m',hm,σ3,H3,I3,w3⟩
  |brk=>exact q3
  |ret v=>exact q3
 |false=>
  rw[B2 B4];exact wpAny_execs_nil ⟨σ1,H2,I2,q2⟩
end
structure It where
 go:Nat->Hp->Prop
 yld:Nat->Hp->V->Hp->Prop
 stop:Nat->Hp->Prop
noncomputable def mR(X:Cx)(pins:List (Addr×Obj))(H:Hp)(b:Addr):Prop:=
 H b=none/\b≠X.env.locals/\b∉X.fs/\(b∈X.ex\/X.s₀.heap.objs.size<=b)/\(∀x c,X.env.cells.lookup x=some c->c≠b)/\∀p∈X.pn++pins,p.1≠b
theorem Inv.fpOk{X:Cx}{pins:List (Addr×Obj)}{H':Hp}{b:Addr}(I:Inv X pins σ H s)(hb:s.heap.objs.size<=b)(hn:H' b=none):mR X pins H' b:=by
 refine⟨hn,J0 (B8 I.lt hb),I.nofs hb,.inr (C7 I.sz hb),fun x c e z=>?_,fun p hp z=>?_⟩
 .obtain⟨v,q⟩:=I.cell x c e;exact absurd (B8 q.lt (by rw[z];exact hb)) (J2 _)
 .exact absurd (B8 (A6 (I.pin p hp).1) (by rw[z];exact hb)) (J2 _)
structure Turn(P:Program)(w:World)(K:Fg)(tg:Expr)(J:It)(fp:List Addr)(it:Addr)(tn:Nat->Heap->Prop):Prop where
 mem:it∈fp
 obj:∀i h,tn i h->∀b∈fp,∃o,h.get? b=some o/\∀v,o.data≠.cell v
 keep:∀i h h',tn i h->(∀b∈fp,∀o,h.get? b=some o->h'.get? b=some o)->tn i h'
 item:∀(X:Cx),X.prog=P->X.w=w->X.K=K->X.calm=true->∀(i:Nat)(pins:List (Addr×Obj))(s:Shared)(σ:St)(H:Hp)(E:Value->Shared->Prop),Inv X pins σ H s->(∀b∈fp,mR X pins H b)->tn i s.heap->J.go i H->
  wpAny (model P w) X.A (pyNext (.ref it)) (fun r s1=>∃u,r=some u /\
   wpAny (model P w) X.A (letOwnedTupleGo tg (.ref it) u) (fun _ s2=>∃x H',Inv X pins σ H' s2/\RelV x u/\J.yld i H x H'/\tn (i+1) s2.heap/\∀b∈fp,H' b=none) E s1) E s
 done:∀(X:Cx),X.prog=P->X.w=w->X.K=K->X.calm=true->∀(i:Nat)(pins:List (Addr×Obj))(s:Shared)(σ:St)(H:Hp)(E:Value->Shared->Prop),Inv X pins σ H s->(∀b∈fp,mR X pins H b)->tn i s.heap->J.stop i H->
  wpAny (model P w) X.A (pyNext (.ref it)) (fun r s1=>r=none/\Inv X pins σ H s1) E s
 self:∀(A:Around)(i:Nat)(s:Shared)(Q:Value->Shared->Prop)(E:Value->Shared->Prop),tn i s.heap->Q (.ref it) s->wpAny (model P w) A (pyIter (.ref it)) Q E s
noncomputable abbrev TI:=St->Hp->(It->Hp->Prop)->Prop
noncomputable def PIE(X:Cx)(pins:List (Addr×Obj))(σ:St)(tg:Expr)(R:It->Hp->Prop)(itv:Value)(s2:Shared):Prop:=
 ∃(it:Addr)(fp:List Addr)(tn:Nat->Heap->Prop)(J:It)(H':Hp),itv=.ref it/\Inv X pins σ H' s2/\Turn X.prog X.w X.K tg J fp it tn/\tn 0 s2.heap/\(∀b∈fp,mR X pins H' b)/\R J H'
noncomputable def PI(X:Cx)(tg iter:Expr)(wi:TI):Prop:=
 ∀(pins:List (Addr×Obj))(s:Shared)(σ:St)(H:Hp)(R:It->Hp->Prop),Inv X pins σ H s->wi σ H R->
  wpAny (model X.prog X.w) X.A (eval iter X.env) (fun v s1=>wpAny (model X.prog X.w) X.A (pyIter v) (PIE X pins σ tg R) X.xe s1) X.xe s
theorem IB{M:Model}{A:Around}{E:Value->Shared->Prop}{tg:Expr}{it:Addr}{u:Value}{o:Obj}{n:String}{vs:Array Value}{Q:Unit->Shared->Prop}(ho:s.heap.get? it=some o)(hc:o.cls=.type n)(hd:o.data=.fields vs)
 (hn:["enumerate","zip","dict_itemiterator","dict_reverseitemiterator","odict_iterator","itertools.zip_longest","itertools.pairwise"].contains n=false) (hQ:Q () s):wpAny M A (letOwnedTupleGo tg (.ref it) u) Q E s:=by
 unfold letOwnedTupleGo
 cases tg<;>first
  |exact A4 hQ
  |(cases u<;>first
   |exact A4 hQ
   | (refine A1 (wpAny_load ho ?_)
      rw[hc,hd];show wpAny M A (if (["enumerate","zip","dict_itemiterator","dict_reverseitemiterator","odict_iterator","itertools.zip_longest","itertools.pairwise"].contains n&&vs[0]?==some (rawInt _))=true then _ else _) Q E s;rw[B2 (by intro h;rw[hn,Bool.false_and]at h;cases h)];exact A4 hQ))
noncomputable def Itl(K:Fg)(a:Addr):It:=
 ⟨fun i H=>∃xs x,SqL K H a xs/\xs[i]?=some x,fun i H x H'=>H'=H/\∀xs,SqL K H a xs->xs[i]?=some x,fun i H=>∃xs,SqL K H a xs/\xs.length<=i⟩
noncomputable def Itt(K:Fg)(a:Addr):It:=
 ⟨fun i H=>∃xs x,SqT K H a xs/\xs[i]?=some x,fun i H x H'=>H'=H/\∀xs,SqT K H a xs->xs[i]?=some x,fun i H=>∃xs,SqT K H a xs/\xs.length<=i⟩
noncomputable def Itr(lo:Int)(n:Nat):It:=⟨fun i _=>i<n,fun i H x H'=>H'=H/\x=.int (lo+i),fun i _=>n<=i⟩
theorem MM{P:Program}{w:World}{tg:Expr}(a it:Addr):Turn P w K tg (Itl K a) [it] it (fun i h=>h.IsListIter it a i) where
 mem:=by simp
 obj:=fun i h st b hb=>by
  have e:b=it:=by simpa using hb
  subst e;obtain⟨o,e,c,d⟩:=st;exact⟨o,e,fun v z=>by rw[d]at z;cases z⟩
 keep:=fun i h h' st k=>st.at fun o e=>k it (by simp) o e
 item:=by
  intro X hP hw hK hc i pins s σ H E I hf st hg;subst hP hw hK;obtain⟨xs,x,hq,hx⟩:=hg;obtain⟨its,rv,p,hz⟩:=I.list hq;obtain⟨u,hu,ru⟩:=rv.get hx;obtain⟨f0,f1,f2,f3,f4,f5⟩:=hf it (by simp);refine wpAny_pyNext_list_item st p.isList (x:=u) (by simpa using hu) fun h' st' sb=>?_;have I1:Inv X pins σ H { s with heap:=h' }:=I.turned (t':=s.toks) (fun b o hb e=>(sb.2 b hb).trans e) f0 f1 f3 f4 f5;obtain⟨o,e,c,d⟩:=id st';exact⟨u,rfl,IB (s:={ s with heap:=h' }) e c d (by decide) ⟨x,H,I1,ru,⟨rfl,fun ys hy=>by rw[I.list_inj hy hq];exact hx⟩,st',fun b hb=>(hf b hb).1⟩⟩
 done:=by
  intro X hP hw hK hc i pins s σ H E I hf st hg;subst hP hw hK;obtain⟨xs,hq,hx⟩:=hg;obtain⟨its,rv,p,hz⟩:=I.list hq;obtain⟨f0,f1,f2,f3,f4,f5⟩:=hf it (by simp);have hl:=rv.length;exact wpAny_pyNext_list_end (I.ok.hd hc) st p.isList (by simp;omega) fun h' eb=>⟨rfl,I.turned (t':=s.toks) (fun b o hb e=>eb b o hb e) f0 f1 f3 f4 f5⟩
 self:=fun _ _ _ _ _ st h=>wpAny_pyIter_listiter st h
theorem GK{P:Program}{w:World}{tg:Expr}(a it:Addr):Turn P w K tg (Itt K a) [it] it (fun i h=>h.IsTupleIter it a i) where
 mem:=by simp
 obj:=fun i h st b hb=>by
  have e:b=it:=by simpa using hb
  subst e;obtain⟨o,e,c,d⟩:=st;exact⟨o,e,fun v z=>by rw[d]at z;cases z⟩
 keep:=fun i h h' st k=>st.at fun o e=>k it (by simp) o e
 item:=by
  intro X hP hw hK hc i pins s σ H E I hf st hg;subst hP hw hK;obtain⟨xs,x,hq,hx⟩:=hg;obtain⟨its,rv,p,hz⟩:=I.tuple hq;obtain⟨u,hu,ru⟩:=rv.get hx;obtain⟨f0,f1,f2,f3,f4,f5⟩:=hf it (by simp);refine wpAny_pyNext_tuple_item st (show s.heap.IsTuple a its.toArray from p) (x:=u) (by simpa using hu) fun h' st' sb=>?_;have I1:Inv X pins σ H { s with heap:=h' }:=I.turned (t':=s.toks) (fun b o hb e=>(sb.2 b hb).trans e) f0 f1 f3 f4 f5;obtain⟨o,e,c,d⟩:=id st';exact⟨u,rfl,IB (s:={ s with heap:=h' }) e c d (by decide) ⟨x,H,I1,ru,⟨rfl,fun ys hy=>by rw[I.tuple_inj hy hq];exact hx⟩,st',fun b hb=>(hf b hb).1⟩⟩
 done:=by
  intro X hP hw hK hc i pins s σ H E I hf st hg;subst hP hw hK;obtain⟨xs,hq,hx⟩:=hg;obtain⟨its,rv,p,hz⟩:=I.tuple hq;obtain⟨f0,f1,f2,f3,f4,f5⟩:=hf it (by simp);have hl:=rv.length;exact wpAny_pyNext_tuple_end (I.ok.hd hc) st (show s.heap.IsTuple a its.toArray from p) (by simp;omega) fun h' eb=>⟨rfl,I.turned (t':=s.toks) (fun b o hb e=>eb b o hb e) f0 f1 f3 f4 f5⟩
 self:=fun _ _ _ _ _ st h=>wpAny_pyIter_tupleiter st h
theorem GG{P:Program}{w:World}{tg:Expr}(it:Addr)(lo:Int)(n:Nat):Turn P w K tg (Itr lo n) [it] it (fun i h=>IsRangeIter h it (lo+(i:Nat)*1) ((n:Int)-(i:Nat)) 1) where
 mem:=by simp
 obj:=fun i h st b hb=>by
  have e:b=it:=by simpa using hb
  subst e
  exact⟨_,st,fun v z=>by
   have z':Data.fields _=Data.cell v:=z;cases z'⟩
 keep:=fun i h h' st k=>k it (by simp) _ st
 item:=by
  intro X hP hw hK hc i pins s σ H E I hf st hg;subst hP hw hK;obtain⟨f0,f1,f2,f3,f4,f5⟩:=hf it (by simp);have W:=Walks.range (prog:=X.prog) (w:=X.w) (I.ok.hd hc) it lo 1 n;refine W.item i s _ _ hg st fun v h' tk hv st' kk=>?_;obtain⟨t,rfl⟩:=hv;have I1:Inv X pins σ H { s with heap:=h',toks:=tk }:=I.turned (fun b o hb e=>kk b o (by simpa using hb) e) f0 f1 f3 f4 f5;refine⟨_,rfl,IB (s:={ s with heap:=h',toks:=tk }) (n:="range_iterator") st' rfl rfl (by decide) ⟨.int (lo+i),H,I1,⟨t,?_⟩,⟨rfl,rfl⟩,st',fun b hb=>(hf b hb).1⟩⟩;rw[Int.mul_one]
 done:=by
  intro X hP hw hK hc i pins s σ H E I hf st hg;subst hP hw hK;obtain⟨f0,f1,f2,f3,f4,f5⟩:=hf it (by simp);exact wpAny_pyNext_range_end (I.ok.hd hc) st (by have:n<=i:=hg;omega) fun h' eb=>⟨rfl,I.turned (t':=s.toks) (fun b o hb e=>eb b o hb e) f0 f1 f3 f4 f5⟩
 self:=fun _ _ _ _ _ st h=>wpAny_pyIter_rangeiter st h
section
variable{X:Cx}{tg:Expr}
theorem CA{pins:List (Addr×Obj)}{R:It->Hp->Prop}{E:Value->Shared->Prop}{lo hi:Int}{t u v:Tok}{tk:Nat}(I:Inv X pins σ H s)(h1:-(2 ^ 62)<=lo)(h2:lo<2 ^ 62)(h3:-(2 ^ 62)<=hi)(h4:hi<2 ^ 62)
 (q:R (Itr lo (hi-lo).toNat) H):wpAny (model X.prog X.w) X.A (pyIter (.ref s.heap.objs.size)) (PIE X pins σ tg R) E { s with heap:=s.heap.push { cls:=.type "range",data:=.fields #[.int lo t,.int hi u,.int 1 v] },toks:=tk }:=by
 refine wpAny_pyIter_range (IsRange.new ..) (small_one h1 h2 h3 h4) ?_;have I1:Inv X pins σ H { s with heap:=s.heap.push { cls:=.type "range",data:=.fields #[.int lo t,.int hi u,.int 1 v] },toks:=tk }:=I.kept fun b o e=>A2 _ e
 refine⟨(s.heap.push { cls:=.type "range",data:=.fields #[.int lo t,.int hi u,.int 1 v] }).objs.size,[(s.heap.push { cls:=.type "range",data:=.fields #[.int lo t,.int hi u,.int 1 v] }).objs.size],_,_,H,rfl,
  I1.kept (t':=tk) fun b o e=>A2 _ e,GG _ lo (hi-lo).toNat,?_,fun b hb=>?_,q⟩
 .have e1:lo+((0:Nat):Int)*1=lo:=by simp
  have e2:(((hi-lo).toNat:Nat):Int)-((0:Nat):Int)=Builtin.Range.rangeSize lo hi 1:=by rw[rangeSize_one];split<;>omega
  show IsRangeIter _ _ (lo+((0:Nat):Int)*1) ((((hi-lo).toNat:Nat):Int)-((0:Nat):Int)) 1;rw[e1,e2];exact B1 _ rfl
 .have e:b=(s.heap.push { cls:=.type "range",data:=.fields #[.int lo t,.int hi u,.int 1 v] }).objs.size:=by simpa using hb
  subst e;exact I1.fpOk (A7 _) (I1.hok.fresh (A7 _))
noncomputable def ZV(ta:TA):TI:=fun σ H R=>ta σ H fun vs H1=>∃j:Int,vs=[.int j]/\-(2 ^ 62)<=j/\j<2 ^ 62/\R (Itr 0 j.toNat) H1
noncomputable def ZR(ta:TA):TI:=fun σ H R=>ta σ H fun vs H1=>∃i j:Int,vs=[.int i,.int j]/\(-(2 ^ 62)<=i/\i<2 ^ 62/\-(2 ^ 62)<=j/\j<2 ^ 62)/\R (Itr i (j-i).toNat) H1
theorem LI{a:Expr}{ta:TA}{p:Pos}(hg:Gl X "range")(hm:X.mg "range"=none)(ha:PA X [a] ta)(hs:starEach [a] X.env=[(false,eval a X.env)]:=by rfl):PI X tg (.Call (.Name "range" p) [a] [] pos) (ZV ta):=by
 intro pins s σ H R I h;refine Call_ (kJ I hg hm boot_range (J9 (thn (ha pos pins s σ H _ I h) fun us s1 ⟨vs,H1,I1,r1,q1⟩=>?_) hs rfl));obtain⟨j,e,q1,q2,q⟩:=q1;subst e;cases r1 with
 |cons r rr=>
  cases rr;obtain⟨t,rfl⟩:=r;exact call_range_1 (CA I1 (by omega) (by omega) q1 q2 (by simpa using q))
theorem MH{a b:Expr}{ta:TA}{p pos:Pos}(hg:Gl X "range")(hm:X.mg "range"=none)(ha:PA X [a,b] ta)(hs:starEach [a,b] X.env=[(false,eval a X.env),(false,eval b X.env)]:=by rfl)(hs2:starEach [b] X.env=[(false,eval b X.env)]:=by rfl):
 PI X tg (.Call (.Name "range" p) [a,b] [] pos) (ZR ta):=by
 intro pins s σ H R I h;refine Call_ (kJ I hg hm boot_range (J9 (thn (ha pos pins s σ H _ I h) fun us s1 ⟨vs,H1,I1,r1,q1⟩=>?_) (by rw[hs,hs2]) (by rw[hs2];rfl)));obtain⟨i,j,e,⟨q1,q2,q3,q4⟩,q⟩:=q1;subst e;cases r1 with
 |cons r rr=>
  cases rr with
  |cons r' rr=>
   cases rr;obtain⟨t,rfl⟩:=r;obtain⟨t',rfl⟩:=r';exact call_range_2 (CA I1 q1 q2 q3 q4 q)
noncomputable def aFf(wi:TI)(g:TG)(tb:TS):TS:=fun D σ H=>wi σ H fun J H1=>∃W:Nat->Nat->St->Hp->Prop,(∃m,W 0 m σ H1)/\∀i m σ H,W i m σ H->
 (J.stop i H/\D.nx σ H)\/(J.go i H/\∃N:St->Hp->Prop,(∀σ' H',N σ' H'->∃m',m'<m/\W (i+1) m' σ' H')/\∀x H',J.yld i H x H'->g x σ H' fun σ2 H2=>tb { D with nx:=N,ct:=N,bk:=D.nx } σ2 H2)
noncomputable def tG(fp:List Addr)(h:Heap):List (Addr×Obj):=fp.filterMap fun b=>(h.get? b).map fun o=>(b,o)
theorem gO{fp:List Addr}{h:Heap}{b:Addr}{o:Obj}(hb:b∈fp)(e:h.get? b=some o):(b,o)∈tG fp h:=List.mem_filterMap.mpr ⟨b,hb,by rw[e];rfl⟩
theorem LU{fp:List Addr}{h:Heap}{p:Addr×Obj}(hp:p∈tG fp h):p.1∈fp/\h.get? p.1=some p.2:=by
 obtain⟨b,hb,e⟩:=List.mem_filterMap.mp hp;cases q:h.get? b with
 |none=>rw[q]at e;cases e
 |some o=>
  rw[q]at e;have e':(b,o)=p:=D9 e;subst e';exact⟨hb,q⟩
theorem Inv.pinned{pins:List (Addr×Obj)}{fp:List Addr}(I:Inv X pins σ H s)(hf:∀b∈fp,mR X pins H b)(ho:∀b∈fp,∃o,s.heap.get? b=some o/\∀v,o.data≠.cell v):Inv X (pins++tG fp s.heap) σ H s:=
 I.pins_of fun p hp=>(List.mem_append.mp hp).elim (fun z=>I.pin p (C8 _ z)) fun z=>by
  obtain⟨hb,e⟩:=LU z;obtain⟨f0,f1,f2,_⟩:=hf p.1 hb;obtain⟨o,e',d⟩:=ho p.1 hb;rw[e]at e';cases e';exact⟨e,f0,f1,f2,d⟩
theorem Inv.unpinned{pins pl:List (Addr×Obj)}(I:Inv X (pins++pl) σ H s):Inv X pins σ H s:=I.pins_of fun p hp=>I.pin p (C8 _ (U5 _ hp))
theorem aCR{iter:Expr}{body:List Stmt}{wi:TI}{g:TG}{tb:TS}{pos:Pos}(hp:PassesOwn (model X.prog X.w) X.A X.env X.xe)(hc:X.calm=true)(hi:PI X tg iter wi)(hg:PG X tg g)(hb:PSs X body tb)
 (hs:∀x,foldedSetIterable iter X.env x=pure x:=by intro _;rfl):PS X (.For tg iter body [] pos) (aFf wi g tb):=by
 intro pins s σ H D I h;refine wpAny_For (thn (hi pins s σ H _ I h) fun v s1 h1=>thn h1 fun itv s2 h2=>?_) hs;obtain⟨it,fp,tn,J,H2,e,I2,T,st2,f2,W,⟨m0,w0⟩,turn⟩:=h2;subst e;have stat:∀{H':Hp},(∀b∈fp,H' b=none)->∀b∈fp,mR X pins H' b:=fun hn b hb=>⟨hn b hb,(f2 b hb).2⟩;refine codeAny_forLoop_any (fun n s'=>∃i σ' H',Inv X pins σ' H' s'/\tn i s'.heap/\(∀b∈fp,H' b=none)/\W i n σ' H') ?_ m0 ⟨0,σ,H2,I2,st2,fun b hb=>(f2 b hb).1,w0⟩;rintro n s3 ⟨i,σ3,H3,I3,st3,fr3,w3⟩;rcases turn i n σ3 H3 w3 with⟨stop,qn⟩|⟨go,N,hN,step⟩
 .refine U7 hp (thn (T.done X rfl rfl rfl hc i pins s3 σ3 H3 X.xe I3 (stat fr3) st3 stop) fun r s4 ⟨hr,I4⟩=>?_);subst hr;exact wpAny_execs_nil ⟨σ3,H3,I4,qn⟩
 .refine U7 hp (thn (T.item X rfl rfl rfl hc i pins s3 σ3 H3 X.xe I3 (stat fr3) st3 go) fun r s4 ⟨u,hr,h4⟩=>?_);subst hr;refine U7 hp (thn h4 fun _ s5 ⟨x,H5,I5,r5,y5,st5,fr5⟩=>?_);have I5':=I5.pinned (stat fr5) (T.obj _ _ st5);refine U7 hp (thn (hg _ s5 σ3 H5 x u _ I5' r5 (step x H5 y5)) fun _ s6 ⟨σ6,H6,I6,q6⟩=>?_);refine U7 hp (thn (hb _ s6 σ6 H6 _ I6 q6) fun f s7 q7=>?_)
  have again:∀{σ7:St}{H7:Hp},Inv X (pins++tG fp s5.heap) σ7 H7 s7->N σ7 H7->∃m,m<n/\∃i σ' H',Inv X pins σ' H' s7/\tn i s7.heap/\(∀b∈fp,H' b=none)/\W i m σ' H':=fun{σ7 H7} I7 n7=>by
   obtain⟨m',hm,w7⟩:=hN σ7 H7 n7;refine⟨m',hm,i+1,σ7,H7,I7.unpinned,T.keep _ _ _ st5 fun b hb o e=>(I7.pin (b,o) (C8 _ (C8 _ (gO hb e)))).1,fun b hb=>?_,w7⟩;obtain⟨o,e,d⟩:=T.obj _ _ st5 b hb;exact(I7.pin (b,o) (C8 _ (C8 _ (gO hb e)))).2.1
  cases f with
  |next=>obtain⟨σ7,H7,I7,n7⟩:=q7;exact again I7 n7
  |cont=>obtain⟨σ7,H7,I7,n7⟩:=q7;exact again I7 n7
  |brk=>obtain⟨σ7,H7,I7,q7⟩:=q7;exact⟨σ7,H7,I7.unpinned,q7⟩
  |ret v=>obtain⟨x7,σ7,H7,I7,r7,q7⟩:=q7;exact⟨x7,σ7,H7,I7.unpinned,r7,q7⟩
end
noncomputable abbrev R2:=V->V->Hp->VK->Prop
noncomputable def OpR(X:Cx)(f:Value->Value->Sem Value)(r:R2):Prop:=
 ∀(pins:List (Addr×Obj))(s:Shared)(σ:St)(H:Hp)(x y:V)(v u:Value)(Q:VK),Inv X pins σ H s->RelV x v->RelV y u->r x y H Q->
  wpAny (model X.prog X.w) X.A (f v u) (EP X pins σ Q) X.xe s
noncomputable def UnR(X:Cx)(f:Value->Sem Value)(r:V->Hp->VK->Prop):Prop:=
 ∀(pins:List (Addr×Obj))(s:Shared)(σ:St)(H:Hp)(x:V)(v:Value)(Q:VK),Inv X pins σ H s->RelV x v->r x H Q->
  wpAny (model X.prog X.w) X.A (f v) (EP X pins σ Q) X.xe s
noncomputable def eT(X:Cx)(f:Value)(r:List V->Hp->VK->Prop):Prop:=
 ∀(pins:List (Addr×Obj))(s:Shared)(σ:St)(H:Hp)(xs:List V)(us:List Value)(Q:VK),Inv X pins σ H s->aU xs us->r xs H Q->
  wpAny (model X.prog X.w) X.A (call f us) (EP X pins σ Q) X.xe s
noncomputable def aFQ(X:Cx)(r:V->Hp->(Bool->Hp->Prop)->Prop):Prop:=
 ∀(pins:List (Addr×Obj))(s:Shared)(σ:St)(H:Hp)(x:V)(v:Value)(Q:Bool->Hp->Prop),Inv X pins σ H s->RelV x v->r x H Q->
  wpAny (model X.prog X.w) X.A (truthy v) (TP X pins σ Q) X.xe s
noncomputable def tOp(r:R2)(ta tb:TE):TE:=fun σ H Q=>ta σ H fun x H1=>tb σ H1 fun y H2=>r x y H2 Q
noncomputable def rI(C:Int->Int->Prop)(g:Int->Int->V):R2:=fun x y H Q=>∃i j,x=.int i/\y=.int j/\C i j/\Q (g i j) H
noncomputable def rI0(g:Int->Int->V):R2:=fun x y H Q=>∃i j,x=.int i/\y=.int j/\Q (g i j) H
section
variable{X:Cx}{a b c:Expr}{ta tb tc:TE}{pos:Pos}
theorem aDp(ha:PE X a ta)(hb:PE X b tb){pins:List (Addr×Obj)}{R:V->V->Hp->Prop}(I:Inv X pins σ H s)
 (h:ta σ H fun x H1=>tb σ H1 fun y H2=>R x y H2) {Q:Value->Shared->Prop} {f:Value->Value->Sem Value}
 (hf:∀v u s2 x y H2,Inv X pins σ H2 s2->RelV x v->RelV y u->R x y H2->wpAny (model X.prog X.w) X.A (f v u) Q X.xe s2):
 wpAny (model X.prog X.w) X.A (eval a X.env) (fun v s₁=>wpAny (model X.prog X.w) X.A (eval b X.env) (fun u s₂=>wpAny (model X.prog X.w) X.A (f v u) Q X.xe s₂) X.xe s₁) X.xe s:=by
 refine thn (ha pins s σ H _ I h) fun v s1 ⟨x,H1,I1,r1,q1⟩=>?_;refine thn (hb pins s1 σ H1 _ I1 q1) fun u s2 ⟨y,H2,I2,r2,q2⟩=>?_;exact hf v u s2 x y H2 I2 r1 r2 q2
theorem aFb{op:Operator}{r:R2}(ho:OpR X (binaryOp op) r)(ha:PE X a ta)(hb:PE X b tb):PE X (.BinOp a op b pos) (tOp r ta tb):=by
 intro pins s σ H Q I h;exact wpAny_BinOp (aDp ha hb I h fun v u s2 x y H2 I2 rx ry q=>ho pins s2 σ H2 x y v u Q I2 rx ry q)
theorem opI{f:Value->Value->Sem Value}{C:Int->Int->Prop}{g:Int->Int->Int}
 (rule:∀(i j:Int)(t u:Tok)(s:Shared)(Q:Value->Shared->Prop)(E:Value->Shared->Prop),C i j->Q (.int (g i j) s.toks) { s with toks:=s.toks+1 }->wpAny (model X.prog X.w) X.A (f (.int i t) (.int j u)) Q E s):
 OpR X f (rI C fun i j=>.int (g i j)):=by
 intro pins s σ H x y v u Q I rx ry h;obtain⟨i,j,rfl,rfl,hc,q⟩:=h;obtain⟨t,rfl⟩:=rx;obtain⟨t',rfl⟩:=ry;exact rule i j t t' s _ _ hc ⟨.int (g i j),H,I.tok _,⟨_,rfl⟩,q⟩
theorem aDo{f:Value->Value->Sem Value}{g:Int->Int->Int}
 (rule:∀(i j:Int)(t u:Tok)(s:Shared)(Q:Value->Shared->Prop)(E:Value->Shared->Prop),Q (.int (g i j) s.toks) { s with toks:=s.toks+1 }->wpAny (model X.prog X.w) X.A (f (.int i t) (.int j u)) Q E s):
 OpR X f (rI0 fun i j=>.int (g i j)):=by
 intro pins s σ H x y v u Q I rx ry h;obtain⟨i,j,rfl,rfl,q⟩:=h;obtain⟨t,rfl⟩:=rx;obtain⟨t',rfl⟩:=ry;exact rule i j t t' s _ _ ⟨.int (g i j),H,I.tok _,⟨_,rfl⟩,q⟩
theorem YJ{f:Value->Value->Sem Value}{g:Int->Int->Bool}
 (rule:∀(i j:Int)(t u:Tok)(s:Shared)(Q:Value->Shared->Prop)(E:Value->Shared->Prop),Q (.bool (g i j)) s->wpAny (model X.prog X.w) X.A (f (.int i t) (.int j u)) Q E s):
 OpR X f (rI0 fun i j=>.bl (g i j)):=by
 intro pins s σ H x y v u Q I rx ry h;obtain⟨i,j,rfl,rfl,q⟩:=h;obtain⟨t,rfl⟩:=rx;obtain⟨t',rfl⟩:=ry;exact rule i j t t' s _ _ ⟨.bl (g i j),H,I,rfl,q⟩
noncomputable def VR(i j:Int):Prop:=0<=j/\j<=1000000/\i.natAbs<2 ^ 64
noncomputable def aBP(i j:Int):Prop:=(-(2 ^ 64)<i/\i<2 ^ 64)\/(-(2 ^ 64)<j/\j<2 ^ 64)
theorem aBP.ok{i j:Int}(h:aBP i j):IntMulOk i j:=by
 rcases h with⟨h1,h2⟩|⟨h1,h2⟩
 .exact .of_left (intBits_le_64 h1 h2)
 .exact .of_right (intBits_le_64 h1 h2)
theorem HH(k:Nat):(0:Int)<=2 ^ k:=by
 rw[two_pow_cast];exact Int.natCast_nonneg _
theorem op_add:OpR X (binaryOp .Add) (rI0 fun i j=>.int (i+j)):=aDo fun _ _ _ _ _ _ _ q=>add_int q
theorem aCj:OpR X (binaryOp .Sub) (rI0 fun i j=>.int (i-j)):=aDo fun _ _ _ _ _ _ _ q=>sub_int q
theorem aAY:OpR X (binaryOp .Mod) (rI (fun _ j=>0<j) fun i j=>.int (i % j)):=opI fun i j _ _ _ _ _ hc q=>by
 have h1:(0:Int)<j:=hc;exact mod_int' (by omega) (by rw[Int.fmod_eq_emod_of_nonneg i (by omega)];exact q)
theorem aBI:OpR X (binaryOp .Pow) (rI VR fun i j=>.int (i ^ j.toNat)):=opI fun _ _ _ _ _ _ _ hc q=>pow_int_small hc.1 hc.2.1 hc.2.2 q
theorem aCl:OpR X (binaryOp .LShift) (rI VR fun i j=>.int (i*2 ^ j.toNat)):=opI fun _ _ _ _ _ _ _ hc q=>lshift_int_small hc.1 hc.2.1 hc.2.2 q
theorem aBB:OpR X (binaryOp .RShift) (rI (fun _ j=>0<=j) fun i j=>.int (i / 2 ^ j.toNat)):=opI fun i j _ _ _ _ _ hc q=>
 rshift_int hc (by rw[Int.fdiv_eq_ediv_of_nonneg i (HH _)];exact q)
theorem aCf:OpR X (binaryOp .BitAnd) (rI0 fun i j=>.int (Builtin.bitAnd i j)):=aDo fun _ _ _ _ _ _ _ q=>and_int q
end
noncomputable def aEq:V->V->Bool
 |.non,.non=>true|.non,.int _=>true|.int _,.non=>true|.non,.bl _=>true|.bl _,.non=>true|.non,.str _=>true|.str _,.non=>true
 |.int _,.int _=>true|.bl _,.bl _=>true|.str _,.str _=>true|.byt _,.byt _=>true
 |.int _,.str _=>true|.str _,.int _=>true|.bl _,.str _=>true|.str _,.bl _=>true
 |_,_=>false
noncomputable def rEq:R2:=fun x y H Q=>aEq x y=true/\Q (.bl (decide (x=y))) H
noncomputable def rNe:R2:=fun x y H Q=>aEq x y=true/\Q (.bl (!decide (x=y))) H
theorem JZ{i j:Int}:decide (V.int i=V.int j)=(i==j):=by
 rw[Y5];simp
theorem RN{i j:Bool}:decide (V.bl i=V.bl j)=(i==j):=by
 rw[Y5];simp
theorem JG{i j:Str}:decide (V.str i=V.str j)=(i==j):=by
 rw[Y5];simp
theorem JF{i j:Array UInt8}:decide (V.byt i=V.byt j)=(i.toList==j.toList):=by
 rw[Y5];cases i;cases j;simp
section
variable{X:Cx}{a b c:Expr}{ta tb tc:TE}{pos:Pos}
theorem bI{pins:List (Addr×Obj)}{Q:VK}{k k':Bool}(I:Inv X pins σ H s)(q:Q (.bl k) H)(e:k=k'):EP X pins σ Q (.bool k') s:=by
 subst e;exact⟨.bl k,H,I,rfl,q⟩
theorem op_eq:OpR X (compareOp .Eq) rEq:=by
 intro pins s σ H x y v u Q I rx ry h;obtain⟨hs,q⟩:=h;cases x with
 |non=>
  cases rx;cases y with
  |non=>cases ry;exact PySem.EqNone.eq_none_none (bI I q (by simp))
  |bl j=>cases ry;exact PySem.EqNone.eq_none_bool (bI I q (by simp))
  |int j=>obtain⟨t',rfl⟩:=ry;exact PySem.EqNone.eq_none_int (bI I q (by simp))
  |str j=>obtain⟨t',rfl⟩:=ry;exact PySem.EqNone.eq_none_str (bI I q (by simp))
  |_=>exact absurd (show false=true from hs) B4
 |bl i=>
  cases rx;cases y with
  |non=>cases ry;exact PySem.EqNone.eq_bool_none (bI I q (by simp))
  |bl j=>cases ry;exact eq_bool (bI I q RN)
  |str j=>obtain⟨t',rfl⟩:=ry;exact PySem.EqMixed.eq_bool_str (bI I q (by simp))
  |_=>exact absurd (show false=true from hs) B4
 |int i=>
  obtain⟨t,rfl⟩:=rx;cases y with
  |non=>cases ry;exact PySem.EqNone.eq_int_none (bI I q (by simp))
  |int j=>obtain⟨t',rfl⟩:=ry;exact eq_int (bI I q JZ)
  |str j=>obtain⟨t',rfl⟩:=ry;exact PySem.EqMixed.eq_int_str (bI I q (by simp))
  |_=>exact absurd (show false=true from hs) B4
 |str i=>
  obtain⟨t,rfl⟩:=rx;cases y with
  |non=>cases ry;exact PySem.EqNone.eq_str_none (bI I q (by simp))
  |bl j=>cases ry;exact PySem.EqMixed.eq_str_bool (bI I q (by simp))
  |int j=>obtain⟨t',rfl⟩:=ry;exact PySem.EqMixed.eq_str_int (bI I q (by simp))
  |str j=>obtain⟨t',rfl⟩:=ry;exact eq_str (bI I q JG)
  |_=>exact absurd (show false=true from hs) B4
 |byt i=>
  obtain⟨t,rfl⟩:=rx;cases y with
  |byt j=>obtain⟨t',rfl⟩:=ry;exact PySem.W.eq_bytes (bI I q JF)
  |_=>exact absurd (show false=true from hs) B4
 |_=>cases y<;>exact absurd (show false=true from hs) B4
theorem op_ne:OpR X (compareOp .NotEq) rNe:=by
 intro pins s σ H x y v u Q I rx ry h;obtain⟨hs,q⟩:=h;cases x with
 |non=>
  cases rx;cases y with
  |non=>cases ry;exact PySem.EqNone.ne_none_none (bI I q (by simp))
  |bl j=>cases ry;exact PySem.EqNone.ne_none_bool (bI I q (by simp))
  |int j=>obtain⟨t',rfl⟩:=ry;exact PySem.EqNone.ne_none_int (bI I q (by simp))
  |str j=>obtain⟨t',rfl⟩:=ry;exact PySem.EqNone.ne_none_str (bI I q (by simp))
  |_=>exact absurd (show false=true from hs) B4
 |bl i=>
  cases rx;cases y with
  |non=>cases ry;exact PySem.EqNone.ne_bool_none (bI I q (by simp))
  |bl j=>cases ry;exact ne_bool (bI I q (U6 not RN))
  |str j=>obtain⟨t',rfl⟩:=ry;exact PySem.EqMixed.ne_bool_str (bI I q (by simp))
  |_=>exact absurd (show false=true from hs) B4
 |int i=>
  obtain⟨t,rfl⟩:=rx;cases y with
  |non=>cases ry;exact PySem.EqNone.ne_int_none (bI I q (by simp))
  |int j=>obtain⟨t',rfl⟩:=ry;exact ne_int (bI I q (U6 not JZ))
  |str j=>obtain⟨t',rfl⟩:=ry;exact PySem.EqMixed.ne_int_str (bI I q (by simp))
  |_=>exact absurd (show false=true from hs) B4
 |str i=>
  obtain⟨t,rfl⟩:=rx;cases y with
  |non=>cases ry;exact PySem.EqNone.ne_str_none (bI I q (by simp))
  |bl j=>cases ry;exact PySem.EqMixed.ne_str_bool (bI I q (by simp))
  |int j=>obtain⟨t',rfl⟩:=ry;exact PySem.EqMixed.ne_str_int (bI I q (by simp))
  |str j=>obtain⟨t',rfl⟩:=ry;exact ne_str (bI I q (U6 not JG))
  |_=>exact absurd (show false=true from hs) B4
 |byt i=>
  obtain⟨t,rfl⟩:=rx;cases y with
  |byt j=>obtain⟨t',rfl⟩:=ry;exact PySem.W.ne_bytes (bI I q (U6 not JF))
  |_=>exact absurd (show false=true from hs) B4
 |_=>cases y<;>exact absurd (show false=true from hs) B4
theorem aEH:OpR X (compareOp .Lt) (rI0 fun i j=>.bl (decide (i<j))):=YJ fun _ _ _ _ _ _ _ q=>lt_int q
theorem aEZ:OpR X (compareOp .LtE) (rI0 fun i j=>.bl (decide (i<=j))):=YJ fun _ _ _ _ _ _ _ q=>le_int q
theorem aEM:OpR X (compareOp .Gt) (rI0 fun i j=>.bl (decide (j<i))):=YJ fun _ _ _ _ _ _ _ q=>gt_int q
theorem aDD:OpR X (compareOp .GtE) (rI0 fun i j=>.bl (decide (j<=i))):=YJ fun _ _ _ _ _ _ _ q=>ge_int q
theorem OpR.or{f:Value->Value->Sem Value}{r r':R2}(h:OpR X f r)(h':OpR X f r'):OpR X f (fun x y H Q=>r x y H Q\/r' x y H Q):=by
 intro pins s σ H x y v u Q I rx ry q;rcases q with q|q
 .exact h pins s σ H x y v u Q I rx ry q
 .exact h' pins s σ H x y v u Q I rx ry q
theorem ZL{op:CmpOp}{r:R2}(ho:OpR X (compareOp op) r)(ha:PE X a ta)(hb:PE X b tb)(hm:behindInMarks op b=false):PE X (.Compare a [op] [b] pos) (tOp r ta tb):=by
 intro pins s σ H Q I h;exact wpAny_Compare1 (aDp ha hb I h fun v u s2 x y H2 I2 rx ry q=>ho pins s2 σ H2 x y v u Q I2 rx ry q) hm
noncomputable def aAy(t:TE):TT:=fun σ H Q=>t σ H fun x H'=>∃k,x=.bl k/\Q k H'
theorem UR{op:CmpOp}{r:R2}(ho:OpR X (compareOp op) r)(ha:PE X a ta)(hb:PE X b tb)(hm:behindInMarks op b=false):PT X (.Compare a [op] [b] pos) (aAy (tOp r ta tb)):=by
 intro pins s σ H Q I h
 refine wpAny_isTrue_Compare1 (thn (ha pins s σ H _ I h) fun v s1 ⟨x,H1,I1,r1,q1⟩=>thn (hb pins s1 σ H1 _ I1 q1) fun u s2 ⟨y,H2,I2,r2,q2⟩=>
  thn (ho pins s2 σ H2 x y v u _ I2 r1 r2 q2) fun c s3 ⟨z,H3,I3,r3,k,e,q3⟩=>?_) hm
 subst e;cases r3;exact O0 ⟨H3,I3,q3⟩
noncomputable def ON(r r':R2)(ta tb tc:TE):TE:=fun σ H Q=>ta σ H fun x H1=>tb σ H1 fun y H2=>r x y H2 fun z H3=>∃k,z=.bl k /\
 (if k=true then tc σ H3 fun w' H4=>r' y w' H4 Q else Q (.bl false) H3)
theorem QW{op op':CmpOp}{r r':R2}(ho:OpR X (compareOp op) r)(ho':OpR X (compareOp op') r')(ha:PE X a ta)(hb:PE X b tb)(hc:PE X c tc)
 (hm:lastMarks [op,op'] [b,c]=false:=by with_unfolding_all rfl):PE X (.Compare a [op,op'] [b,c] pos) (ON r r' ta tb tc):=by
 intro pins s σ H Q I h
 refine Compare_chain (thn (ha pins s σ H _ I h) fun v s1 ⟨x,H1,I1,r1,q1⟩=>chain_link (thn (hb pins s1 σ H1 _ I1 q1) fun u s2 ⟨y,H2,I2,r2,q2⟩=>
  thn (ho pins s2 σ H2 x y v u _ I2 r1 r2 q2) fun d s3 ⟨z,H3,I3,r3,k,e,q3⟩=>?_)) hm
 subst e;cases r3;refine O0 ?_;cases k with
 |false=>exact ite_ff ⟨.bl false,H3,I3,rfl,q3⟩
 |true=>exact ite_tt (chain_last (thn (hc pins s3 σ H3 _ I3 q3) fun w' s4 ⟨z',H4,I4,r4,q4⟩=>ho' pins s4 σ H4 y z' u w' Q I4 r2 r4 q4))
noncomputable def YA(K:Fg)(x:V)(H:Hp)(k:Bool):Prop:=
 match x with
 |.non=>k=false
 |.bl b=>k=b
 |.int i=>k=(i != 0)
 |.str y=>y.length<=sizeLine/\k=((y.length:Int) != 0)
 |.byt y=>y.size<=sizeLine/\k=((y.size:Int) != 0)
 |.ref p=>(∃xs,SqL K H p xs/\k=!xs.isEmpty)\/(∃xs,SqT K H p xs/\k=!xs.isEmpty)\/∃kvs,H p=some (.dK kvs)/\k=!kvs.isEmpty
 |_=>False
theorem HQ{κ:Type}{kvs:List (κ×V)}{vs:List (κ×Value)}(r:KV kvs vs):(!vs.isEmpty)=!kvs.isEmpty:=by
 cases r<;>rfl
theorem xC{xs:List V}{its:List Value}(r:aU xs its):(!its.toArray.isEmpty)=!xs.isEmpty:=by
 cases r<;>simp
theorem sW:(sizeLine:Nat)<2 ^ 63:=by rw[F8];decide
theorem aBS:aFQ X (fun x H Q=>∃k,YA X.K x H k/\Q k H):=by
 intro pins s σ H x v Q I rx h;obtain⟨k,e,q⟩:=h;have hl:=sW;have hs:sizeLine=16777216:=F8;cases x with
 |non=>
  cases rx;have e':k=false:=e;subst e';exact truthy_none ⟨H,I,q⟩
 |bl b=>
  cases rx;have e':k=b:=e;subst e';exact O0 ⟨H,I,q⟩
 |int i=>
  obtain⟨t,rfl⟩:=rx;have e':k=(i != 0):=e;subst e';exact PySem.P.truthy_int ⟨H,I,q⟩
 |str y=>
  obtain⟨t,rfl⟩:=rx;obtain⟨hy,e'⟩:y.length<=sizeLine/\k=((y.length:Int) != 0):=e;subst e';exact PySem.P.truthy_str (by omega) ⟨H,I.tok _,q⟩
 |byt y=>
  obtain⟨t,rfl⟩:=rx;obtain⟨hy,e'⟩:y.size<=sizeLine/\k=((y.size:Int) != 0):=e;subst e';exact PySem.W.truthy_bytes (by omega) ⟨H,I.tok _,q⟩
 |ref p=>
  cases rx;have e':(∃xs,SqL X.K H p xs/\k=!xs.isEmpty)\/(∃xs,SqT X.K H p xs/\k=!xs.isEmpty)\/∃kvs,H p=some (.dK kvs)/\k=!kvs.isEmpty:=e;rcases e' with⟨xs,hx,e'⟩|⟨xs,hx,e'⟩|⟨kvs,hx,e'⟩
  .subst e';obtain⟨its,r,pl,hz⟩:=I.list hx;have hlen:=r.length;exact wpAny_truthy_list pl.isList (by simp only[List.size_toArray];omega) ⟨H,I.tok _,by rw[xC r];exact q⟩
  .subst e';obtain⟨its,r,pl,hz⟩:=I.tuple hx;have hlen:=r.length;exact truthy_tuple pl (by simp only[List.size_toArray];omega) ⟨H,I.tok _,by rw[xC r];exact q⟩
  .subst e';obtain⟨hz,hS,vs,r,m⟩:kvs.length<=sizeLine/\(p==sysModules)=false/\∃vs,KV kvs vs/\s.heap.DictOf (cW X.prog X.w) p vs:=I.hok p _ hx;have hlen:kvs.length=vs.length:=A0e r;exact wpAny_truthy_dict hS m (by omega) ⟨H,I.tok _,by rw[HQ r];exact q⟩
 |_=>exact(show False from e).elim
theorem NV(ha:PE X a ta)(he:∀whole,isTrue a X.env whole=(do let v <- whole;standAt a.pos;holding [v] (truthy v))):
 PT X a (fun σ H Q=>ta σ H fun x H'=>∃k,YA X.K x H' k/\Q k H'):=by
 intro pins s σ H Q I h;exact isTrue_plain (thn (ha pins s σ H _ I h) fun v s1 ⟨x,H1,I1,r1,q1⟩=>aBS pins s1 σ H1 x v Q I1 r1 q1) (he _)
theorem vals1{x:V}{us:List Value}(r:aU [x] us):∃u,us=[u]/\RelV x u:=by
 cases r with
 |cons r1 r2=>cases r2;exact⟨_,rfl,r1⟩
theorem vals2{x y:V}{us:List Value}(r:aU [x,y] us):∃u w',us=[u,w']/\RelV x u/\RelV y w':=by
 cases r with
 |cons r1 r2=>
  cases r2 with
  |cons r3 r4=>cases r4;exact⟨_,_,rfl,r1,r3⟩
theorem KQ(hc:X.calm=true):eT X (.builtin "max") (fun xs H Q=>∃i j,xs=[.int i,.int j]/\Q (.int (if j > i then j else i)) H):=by
 intro pins s σ H xs us Q I r h;obtain⟨i,j,rfl,q⟩:=h;obtain⟨u,w',rfl,⟨t,rfl⟩,⟨t',rfl⟩⟩:=vals2 r;refine max_two_ints (I.ok.hd hc) fun h' tk k=>⟨_,H,I.kept k,?_,q⟩;by_cases hj:j > i
 .rw[B0 hj,B0 hj];exact⟨_,rfl⟩
 .rw[B2 hj,B2 hj];exact⟨_,rfl⟩
theorem MX(hc:X.calm=true):eT X (.builtin "min") (fun xs H Q=>∃i j,xs=[.int i,.int j]/\Q (.int (if j<i then j else i)) H):=by
 intro pins s σ H xs us Q I r h;obtain⟨i,j,rfl,q⟩:=h;obtain⟨u,w',rfl,⟨t,rfl⟩,⟨t',rfl⟩⟩:=vals2 r;refine min_two_ints (I.ok.hd hc) fun h' tk k=>⟨_,H,I.kept k,?_,q⟩;by_cases hj:j<i
 .rw[B0 hj,B0 hj];exact⟨_,rfl⟩
 .rw[B2 hj,B2 hj];exact⟨_,rfl⟩
end
structure LZ(h:Heap)(x dx C:Addr)(mA:Str->Option Value):Prop where
 obj:h.get? x=some (PySem.W.instObj C dx)
 ns:h.Ns1 dx mA
 ne:dx≠x
theorem LV{h:Heap}{dx:Addr}{mA:Str->Option Value}(n:h.Ns1 dx mA):∃od,h.get? dx=some od/\∀name,PySem.W.lookIn name od=some (mA name):=by
 obtain⟨o,es,ep,ho,hd,hk,_,hm⟩:=n;refine⟨o,ho,fun name=>?_⟩;have e:=hm name;unfold nsFind findBy at e;rw[<- Array.find?_toList]at e;unfold PySem.W.lookIn;rw[hd];dsimp only;split
 .rename_i y q;rw[q]at e;exact U6 some e
 .rename_i q;rw[q]at e
  have a:es.toList.any (·.refKey)=false:=by
   rw[List.any_eq_false];intro y hy;obtain⟨z,t,hkey⟩:=hk y (Array.mem_toList_iff.mp hy);simp[DictEntry.refKey,hkey]
  have a':¬es.toList.any (·.refKey)=true:=by rw[a];exact B4
  rw[B2 a'];exact U6 some e
theorem LZ.look{h:Heap}{x dx C:Addr}{mA:Str->Option Value}(I:LZ h x dx C mA):∃od,PySem.W.InstAt h x (PySem.W.instObj C dx) C (some od)/\∀name,PySem.W.lookIn name od=some (mA name):=
 let⟨od,ho,hl⟩:=LV I.ns
 ⟨od,⟨I.obj,rfl,rfl,ho⟩,hl⟩
section
variable{prog:Program}{w:World}{A:Around}{E:Value->Shared->Prop}{s:Shared}{K:Fg}{x dx C f:Addr}{mA:Str->Option Value}{name:Str}{v:Value}
theorem get_map{expr:Bool}{Q:Value->Shared->Prop}(X:K.In s.heap)(I:LZ s.heap x dx C mA)(hg:PySem.W.plainGet K C name=true)(hh:PySem.W.hasDictIn K C=true)
 (ha:PySem.W.findIn K (.ref C) name=some none) (hv:mA name=some v) (hv':PySem.W.handedIn v=true) (h:Q v { s with toks:=s.toks+1 }):
 wpAny (model prog w) A (getAttr (.ref x) name expr) Q E s:=by
 obtain⟨od,J,hl⟩:=I.look;exact PySem.W.get_value X J (PySem.W.plainGet_of hg).1 (PySem.W.findObj_own hh ha rfl (by rw[hl,hv])) hv' h
theorem UL{ns:List Str}{Q:Unit->Shared->Prop}(X:K.In s.heap)(I:LZ s.heap x dx C mA)
 (hs:PySem.W.findIn K (.ref C) "__setattr__"=some (some (.builtin "object.__setattr__"))) (hp:PySem.W.plainOver K C=true) (ht:PySem.W.takerIn K C name=some none) (hh:PySem.W.hasDictIn K C=true)
 (hw:PySem.Within mA ns) (hsz:ns.length<=sizeLine)
 (h:∀h',LZ h' x dx C (fun y=>if y=name then some v else mA y)->Heap.SameBut dx s.heap h'->Q () { s with heap:=h',toks:=s.toks+2 }):
 wpAny (model prog w) A (setAttr (.ref x) name v) Q E s:=by
 obtain⟨od,J,hl⟩:=I.look;refine PySem.W.set_plain X J hs (PySem.W.osa_open (s:={ s with toks:=s.toks+1 }) (r:=none) X J hp ht fun b=>?_);obtain⟨cd,hc,hd'⟩:=PySem.W.any_some hh;have hx:s.heap.get? x=some ⟨.ref C,some dx,.plain,#[]⟩:=I.obj;refine A1 (A4 (A1 (A1 (wpAny_loadPart hx (A1 (PySem.W.Looks.here (s:={ s with toks:=s.toks+1 }) (PySem.W.looks_clsIn X hc) ?_))))));rw[hd'];refine A4 (a:=some dx) (A1 (A4 (A1 ?_)));refine wpAny_nsSet1 (s:={ s with toks:=s.toks+1 }) I.ns fun h' hn2 hs2=>?_;obtain⟨oD,esD,epD,hoD,hdD,hcD⟩:=hn2.count (PySem.Within.cons name v hw);refine A1 (wpAny_lookBehind hoD (by rw[hdD];exact pastItsLine_dict (C7 hcD (by rw[E9];omega))) ?_);exact A4 (h _ ⟨(hs2.2 _ (O7 I.ne)).trans I.obj,hn2,I.ne⟩ hs2)
theorem SR{R:Result->Shared->Prop}{vs:List Value}{kw:List (Str×Value)}(X:K.In s.heap)(hm:PySem.W.makesIn K C=true)
 (hi:PySem.W.findIn K (.ref C) "__init__"=some (some (.ref f))) (hf:PySem.W.typeIn K (.ref f)=some (.type "function"))
 (h:codeAny (model prog w) (A.under (.builtin "type.__call__" ⟨.ref C::vs,kw⟩)) (.call (.ref f) ⟨.ref (s.heap.objs.size+1)::vs,kw⟩) (PySem.W.InitBack (s.heap.objs.size+1) R)
  { s with heap:=(s.heap.push PySem.W.emptyDict).push (PySem.W.instObj C s.heap.objs.size) }):
 codeAny (model prog w) A (.call (.ref C) ⟨vs,kw⟩) R s:=by
 obtain⟨hh,g,d,t,os⟩:=s;exact PySem.W.make_core (PySem.W.makes_of X hm) (PySem.W.looks_findIn X hi) (fun self=>PySem.W.bind_fn X self hf) (.inl rfl) h
end
noncomputable def lF(f:Str)(v:V):List (Str×V)->List (Str×V)
 |[]=>[(f,v)]
 |(g,x)::r=>if g=f then(g,v)::r else(g,x)::lF f v r
theorem tR(f g:Str)(v:V):∀fs:List (Str×V),(lF f v fs).lookup g=if g=f then some v else fs.lookup g
 |[]=>by
  show List.lookup g [(f,v)]=_;by_cases h:g=f
  .have hb:(g==f)=true:=beq_iff_eq.mpr h;simp only[List.lookup,hb,if_pos h]
  .have hb:(g==f)=false:=beq_eq_false_iff_ne.mpr h;simp only[List.lookup,hb,if_neg h]
 |(k,x)::r=>by
  have ih:=tR f g v r;rw[show lF f v ((k,x)::r)=(if k=f then(k,v)::r else(k,x)::lF f v r)from rfl];by_cases hk:k=f
  .rw[B0 hk];by_cases h:g=k
   .have hb:(g==k)=true:=beq_iff_eq.mpr h;simp only[List.lookup,hb,if_pos (h.trans hk)]
   .have hb:(g==k)=false:=beq_eq_false_iff_ne.mpr h;simp only[List.lookup,hb,if_neg (fun e:g=f=>h (e.trans hk.symm))]
  .rw[B2 hk];by_cases h:g=k
   .have hb:(g==k)=true:=beq_iff_eq.mpr h;simp only[List.lookup,hb,if_neg (fun e:g=f=>hk (h.symm.trans e))]
   .have hb:(g==k)=false:=beq_eq_false_iff_ne.mpr h;simp only[List.lookup,hb];exact ih
theorem sR(f:Str)(v:V):∀fs:List (Str×V),f∈(lF f v fs).map (·.1)/\∀g,g∈fs.map (·.1)->g∈(lF f v fs).map (·.1)
 |[]=>⟨by simp[lF],fun g h=>by simp at h⟩
 |(k,x)::r=>by
  obtain⟨i1,i2⟩:=sR f v r;rw[show lF f v ((k,x)::r)=(if k=f then(k,v)::r else(k,x)::lF f v r)from rfl];by_cases hk:k=f
  .rw[B0 hk];subst hk;exact⟨by simp,fun g h=>by simpa using h⟩
  .rw[B2 hk];refine⟨?_,fun g h=>?_⟩
   .rw[C6];exact A8 _ i1
   .rw[C6]at h ⊢;rcases List.mem_cons.mp h with e|e
    .exact List.mem_cons.mpr (.inl e)
    .exact A8 _ (i2 g e)
theorem uE(f:Str)(v:V):∀fs:List (Str×V),(lF f v fs).length<=fs.length+1
 |[]=>by simp[lF]
 |(k,x)::r=>by
  have ih:=uE f v r;rw[show lF f v ((k,x)::r)=(if k=f then(k,v)::r else(k,x)::lF f v r)from rfl];by_cases hk:k=f
  .rw[B0 hk,E9,E9];omega
  .rw[B2 hk,E9,E9];omega
theorem sU.some_of{v:V}{o:Option Value}(r:sU (some v) o):∃u,o=some u/\RelV v u:=by
 cases o with
 |none=>exact(show False from r).elim
 |some u=>exact⟨u,rfl,r⟩
theorem KW{v:V}{u:Value}(r:RelV v u):PySem.W.handedIn u=true:=by
 cases v with
 |non=>cases (show u=Value.none from r);rfl
 |bl b=>cases (show u=Value.bool b from r);rfl
 |int i=>obtain⟨t,e⟩:=(show ∃t,u=Value.int i t from r);cases e;rfl
 |str x=>obtain⟨t,e⟩:=(show ∃t,u=Value.str x t from r);cases e;rfl
 |byt b=>obtain⟨t,e⟩:=(show ∃t,u=Value.bytes b t from r);cases e;rfl
 |flt b=>obtain⟨t,e⟩:=(show ∃t,u=Value.float b t from r);cases e;rfl
 |ref a=>cases (show u=Value.ref a from r);rfl
 |ty n=>cases (show u=Value.type n from r);rfl
section
variable{P:Program}{w:World}{H H':Hp}{h h':Heap}{a C dx:Addr}{fs fs':List (Str×V)}
theorem JS(hok:HOk P w H h)(e:H a=some (.ins C dx fs)):∃mA,LZ h a dx C mA/\(∀f,sU (fs.lookup f) (mA f))/\PySem.Within mA (fs.map (·.1))/\fs.length<=1000/\H dx=some (.own a):=by
 obtain⟨d,z,ne,ob,mA,n,r,q⟩:=(show bT P w H h a (.ins C dx fs)from hok a _ e);exact⟨mA,⟨ob,n,ne⟩,r,q,z,d⟩
end
structure Cls(K:Fg)(C:Addr):Prop where
 pg:PySem.W.plainGet K C Str.empty=true
 hd:PySem.W.hasDictIn K C=true
 po:PySem.W.plainOver K C=true
 sa:PySem.W.findIn K (.ref C) "__setattr__"=some (some (.builtin "object.__setattr__"))
theorem Cls.get{C:Addr}(c:Cls K C)(f:Str):PySem.W.plainGet K C f=true:=c.pg
noncomputable def gF(K:Fg)(C:Addr)(f:Str):Prop:=PySem.W.findIn K (.ref C) f=some none
theorem gF.taker{C:Addr}{f:Str}(n:gF K C f):PySem.W.takerIn K C f=some none:=by
 unfold PySem.W.takerIn;rw[show PySem.W.findIn K (.ref C) f=some none from n];rfl
section
variable{X:Cx}{pins:List (Addr×Obj)}{σ:St}{H:Hp}{s:Shared}{a C dx:Addr}{fs:List (Str×V)}{f:Str}{v:V}{A:Around}{E:Value->Shared->Prop}
theorem HE{b:Bool}{Q:Value->Shared->Prop}(I:Inv X pins σ H s)(e:H a=some (.ins C dx fs))(c:Cls X.K C)(n:gF X.K C f)(l:fs.lookup f=some v)
 (h:∀u s',Inv X pins σ H s'->RelV v u->Q u s'):wpAny (model X.prog X.w) A (getAttr (.ref a) f b) Q E s:=by
 obtain⟨mA,O,r,_,_,_⟩:=JS I.hok e;obtain⟨u,hu,ru⟩:=sU.some_of (v:=v) (o:=mA f) (by rw[<- l];exact r f);exact get_map I.kIn O (c.get f) c.hd n hu (KW ru) (h u _ (I.tok _) ru)
theorem FP{y:V}{u:Value}{Q:Unit->Shared->Prop}(I:Inv X pins σ H s)(e:H a=some (.ins C dx fs))(c:Cls X.K C)(n:gF X.K C f)(hl:fs.length<1000)(ry:RelV y u)
 (h:∀s',Inv X pins σ (upd H a (.ins C dx (lF f y fs))) s'->Q () s'):wpAny (model X.prog X.w) A (setAttr (.ref a) f u) Q E s:=by
 obtain⟨mA,O,r,wi,_,ho⟩:=JS I.hok e;have hz:(fs.map (·.1)).length<=sizeLine:=by rw[A3,F8];omega
 refine UL I.kIn O c.sa c.po n.taker c.hd wi hz fun h' O' sb=>h _ ?_;have hd:∃o,h'.get? dx=some o:=let⟨o,_,_,e',_⟩:=O'.ns;⟨o,e'⟩;refine I.write (x:=a) (e:=dx) (by rw[e];exact True.intro) (.inr ho) (fun b q hb z=>(sb.2 b hb).trans z) hd ?_;refine⟨by rw[aL O.ne];exact ho,?_,O.ne,O'.obj,_,O'.ns,fun g=>?_,fun g hg=>?_⟩
 .have:=uE f y fs;omega
 .show sU ((lF f y fs).lookup g) (if g=f then some u else mA g);rw[tR];by_cases q:g=f
  .rw[B0 q,B0 q];exact ry
  .rw[B2 q,B2 q];exact r g
 .by_cases q:g=f
  .rw[q];exact(sR f y fs).1
  .refine(sR f y fs).2 g (wi g fun z=>hg ?_);show(if g=f then some u else mA g)=none;rw[B2 q];exact z
theorem Inv.made(I:Inv X pins σ H s):Inv X pins σ (upd (upd H s.heap.objs.size (.own (s.heap.objs.size+1))) (s.heap.objs.size+1) (.ins C s.heap.objs.size []))
 { s with heap:=(s.heap.push PySem.W.emptyDict).push (PySem.W.instObj C s.heap.objs.size) }:=by
 have e1:(s.heap.push PySem.W.emptyDict).get? s.heap.objs.size=some PySem.W.emptyDict:=B1 s.heap rfl
 have e2:((s.heap.push PySem.W.emptyDict).push (PySem.W.instObj C s.heap.objs.size)).get? (s.heap.objs.size+1)=some (PySem.W.instObj C s.heap.objs.size):=by
  have:=B1 (s.heap.push PySem.W.emptyDict) (o:=PySem.W.instObj C s.heap.objs.size) rfl
  rwa [L8]at this
 have e3:(s.heap.push PySem.W.emptyDict).Ns s.heap.objs.size (fun _=>none):=⟨PySem.W.emptyDict,#[],_,e1,rfl,(fun e he=>absurd he (by simp)),fun _=>rfl⟩;have I1:=I.laid (a:=s.heap.objs.size) (o:=.own (s.heap.objs.size+1)) (h':=s.heap.push PySem.W.emptyDict) (t':=s.toks) (fun b u q=>A2 _ q) (A7 _) ⟨_,e1⟩;refine I1.laid (a:=s.heap.objs.size+1) (o:=.ins C s.heap.objs.size []) (t':=s.toks) (fun b u q=>A2 _ q) (Nat.le_of_eq (L8 _ _)) ?_;have ne:s.heap.objs.size≠s.heap.objs.size+1:=B7 (L6 _);refine⟨by rw[aL ne,aP],J5 _,ne,e2,fun _=>none,(Heap.Ns1.of_empty e3).at fun o q=>A2 _ q,fun _=>True.intro,fun y hy=>absurd rfl hy⟩
theorem UD{prog:Program}{w:World}{env:Env}{e:Expr}{f:Str}{pos:Pos}{s:Shared}{Q:Value->Shared->Prop}(hb:attributeBase e f env (eval e env)=eval e env)
 (h:wpAny (model prog w) A (eval e env) (fun o s₁=>wpAny (model prog w) A (getAttr o f true) Q E s₁) E s):wpAny (model prog w) A (eval (.Attribute e f pos) env) Q E s:=
 Attribute_any_ h (by rw[arm_eval_Attribute,hb])
end
noncomputable def aDV(K:Fg)(ta:TE)(f:Str):TE:=fun σ H Q=>ta σ H fun x H1=>∃a C dx fs v,x=.ref a/\H1 a=some (.ins C dx fs)/\Cls K C/\gF K C f/\fs.lookup f=some v/\Q v H1
noncomputable def aEv(K:Fg)(ta tv:TE)(f:Str):TS:=fun D σ H=>tv σ H fun y H1=>ta σ H1 fun x H2=>∃a C dx fs,x=.ref a/\H2 a=some (.ins C dx fs)/\Cls K C/\gF K C f/\fs.length<1000 /\
 D.nx σ (upd H2 a (.ins C dx (lF f y fs)))
section
variable{X:Cx}{o e value:Expr}{f:Str}{pos pos' tpos:Pos}{ta tv:TE}
theorem aBi(he:PE X e ta)(hb:attributeBase e f X.env (eval e X.env)=eval e X.env):PE X (.Attribute e f pos) (aDV X.K ta f):=by
 intro pins s σ H Q I h;refine UD hb (thn (he pins s σ H _ I h) fun u s1 ⟨x,H1,I1,rx,a,C,dx,fs,v,ex,ea,c,n,l,q⟩=>?_);subst ex;obtain rfl:u=Value.ref a:=rx;exact HE I1 ea c n l fun u' s2 I2 ru=>⟨v,H1,I2,ru,q⟩
theorem aAT(ha:PE X o ta)(hv:PE X value tv)(hs:swapsWith value (some (.Attribute o f pos')) pos.line X.env=pure false):PS X (.Assign [.Attribute o f pos'] value pos) (aEv X.K ta tv f):=by
 intro pins s σ H D I h;refine plainObj_wpAny_Assign_Attribute (thn (hv pins s σ H _ I h) fun u s1 ⟨y,H1,I1,ry,q⟩=>thn (ha pins s1 σ H1 _ I1 q) fun ov s2 ⟨x,H2,I2,rx,a,C,dx,fs,ex,ea,c,n,l,q2⟩=>?_) hs;subst ex;obtain rfl:ov=Value.ref a:=rx;exact FP I2 ea c n l ry fun s3 I3=>⟨σ,_,I3,q2⟩
end
structure cJ(k:Nat)(A:Around)(q:Bool:=true):Prop where
 hd:q=true->A.handled=none
 dp:A.depth+3*k+5<recursionLimit
 un:A.units+16*k+200<cLine
 gd:A.guards=some []
theorem cJ.mono{j k:Nat}{q:Bool}(r:cJ k A q)(h:j<=k):cJ j A q:=⟨r.hd,by have:=r.dp;omega,by have:=r.un;omega,r.gd⟩
theorem cJ.deeper{k:Nat}{q:Bool}(r:cJ (k+1) A q)(env:Env):cJ k (A.deeper env) q:=
 ⟨r.hd,by have:=r.dp;show A.depth+1+3*k+5<_;omega,by have:=r.un;show A.units+3+16*k+200<_;omega,r.gd⟩
theorem GZ{C:Addr}{us:List Value}{kw:List (Str×Value)}:(A.under (.builtin "type.__call__" ⟨.ref C::us,kw⟩)).depth=A.depth+1:=by
 first|rfl|simp[Around.under,Code.weight,Code.isCreation,Code.isGuard,Code.isCaller,Code.frames,Code.isFrame,guardIds]
theorem FY{C:Addr}{us:List Value}{kw:List (Str×Value)}:(A.under (.builtin "type.__call__" ⟨.ref C::us,kw⟩)).units=A.units+1:=by
 first|rfl|simp[Around.under,Code.cUnits,Code.frames,Code.isFrame]
theorem FJ{C:Addr}{us:List Value}{kw:List (Str×Value)}:(A.under (.builtin "type.__call__" ⟨.ref C::us,kw⟩)).guards=A.guards:=by
 first|rfl|simp[Around.under,Code.guards,pushGuards,Code.isGuard,guardIds]|(unfold Around.under;cases A.guards<;>rfl)
theorem cJ.make{k:Nat}{q:Bool}(r:cJ (k+1) A q)(C:Addr)(us:List Value)(kw:List (Str×Value)):cJ k (A.under (.builtin "type.__call__" ⟨.ref C::us,kw⟩)) q:=
 ⟨r.hd,by have:=r.dp;rw[GZ];omega,by have:=r.un;rw[FY];omega,by rw[FJ];exact r.gd⟩
theorem cJ.depth{k:Nat}{q:Bool}(r:cJ k A q):A.depth<recursionLimit:=by have:=r.dp;omega
theorem cJ.units{k:Nat}{q:Bool}(r:cJ k A q):A.units+64<cLine:=by have:=r.un;omega
noncomputable def RU:TA:=fun _ H Q=>Q [] H
noncomputable def tS(ta:TE)(tr:TA):TA:=fun σ H Q=>ta σ H fun x H1=>tr σ H1 fun xs H2=>Q (x::xs) H2
section
variable{X:Cx}{e:Expr}{es:List Expr}{te:TE}{t:TA}{pos:Pos}
theorem BV:PA X [] RU:=fun _ _ _ _ H Q I h=>Calls.spliced_nil ⟨[],H,I,.nil,h⟩
theorem lY(ha:PE X e te)(hr:PA X es t)(hs:starEach (e::es) X.env=(false,eval e X.env)::starEach es X.env:=by rfl):PA X (e::es) (tS te t):=by
 intro pos pins s σ H Q I h;rw[hs];show wpAny _ _ (spliced ((false,eval e X.env)::backTo pos (starEach es X.env))) _ _ s;refine Calls.spliced_cons (thn (ha pins s σ H _ I h) fun u s1 ⟨x,H1,I1,r1,q1⟩=>?_);exact thn (hr pos pins s1 σ H1 _ I1 q1) fun us s2 ⟨xs,H2,I2,r2,q2⟩=>⟨x::xs,H2,I2,.cons r1 r2,q2⟩
noncomputable def UP(t:TA):TE:=fun σ H Q=>t σ H fun xs H1=>xs.length<=sizeLine/\∀p,H1 p=none->Q (.ref p) (upd H1 p (.tup xs))
noncomputable def aAM(t:TA):TE:=fun σ H Q=>t σ H fun xs H1=>xs.length<=sizeLine/\∀p,H1 p=none->Q (.ref p) (upd H1 p (.lst xs))
theorem HK{x1}(h:PA X es t):PE X (.Tuple es x1 pos) (UP t):=by
 intro pins s σ H Q I hq;refine wpAny_Tuple_spliced (thn (h pos pins s σ H _ I hq) fun us s1 ⟨xs,H1,I1,r,z,q⟩=>⟨by rw[<- r.length];exact z,?_⟩);have hf:H1 s1.heap.objs.size=none:=I1.hok.fresh (A7 _);refine⟨.ref s1.heap.objs.size,upd H1 s1.heap.objs.size (.tup xs),I1.laid (t':=s1.toks) (fun b u e=>A2 _ e) (A7 _) ?_,rfl,q _ hf⟩;exact⟨z,us,r,⟨_,B1 _ rfl,rfl,_,rfl⟩⟩
theorem PR(h:PA X es t):PE X (.List es pos) (aAM t):=by
 intro pins s σ H Q I hq;refine wpAny_List_spliced (thn (h pos pins s σ H _ I hq) fun us s1 ⟨xs,H1,I1,r,z,q⟩=>⟨by rw[<- r.length];exact z,?_⟩);have hf:H1 s1.heap.objs.size=none:=I1.hok.fresh (A7 _);refine⟨.ref s1.heap.objs.size,upd H1 s1.heap.objs.size (.lst xs),I1.laid (t':=s1.toks) (fun b u e=>A2 _ e) (A7 _) ?_,rfl,q _ hf⟩;exact⟨z,us,0,r,B1 _ rfl⟩
end
noncomputable abbrev Sp:=List V->Hp->VK->XK->Prop
noncomputable abbrev CXT:=List Env->Hp->Shared->XK->Value->Shared->Prop
structure GJ(P:Program)(w:World)(K:Fg)(mg:Str->Option Value)(base:Heap)(A:Around)(outer:List Env)(s:Shared)(H:Hp):Prop where
 frames:A.frames=some outer
 mod:Mod K mg base
 bs:∀b o,base.get? b=some o->s.heap.get? b=some o/\H b=none
 bsz:base.objs.size<=s.heap.objs.size
 funs:s.heap.FunFrames base outer
 frf:∀b∈frs outer,H b=none
 hok:HOk P w H s.heap
 bare:AllBare s.gens
noncomputable def CE(outer:List Env)(P:Program)(w:World)(H:Hp)(s:Shared)(Q:VK)(u:Value)(s':Shared):Prop:=
 ∃v H',s'.os=s.os/\AllBare s'.gens/\Un (frs outer) [] H H' s.heap s'.heap/\HOk P w H' s'.heap/\RelV v u/\Q v H'
noncomputable def CR(CX:CXT)(outer:List Env)(P:Program)(w:World)(H:Hp)(s:Shared)(Q:VK)(E:XK)(r:Result)(s':Shared):Prop:=
 match r with
 |.ok (.ret u)=>CE outer P w H s Q u s'
 |.ok _=>False
 |.error e=>CX outer H s E e s'
structure pC(P:Program)(w:World)(K:Fg)(mg:Str->Option Value)(base:Heap)(CX:CXT)(k:Nat)(f:Addr)(fd:FuncData)(ps:List Str)(sp:Sp)(q:Bool:=true):Prop where
 len:∀vs H Q E,sp vs H Q E->vs.length=ps.length
 run:∀(A:Around)(outer:List Env)(s:Shared)(H:Hp)(args:Args)(us:List Value)(vs:List V)(Q:VK)(E:XK),cJ k A q->GJ P w K mg base A outer s H->BindsTo s fd args (ps.zip us)->aU vs us->sp vs H Q E->
  codeAny (model P w) A (.call (.ref f) args) (CR CX outer P w H s Q E) s
theorem GJ.make{P:Program}{w:World}{mg:Str->Option Value}{base:Heap}{outer:List Env}(e:GJ P w K mg base A outer s H)(C:Addr)(us:List Value)(kw:List (Str×Value)):
 GJ P w K mg base (A.under (.builtin "type.__call__" ⟨.ref C::us,kw⟩)) outer s H:=⟨by first|exact e.frames|(simpa[Around.under,Code.envs,Code.isFrame,pushEnvs]using e.frames),e.mod,e.bs,e.bsz,e.funs,e.frf,e.hok,e.bare⟩
section
variable{X:Cx}{pins:List (Addr×Obj)}{σ:St}{H:Hp}{s s':Shared}
theorem Inv.env0(I:Inv X pins σ H s):GJ X.prog X.w X.K X.mg X.base X.A X.stack s H:=
 ⟨I.ok.frames,I.ok.mod,I.bs,C7 I.ok.bsz I.sz,I.stack,I.stkFree,I.hok,I.bare⟩
theorem Inv.after{Q:VK}{u:Value}(I:Inv X pins σ H s)(h:CE X.stack X.prog X.w H s Q u s'):EP X pins σ Q u s':=by
 obtain⟨v,H',os,bare,un,hok,r,q⟩:=h;obtain⟨hh,g,d,t,os'⟩:=s';obtain rfl:os'=s.os:=os;exact⟨v,H',I.call (h':=hh) (g':=g) (d':=d) (t':=t) (ch:=[]) un hok bare (fun b z=>absurd z (by simp)),r,q⟩
end
noncomputable def OI(sp:Sp)(dvs:List V)(E:XK)(t:TA):TE:=fun σ H Q=>t σ H fun vs H1=>sp (vs++dvs) H1 Q E
noncomputable def ZY(C:Addr)(sp:Sp)(dvs:List V)(E:XK)(t:TA):TE:=fun σ H Q=>t σ H fun vs H1=>∀x dx,H1 x=none->H1 dx=none->dx≠x->
 sp (.ref x::(vs++dvs)) (upd (upd H1 dx (.own x)) x (.ins C dx [])) (fun v H2=>v=.non/\Q (.ref x) H2) E
noncomputable def Binds(K:Fg)(fd:FuncData)(ps:List Str)(ds:List Value):Prop:=
 ∀(s:Shared)(us:List Value),K.In s.heap->(us++ds).length=ps.length->BindsTo s fd ⟨us,[]⟩ (ps.zip (us++ds))
theorem Binds.all{fd:FuncData}{ps:List Str}(h:∀us:List Value,us.length=ps.length->bindArgs fd ⟨us,[]⟩=pure (ps.zip us)):Binds K fd ps []:=fun s us _ hl=>by
 rw[L4]at hl ⊢;exact .of_eq (h us hl)
noncomputable def BD(CX:CXT)(X:Cx)(E:XK):Prop:=∀(pins:List (Addr×Obj))(σ:St)(H:Hp)(s:Shared)(e:Value)(s':Shared),Inv X pins σ H s->CX X.stack H s E e s'->X.xe e s'
section
variable{X:Cx}{CX:CXT}{k:Nat}{f C:Addr}{fd:FuncData}{ps:List Str}{sp:Sp}{dvs:List V}{ds:List Value}{E:XK}{x m:Str}{p pos apos:Pos}{e o:Expr}{es:List Expr}{ta:TE}{t:TA}
theorem aCA{pins:List (Addr×Obj)}{σ:St}{H:Hp}{s:Shared}{Q:VK}{us:List Value}{vs:List V}{q:Bool}(F:pC X.prog X.w X.K X.mg X.base CX k f fd ps sp q)(hr:cJ k X.A q)(hb:Binds X.K fd ps ds)(hd:aU dvs ds)(hx:BD CX X E)
 (I:Inv X pins σ H s) (r:aU vs us) (h:sp (vs++dvs) H Q E):wpAny (model X.prog X.w) X.A (call (.ref f) us) (EP X pins σ Q) X.xe s:=by
 have r2:aU (vs++dvs) (us++ds):=r.append hd;have hl:(us++ds).length=ps.length:=by rw[<- r2.length];exact F.len _ _ _ _ h
 refine wpAny_call (A0j (F.run X.A X.stack s H ⟨us,[]⟩ (us++ds) (vs++dvs) Q E hr I.env0 (hb s us I.kIn hl) r2 h) fun r s' hq=>?_);cases r with
 |error e=>exact hx pins σ H s e s' I hq
 |ok fl=>
  cases fl with
  |ret u=>exact I.after hq
  |next=>exact False.elim hq
  |brk=>exact False.elim hq
  |cont=>exact False.elim hq
theorem XG{q:Bool}(F:pC X.prog X.w X.K X.mg X.base CX k f fd ps sp q)(hr:cJ k X.A q)(hg:Gl X x)(hm:X.mg x=some (.ref f))(hk:PySem.W.keepIn X.K (.ref f)=true)(hb:Binds X.K fd ps ds)(hd:aU dvs ds)(hx:BD CX X E)
 (ha:PA X (e::es) t) (hdb:(x==("__debug__":Str))=false:=by decide) (he:starEach (e::es) X.env=(false,eval e X.env)::starEach es X.env:=by rfl) (hpl:(backTo pos (starEach es X.env)).any (·.1)=false:=by rfl):
 PE X (.Call (.Name x p) (e::es) [] pos) (OI sp dvs E t):=by
 intro pins s σ H Q I h;refine U2 (zX I hg hm ?_ hdb);refine PySem.W.callWith_K (h₀:=X.base) I.ok.mod.kin hk (thn (ha pos pins s σ H _ I h) fun us s1 ⟨vs,H1,I1,r,q⟩=>⟨I1.kIn,?_⟩) he hpl;exact aCA F hr hb hd hx I1 r q
structure Mk(K:Fg)(C f:Addr):Prop where
 makes:PySem.W.makesIn K C=true
 init:PySem.W.findIn K (.ref C) "__init__"=some (some (.ref f))
 fn:PySem.W.isFn K (.ref f)=true
 kp:PySem.W.keepIn K (.ref C)=true
theorem NR{pins:List (Addr×Obj)}{σ:St}{H:Hp}{s:Shared}{Q:VK}{us:List Value}{vs:List V}(M:Mk X.K C f)(F:pC X.prog X.w X.K X.mg X.base CX k f fd ps sp)(hr:cJ (k+1) X.A)(hb:Binds X.K fd ps ds)(hd:aU dvs ds)
 (hx:∀H s e s',Inv X pins σ H s->CX X.stack H s E e s'->X.xe e s') (I:Inv X pins σ H s) (r:aU vs us)
 (h:∀x dx,H x=none->H dx=none->dx≠x->sp (.ref x::(vs++dvs)) (upd (upd H dx (.own x)) x (.ins C dx [])) (fun v H2=>v=.non/\Q (.ref x) H2) E):
 wpAny (model X.prog X.w) X.A (call (.ref C) us) (EP X pins σ Q) X.xe s:=by
 have hq:=h (s.heap.objs.size+1) s.heap.objs.size (I.hok.fresh (Z6 _)) (I.hok.fresh (A7 _)) (B7 (L6 _));have I2:=Inv.made (C:=C) I;have r2:aU (V.ref (s.heap.objs.size+1)::(vs++dvs)) (Value.ref (s.heap.objs.size+1)::(us++ds)):=.cons rfl (r.append hd)
 have hl:(Value.ref (s.heap.objs.size+1)::us++ds).length=ps.length:=by
  have e:=r2.length;rw[F.len _ _ _ _ hq]at e;exact e.symm
 refine wpAny_call (SR (f:=f) I.kIn M.makes M.init (beq_iff_eq.mp M.fn) (A0j (F.run _ X.stack _ _ ⟨Value.ref (s.heap.objs.size+1)::us,[]⟩ (Value.ref (s.heap.objs.size+1)::(us++ds)) _ _ E (hr.make C us [])
  (I2.env0.make C us []) (hb _ (Value.ref (s.heap.objs.size+1)::us) I2.kIn hl) r2 hq) fun r s' hq'=>?_))
 cases r with
 |error e=>exact hx _ _ e s' I2 hq'
 |ok fl=>
  cases fl with
  |ret u=>
   obtain⟨v,H',I3,rv,ev,q3⟩:=I2.after hq';subst ev;exact⟨rv,⟨V.ref (s.heap.objs.size+1),H',I3,rfl,q3⟩⟩
  |next=>exact False.elim hq'
  |brk=>exact False.elim hq'
  |cont=>exact False.elim hq'
theorem WV(M:Mk X.K C f)(F:pC X.prog X.w X.K X.mg X.base CX k f fd ps sp)(hr:cJ (k+1) X.A)(hg:Gl X x)(hm:X.mg x=some (.ref C))(hb:Binds X.K fd ps ds)(hd:aU dvs ds)(hx:BD CX X E)
 (ha:PA X (e::es) t) (hdb:(x==("__debug__":Str))=false:=by decide) (he:starEach (e::es) X.env=(false,eval e X.env)::starEach es X.env:=by rfl) (hpl:(backTo pos (starEach es X.env)).any (·.1)=false:=by rfl):
 PE X (.Call (.Name x p) (e::es) [] pos) (ZY C sp dvs E t):=by
 intro pins s σ H Q I h;refine U2 (zX I hg hm ?_ hdb);refine PySem.W.callWith_K (h₀:=X.base) I.ok.mod.kin M.kp (thn (ha pos pins s σ H _ I h) fun us s1 ⟨vs,H1,I1,r,q⟩=>⟨I1.kIn,?_⟩) he hpl;exact NR M F hr hb hd (hx pins σ) I1 r q
end
structure aR(N P:List Str)(sc:Scope):Prop where
 kind:sc.kind=.function
 co:sc.isCoroutine=false
 gen:sc.isGenerator=false
 nd:N.Nodup
 pre:N.take P.length=P
 par:∀x∈P,sc.names.lookup x=some .local\/sc.names.lookup x=some .cell
 nofree:∀y∈sc.names,y.2≠.free
theorem yT{kindOf:Str->Option NameKind}{x:Str}:∀{binds:List (Str×Value)}{m:Str->Option Value},(∀v,(x,v)∉binds)->bindL kindOf binds m x=m x
 |[],_=>fun _=>rfl
 |(n,v)::r,m=>fun h=>by
  unfold bindL;rw[yT fun w hw=>h w (A8 _ hw)];split
  .have:x≠n:=by rintro rfl;exact h v A9
   simp[this]
  .rfl
theorem yN{kindOf:Str->Option NameKind}{x:Str}:∀{binds:List (Str×Value)}{m:Str->Option Value},(∀v,(x,v)∉binds)->bindC kindOf binds m x=m x
 |[],_=>fun _=>rfl
 |(n,v)::r,m=>fun h=>by
  unfold bindC;rw[yN fun w hw=>h w (A8 _ hw)];split
  .rfl
  .have:x≠n:=by rintro rfl;exact h v A9
   simp[this]
theorem yB{kindOf:Str->Option NameKind}{x:Str}{v:Value}:∀{P:List Str}{vs:List Value}{i:Nat}{m:Str->Option Value},P.Nodup->P[i]?=some x->vs[i]?=some v->kindOf x=some .local->
 bindL kindOf (P.zip vs) m x=some v
 |[],_,_,_=>fun _ h _ _=>by simp at h
 |_::_,[],_,_=>fun _ _ h _=>by simp at h
 |p::P,w::vs,0,m=>fun nd h1 h2 hk=>by
  simp at h1 h2;subst h1;subst h2;show bindL kindOf ((p,w)::P.zip vs) m p=_;unfold bindL;rw[yT fun v hv=>(List.nodup_cons.mp nd).1 (List.of_mem_zip hv).1,B0 hk];simp
 |p::P,w::vs,i+1,m=>fun nd h1 h2 hk=>by
  show bindL kindOf ((p,w)::P.zip vs) m x=_;unfold bindL;exact yB (i:=i) (List.nodup_cons.mp nd).2 (by simpa using h1) (by simpa using h2) hk
theorem yL{kindOf:Str->Option NameKind}{x:Str}{v:Value}:∀{P:List Str}{vs:List Value}{i:Nat}{m:Str->Option Value},P.Nodup->P[i]?=some x->vs[i]?=some v->kindOf x≠some .local->
 bindC kindOf (P.zip vs) m x=some v
 |[],_,_,_=>fun _ h _ _=>by simp at h
 |_::_,[],_,_=>fun _ _ h _=>by simp at h
 |p::P,w::vs,0,m=>fun nd h1 h2 hk=>by
  simp at h1 h2;subst h1;subst h2;show bindC kindOf ((p,w)::P.zip vs) m p=_;unfold bindC;rw[yN fun v hv=>(List.nodup_cons.mp nd).1 (List.of_mem_zip hv).1,B2 hk];simp
 |p::P,w::vs,i+1,m=>fun nd h1 h2 hk=>by
  show bindC kindOf ((p,w)::P.zip vs) m x=_;unfold bindC;exact yL (i:=i) (List.nodup_cons.mp nd).2 (by simpa using h1) (by simpa using h2) hk
noncomputable def start(N:List Str)(vs:List V):St:=vs.map some++List.replicate (N.length-vs.length) none
noncomputable def qS(CX:CXT)(P:Program)(w:World)(K:Fg)(mg:Str->Option Value)(base:Heap)(N:List Str)(qual:Str)(scope:Scope)(f:Addr)(cd:Value)(A:Around)(outer:List Env)(s:Shared)(H:Hp)(E:XK)(q:Bool:=true):Cx where
 prog:=P
 w:=w
 K:=K
 mg:=mg
 base:=base
 A:=A.deeper (envOfC qual scope s.heap.objs.size f cd)
 N:=N
 s₀:=s
 H₀:=H
 env:=envOfC qual scope s.heap.objs.size f cd
 outer:=outer
 stack:=envOfC qual scope s.heap.objs.size f cd::outer
 ex:=[]
 calm:=q
 fn:=fun _=>true
 pn:=[]
 xe:=fun e s'=>wpAny (model P w) (A.deeper (envOfC qual scope s.heap.objs.size f cd)) (leaving (envOfC qual scope s.heap.objs.size f cd) e) (fun _ s''=>CX outer H s E e s'') (fun e' s''=>CX outer H s E e' s'') s'
theorem CQ{sc:Scope}{n:Nat}{x:Str}(h:sc.names.lookup x=some .cell):∃c,(cellsFrom n sc.names []).lookup x=some c:=by
 have q:=PySem.W.cellsFrom_some sc.names n [] (.inl h);exact Option.isSome_iff_exists.mp q
theorem LF{CX:CXT}{P:Program}{w:World}{K:Fg}{mg:Str->Option Value}{base:Heap}{N ps:List Str}{qual:Str}{scope:Scope}{f:Addr}{cd:Value}{A:Around}{outer:List Env}{s s1:Shared}{H:Hp}{E:XK}{us:List Value}{vs:List V}{q:Bool}
 (S:aR N ps scope) (hd:q=true->A.handled=none) (e0:GJ P w K mg base A outer s H) (hl:vs.length=ps.length) (r:aU vs us)
 (x:InCallC s s.heap.objs.size (bindL (envOfC qual scope s.heap.objs.size f cd).kindOf (ps.zip us) fun _=>none) (cellsFrom (s.heap.objs.size+1) scope.names []) (bindC (envOfC qual scope s.heap.objs.size f cd).kindOf (ps.zip us) fun _=>none) s1):
 Inv (qS CX P w K mg base N qual scope f cd A outer s H E q) [] (start N vs) H s1:=by
 have hpl:ps.length<=N.length:=by have:=U6 List.length S.pre;rw[List.length_take]at this;omega
 obtain⟨h1,tk,rfl,hk⟩:=x.done;have noA:∀b:Addr,b∉(qS CX P w K mg base N qual scope f cd A outer s H E q).ex:=fun b z=>absurd (show b∈([]:List Addr)from z) (by simp)
 refine⟨⟨e0.mod,S.kind,rfl,rfl,A7 _,fun y z c h1 h2=>?_,fun y hy=>?_,fun y c _ h=>?_,hd,Around.frames_deeper e0.frames,.inr ⟨rfl,rfl⟩,fun b z=>absurd z (noA b),e0.bs,e0.bsz,fun b _ _=>noA b,fun b z=>absurd z (noA b),e0.funs,e0.frf⟩,
  rfl,e0.bare,Un.kept hk,⟨_,x.toInCall.ns,fun i y v h1 h2 h3=>?_⟩,fun y c h=>⟨_,x.cell y c h⟩,e0.hok.fresh (A7 _),fun y c h=>?_,fun p hp=>absurd (show p∈([]:List (Addr×Obj))from hp) (by simp),e0.hok.kept hk,?_⟩
 .exact name_of_addr x.apart (J4 h1) (J4 h2)
 .have hy:scope.names.lookup y=some .cell\/scope.names.lookup y=some .free:=hy;rcases hy with hy|hy
  .exact CQ hy
  .exact absurd rfl (S.nofree _ (J4 hy))
 .exact Y9 (x.above y c (J4 h))
 .have hi:i<vs.length:=by
   unfold start at h2;by_cases hi:i<vs.length
   .exact hi
   .rw[F0 (by simpa using hi)]at h2;rw[List.getElem?_replicate]at h2;split at h2<;>cases h2
  have ha:vs[i]?=some v:=by
   unfold start at h2;rw[L5 (by simpa using hi),C0]at h2;cases e:vs[i]? with
   |none=>rw[e]at h2;cases h2
   |some a=>rw[e]at h2;cases h2;rfl
  obtain⟨u,hu,rv⟩:=r.get ha
  have hp:ps[i]?=some y:=by
   rw[<- S.pre,List.getElem?_take_of_lt (by omega)];exact h1
  have ndP:ps.Nodup:=by rw[<- S.pre];exact S.nd.sublist (List.take_sublist _ _)
  refine⟨u,rv,?_⟩;rcases S.par y (L7 hp)with k|k
  .exact .inl ⟨k,yB ndP hp hu k⟩
  .obtain⟨c,e⟩:=CQ (n:=s.heap.objs.size+1) k;refine .inr ⟨.inl k,c,e,?_⟩;have q:=x.cell y c e;rw[yL ndP hp hu (by show scope.names.lookup y≠_;rw[k];decide)]at q;exact q
 .exact e0.hok.fresh (Y9 (x.above y c (J4 h)))
 .unfold start;show _=N.length;rw[B9,A3,List.length_replicate];omega
theorem aFu{CX:CXT}{P:Program}{w:World}{K:Fg}{mg:Str->Option Value}{base:Heap}{k:Nat}{f:Addr}{name qual:Str}{params:Arguments}{body:List Stmt}{scope:Scope}{dV kV doc pm cdv ct oc:Value}{an od:Option Addr}
 {osl:Array (Option Value)} {N ps:List Str} {sp:Sp} {q:Bool} (lk:K.lookup f=some ⟨oc,od,.func (PySem.W.fnOf name qual params body scope dV kV doc pm an cdv ct),osl⟩) (hcd:PySem.W.codeIn K cdv qual=true) (S:aR N ps scope)
 (len:∀vs H Q E,sp vs H Q E->vs.length=ps.length)
 (hbody:∀(A:Around)(outer:List Env)(s:Shared)(H:Hp)(vs:List V)(Q:VK)(E:XK),cJ k (A.deeper (envOfC qual scope s.heap.objs.size f cdv)) q->sp vs H Q E->
  ∃t,PSs (qS CX P w K mg base N qual scope f cdv A outer s H E q) body t/\t { nx:=fun _ H'=>Q .non H',rt:=Q } (start N vs) H):
 pC P w K mg base CX (k+1) f (PySem.W.fnOf name qual params body scope dV kV doc pm an cdv ct) ps sp q:=by
 refine⟨len,fun A outer s H args us vs Q E hr e0 hb r hsp=>?_⟩;have hl:=len _ _ _ _ hsp;have KX:K.In s.heap:=e0.mod.kin.keeps fun b o e=>(e0.bs b o e).1;have lim:s.heap.NoLimit:=e0.mod.nolimit.keeps fun b o e=>(e0.bs b o e).1
 have hkind:∀y∈ps.zip us,scope.names.lookup y.1=some .local\/(scope.names.lookup y.1=some .cell/\((cellsFrom (s.heap.objs.size+1) scope.names []).lookup y.1).isSome=true):=fun⟨n,v⟩ hy=>by
  rcases S.par n (List.of_mem_zip hy).1 with q|q
  .exact .inl q
  .exact .inr ⟨q,PySem.W.cellsFrom_some _ _ _ (.inl q)⟩
 refine codeAny_call_function hr.depth (KX _ _ lk) rfl S.co S.gen rfl (PySem.W.codeRec_of KX hcd) (hb _ _ _ _ ?_);refine wpAny_newFunctionEnv_cells S.kind hkind fun env he s1 x=>?_;subst he;refine⟨lim.keeps x.toInCall.keep,codeAny_func ?_⟩;obtain⟨t,ht,hq⟩:=hbody A outer s H vs Q E (hr.deeper _) hsp;have I:Inv (qS CX P w K mg base N qual scope f cdv A outer s H E q) [] (start N vs) H s1:=LF S hr.hd e0 hl r x;refine F9 (ht [] s1 (start N vs) H _ I hq) (fun fl s' hs=>?_) fun e s' hs=>hs
 have fin:∀{σ':St}{H':Hp}{v:V}{u:Value},Inv (qS CX P w K mg base N qual scope f cdv A outer s H E q) [] σ' H' s'->RelV v u->Q v H'->CE outer P w H s Q u s':=
  fun{σ' H' v u} J rv q=>⟨v,H',J.os,J.bare,J.base,J.hok,rv,q⟩
 cases fl with
 |ret u=>
  obtain⟨v,σ',H',J,rv,q⟩:=hs;exact fin J rv q
 |next=>
  obtain⟨σ',H',J,q⟩:=hs;exact fin (v:=V.non) (u:=Value.none) J rfl q
 |brk=>
  obtain⟨_,_,_,q⟩:=hs;exact False.elim q
 |cont=>
  obtain⟨_,_,_,q⟩:=hs;exact False.elim q
section
variable{X:Cx}{x:Str}{p pos:Pos}{e:Expr}{es:List Expr}{t:TA}{id T:String}{r:List V->Hp->VK->Prop}
noncomputable def tCB(r:List V->Hp->VK->Prop)(t:TA):TE:=fun σ H Q=>t σ H fun vs H1=>r vs H1 Q
theorem xA(hc:eT X (.builtin id) r)(hg:Gl X x)(hm:X.mg x=none)(hv:bootBuiltins x=some (.builtin id))(ha:PA X (e::es) t)(hn:x≠"__name__":=by decide)(hdb:(x==("__debug__":Str))=false:=by decide)
 (he:starEach (e::es) X.env=(false,eval e X.env)::starEach es X.env:=by rfl) (hpl:(backTo pos (starEach es X.env)).any (·.1)=false:=by rfl):PE X (.Call (.Name x p) (e::es) [] pos) (tCB r t):=by
 intro pins s σ H Q I h;refine U2 (kJ I hg hm hv ?_ hn hdb);exact Z4 (thn (ha pos pins s σ H _ I h) fun us s1 ⟨vs,H1,I1,r1,q1⟩=>hc pins s1 σ H1 vs us Q I1 r1 q1) he hpl
theorem NI(hc:eT X (.type T) r)(hg:Gl X x)(hm:X.mg x=none)(hv:bootBuiltins x=some (.type T))(ha:PA X (e::es) t)(hn:x≠"__name__":=by decide)(hdb:(x==("__debug__":Str))=false:=by decide)
 (he:starEach (e::es) X.env=(false,eval e X.env)::starEach es X.env:=by rfl) (hpl:(backTo pos (starEach es X.env)).any (·.1)=false:=by rfl):PE X (.Call (.Name x p) (e::es) [] pos) (tCB r t):=by
 intro pins s σ H Q I h;refine U2 (kJ I hg hm hv ?_ hn hdb);exact J9 (thn (ha pos pins s σ H _ I h) fun us s1 ⟨vs,H1,I1,r1,q1⟩=>hc pins s1 σ H1 vs us Q I1 r1 q1) he hpl
end
end L2
namespace HT
open PySem PyProof.Rows
noncomputable def lexLt:List Int->List Int->Bool
 |[],[]=>false
 |[],_::_=>true
 |_::_,[]=>false
 |x::xs,y::ys=>if x=y then lexLt xs ys else decide (x<y)
theorem FZ(x y:Int)(xs ys:List Int):lexLt (x::xs) (y::ys)=if x=y then lexLt xs ys else decide (x<y):=rfl
theorem xT:lexLt [] []=false:=rfl
theorem wY(y:Int)(ys:List Int):lexLt [] (y::ys)=true:=rfl
theorem wW(x:Int)(xs:List Int):lexLt (x::xs) []=false:=rfl
theorem SW(A:Around)(s:Shared)(a:Int)(t:Tok)(c:Int)(u:Tok):∃e,SeqAt.EqAt A s (.int a t) (.int c u) e/\(e=true↔a=c):=
 ⟨(a==c),SeqAt.EqAt.int_int a t c u,by simp⟩
theorem QT(A:Around)(s:Shared)(a:Int)(t:Tok)(c:Int)(u:Tok)(prog:Program)(w:World)(E:Value->Shared->Prop)(Q:Value->Shared->Prop)(h:Q (.bool (decide (a<c))) s):
 wpAny (model prog w) A (richCompare .Lt (.int a t) (.int c u)) Q E s:=
 (PyProof.Rows.lt_int h:wpAny (model prog w) A (compareOp .Lt (.int a t) (.int c u)) Q E s)
section
open PySem.SeqAt
open PySem.AutoSeq1 (wpAny_loadPart')
open PySem.MeetsSeq PySem.MeetsSeq2 PySem.MeetsSeq3
theorem xI(l b:Addr)(items items2:Array Value)(n n2:Nat)(dd dd2:Option Addr)(sl sl2:Array (Option Value))(ns ms:List Int)(hi:IntsAre items.toList ns)(hj:IntsAre items2.toList ms):
 Meets (Builtin.«tuple.__lt__» ⟨[.ref l,.ref b],[]⟩)
  (fun _ R s=>s.heap.get? l=some { cls:=.type "tuple",dict:=dd,data:=.seq items n,slots:=sl }/\s.heap.get? b=some { cls:=.type "tuple",dict:=dd2,data:=.seq items2 n2,slots:=sl2 } /\
   R (.ok (.ret (.bool (lexLt ns ms)))) s):=
 .of_wp fun prog w A R s h=>by
  obtain⟨hp,g,d,tk,os⟩:=s;obtain⟨hl,hb,h⟩:=h;have f2:=AutoSeq1.sub_tuple_tuple;have z1:items.size=ns.length:=by rw[<- hi.length];simp
  have z2:items2.size=ms.length:=by rw[<- hj.length];simp
  wp_walk using Z2 hl,Z2 hb,wpAny_forIn_list _ (fun rest b s'=>b.1=none/\s'=⟨hp,g,d,tk,os⟩/\∃(vs ws:List Value)(ns' ms':List Int),rest=vs.zip ws /\
   IntsAre vs ns'/\IntsAre ws ms'/\ns'.length+items2.size=ms'.length+items.size/\R (.ok (.ret (.bool (lexLt ns' ms')))) ⟨hp,g,d,tk,os⟩) _
  case turn=>
   rintro⟨y,x⟩ rest b s' ⟨hb',rfl,vs,ws,ns',ms',hz,hvi,hwi,hlen,hR⟩;cases hvi with
   |nil=>rw[List.zip_nil_left]at hz;cases hz
   |cons a t hvi'=>
    cases hwi with
    |nil=>rw[List.zip_nil_right]at hz;cases hz
    |cons c u hwi'=>
     rw[List.zip_cons_cons]at hz;injection hz with hyx hrest
     injection hyx with hy hx
     subst hy hx;rw[FZ]at hR;simp only[List.length_cons]at hlen;obtain⟨e,he,hiff⟩:=SW A.in1 ⟨hp,g,d,tk,os⟩ a t c u;refine A1 (he prog w _ _ ?_);cases e with
     |true=>
      rw[B0 (hiff.mp rfl)]at hR
      wp_walk
      exact⟨rfl,rfl,_,_,_,_,hrest,hvi',hwi',by omega,hR⟩
     |false=>
      rw[B2 (fun q=>absurd (hiff.mpr q) B4)]at hR;have hri:=QT A.in1 ⟨hp,g,d,tk,os⟩ a t c u prog w
      wp_walk using hri
      exact⟨_,rfl,by simpa using hR⟩
  case fin=>
   rintro⟨b1,b2⟩ s' ⟨hb',rfl,vs,ws,ns',ms',hz,hvi,hwi,hlen,hR⟩;simp only at hb';subst hb'
   have hv:lexLt ns' ms'=decide (items.size<items2.size):=by
    cases hvi with
    |nil=>
     cases hwi with
     |nil=>
      simp only[List.length_nil]at hlen;rw[xT];exact(E2 (by omega)).symm
     |cons c u hw=>
      simp only[List.length_nil,List.length_cons]at hlen;rw[wY];exact(C5 (by omega)).symm
    |cons a t hv=>
     cases hwi with
     |nil=>
      simp only[List.length_nil,List.length_cons]at hlen;rw[wW];exact(E2 (by omega)).symm
     |cons c u hw=>
      rw[List.zip_cons_cons]at hz;cases hz
   rw[hv]at hR
   wp_walk
   exact⟨_,rfl,by simpa[Builtin.Tuple.tupleCompareSizes]using hR⟩
  case h=>
   exact⟨rfl,rfl,items.toList,items2.toList,ns,ms,rfl,hi,hj,by omega,h⟩
end
section
variable{prog:Program}{w:World}{A:Around}{E:Value->Shared->Prop}{s:Shared}
theorem lt_tupInts{l b:Addr}{items items2:Array Value}{ns ms:List Int}{Q:Value->Shared->Prop}(hl:IsTup s.heap l items)(hb:IsTup s.heap b items2)(hi:IntsAre items.toList ns)(hj:IntsAre items2.toList ms)
 (hu:A.units<cLine) (h:Q (.bool (lexLt ns ms)) s):wpAny (model prog w) A (compareOp .Lt (.ref l) (.ref b)) Q E s:=by
 obtain⟨⟨cls,dd,data,sl⟩,ho,hc,n,hd⟩:=id hl;obtain⟨⟨cls2,dd2,data2,sl2⟩,ho2,hc2,n2,hd2⟩:=id hb;simp only at hc hd hc2 hd2;subst hc hd hc2 hd2
 exact richCompare_meets_room (op:=.Lt) ⟨_,ho,rfl⟩ ⟨_,ho2,rfl⟩ PySem.F.slot_tuple_lt PySem.F.entry_tuple_lt (PySem.F.args_tuple_lt_2 _ _) (xI l b items items2 n n2 dd dd2 sl sl2 ns ms hi hj)
  ⟨ho,ho2,show Value.bool (lexLt ns ms)≠Value.notImplemented/\Q (.bool (lexLt ns ms)) s from⟨(fun x=>nomatch x),h⟩⟩ hu
theorem cat_tup{t b:Addr}{vs ws:List Value}{Q:Value->Shared->Prop}(ht:IsTup s.heap t vs.toArray)(hb:IsTup s.heap b ws.toArray)(hv:vs≠[])
 (h1:ws=[]->Q (.ref t) s) (h2:ws≠[]->Q (.ref s.heap.objs.size) { s with heap:=s.heap.push { cls:=.type "tuple",data:=.seq (vs++ws).toArray } })
 (hsz:vs.length+ws.length<=sizeLine):wpAny (model prog w) A (binaryOp .Add (.ref t) (.ref b)) Q E s:=by
 obtain⟨⟨cls,dd,data,sl⟩,ho,hc,n,hd⟩:=id ht;obtain⟨⟨cls2,dd2,data2,sl2⟩,ho2,hc2,n2,hd2⟩:=id hb;simp only at hc hd hc2 hd2;subst hc hd hc2 hd2;have e:vs.toArray++ws.toArray=(vs++ws).toArray:=by simp
 by_cases hw:ws=[]
 .exact concat_meets ⟨_,ho,rfl⟩ ⟨_,ho2,rfl⟩ noFill_tuple_add seq_tuple_add PySem.F.slot_tuple_add PySem.F.entry_tuple_add (PySem.F.args_tuple_add_2 _ _)
   (tuple_addW1 t b vs.toArray ws.toArray n n2 dd dd2 sl sl2 (by simpa using hv) (by simp[hw])) ⟨ho,ho2,h1 hw⟩
 .refine concat_meets ⟨_,ho,rfl⟩ ⟨_,ho2,rfl⟩ noFill_tuple_add seq_tuple_add PySem.F.slot_tuple_add PySem.F.entry_tuple_add (PySem.F.args_tuple_add_2 _ _)
   (tuple_addW2 t b vs.toArray ws.toArray n n2 dd dd2 sl sl2 (by simpa using hv) (by simpa using hw) (by rw[C1,C1];exact hsz)) ⟨ho,ho2,?_⟩
  rw[e];exact h2 hw
noncomputable def sIx(n d:Nat):Option Int->Nat
 |none=>d
 |some v=>if v<0 then(v+(n:Int)).toNat else min v.toNat n
theorem sIx_none(n d:Nat):sIx n d none=d:=rfl
theorem sIx_nat(n d k:Nat):sIx n d (some (k:Int))=min k n:=by
 show(if (k:Int)<0 then((k:Int)+(n:Int)).toNat else min (k:Int).toNat n)=min k n;rw[B2 (by omega),J6]
theorem aCE(n d:Nat)(hd:d<=n)(o:Option Int):sIx n d o<=n:=by
 cases o with
 |none=>exact hd
 |some v=>
  show(if v<0 then(v+(n:Int)).toNat else min v.toNat n)<=n;by_cases hv:v<0
  .rw[B0 hv];omega
  .rw[B2 hv];exact Nat.min_le_right _ _
theorem IF(v:Int)(n d:Nat):(if v<0 then max (v+(n:Int)) 0 else min v (n:Int))=((sIx n d (some v):Nat):Int):=by
 show(if v<0 then max (v+(n:Int)) 0 else min v (n:Int))=(((if v<0 then(v+(n:Int)).toNat else min v.toNat n):Nat):Int);by_cases hv:v<0
 .simp only[if_pos hv];omega
 .simp only[if_neg hv];omega
theorem GH(lo hi:Option Int)(n:Nat):Builtin.Slice.sliceAdjust lo hi 1 (n:Int)=(((sIx n 0 lo:Nat):Int),((sIx n n hi:Nat):Int)):=by
 have h1:¬((1:Int)<0):=by omega
 unfold Builtin.Slice.sliceAdjust;simp only[h1,if_false];refine Prod.ext ?_ ?_
 .cases lo with
  |none=>rfl
  |some v=>exact IF v n 0
 .cases hi with
  |none=>rfl
  |some v=>exact IF v n n
theorem GN(i j:Nat):Builtin.Slice.slicePlaces (i:Int) (j:Int) 1=j-i:=by
 unfold Builtin.Slice.slicePlaces;have h1:(1:Int) > 0:=by omega
 simp only[h1,if_true,Int.ediv_one];split<;>omega
theorem vX{v:Value}{o:Option Int}{Q:Option Int->Shared->Prop}(p:IsPart v o)(h:Q o s):wpAny (model prog w) A (Builtin.Slice.slicePartIndex v) Q E s:=by
 cases p with
 |none=>exact slicePart_none h
 |int i t=>exact slicePart_int h
theorem kU{sl:Addr}{vl vu:Value}{lo hi:Option Int}{n:Nat}{Q:Int×Int×Nat->Shared->Prop}(hs:s.heap.IsSliceOf sl vl vu .none)(pl:IsPart vl lo)(pu:IsPart vu hi)
 (h:Q (((sIx n 0 lo:Nat):Int),1,sIx n n hi-sIx n 0 lo) s):wpAny (model prog w) A (Builtin.Slice.sliceApplied (.ref sl) (pure (n:Int))) Q E s:=by
 obtain⟨os,hos,hcs,hds⟩:=id hs;unfold Builtin.Slice.sliceApplied Builtin.Slice.sliceFields;refine A1 (A1 (F4 hos hds (x:=vl) rfl (A1 (F4 hos hds (x:=vu) rfl (A1 (F4 hos hds (x:=.none) rfl (A4 ?_)))))));refine A1 (slicePart_none ?_);show wpAny _ _ (if ((1:Int)==0)=true then _ else _) _ _ s;rw[B2 (by decide)];refine A1 (vX pl (A1 (vX pu (A1 (A4 ?_)))));show wpAny _ _ (match Builtin.Slice.sliceAdjust lo hi 1 (n:Int)with|(lo,hi)=>pure (lo,(1:Int),Builtin.Slice.slicePlaces lo hi 1)) _ _ s;rw[GH lo hi n];show wpAny _ _ (pure (((sIx n 0 lo:Nat):Int),(1:Int),Builtin.Slice.slicePlaces ((sIx n 0 lo:Nat):Int) ((sIx n n hi:Nat):Int) 1)) _ _ s;rw[GN];exact A4 h
theorem OJ(xs:Array Value)(i k:Nat):((List.range k).filterMap fun(m:Nat)=>xs[((i:Int)+(m:Int)*1).toNat]?).toArray=((xs.toList.drop i).take k).toArray:=by
 have e:(fun(m:Nat)=>xs[((i:Int)+(m:Int)*1).toNat]?)=fun m=>xs[i+m]?:=by
  funext m;have:((i:Int)+(m:Int)*1).toNat=i+m:=by omega
  rw[this]
 rw[e];have:=pick_run xs i k;rw[List.filterMap_map]at this;have e2:((fun x=>xs[x]?) ∘ fun x=>i+x)=fun m=>xs[i+m]?:=rfl;rw[e2]at this;rw[this]
theorem getItem_tuple_cut{t sl:Addr}{items:Array Value}{vl vu:Value}{lo hi:Option Int}{Q:Value->Shared->Prop}(ht:IsTup s.heap t items)(hs:s.heap.IsSliceOf sl vl vu .none)(pl:IsPart vl lo)(pu:IsPart vu hi)
 (hw:¬(sIx items.size 0 lo=0/\sIx items.size items.size hi=items.size))
 (h:Q (.ref s.heap.objs.size) { s with heap:=s.heap.push { cls:=.type "tuple",data:=.seq ((items.toList.drop (sIx items.size 0 lo)).take (sIx items.size items.size hi-sIx items.size 0 lo)).toArray } })
 (hsz:items.size<=sizeLine):wpAny (model prog w) A (getItem (.ref t) (.ref sl)) Q E s:=by
 have htake:sizeOk (.seq ((items.toList.drop (sIx items.size 0 lo)).take (sIx items.size items.size hi-sIx items.size 0 lo)).toArray):=by
  show((items.toList.drop (sIx items.size 0 lo)).take (sIx items.size items.size hi-sIx items.size 0 lo)).toArray.size<=sizeLine;rw[C1,List.length_take,List.length_drop,C4];omega
 have hj:sIx items.size items.size hi<=items.size:=aCE _ _ (A7 _) hi;obtain⟨os,hos,hcs,hds⟩:=id hs;have hTs:s.TypeIs (.ref sl) "slice":=⟨os,hos,hcs⟩;unfold getItem
 try with_reducible refine F7 ?_
 first|refine A1 (A4 ?_)|skip
 refine A1 (wpAny_sequenceKey ht.typeIs (by decide) ?_)
 refine A1 (E6 (name:=Str.ofString "__getitem__") ht.typeIs S5
  (E4 S5 ht.typeIs entry_tuple_getitem ?_ (args_tuple_getitem _ _)))
 show wpAny _ _ (Builtin.Tuple.tupleItemsOf (.ref t) >>= _) _ _ s;refine A1 (tupleItemsOf_ ht ?_);refine A1 (Z7 hTs ?_);rw[B0 (by decide)];refine A1 (kU hs pl pu ?_)
 have hno:¬((((sIx items.size 0 lo:Nat):Int)==0&&(1:Int)==1&&(sIx items.size items.size hi-sIx items.size 0 lo)==items.size)=true):=by
  intro q;rw[B5,B5]at q;have q1:((sIx items.size 0 lo:Nat):Int)=0:=eq_of_beq q.1.1;have q2:sIx items.size items.size hi-sIx items.size 0 lo=items.size:=eq_of_beq q.2;exact hw ⟨by omega,by omega⟩
 show wpAny _ _ (if (((sIx items.size 0 lo:Nat):Int)==0&&(1:Int)==1&&(sIx items.size items.size hi-sIx items.size 0 lo)==items.size)=true then _ else _) _ _ s;rw[B2 hno,OJ]
 first
  |exact A1 (m:=Builtin.Tuple.tupleExact _) (C9 (A4 ⟨_,rfl,A4 h⟩) htake)
  |exact A1 (m:=Builtin.Tuple.tupleExact _) (C9 (A1 (A4 (A4 ⟨_,rfl,A4 h⟩))) htake)
  |exact A1 (A1 (m:=Builtin.Tuple.tupleExact _) (C9 (A4 (A4 ⟨_,rfl,A4 h⟩)) htake))
  |exact A1 (A1 (m:=Builtin.Tuple.tupleExact _) (C9 (A4 ⟨_,rfl,A4 h⟩) htake))
end
end HT
namespace L2
variable{H:Hp}{σ:St}{s:Shared}
open PySem PySem.Spec PyProof.Rows
noncomputable abbrev TO:=St->Hp->(Option Int->Hp->Prop)->Prop
noncomputable def PO(X:Cx)(e:Option Expr)(t:TO):Prop:=
 ∀(pins:List (Addr×Obj))(s:Shared)(σ:St)(H:Hp)(Q:Option Int->Hp->Prop),Inv X pins σ H s->t σ H Q->
  wpAny (model X.prog X.w) X.A (evalPart e X.env) (fun u s'=>∃o H',Inv X pins σ H' s'/\IsPart u o/\Q o H') X.xe s
noncomputable def IG:TO:=fun _ H Q=>Q none H
noncomputable def aAb(t:TE):TO:=fun σ H Q=>t σ H fun x H1=>∃i,x=.int i/\Q (some i) H1
theorem intsAre_of{ns:List Int}:∀{us:List Value},aU (ns.map V.int) us->IntsAre us ns:=by
 induction ns with
 |nil=>intro us r;rw[List.map_nil]at r;cases r;exact .nil
 |cons n ns ih=>
  intro us r;rw[C6]at r;cases r with
  |cons r1 r2=>
   obtain⟨t,e⟩:=r1;subst e;exact .cons n t (ih r2)
section
variable{X:Cx}{e:Expr}{te:TE}{lo hi:Option Expr}{tl th:TO}{pos p2:Pos}
theorem WM:PO X none IG:=by
 intro pins s σ H Q I h;rw[evalPart_none];exact A4 ⟨none,H,I,.none,h⟩
theorem UI(h:PE X e te):PO X (some e) (aAb te):=by
 intro pins s σ H Q I hw;rw[evalPart_some];refine thn (h pins s σ H _ I hw) fun u s1 ⟨x,H1,I1,r1,q1⟩=>?_;obtain⟨i,rfl,q⟩:=q1;obtain⟨t,rfl⟩:=r1;exact⟨some i,H1,I1,.int i t,q⟩
noncomputable def SlR(X:Cx)(r:V->Option Int->Option Int->Hp->VK->Prop):Prop:=
 ∀(pins:List (Addr×Obj))(s:Shared)(σ:St)(H:Hp)(x:V)(v vl vu:Value)(lo hi:Option Int)(sl:Addr)(Q:VK),Inv X pins σ H s->RelV x v->s.heap.IsSliceOf sl vl vu .none->IsPart vl lo->IsPart vu hi->r x lo hi H Q->
  ∃T id,typeLookup (.type T) "__getitem__"=pure (some (.builtin id))/\s.TypeIs v T/\wpAny (model X.prog X.w) X.A (getItem v (.ref sl)) (EP X pins σ Q) X.xe s
theorem SlR.or{r r':V->Option Int->Option Int->Hp->VK->Prop}(h:SlR X r)(h':SlR X r'):SlR X (fun x lo hi H Q=>r x lo hi H Q\/r' x lo hi H Q):=by
 intro pins s σ H x v vl vu lo hi sl Q I rx hs pl pu q;rcases q with q|q
 .exact h pins s σ H x v vl vu lo hi sl Q I rx hs pl pu q
 .exact h' pins s σ H x v vl vu lo hi sl Q I rx hs pl pu q
noncomputable def tSl(r:V->Option Int->Option Int->Hp->VK->Prop)(te:TE)(tl th:TO):TE:=fun σ H Q=>te σ H fun x H1=>tl σ H1 fun l H2=>th σ H2 fun u H3=>r x l u H3 Q
theorem PQ{r:V->Option Int->Option Int->Hp->VK->Prop}(hr:SlR X r)(he:PE X e te)(hl:PO X lo tl)(hu:PO X hi th):PE X (.Subscript e (.Slice lo hi none p2) pos) (tSl r te tl th):=by
 intro pins s σ H Q I h;refine Subscript_ (thn (he pins s σ H _ I h) fun v s1 ⟨x,H1,I1,r1,q1⟩=>?_);refine wpAny_Slice (thn (hl pins s1 σ H1 _ I1 q1) fun vl s2 ⟨l,H2,I2,pl,q2⟩=>thn (hu pins s2 σ H2 _ I2 q2) fun vu s3 ⟨u,H3,I3,pu,q3⟩=>?_);rw[evalPart_none];refine A4 ?_;have I4:Inv X pins σ H3 { s3 with heap:=s3.heap.push { cls:=.type "slice",data:=.fields #[vl,vu,.none] } }:=I3.kept (t':=s3.toks) fun b ob q=>A2 _ q;obtain⟨T,id,hT,ht,hg⟩:=hr pins { s3 with heap:=s3.heap.push { cls:=.type "slice",data:=.fields #[vl,vu,.none] } } σ H3 x v vl vu l u s3.heap.objs.size Q I4 r1 (Heap.IsSliceOf.new ..) pl pu q3;show wpAny (model X.prog X.w) X.A (subscriptTail e (.Slice lo hi none p2) v (.ref s3.heap.objs.size)) (EP X pins σ Q) X.xe { s3 with heap:=s3.heap.push { cls:=.type "slice",data:=.fields #[vl,vu,.none] } };exact tail_any (ops:=[.ref s3.heap.objs.size,v]) ht hT hg (by with_unfolding_all rfl)
noncomputable def sJ(xs:List V)(lo hi:Option Int):List V:=(xs.drop (HT.sIx xs.length 0 lo)).take (HT.sIx xs.length xs.length hi-HT.sIx xs.length 0 lo)
theorem tX(xs:List V)(lo hi:Option Int):(sJ xs lo hi).length<=xs.length:=by
 unfold sJ;rw[List.length_take,List.length_drop];omega
noncomputable def aFj(K:Fg):V->Option Int->Option Int->Hp->VK->Prop:=fun x lo hi H Q=>∃a xs,x=.ref a/\SqT K H a xs /\
 ¬(HT.sIx xs.length 0 lo=0/\HT.sIx xs.length xs.length hi=xs.length)/\∀p,H p=none->Q (.ref p) (upd H p (.tup (sJ xs lo hi)))
theorem sl_tup:SlR X (aFj X.K):=by
 intro pins s σ H x v vl vu lo hi sl Q I rx hs pl pu h;obtain⟨a,xs,rfl,hx,hw,q⟩:=h;cases rx;obtain⟨its,r,ht,hz⟩:=I.tuple hx;have hlen:its.toArray.size=xs.length:=by rw[C1];exact r.length.symm
 refine⟨"tuple",_,PyProof.Rows.slot_tuple_getitem.lookup,ht.typeIs,?_⟩;refine HT.getItem_tuple_cut ht hs pl pu (by rw[hlen];exact hw) ?_ (by rw[hlen];exact hz);rw[hlen];refine⟨.ref s.heap.objs.size,_,I.laid (t':=s.toks) (o:=.tup (sJ xs lo hi)) (fun b ob q=>A2 _ q) (A7 _) ?_,rfl,q _ (I.hok.fresh (A7 _))⟩;exact⟨C7 (tX xs lo hi) hz,_,(r.drop (HT.sIx xs.length 0 lo)).take (HT.sIx xs.length xs.length hi-HT.sIx xs.length 0 lo),IsTup.new _ _⟩
noncomputable def QE(K:Fg):R2:=fun x y H Q=>∃a b xs ys,x=.ref a/\y=.ref b/\SqT K H a xs/\SqT K H b ys/\xs≠[]/\xs.length+ys.length<=sizeLine /\
 (ys=[]->Q (.ref a) H)/\(ys≠[]->∀p,H p=none->Q (.ref p) (upd H p (.tup (xs++ys))))
theorem aU.nil_iff{xs:List V}{us:List Value}(r:aU xs us):us=[]↔xs=[]:=by
 cases r with
 |nil=>simp
 |cons _ _=>simp
theorem UB:OpR X (binaryOp .Add) (QE X.K):=by
 intro pins s σ H x y v u Q I rx ry h;obtain⟨a,b,xs,ys,rfl,rfl,ha,hb,hx,hz,q1,q2⟩:=h;cases rx;cases ry;obtain⟨its,r1,p1,_⟩:=I.tuple ha;obtain⟨its2,r2,p2,_⟩:=I.tuple hb;refine HT.cat_tup p1 p2 (fun z=>hx (r1.nil_iff.mp z)) (fun z=>⟨.ref a,H,I,rfl,q1 (r2.nil_iff.mp z)⟩) (fun z=>?_) (by rw[<- r1.length,<- r2.length];exact hz);refine⟨.ref s.heap.objs.size,_,I.laid (t':=s.toks) (o:=.tup (xs++ys)) (fun b ob q=>A2 _ q) (A7 _) ?_,rfl,q2 (fun w=>z (r2.nil_iff.mpr w)) _ (I.hok.fresh (A7 _))⟩;exact⟨by rw[B9];exact hz,_,r1.append r2,IsTup.new _ _⟩
end
noncomputable def ixN(n:Nat)(i:Int):Option Nat:=if 0<=i then(if i<n then some i.toNat else none)else if -(n:Int)<=i then some (i+n).toNat else none
noncomputable def atI{α:Type}(xs:List α)(i:Int):Option α:=(ixN xs.length i).bind fun j=>xs[j]?
theorem IV{n:Nat}{i:Int}{j:Nat}(h:ixN n i=some j):seqIndex? i n=some j/\j<n/\-(n:Int)<=i/\i<n:=by
 unfold ixN at h;by_cases h0:0<=i
 .rw[B0 h0]at h;by_cases h1:i<n
  .rw[B0 h1]at h;have e:i.toNat=j:=D9 h;exact⟨by rw[seqIndex_of h0 h1,e],by omega,by omega,h1⟩
  .rw[B2 h1]at h;cases h
 .rw[B2 h0]at h;by_cases h1:-(n:Int)<=i
  .rw[B0 h1]at h;have e:(i+n).toNat=j:=D9 h;exact⟨by rw[seqIndex_neg (by omega) h1,e],by omega,h1,by omega⟩
  .rw[B2 h1]at h;cases h
theorem AI{α:Type}{xs:List α}{i:Int}{v:α}(h:atI xs i=some v):∃j,seqIndex? i xs.length=some j/\xs[j]?=some v/\j<xs.length/\-(xs.length:Int)<=i/\i<xs.length:=by
 unfold atI at h;cases e:ixN xs.length i with
 |none=>rw[e]at h;cases h
 |some j=>
  rw[e]at h;obtain⟨h1,h2,h3,h4⟩:=IV e;exact⟨j,h1,h,h2,h3,h4⟩
theorem AM{α:Type}{xs:List α}{j:Nat}{v:α}(h:xs[j]?=some v):atI xs (j:Int)=some v:=by
 have hj:j<xs.length:=(List.getElem?_eq_some_iff.mp h).1
 have e:ixN xs.length (j:Int)=some j:=by
  unfold ixN;rw[B0 (by omega),B0 (by omega)];simp
 unfold atI;rw[e];exact h
noncomputable def JW(b:Expr):Prop:=∀o i,subscripted b false o i=operate [o,i] (getItem o i)
noncomputable def IxR(X:Cx)(r:R2):Prop:=
 ∀(value slice:Expr)(pins:List (Addr×Obj))(s:Shared)(σ:St)(H:Hp)(x y:V)(v u:Value)(Q:VK),Inv X pins σ H s->RelV x v->RelV y u->r x y H Q->
  subscripted slice false v u=operate [v,u] (getItem v u)->wpAny (model X.prog X.w) X.A (subscriptTail value slice v u) (EP X pins σ Q) X.xe s
noncomputable def MtR(X:Cx)(id:String)(r:V->List V->Hp->VK->Prop):Prop:=
 ∀(pins:List (Addr×Obj))(s:Shared)(σ:St)(H:Hp)(x:V)(xs:List V)(v:Value)(us:List Value)(Q:VK),Inv X pins σ H s->RelV x v->aU xs us->r x xs H Q->
  wpAny (model X.prog X.w) X.A (call (.builtin id) (v::us)) (EP X pins σ Q) X.xe s
section
variable{X:Cx}{a b:Expr}{ta tb:TE}{pos:Pos}
theorem IxR.or{r r':R2}(h:IxR X r)(h':IxR X r'):IxR X (fun x y H Q=>r x y H Q\/r' x y H Q):=by
 intro value slice pins s σ H x y v u Q I rx ry q hs;rcases q with q|q
 .exact h value slice pins s σ H x y v u Q I rx ry q hs
 .exact h' value slice pins s σ H x y v u Q I rx ry q hs
theorem aEj{r:R2}(hr:IxR X r)(ha:PE X a ta)(hb:PE X b tb)(hs:JW b):PE X (.Subscript a b pos) (tOp r ta tb):=by
 intro pins s σ H Q I h;exact Subscript_ (aDp ha hb I h fun v u s2 x y H2 I2 rx ry q=>hr a b pins s2 σ H2 x y v u Q I2 rx ry q (hs _ _))
noncomputable def aEa(K:Fg):R2:=fun x y H Q=>∃p xs i v,x=.ref p/\y=.int i/\SqL K H p xs/\atI xs i=some v/\Q v H
noncomputable def aFk(K:Fg):R2:=fun x y H Q=>∃p xs i v,x=.ref p/\y=.int i/\SqT K H p xs/\atI xs i=some v/\Q v H
noncomputable def aFc:R2:=fun x y H Q=>∃z i c,x=.str z/\y=.int i/\z.length<=sizeLine/\atI z.cps.toList i=some c/\Q (.str ⟨#[c]⟩) H
theorem ix_list:IxR X (aEa X.K):=by
 intro value slice pins s σ H x y v u Q I rx ry h hs;obtain⟨p,xs,i,z,rfl,rfl,hq,he,q⟩:=h;cases rx;obtain⟨t,rfl⟩:=ry;obtain⟨its,r,pl,hz⟩:=I.list hq;obtain⟨j,h1,h2,h3,h4,h5⟩:=AI he;obtain⟨w,ew,rw'⟩:=r.get h2;have hl:=r.length;have hn:=sW;have fin:EP X pins σ Q w s:=⟨z,H,I,rw',q⟩;by_cases h0:0<=i
 .have hj:i.toNat=j:=by
   rw[seqIndex_of h0 h5]at h1;exact D9 h1
  exact item_listR pl.isList h0 (by omega) (by rw[hj];simpa using ew) fin hs
 .have hj:(i+(its.toArray.size:Int)).toNat=j:=by
   rw[seqIndex_neg (by omega) h4]at h1;rw[C1,<- hl];exact D9 h1
  exact subscriptTail_builtinR (x:=w) pl.isList.typeIs slot_list_getitem.lookup
   (wpAny_getItem_list_neg (Q:=fun r s'=>r=w/\EP X pins σ Q r s') pl.isList (by omega) (by rw[C1]<;>omega) (by omega) (by rw[hj];simpa using ew) ⟨rfl,fin⟩) hs
theorem ix_tup:IxR X (aFk X.K):=by
 intro value slice pins s σ H x y v u Q I rx ry h hs;obtain⟨p,xs,i,z,rfl,rfl,hq,he,q⟩:=h;cases rx;obtain⟨t,rfl⟩:=ry;obtain⟨its,r,pl,hz⟩:=I.tuple hq;obtain⟨j,h1,h2,h3,h4,h5⟩:=AI he;obtain⟨w,ew,rw'⟩:=r.get h2;have hl:=r.length;have hn:=sW;have fin:EP X pins σ Q w s:=⟨z,H,I,rw',q⟩
 exact subscriptTail_builtinR (x:=w) pl.typeIs slot_tuple_getitem.lookup
  (getItem_tuple (j:=j) (Q:=fun r s'=>r=w/\EP X pins σ Q r s') pl (by omega) (by omega) (by rw[C1,<- hl];exact h1) (by simpa using ew) ⟨rfl,fin⟩) hs
theorem aBO:IxR X aFc:=by
 intro value slice pins s σ H x y v u Q I rx ry h hs;obtain⟨z,i,c,rfl,rfl,hz,he,q⟩:=h;obtain⟨t,rfl⟩:=rx;obtain⟨t',rfl⟩:=ry;obtain⟨j,h1,h2,h3,h4,h5⟩:=AI he;have hl:z.cps.toList.length=z.length:=by simp[Str.length]
 rw[hl]at h1 h4 h5;have hn:=sW
 exact tail_any (typeIs_str s z t) slot_str_getitem.lookup (getItem_str (c:=c) (by
  have e1:decide (i < -(2 ^ 63:Int))=false:=E2 (by omega);have e2:decide (i>=2 ^ 63)=false:=E2 (by omega);rw[e1,e2,Bool.or_false]) (by rw[h1];simpa using h2) ⟨.str ⟨#[c]⟩,H,I.tok _,⟨_,rfl⟩,q⟩) hs
noncomputable def rIx(K:Fg):R2:=fun x y H Q=>aEa K x y H Q\/aFk K x y H Q\/aFc x y H Q
theorem aBc:IxR X (rIx X.K):=ix_list.or (ix_tup.or aBO)
theorem HJ(its:List Value)(n j:Nat)(u:Value):Obj.mapSeq (·.setIfInBounds j u) { cls:=.type "list",data:=.seq its.toArray n }={ cls:=.type "list",data:=.seq (its.set j u).toArray n }:=by
 simp[Obj.mapSeq]
theorem Inv.lst{pins:List (Addr×Obj)}{p:Addr}{xs:List V}(I:Inv X pins σ H s)(h:H p=some (.lst xs)):
 ∃(its:List Value)(n:Nat),aU xs its/\s.heap.get? p=some { cls:=.type "list",data:=.seq its.toArray n }/\xs.length<=sizeLine:=by
 obtain⟨z,its,n,r,e⟩:=I.hok p _ h;exact⟨its,n,r,e,z⟩
theorem Inv.lstUpd{pins:List (Addr×Obj)}{p:Addr}{xs ys:List V}{its its':List Value}{n n':Nat}{f:Obj->Obj}(I:Inv X pins σ H s)(h:H p=some (.lst xs))
 (ho:s.heap.get? p=some { cls:=.type "list",data:=.seq its.toArray n }) (hf:f { cls:=.type "list",data:=.seq its.toArray n }={ cls:=.type "list",data:=.seq its'.toArray n' }) (r:aU ys its') (hz:ys.length<=sizeLine) (t:Nat):
 Inv X pins σ (upd H p (.lst ys)) { s with heap:=s.heap.update p f,toks:=t }:=by
 have e:(s.heap.update p f).get? p=some { cls:=.type "list",data:=.seq its'.toArray n' }:=by
  rw[F5 f ho (by rw[hf]<;>rfl),hf]
 refine I.write (x:=p) (e:=p) (by rw[h];trivial) (.inl rfl) (fun b u hb q=>(U3 _ _ (O7 hb)).trans q) ⟨_,e⟩ ?_;exact⟨hz,its',n',r,e⟩
noncomputable def aAh:V->V->V->Hp->(Hp->Prop)->Prop:=fun o i v H Q=>∃p xs k j,o=.ref p/\i=.int k/\H p=some (.lst xs)/\ixN xs.length k=some j/\Q (upd H p (.lst (xs.set j v)))
theorem set_list:aDe X aAh:=by
 intro pins s σ H o i v ov iv u Q I ro ri rv h;obtain⟨p,xs,k,j,rfl,rfl,hp,hj,q⟩:=h;cases ro;obtain⟨t,rfl⟩:=ri;obtain⟨its,n,r,ho,hz⟩:=I.lst hp;obtain⟨h1,h2,h3,h4⟩:=IV hj;have hl:=r.length;have hn:=sW
 have I':Inv X pins σ (upd H p (.lst (xs.set j v))) { s with heap:=s.heap.update p (Obj.mapSeq (·.setIfInBounds j u)) }:=
  I.lstUpd hp ho (HJ its n j u) (r.set rv j) (by rw[O6];exact hz) s.toks
 by_cases h0:0<=k
 .have hk:k.toNat=j:=by
   rw[seqIndex_of h0 h4]at h1;exact D9 h1
  exact PySem.W.ki_setAt ho h0 (by omega) (by rw[C1,<- hl];exact h4) (by rw[hk];exact⟨_,I',q⟩)
 .have hk:(k+(its.toArray.size:Int)).toNat=j:=by
   rw[seqIndex_neg (by omega) h3]at h1;rw[C1,<- hl];exact D9 h1
  exact PySem.W.ki_setBack ho (by omega) (by rw[C1,<- hl];exact h3) (by omega) (by rw[hk];exact⟨_,I',q⟩)
theorem BN(lo hi:Option Int)(n:Nat):(sliceBounds lo hi none n).1=((HT.sIx n 0 lo:Nat):Int)/\(sliceBounds lo hi none n).2.1=((HT.sIx n n hi:Nat):Int)/\(sliceBounds lo hi none n).2.2=1:=by
 refine⟨?_,?_,rfl⟩
 .cases lo with
  |none=>simp[sliceBounds,HT.sIx]
  |some i=>
   simp only[sliceBounds,HT.sIx,Option.getD_none,show(1:Int) > 0 by decide,if_true];by_cases h:i<0
   .simp only[h,if_true]<;>omega
   .simp only[h,if_false]<;>omega
 .cases hi with
  |none=>simp[sliceBounds,HT.sIx]
  |some i=>
   simp only[sliceBounds,HT.sIx,Option.getD_none,show(1:Int) > 0 by decide,if_true];by_cases h:i<0
   .simp only[h,if_true]<;>omega
   .simp only[h,if_false]<;>omega
theorem xR(its:List Value)(lo hi:Option Int):slicePick its.toArray lo hi none=((its.drop (HT.sIx its.length 0 lo)).take (HT.sIx its.length its.length hi-HT.sIx its.length 0 lo)).toArray:=by
 obtain⟨h1,h2,h3⟩:=BN lo hi its.toArray.size;unfold slicePick;rw[h1,h2,h3];simp only[sliceRange_one,pick_run,List.size_toArray]<;>rfl
noncomputable def aDW(K:Fg):V->Option Int->Option Int->Hp->VK->Prop:=fun x lo hi H Q=>∃a xs,x=.ref a/\SqL K H a xs/\∀p,H p=none->Q (.ref p) (upd H p (.lst (sJ xs lo hi)))
theorem sl_list:SlR X (aDW X.K):=by
 intro pins s σ H x v vl vu lo hi sl Q I rx hs pl pu h;obtain⟨a,xs,rfl,hx,q⟩:=h;cases rx;obtain⟨its,r,ht,hz⟩:=I.list hx;have hlen:=r.length;refine⟨"list",_,slot_list_getitem.lookup,ht.isList.typeIs,?_⟩;refine wpAny_getItem_list_slice ht.isList hs pl pu .none (by simp) ?_ (by rw[C1]<;>omega);rw[xR,<- hlen];refine⟨.ref s.heap.objs.size,_,I.laid (t':=s.toks) (o:=.lst (sJ xs lo hi)) (fun b ob q=>A2 _ q) (A7 _) ?_,rfl,q _ (I.hok.fresh (A7 _))⟩;exact⟨C7 (tX xs lo hi) hz,_,0,(r.drop (HT.sIx xs.length 0 lo)).take (HT.sIx xs.length xs.length hi-HT.sIx xs.length 0 lo),B1 _ rfl⟩
theorem BQ:eT X (.builtin "len") (fun xs H Q=>∃p ys,xs=[.ref p]/\(SqL X.K H p ys\/SqT X.K H p ys)/\Q (.int ys.length) H):=by
 intro pins s σ H xs us Q I r h;obtain⟨p,ys,rfl,hq,q⟩:=h;obtain⟨u,rfl,rx⟩:=vals1 r;cases rx;have hn:=sW;rcases hq with hq|hq
 .obtain⟨its,r',pl,hz⟩:=I.list hq;have hlen:=r'.length;exact Calls.call_len_list pl.isList (by simp only[List.size_toArray]<;>omega) ⟨.int ys.length,H,I.tok _,⟨s.toks+1,by rw[C1,hlen]⟩,q⟩
 .obtain⟨its,r',pl,hz⟩:=I.tuple hq;have hlen:=r'.length;exact len_tuple pl (by simp only[List.size_toArray]<;>omega) ⟨.int ys.length,H,I.tok _,⟨s.toks+1,by rw[C1,hlen]⟩,q⟩
theorem BL:eT X (.type "list") (fun xs H Q=>∃p ys,xs=[.ref p]/\(SqL X.K H p ys\/SqT X.K H p ys)/\∀l,H l=none->Q (.ref l) (upd H l (.lst ys))):=by
 intro pins s σ H xs us Q I r h;obtain⟨p,ys,rfl,hq,q⟩:=h;obtain⟨u,rfl,rx⟩:=vals1 r;cases rx
 have fin:∀(its:List Value),aU ys its->ys.length<=sizeLine->∀(h':Heap)(c':Nat),(∀b o',s.heap.get? b=some o'->h'.get? b=some o')->
  h'.get? s.heap.objs.size=some { cls:=.type "list",dict:=none,data:=.seq its.toArray c',slots:=#[] }->EP X pins σ Q (.ref s.heap.objs.size) { s with heap:=h' }:=fun its r' hz h' c' kp e=>
  ⟨.ref s.heap.objs.size,_,I.laid (t':=s.toks) kp (A7 _) (show bT X.prog X.w _ h' _ (.lst ys)from⟨hz,its,c',r',e⟩),rfl,q _ (I.hok.fresh (A7 _))⟩
 rcases hq with hq|hq
 .obtain⟨its,r',pl,hz⟩:=I.list hq;have hlen:=r'.length;obtain⟨o,ho,hc,n,hd⟩:=pl.isList;exact call_list_seq p (.inl rfl) ho hc hd (fun h' c' kp e=>fin its r' hz h' c' kp e) (by simp only[List.size_toArray]<;>omega)
 .obtain⟨its,r',pl,hz⟩:=I.tuple hq;have hlen:=r'.length;obtain⟨o,ho,hc,n,hd⟩:=pl;exact call_list_seq p (.inr rfl) ho hc hd (fun h' c' kp e=>fin its r' hz h' c' kp e) (by simp only[List.size_toArray]<;>omega)
theorem xH:eT X (.type "tuple") (fun xs H Q=>∃p ys,xs=[.ref p]/\((SqL X.K H p ys/\∀l,H l=none->Q (.ref l) (upd H l (.tup ys)))\/(SqT X.K H p ys/\Q (.ref p) H))):=by
 intro pins s σ H xs us Q I r h;obtain⟨p,ys,rfl,h⟩:=h;obtain⟨u,rfl,rx⟩:=vals1 r;cases rx;rcases h with⟨hq,q⟩|⟨hq,q⟩
 .obtain⟨its,r',pl,hz⟩:=I.list hq;have hlen:=r'.length;refine call_tuple_list pl.isList (fun h' kp=>?_) (by simp only[List.size_toArray]<;>omega);have I1:Inv X pins σ H { s with heap:=h' }:=I.kept (t':=s.toks) kp
  have I2:Inv X pins σ (upd H h'.objs.size (.tup ys)) { s with heap:=h'.push { cls:=.type "tuple",data:=.seq its.toArray } }:=
   I1.laid (t':=s.toks) (fun b o e=>A2 _ e) (A7 _) (show bT X.prog X.w _ _ _ (.tup ys)from⟨hz,its,r',IsTup.new _ _⟩)
  exact⟨.ref h'.objs.size,_,I2,rfl,q _ (I1.hok.fresh (A7 _))⟩
 .obtain⟨its,r',pl,hz⟩:=I.tuple hq;exact call_tuple_same pl ⟨.ref p,H,I,rfl,q⟩
noncomputable def tyV(K:Fg)(T:String)(x:V)(H:Hp):Prop:=match x with
 |.str _=>T="str"
 |.int _=>T="int"
 |.ref p=>(T="list"/\∃xs,SqL K H p xs)\/(T="tuple"/\∃o,K.lookup p=some o/\o.cls=.type "tuple"/\o.dict=none) \/
  (T="dict"/\((∃kvs,H p=some (.dK kvs))\/∃kvs,H p=some (.dT kvs)))\/(T="set"/\∃S n,H p=some (.set S n))
 |_=>False
theorem TU{pins:List (Addr×Obj)}{T:String}{x:V}{v:Value}(I:Inv X pins σ H s)(r:RelV x v)(ty:tyV X.K T x H):
 s.TypeIs v T/\∀a,v=.ref a->∃ob,s.heap.get? a=some ob/\ob.dict=none:=by
 cases x with
 |str z=>
  obtain⟨t,rfl⟩:=r;cases (show T="str" from ty);exact⟨typeIs_str s z t,fun _ e=>nomatch e⟩
 |int i=>
  obtain⟨t,rfl⟩:=r;cases (show T="int" from ty);exact⟨typeIs_int s i t,fun _ e=>nomatch e⟩
 |ref p=>
  cases r;rcases ty with⟨rfl,xs,hq⟩|⟨rfl,o,hk,hc,hd⟩|⟨rfl,hk⟩|⟨rfl,S,n,hk⟩
  .obtain⟨its,_,pl,_⟩:=I.list hq;refine⟨pl.isList.typeIs,fun a e=>?_⟩;cases e;obtain⟨o,n,e,c,hd,_⟩:=pl;exact⟨o,e,hd⟩
  .refine⟨⟨o,I.kIn p o hk,hc⟩,fun a e=>?_⟩;cases e;exact⟨o,I.kIn _ o hk,hd⟩
  .have z:∃o,s.heap.get? p=some o/\o.ExactDict:=by
    rcases hk with⟨kvs,hk⟩|⟨kvs,hk⟩
    .obtain⟨_,_,_,_,o,_,_,e,ex,_⟩:=I.hok p _ hk;exact⟨o,e,ex⟩
    .obtain⟨_,_,_,_,o,_,_,e,ex,_⟩:=I.hok p _ hk;exact⟨o,e,ex⟩
   obtain⟨o,e,ex⟩:=z;refine⟨⟨o,e,ex.1⟩,fun a e2=>?_⟩;cases e2;exact⟨o,e,ex.2.1⟩
  .obtain⟨o,_,_,_,e,ex,_⟩:=I.hok p _ hk;refine⟨⟨o,e,ex.1⟩,fun a e2=>?_⟩;cases e2;exact⟨o,e,ex.2.1⟩
 |_=>exact False.elim ty
noncomputable def aFp(K:Fg)(T:String)(r:V->List V->Hp->VK->Prop)(to:TE):TE:=fun σ H Q=>to σ H fun x H1=>tyV K T x H1/\r x [] H1 Q
noncomputable def tBM(K:Fg)(T:String)(r:V->List V->Hp->VK->Prop)(to:TE)(t:TA):TE:=fun σ H Q=>to σ H fun x H1=>tyV K T x H1/\t σ H1 fun xs H2=>r x xs H2 Q
variable{o e:Expr}{es:List Expr}{to:TE}{t:TA}{name:Str}{apos cpos:Pos}{T id:String}{r:V->List V->Hp->VK->Prop}
theorem RO(pa:PlainAttrs T)(slot:Slot T name id)(hty:typeOf (.builtin id)=pure (.type "method_descriptor"))(hm:MtR X id r)(ho:PE X o to)
 (hbase:attributeBase o name X.env (eval o X.env)=eval o X.env:=by rfl) (hline:(apos.endLine==cpos.line)=true:=by rfl):PE X (.Call (.Attribute o name apos) [] [] cpos) (aFp X.K T r to):=by
 intro pins s σ H Q I h;refine wpAny_Call_method0_late hbase hline (thn (ho pins s σ H _ I h) fun v s1 ⟨x,H1,I1,r1,ty,q1⟩=>?_);obtain⟨h1,h2⟩:=TU I1 r1 ty;exact⟨T,id,pa,slot,hty,h1,h2,Calls.callWith_builtin rfl (PySem.evalArgs_none (hm pins s1 σ H1 x [] v [] Q I1 r1 .nil q1))⟩
theorem aFn(pa:PlainAttrs T)(slot:Slot T name id)(hty:typeOf (.builtin id)=pure (.type "method_descriptor"))(hm:MtR X id r)(ho:PE X o to)(ha:PA X (e::es) t)
 (hbase:attributeBase o name X.env (eval o X.env)=eval o X.env:=by rfl)
 (hfew:((backTo cpos (starEach (e::es) X.env)).all (fun x=>!x.1)&&(backToKw cpos (keywordEach [] X.env)).all (fun x=>x.1.isSome)
  && decide ((e::es).length+([]:List Keyword).length+(if ([]:List Keyword).isEmpty then 0 else 1)<30))=true:=by rfl)
 (hline:(apos.endLine==cpos.line)=true:=by rfl) (hs:starEach (e::es) X.env=(false,eval e X.env)::starEach es X.env:=by rfl) (hplain:(backTo cpos (starEach es X.env)).any (·.1)=false:=by rfl):
 PE X (.Call (.Attribute o name apos) (e::es) [] cpos) (tBM X.K T r to t):=by
 intro pins s σ H Q I h;refine wpAny_Call_method_late hbase hfew hline rfl (thn (ho pins s σ H _ I h) fun v s1 ⟨x,H1,I1,r1,ty,q1⟩=>?_);obtain⟨h1,h2⟩:=TU I1 r1 ty;refine⟨T,id,pa,slot,hty,h1,h2,?_⟩;have hA:=ha cpos pins s1 σ H1 _ I1 q1;rw[hs]at hA ⊢;refine Calls.callWith_builtin (by show(false || (backTo cpos (starEach es X.env)).any (·.1))=false;rw[hplain]<;>rfl) (Calls.evalArgs_plain ?_);exact thn hA fun us s2 ⟨vs,H2,I2,r2,q2⟩=>hm pins s2 σ H2 x vs v us Q I2 r1 r2 q2
end
noncomputable def MtM(X:Cx)(id:String)(r:V->List V->Hp->VK->Prop):Prop:=
 ∀(pins:List (Addr×Obj))(s:Shared)(σ:St)(H:Hp)(x:V)(xs:List V)(v:Value)(us:List Value)(Q:VK),Inv X pins σ H s->RelV x v->aU xs us->r x xs H Q->
  wpAny (model X.prog X.w) X.A (call (.builtin id) (v::us)) (EP X pins σ Q) X.xe s
theorem aU.one:∀{x:V}{us:List Value},aU [x] us->∃u,us=[u]/\RelV x u
 |_,_,.cons r .nil=>⟨_,rfl,r⟩
theorem aU.zero:∀{us:List Value},aU [] us->us=[]
 |_,.nil=>rfl
theorem aU.dropLast{xs:List V}{us:List Value}(h:aU xs us):aU xs.dropLast us.dropLast:=by
 induction h with
 |nil=>exact .nil
 |cons r t ih=>
  cases t with
  |nil=>exact .nil
  |cons q t'=>exact .cons r ih
theorem aU.reverse{xs:List V}{us:List Value}(h:aU xs us):aU xs.reverse us.reverse:=by
 induction h with
 |nil=>exact .nil
 |cons r t ih=>rw[List.reverse_cons,List.reverse_cons];exact aU.append ih (.cons r .nil)
theorem HM{α:Type}(l:List α):l.eraseIdx (l.length-1)=l.dropLast:=by
 induction l with
 |nil=>rfl
 |cons a r ih=>
  cases r with
  |nil=>rfl
  |cons b r=>
   have e:(a::b::r).length-1=((b::r).length-1)+1:=by
    have h1:(a::b::r).length=r.length+2:=rfl;have h2:(b::r).length=r.length+1:=rfl;omega
   rw[e,List.eraseIdx_cons_succ,ih]
   all_goals rfl
section
variable{X:Cx}{pins:List (Addr×Obj)}{σ:St}{H:Hp}{s:Shared}{l b:Addr}{xs ys zs:List V}
theorem Inv.lset{its its':List Value}{n:Nat}{f:Array Value->Array Value}{t':Nat}(I:Inv X pins σ H s)(hH:H l=some (.lst xs))
 (e:s.heap.get? l=some { cls:=.type "list",data:=.seq its.toArray n }) (hf:f its.toArray=its'.toArray) (hv:aU ys its') (hz:ys.length<=sizeLine):
 Inv X pins σ (upd H l (.lst ys)) { s with heap:=s.heap.update l (Obj.mapSeq f),toks:=t' }:=by
 have q:=PySem.IsL.update e f;rw[hf]at q;refine I.write (x:=l) (e:=l) (by rw[hH];exact trivial) (.inl rfl) (fun b' u hb hu=>(U3 s.heap (Obj.mapSeq f) (O7 hb)).trans hu) ⟨_,q⟩ ?_;exact⟨hz,its',_,hv,q⟩
theorem Inv.lnew{its:List Value}{t':Nat}(I:Inv X pins σ H s)(hv:aU ys its)(hz:ys.length<=sizeLine):
 Inv X pins σ (upd H s.heap.objs.size (.lst ys)) { s with heap:=s.heap.push { cls:=.type "list",data:=.seq its.toArray },toks:=t' }:=
 I.laid (fun _ _ q=>A2 _ q) (A7 _) ⟨hz,its,0,hv,B1 _ rfl⟩
theorem Inv.fresh(I:Inv X pins σ H s):H s.heap.objs.size=none:=I.hok.fresh (A7 _)
theorem Inv.lstM(I:Inv X pins σ H s)(hH:H l=some (.lst xs)):xs.length<=sizeLine/\∃(its:List Value)(n:Nat),aU xs its/\xs.length=its.length/\s.heap.get? l=some { cls:=.type "list",data:=.seq its.toArray n }:=by
 obtain⟨z,its,n,r,e⟩:=I.hok l _ hH;exact⟨z,its,n,r,r.length,e⟩
end
section
variable{X:Cx}
noncomputable def IU:V->List V->Hp->VK->Prop:=fun x vs H Q=>∃l xs y,x=.ref l/\vs=[y]/\H l=some (.lst xs)/\xs.length<sizeLine/\Q .non (upd H l (.lst (xs++[y])))
theorem MU:MtM X "list.append" IU:=by
 intro pins s σ H x vs v us Q I rx rv h;obtain⟨l,xs,y,rfl,rfl,hH,hz,q⟩:=h;cases rx;obtain⟨u,rfl,ru⟩:=rv.one;obtain⟨z,its,n,r,hl,e⟩:=I.lstM hH;refine call_meets F.slot_list_append ⟨_,e,rfl⟩ F.entry_list_append (F.args_list_append_2 _ _) (PySem.list_append l its.toArray n u (by rw[C1];omega)) ⟨e,?_⟩;refine⟨.non,_,I.lset (its':=its++[u]) hH e (by simp) (r.append (.cons ru .nil)) ?_,rfl,q⟩;rw[B9,E7];omega
noncomputable def aEV:V->List V->Hp->VK->Prop:=fun x vs H Q=>∃l xs y,x=.ref l/\vs=[]/\H l=some (.lst xs)/\xs[xs.length-1]?=some y/\Q y (upd H l (.lst xs.dropLast))
theorem aAQ:MtM X "list.pop" aEV:=by
 intro pins s σ H x vs v us Q I rx rv h;obtain⟨l,xs,y,rfl,rfl,hH,hy,q⟩:=h;cases rx;have hus:=rv.zero;subst hus;obtain⟨z,its,n,r,hl,e⟩:=I.lstM hH;obtain⟨u,hu,ru⟩:=r.get hy
 have hy':its.toArray[its.toArray.size-1]?=some u:=by
  show its.toArray[its.length-1]?=some u;rw[<- E1,<- hl];exact hu
 refine call_meets F.slot_list_pop ⟨_,e,rfl⟩ F.entry_list_pop (F.args_list_pop_1 _) (MeetsSeq.list_pop_last l its.toArray n u hy' (by rw[C1];omega)) ⟨e,?_⟩;refine⟨y,_,I.lset (its':=its.dropLast) hH e ?_ r.dropLast ?_,ru,q⟩
 .show its.toArray.eraseIdxIfInBounds (its.toArray.size-1)=its.dropLast.toArray;rw[C1,List.eraseIdxIfInBounds_toArray,HM]
 .rw[List.length_dropLast];omega
noncomputable def CG:V->List V->Hp->VK->Prop:=fun x vs H Q=>∃l xs,x=.ref l/\vs=[]/\H l=some (.lst xs)/\Q .non (upd H l (.lst xs.reverse))
theorem GU:MtM X "list.reverse" CG:=by
 intro pins s σ H x vs v us Q I rx rv h;obtain⟨l,xs,rfl,rfl,hH,q⟩:=h;cases rx;have hus:=rv.zero;subst hus;obtain⟨z,its,n,r,hl,e⟩:=I.lstM hH;refine call_meets F.slot_list_reverse ⟨_,e,rfl⟩ F.entry_list_reverse (F.args_list_reverse_1 _) (AutoSeq1.list_reverse_list_0 l its.toArray n (by rw[C1];omega)) ⟨e,?_⟩;refine⟨.non,_,I.lset (its':=its.reverse) hH e (by simp) r.reverse ?_,rfl,q⟩;rw[List.length_reverse];omega
end
section
variable{κ:Type}[DecidableEq κ]
noncomputable def iO(kvs:List (κ×V))(k:κ):Option V:=(kvs.find? fun kv=>decide (kv.1=k)).map (·.2)
noncomputable def putK(kvs:List (κ×V))(k:κ)(v:V):List (κ×V):=
 if (kvs.any fun kv=>decide (kv.1=k))=true then kvs.map (fun kv=>if kv.1=k then(kv.1,v)else kv)else kvs++[(k,v)]
theorem vT{p:κ×V}{r:List (κ×V)}{k:κ}(e:p.1=k):iO (p::r) k=some p.2:=by simp[iO,List.find?_cons,e]
theorem wI{p:κ×V}{r:List (κ×V)}{k:κ}(e:¬p.1=k):iO (p::r) k=iO r k:=by simp[iO,List.find?_cons,e]
theorem CL(k:κ):∀kvs:List (κ×V),(kvs.any fun kv=>decide (kv.1=k))=(iO kvs k).isSome
 |[]=>rfl
 |p::r=>by
  rw[O1];by_cases e:p.1=k
  .simp only[vT e,decide_eq_true e,Bool.true_or,Option.isSome_some]
  .rw[wI e,E2 e,Bool.false_or];exact CL k r
theorem jO(kvs:List (κ×V))(k:κ)(v:V):(putK kvs k v).length<=kvs.length+1:=by
 unfold putK;split
 .rw[A3];omega
 .rw[B9,E9,List.length_nil];omega
theorem sU.isSome_eq{o:Option V}{u:Option Value}(r:sU o u):o.isSome=u.isSome:=by
 cases o with
 |none=>cases u with
  |none=>rfl
  |some _=>exact(show False from r).elim
 |some _=>cases u with
  |none=>exact(show False from r).elim
  |some _=>rfl
theorem KV.val{kvs:List (κ×V)}{vs:List (κ×Value)}(r:KV kvs vs)(k:κ):sU (iO kvs k) (valueAt vs k):=by
 unfold KV at r
 induction r with
 |nil=>exact True.intro
 |@cons p q ps qs h t ih=>
  obtain⟨h1,h2⟩:=h;by_cases e:p.1=k
  .have e':q.1=k:=h1.symm.trans e;have b:valueAt (q::qs) k=some q.2:=by simp[valueAt,List.find?_cons,e']
   rw[vT e,b];exact h2
  .have e':¬q.1=k:=fun z=>e (h1.trans z);have b:valueAt (q::qs) k=valueAt qs k:=by simp[valueAt,List.find?_cons,e']
   rw[wI e,b];exact ih
theorem KV.any{kvs:List (κ×V)}{vs:List (κ×Value)}(r:KV kvs vs)(k:κ):(kvs.any fun kv=>decide (kv.1=k))=vs.any fun kv=>decide (kv.1=k):=by
 unfold KV at r
 induction r with
 |nil=>rfl
 |cons h t ih=>rw[O1,O1,ih,h.1]
theorem KV.repl{kvs:List (κ×V)}{vs:List (κ×Value)}(r:KV kvs vs)(k:κ){y:V}{u:Value}(ry:RelV y u):
 KV (kvs.map fun kv=>if kv.1=k then(kv.1,y)else kv) (vs.map fun kv=>if kv.1=k then(kv.1,u)else kv):=by
 unfold KV at r ⊢
 induction r with
 |nil=>exact .nil
 |@cons p q ps qs h t ih=>
  rw[C6,C6];refine .cons ?_ ih;obtain⟨h1,h2⟩:=h;by_cases e:p.1=k
  .rw[B0 e,B0 (h1.symm.trans e)];exact⟨h1,ry⟩
  .rw[B2 e,B2 (fun z=>e (h1.trans z))];exact⟨h1,h2⟩
theorem KV.put{kvs:List (κ×V)}{vs:List (κ×Value)}(r:KV kvs vs)(k:κ){y:V}{u:Value}(ry:RelV y u):KV (putK kvs k y) (stored vs k u):=by
 unfold putK stored;rw[r.any k];by_cases e:(vs.any fun kv=>decide (kv.1=k))=true
 .rw[B0 e,B0 e];exact r.repl k ry
 .rw[B2 e,B2 e];exact Paired.snoc r ⟨rfl,ry⟩
theorem KV.length{kvs:List (κ×V)}{vs:List (κ×Value)}(r:KV kvs vs):kvs.length=vs.length:=A0e r
end
theorem EA{P:Program}{w:World}{k:Key}{u:Value}(r:RelV (kV k) u):(cW P w).is k u=true:=by
 cases k with
 |inl i=>obtain⟨t,e⟩:=(show ∃t,u=Value.int i t from r);subst e;exact CZ P w i t
 |inr x=>obtain⟨t,e⟩:=(show ∃t,u=Value.str x t from r);subst e;exact DG P w x t
theorem yE{P:Program}{w:World}:∀{ks:List Key}{us:List Value},aU (ks.map kV) us->ItemsAre (cW P w) ks us
 |[],_=>fun r=>by rw[List.map_nil]at r;cases r;exact .nil
 |k::ks,_=>fun r=>by
  rw[C6]at r;cases r with
  |cons h t=>exact .cons (EA h) (yE t)
noncomputable abbrev KT(H:Hp):List (List Key×V)->List (List Key×Addr×Value)->Prop:=Paired fun p q=>p.1=q.1/\H q.2.1=some (.tup (p.1.map kV))/\RelV p.2 q.2.2
theorem KT.val{kvs:List (List Key×V)}{xs:List (List Key×Addr×Value)}(r:KT H kvs xs)(k:List Key):sU (iO kvs k) ((atKey xs k).map (·.2)):=by
 induction r with
 |nil=>exact True.intro
 |@cons p q ps qs h t ih=>
  obtain⟨h1,_,h2⟩:=h;by_cases e:p.1=k
  .have e':q.1=k:=h1.symm.trans e;have b:atKey (q::qs) k=some q.2:=by simp[atKey,List.find?_cons,e']
   rw[vT e,b];exact h2
  .have e':¬q.1=k:=fun z=>e (h1.trans z);have b:atKey (q::qs) k=atKey qs k:=by simp[atKey,List.find?_cons,e']
   rw[wI e,b];exact ih
theorem KT.repl{kvs:List (List Key×V)}{xs:List (List Key×Addr×Value)}(r:KT H kvs xs)(k:List Key){y:V}{u:Value}(ry:RelV y u):
 KT H (kvs.map fun kv=>if kv.1=k then(kv.1,y)else kv) (xs.map (putAt k u)):=by
 induction r with
 |nil=>exact .nil
 |@cons p q ps qs h t ih=>
  rw[C6,C6];refine .cons ?_ ih;obtain⟨h1,h2,h3⟩:=h;unfold putAt;by_cases e:p.1=k
  .rw[B0 e,B0 (h1.symm.trans e)];exact⟨h1,h2,ry⟩
  .rw[B2 e,B2 (fun z=>e (h1.trans z))];exact⟨h1,h2,h3⟩
theorem KT.put{kvs:List (List Key×V)}{xs:List (List Key×Addr×Value)}(r:KT H kvs xs)(k:List Key){b:Addr}{y:V}{u:Value}(hb:H b=some (.tup (k.map kV)))(ry:RelV y u):
 KT H (putK kvs k y) (storedH xs k b u):=by
 have e:(kvs.any fun kv=>decide (kv.1=k))=(atKey xs k).isSome:=by
  rw[CL,(r.val k).isSome_eq,Option.isSome_map]
 unfold putK storedH;rw[e];by_cases q:(atKey xs k).isSome=true
 .rw[B0 q,B0 q];exact r.repl k ry
 .rw[B2 q,B2 q];exact Paired.snoc r ⟨rfl,hb,ry⟩
theorem KT.keeps{H':Hp}{kvs:List (List Key×V)}{xs:List (List Key×Addr×Value)}(r:KT H kvs xs)(ht:∀b ys,H b=some (.tup ys)->H' b=some (.tup ys)):KT H' kvs xs:=
 Paired.mapP r fun _ _ z=>⟨z.1,ht _ _ z.2.1,z.2.2⟩
section
variable{P:Program}{w:World}{H:Hp}{h:Heap}{a:Addr}
theorem aAx{u:HO}(ok:HOk P w H h)(e:Rd H a u):bT P w H h a u:=e.ok ok
theorem IM{kvs:List (Key×V)}(ok:HOk P w H h)(e:Rd H a (.dK kvs)):kvs.length<=sizeLine/\(a==sysModules)=false/\∃vs,KV kvs vs/\h.DictOf (cW P w) a vs:=
 show bT P w H h a (.dK kvs)from aAx ok e
theorem aAE{kvs:List (Key×V)}(ok:HOk P w H h)(e:H a=some (.dK kvs)):kvs.length<=sizeLine/\(a==sysModules)=false/\∃vs,KV kvs vs/\h.DictOf (cW P w) a vs:=IM ok (.inl e)
theorem vJ{ks:List Key}(ok:HOk P w H h)(e:H a=some (.tup (ks.map kV))):(tupleKind (cW P w)).is h ks a:=by
 obtain⟨_,its,r,o,h1,h2,n,h3⟩:=(show bT P w H h a (.tup (ks.map kV))from ok a _ e);exact⟨o,its.toArray,n,h1,h2,h3,by simpa using yE r⟩
theorem KD{kvs:List (List Key×V)}(ok:HOk P w H h)(e:Rd H a (.dT kvs)):kvs.length<=sizeLine/\(a==sysModules)=false /\
 ∃xs,KT H kvs xs/\h.DictOfH (tupleKind (cW P w)) a xs:=by
 obtain⟨z,y,xs,r,o,es,ep,h1,h2,h3,h4,h5⟩:=(show bT P w H h a (.dT kvs)from aAx ok e);refine⟨z,y,xs,r,o,es,ep,h1,h2,h3,h4,fun x hx=>?_,h5⟩
 have all:∀{l:List (List Key×V)}{m:List (List Key×Addr×Value)},KT H l m->∀x∈m,(tupleKind (cW P w)).is h x.1 x.2.1:=by
  intro l m q
  induction q with
  |nil=>intro x hx;exact nomatch hx
  |@cons p q ps qs hq t ih=>
   intro x hx;rcases List.mem_cons.mp hx with e|hx
   .subst e;exact vJ ok (by rw[<- hq.1];exact hq.2.1)
   .exact ih x hx
 exact all r x hx
theorem aAa{kvs:List (List Key×V)}(ok:HOk P w H h)(e:H a=some (.dT kvs)):kvs.length<=sizeLine/\(a==sysModules)=false /\
 ∃xs,KT H kvs xs/\h.DictOfH (tupleKind (cW P w)) a xs:=KD ok (.inl e)
end
noncomputable def uG(H:Hp)(a:Addr)(y:V)(r:Option V):Prop:=
 (∃kvs k,Rd H a (.dK kvs)/\y=kV k/\r=iO kvs k)\/∃kvs k b,Rd H a (.dT kvs)/\y=.ref b/\H b=some (.tup (k.map kV))/\r=iO kvs k
noncomputable def vH(H:Hp)(a:Addr)(y v:V)(H':Hp):Prop:=
 (∃kvs k,H a=some (.dK kvs)/\y=kV k/\kvs.length<sizeLine/\H'=upd H a (.dK (putK kvs k v))) \/
 ∃kvs k b,H a=some (.dT kvs)/\y=.ref b/\H b=some (.tup (k.map kV))/\kvs.length<sizeLine/\H'=upd H a (.dT (putK kvs k v))
theorem uG.k{a:Addr}{kvs:List (Key×V)}{k:Key}(e:H a=some (.dK kvs)):uG H a (kV k) (iO kvs k):=.inl ⟨kvs,k,.inl e,rfl,rfl⟩
theorem uG.t{a b:Addr}{kvs:List (List Key×V)}{k:List Key}(e:H a=some (.dT kvs))(eb:H b=some (.tup (k.map kV))):uG H a (.ref b) (iO kvs k):=.inr ⟨kvs,k,b,.inl e,rfl,eb,rfl⟩
theorem vH.k{a:Addr}{kvs:List (Key×V)}{k:Key}{v:V}(e:H a=some (.dK kvs))(hl:kvs.length<sizeLine):vH H a (kV k) v (upd H a (.dK (putK kvs k v))):=.inl ⟨kvs,k,e,rfl,hl,rfl⟩
theorem vH.t{a b:Addr}{kvs:List (List Key×V)}{k:List Key}{v:V}(e:H a=some (.dT kvs))(eb:H b=some (.tup (k.map kV)))(hl:kvs.length<sizeLine):
 vH H a (.ref b) v (upd H a (.dT (putK kvs k v))):=.inr ⟨kvs,k,b,e,rfl,eb,hl,rfl⟩
section
variable{X:Cx}{pins:List (Addr×Obj)}{σ:St}{H:Hp}{s:Shared}{a:Addr}{y v:V}{u r:Value}{o:Option V}{A:Around}{E:Value->Shared->Prop}
theorem Inv.big(I:Inv X pins σ H s):sysModules<s.heap.objs.size:=by
 have h:mainGlobals<s.heap.objs.size:=(I.mod.glob.keeps I.bk).lt;exact O8 (by decide) h
theorem NB{Q:Value->Shared->Prop}(hu:A.units+1<cLine)(I:Inv X pins σ H s)(g:uG H a y (some v))(ry:RelV y u)(h:∀w' s',Inv X pins σ H s'->RelV v w'->Q w' s'):
 wpAny (model X.prog X.w) A (getItem (.ref a) u) Q E s:=by
 rcases g with⟨kvs,k,e,ey,l⟩|⟨kvs,k,b,e,ey,eb,l⟩
 .subst ey;obtain⟨z,hd,vs,rel,dd⟩:=IM I.hok e;obtain⟨w',hw,rw'⟩:=sU.some_of (v:=v) (o:=valueAt vs k) (by rw[l];exact rel.val k);exact wpAny_getItem_of (EA ry) dd.mapOf hw (h w' _ (I.tok _) rw')
 .subst ey;cases (show u=Value.ref b from ry);obtain⟨z,hd,xs,rel,dd⟩:=KD I.hok e;obtain⟨w',hw,rw'⟩:=sU.some_of (v:=v) (o:=(atKey xs k).map (·.2)) (by rw[l];exact rel.val k);obtain⟨p,hp,hp2⟩:=Option.map_eq_some_iff.mp hw;refine wpAny_getItem_heap (tupleKind_room_in1 hu) (vJ I.hok eb) dd hp ?_;rw[hp2];exact h w' _ (I.tok _) rw'
theorem aFJ{Q:Value->Shared->Prop}(hu:A.units+1<cLine)(I:Inv X pins σ H s)(g:uG H a y o)(ry:RelV y u)(h:∀s',Inv X pins σ H s'->Q (.bool o.isSome) s'):
 wpAny (model X.prog X.w) A (compareOp .In u (.ref a)) Q E s:=by
 rcases g with⟨kvs,k,e,ey,l⟩|⟨kvs,k,b,e,ey,eb,l⟩
 .subst ey;obtain⟨z,hd,vs,rel,dd⟩:=IM I.hok e;refine wpAny_in_of (EA ry) hd dd.mapOf ?_;rw[<- (rel.val k).isSome_eq,<- l];exact h _ (I.tok _)
 .subst ey;cases (show u=Value.ref b from ry);obtain⟨z,hd,xs,rel,dd⟩:=KD I.hok e;refine wpAny_in_heap (tupleKind_room_in1 hu) (vJ I.hok eb) hd dd ?_;have q:=(rel.val k).isSome_eq;rw[Option.isSome_map]at q;rw[<- q,<- l];exact h _ (I.tok _)
theorem qL{h':Heap}{t':Nat}{ob:HO}(I:Inv X pins σ H s)(mu:Mut (H a))(hs:Heap.SameBut a s.heap h')(he:∃q,h'.get? a=some q)(new:bT X.prog X.w (upd H a ob) h' a ob):
 Inv X pins σ (upd H a ob) { s with heap:=h',toks:=t' }:=
 I.write (x:=a) (e:=a) mu (.inl rfl) (fun b q hb z=>(hs.2 b hb).trans z) he new
theorem QC{P:Program}{w:World}{H':Hp}{h':Heap}{kvs:List (Key×V)}{vs:List (Key×Value)}(z:kvs.length<=sizeLine)(hd:(a==sysModules)=false)(rel:KV kvs vs)(dd:h'.DictOf (cW P w) a vs):
 bT P w H' h' a (.dK kvs):=⟨z,hd,vs,rel,dd⟩
theorem KP{H':Hp}{Q:Unit->Shared->Prop}(hu:A.units+1<cLine)(I:Inv X pins σ H s)(g:vH H a y v H')(ry:RelV y u)(rv:RelV v r)(h:∀s',Inv X pins σ H' s'->Q () s'):
 wpAny (model X.prog X.w) A (setItem (.ref a) u r) Q E s:=by
 rcases g with⟨kvs,k,e,ey,l,eH⟩|⟨kvs,k,b,e,ey,eb,l,eH⟩
 .subst ey eH;obtain⟨z,hd,vs,rel,dd⟩:=aAE I.hok e;have hz:vs.length<=sizeLine:=by rw[<- rel.length];exact z
  have hl:(putK kvs k v).length<=sizeLine:=by have:=jO kvs k v;omega
  refine wpAny_setItem_pairs (hsz:=hz) (EA ry) dd fun h' dd' hs=>h _ ?_;have he:∃q,h'.get? a=some q:=let⟨q,_,_,hq,_⟩:=dd';⟨q,hq⟩;exact qL I (by rw[e];exact True.intro) hs he (QC hl hd (rel.put k rv) dd')
 .subst ey eH;cases (show u=Value.ref b from ry);obtain⟨z,hd,xs,rel,dd⟩:=aAa I.hok e;have hz:xs.length<=sizeLine:=by rw[<- A0e rel];exact z
  have hl:(putK kvs k v).length<=sizeLine:=by have:=jO kvs k v;omega
  refine wpAny_setItem_heap (hsz:=hz) (tupleKind_room_in1 hu) (vJ I.hok eb) dd fun h' dd' hs=>h _ ?_;obtain⟨q,es,ep,hq,h2,h3,h4,_,h5⟩:=dd';refine qL I (by rw[e];exact True.intro) hs ⟨q,hq⟩ ⟨hl,hd,_,(rel.put k eb rv).keeps fun c ys ec=>?_,q,es,ep,hq,h2,h3,h4,h5⟩;rw[aL (aAs ec e (fun z=>nomatch z))];exact ec
end
noncomputable def aDq(i:Expr):Prop:=∀ov iv,subscripted i false ov iv=operate [ov,iv] (getItem ov iv)
theorem YI{prog:Program}{w:World}{A:Around}{E:Value->Shared->Prop}{s:Shared}{env:Env}{value slice:Expr}{pos:Pos}{T id:String}{Q:Value->Shared->Prop}
 (hl:typeLookup (.type T) "__getitem__"=pure (some (.builtin id))) (hs:aDq slice)
 (h:wpAny (model prog w) A (eval value env) (fun o s₁=>wpAny (model prog w) A (eval slice env) (fun i s₂=>s₂.TypeIs o T/\wpAny (model prog w) A (getItem o i) Q E s₂) E s₁) E s):
 wpAny (model prog w) A (eval (.Subscript value slice pos) env) Q E s:=by
 refine Subscript_ (F9 h (fun o s₁ h₁=>F9 h₁ (fun i s₂ h₂=>?_) fun _ _ x=>x) fun _ _ x=>x);obtain⟨hT,h₂⟩:=h₂;unfold subscriptTail;refine A1 ?_;rw[getitemInPython_of_ne hT.not_modules];refine A1 (wpAny_specialOf hT hl ?_)
 have fin:wpAny (model prog w) A (subscripted slice false o i) (fun r s₃=>wpAny (model prog w) A (letTemporaryGo value o r >>= fun _=>pure r) Q E s₃) E s₂:=by
  rw[hs o i];exact wpAny_operating (F9 h₂ (fun r s₃ h₃=>A1 (wpAny_letTemporaryGo (A4 h₃))) fun _ _ x=>x)
 first
  |exact A4 (A1 fin)
  |exact A1 (A4 (A1 fin))
  |exact A1 fin
theorem FC{X:Cx}{pins:List (Addr×Obj)}{a:Addr}{y:V}{o:Option V}(I:Inv X pins σ H s)(g:uG H a y o):s.TypeIs (.ref a) "dict":=by
 rcases g with⟨kvs,k,e,_,_⟩|⟨kvs,k,b,e,_,_,_⟩
 .obtain⟨_,_,vs,_,dd⟩:=IM I.hok e;exact dd.typeIs
 .obtain⟨_,_,xs,_,dd⟩:=KD I.hok e;exact dd.typeIs
noncomputable def aAf(td ty:TE):TE:=fun σ H Q=>td σ H fun x H1=>ty σ H1 fun y H2=>∃a v,x=.ref a/\uG H2 a y (some v)/\Q v H2
noncomputable def aEy(ty td:TE):TE:=fun σ H Q=>ty σ H fun y H1=>td σ H1 fun x H2=>∃a o,x=.ref a/\uG H2 a y o/\Q (.bl o.isSome) H2
noncomputable def ZW(td ty tv:TE):TS:=fun D σ H=>tv σ H fun v H1=>td σ H1 fun x H2=>ty σ H2 fun y H3=>∃a H4,x=.ref a/\vH H3 a y v H4/\D.nx σ H4
section
variable{X:Cx}{o i e value:Expr}{pos pos' tpos:Pos}{td ty tv:TE}
theorem UC(hu:X.A.units+1<cLine)(ho:PE X o td)(hi:PE X i ty)(hs:aDq i):PE X (.Subscript o i pos) (aAf td ty):=by
 intro pins s σ H Q I h;refine YI PySem.F.slot_dict_getitem.lookup hs (thn (ho pins s σ H _ I h) fun u s1 ⟨x,H1,I1,rx,q1⟩=>thn (hi pins s1 σ H1 _ I1 q1) fun iv s2 ⟨y,H2,I2,ry,a,v,ex,g,q2⟩=>?_);subst ex;obtain rfl:u=Value.ref a:=rx;exact⟨FC I2 g,NB hu I2 g ry fun w' s3 I3 rw'=>⟨v,H2,I3,rw',q2⟩⟩
theorem TH(hu:X.A.units+1<cLine)(hi:PE X i ty)(ho:PE X o td):PC X .In i o (aEy ty td):=by
 intro pins s σ H Q I h;refine thn (hi pins s σ H _ I h) fun iv s1 ⟨y,H1,I1,ry,q1⟩=>thn (ho pins s1 σ H1 _ I1 q1) fun u s2 ⟨x,H2,I2,rx,a,ov,ex,g,q2⟩=>?_;subst ex;obtain rfl:u=Value.ref a:=rx;exact aFJ hu I2 g ry fun s3 I3=>⟨.bl ov.isSome,H2,I3,rfl,q2⟩
theorem WZ(hu:X.A.units+1<cLine)(ho:PE X o td)(hi:PE X i ty)(hv:PE X value tv)(hs:swapsWith value (some (.Subscript o i pos')) pos.line X.env=pure false):
 PS X (.Assign [.Subscript o i pos'] value pos) (ZW td ty tv):=by
 intro pins s σ H D I h;refine wpAny_Assign_Subscript (thn (hv pins s σ H _ I h) fun r s1 ⟨v,H1,I1,rv,q1⟩=>thn (ho pins s1 σ H1 _ I1 q1) fun u s2 ⟨x,H2,I2,rx,q2⟩=>thn (hi pins s2 σ H2 _ I2 q2) fun iv s3 ⟨y,H3,I3,ry,a,H4,ex,g,q3⟩=>?_) hs;subst ex;obtain rfl:u=Value.ref a:=rx;exact KP hu I3 g ry rv fun s4 I4=>⟨σ,H4,I4,q3⟩
end
theorem SU{P:Program}{w:World}(h:Heap)(hb:sysModules<h.objs.size):bT P w H (h.push { cls:=.type "dict",data:=.dict #[] }) h.objs.size (.dK []):=
 ⟨J5 _,beq_eq_false_iff_ne.mpr (O7 (B7 hb)),[],.nil,Heap.DictOf.new h⟩
theorem BX{P:Program}{w:World}(h:Heap)(hb:sysModules<h.objs.size):bT P w H (h.push { cls:=.type "dict",data:=.dict #[] }) h.objs.size (.dT []):=
 ⟨J5 _,beq_eq_false_iff_ne.mpr (O7 (B7 hb)),[],.nil,_,#[],0,B1 _ rfl,⟨rfl,rfl,rfl⟩,rfl,rfl,List.nodup_nil⟩
noncomputable def OD:TE:=fun _ H Q=>∀p,H p=none->Q (.ref p) (upd H p (.dT []))
section
variable{X:Cx}{pos:Pos}
theorem TX:PE X (.Dict [] [] pos) OD:=fun pins s σ H Q I h=>
 wpAny_Dict_empty ⟨.ref s.heap.objs.size,_,I.laid (a:=s.heap.objs.size) (o:=.dT []) (t':=s.toks) (fun _ _ q=>A2 _ q) (A7 _) (BX s.heap I.big),rfl,h _ (I.hok.fresh (A7 _))⟩
end
structure M1(X:Cx)(o:Expr)(m:Str)(apos:Pos)(e:Expr)(cpos:Pos):Prop where
 base:attributeBase o m X.env (eval o X.env)=eval o X.env
 few:((backTo cpos (starEach [e] X.env)).all (fun x=>!x.1)&&(backToKw cpos (keywordEach [] X.env)).all (fun x=>x.1.isSome)
  && decide (([e]:List Expr).length+([]:List Keyword).length+(if ([]:List Keyword).isEmpty then 0 else 1)<30))=true
 line:(apos.endLine==cpos.line)=true
 trees:backTo cpos (starEach [e] X.env)=[(false,eval e X.env)]
structure M2(X:Cx)(o:Expr)(m:Str)(apos:Pos)(e f:Expr)(cpos:Pos):Prop where
 base:attributeBase o m X.env (eval o X.env)=eval o X.env
 few:((backTo cpos (starEach [e,f] X.env)).all (fun x=>!x.1)&&(backToKw cpos (keywordEach [] X.env)).all (fun x=>x.1.isSome)
  && decide (([e,f]:List Expr).length+([]:List Keyword).length+(if ([]:List Keyword).isEmpty then 0 else 1)<30))=true
 line:(apos.endLine==cpos.line)=true
 trees:backTo cpos (starEach [e,f] X.env)=[(false,eval e X.env),(false,eval f X.env)]
end L2
namespace Att
open PySem PySem.W PySem.Calls PyProof.Rows
theorem uL{P:Params}{h:Heap}:∀(ns:List Int)(vs:List Value),WellAll P h vs (ns.map WData.int)->IntsAre vs ns:=by
 intro ns
 induction ns with
 |nil=>
  intro vs w;rw[List.map_nil]at w;cases w;exact .nil
 |cons n ns ih=>
  intro vs w;rw[C6]at w;cases w with
  |cons a b=>
   cases a;exact .cons _ _ (ih _ b)
theorem NC{l:OpenLaw}{n:Nat}(hn:l.most=some n){P:Params}{h:Heap}{args:List WData}{vals:List Value}
 (hpre:l.row.toRowW.claim.pre args=true) (hwl:WellAll P h vals args):
 ∃a vs ns,vals=[Value.ref a]/\args=[WData.list (ns.map WData.int)]/\h.get? a=some { cls:=.type "list",data:=.seq vs.toArray }/\IntsAre vs ns/\ns.length<=n:=by
 have hsh:WShape.hasAll [] args [.list .int]=true:=(pre_splitW hpre).1;have hc:l.pre.holds [] { args:=args }=true:=(pre_splitW hpre).2;obtain⟨d,r,rfl,h1,h2⟩:=hasAllW_cons hsh;obtain rfl:=hasAllW_nil h2;obtain⟨xs,rfl,h3⟩:=hasW_list h1;obtain⟨ns,rfl⟩:=items_int h3
 have hlen:ns.length<=n:=by
  unfold OpenLaw.pre at hc
  have h4:(WTm.not (.lt (.lit (.int (n:Int))) (.len (.arg 0)))).holds [] { args:=[.list (ns.map .int)] }=true:=by
   have h4:=(holds_andW hc).1;rw[hn]at h4;exact h4
  have h5:=condW_of h4 (w_not (w_lt w_lit (w_len_list (w_arg rfl))));rw[A3]at h5;refine Nat.le_of_not_lt fun q=>?_;have q':(n:Int)<((ns.length:Nat):Int):=by omega
  first
   |(rw[C5 q']at h5;exact absurd h5 (by decide))
   |(simp at h5;omega)
 cases hwl with
 |cons w1 w2=>
  cases w2;cases w1 with
  |list ho hall=>exact⟨_,_,ns,rfl,rfl,ho,uL ns _ hall,hlen⟩
theorem KU(l:OpenLaw)(args:List WData):l.row.toRowW.claim.post args (.bool true) args=true:=
 postW_of (r:=l.row.toRowW) (X:=(true==true))
  (show WShape.has [] (.bool true) .bool=true by first|rfl|decide|simp[WShape.has,WShape.arms,WShape.armsAll])
  (show(WTm.eq .res (.lit (.bool true))).value [] { args:=args,res:=some (.bool true),after:=args }=some (.bool (true==true))from w_eq_bool (w_res rfl) w_lit) rfl
theorem attach_call{l:OpenLaw}{n:Nat}{q:Program}{loose:List Str}{XP:(Str->Option Value)->Heap->Prop}{YP:World->Heap->Prop}{d:DefRec}
 (hn:l.most=some n) (hdf:d.params.defaults=[])
 (call:∀(w:World)(s₀ s₁:Shared)(mg mb:Str->Option Value)(fa:Addr)(o:Obj)(pm cd doc:Value)(a:Addr)(vs:List Value)(ns:List Int),
  Ground q loose [] XP w s₀ mg mb s₁.heap->YP w s₁.heap->
  s₁.heap.get? fa=some o->o.data=.func (docDef d.name d.params d.body d.scope pm cd doc)->s₁.heap.CodeRec cd d.name->mg d.name=some (.ref fa)->
  s₁.heap.get? a=some { cls:=.type "list",data:=.seq vs.toArray }->IntsAre vs ns->ns.length<=n->s₁.gens=#[]->
  codeAny (model l.prog w) callerA (.call (.ref fa) ⟨[.ref a],[]⟩) (fun r s'=>r=.ok (.ret (.bool true))/\OldK s₁.heap s'.heap/\s'.os=s₁.os/\AllBare s'.gens) s₁):
 WalkO q loose XP YP l.row.toRowW d [] (fun f vs=>PySem.call f vs):=by
 intro w s₀ s₁ mg mb G Y fa o pm cd doc dV kV ho hd hcd hD hmg hg args vals as hpre hlay hrd hwl hlo;obtain rfl:dV=.none:=Dflts.none hD hdf;obtain rfl:kV=.none:=Dflts.noKw hD;obtain⟨a,vs,ns,rfl,rfl,hobj,hints,hlen⟩:=NC hn hpre hwl;refine enter_call (A0j (call w s₀ s₁ mg mb fa o pm cd doc a vs ns G Y ho (fd_plain hd) hcd hmg hobj hints hlen hg) fun r s' hq=>?_);obtain⟨rfl,h2,h3,h4⟩:=hq;exact⟨.inl ⟨.bool true,.bool true,[],rfl,fun _=>rfl,.bool true,KU l _,fun _=>⟨List.Pairwise.nil,fun _ hm=>(nomatch hm)⟩⟩,h2,h3,h4⟩
section
variable{prog:Program}{w:World}{A:Around}{E:Value->Shared->Prop}{s:Shared}{K:Frag}
end
end Att
namespace L2
open PySem PySem.Spec PyProof.Rows
theorem yC:∀{vs:List Value}{ns:List Int},IntsAre vs ns->aU (ns.map V.int) vs
 |_,_,.nil=>.nil
 |_,_,.cons n t h=>.cons ⟨t,rfl⟩ (yC h)
noncomputable def aDj(H:Hp):Prop:=∀b,H b=none\/∃o xs,H b=some (.frz o (.lst xs))
theorem SY{P:Program}{w:World}{K:Fg}{mg mb:Str->Option Value}{CX:CXT}{k:Nat}{fa a:Addr}{fd:FuncData}{x:Str}{sp:Sp}{s₁:Shared}{vs:List Value}{ns:List Int}
 (KX:K.In s₁.heap) (hns:s₁.heap.Ns mainGlobals mg) (hb:s₁.heap.Ns builtinsNs mb) (hbb:∀x:Str,x≠"__name__"->mb x=bootBuiltins x) (hlim:s₁.heap.NoLimit) (hsm:∃mm,s₁.heap.Ns sysModules mm) (hg:s₁.gens=#[])
 (ha:s₁.heap.get? a=some { cls:=.type "list",data:=.seq vs.toArray }) (hi:IntsAre vs ns) (hl:ns.length<=sizeLine) (hr:cJ k callerA)
 (F:∀base:Heap,K.In base->base.Ns mainGlobals mg->pC P w K mg base CX k fa fd [x] sp) (hbind:∀(s:Shared)(u:Value),BindsTo s fd ⟨[u],[]⟩ [(x,u)])
 (hsp:∀H:Hp,aDj H->SqL K H a (ns.map V.int)->sp [.ref a] H (fun v _=>v=.bl true) fun _ _ _=>False)
 (hCX:∀H e s',CX [] H s₁ (fun _ _ _=>False) e s'->False):
 codeAny (model P w) callerA (.call (.ref fa) ⟨[.ref a],[]⟩) (fun r s'=>r=.ok (.ret (.bool true))/\OldK s₁.heap s'.heap/\s'.os=s₁.os/\AllBare s'.gens) s₁:=by
 have rv:=yC hi;have lenV:=hi.length
 have core:∀H:Hp,aDj H->SqL K H a (ns.map V.int)->HOk P w H s₁.heap->(∀b,H b≠none->b=a)->(H a≠none->K.lookup a=none)->
  codeAny (model P w) callerA (.call (.ref fa) ⟨[.ref a],[]⟩) (fun r s'=>r=.ok (.ret (.bool true))/\OldK s₁.heap s'.heap/\s'.os=s₁.os/\AllBare s'.gens) s₁:=by
  intro H hO hS hok hA hK;have base_of:∀{b:Addr}{o:Obj},s₁.heap.get? b=some o->H b=none->(AK s₁.heap H).get? b=some o:=fun e n=>RQ e n
  have noA:∀{b:Addr}{o:Obj}{es:Array DictEntry}{ep:Nat},s₁.heap.get? b=some o->o.data=.dict es ep->H b=none:=fun{b o es ep} e d=>by
   cases q:H b with
   |none=>rfl
   |some u=>
    have e':b=a:=hA b (by rw[q];simp);subst e';rw[ha]at e;cases e;have d':Data.seq vs.toArray _=Data.dict es ep:=d;cases d'
  have nsK:∀{b:Addr}{m:Str->Option Value},s₁.heap.Ns b m->(AK s₁.heap H).Ns b m:=fun{b m} ⟨o,es,ep,e,d,r⟩=>⟨o,es,ep,base_of e (noA e d),d,r⟩
  have hKb:K.In (AK s₁.heap H):=fun b o e=>base_of (KX b o e) (by
   cases q:H b with
   |none=>rfl
   |some u=>
    have e':b=a:=hA b (by rw[q];simp);subst e';rw[hK (by rw[q];simp)]at e;cases e)
  have hM:Mod K mg (AK s₁.heap H):=⟨hKb,nsK hns,⟨mb,nsK hb,hbb⟩,(let⟨mc,h1,h2⟩:=hlim;⟨mc,nsK h1,h2⟩),(let⟨mm,hmm⟩:=hsm;let⟨o,es,ep,h1,h2,_⟩:=nsK hmm;⟨o,es,ep,h1,h2⟩)⟩;have e0:GJ P w K mg (AK s₁.heap H) callerA [] s₁ H:=⟨rfl,hM,fun b o e=>XJ e,Nat.le_of_eq (LL _ _),trivial,fun b hb=>absurd (show b∈([]:List Addr)from hb) (by simp),hok,.of_eq hg⟩;refine A0j ((F _ hKb (nsK hns)).run callerA [] s₁ H ⟨[.ref a],[]⟩ [.ref a] [.ref a] _ _ hr e0 (hbind s₁ (.ref a)) (.cons rfl .nil) (hsp H hO hS)) fun r s' h=>?_;cases r with
  |error e=>exact(hCX H e s' h).elim
  |ok fl=>
   cases fl with
   |next=>exact False.elim h
   |brk=>exact False.elim h
   |cont=>exact False.elim h
   |ret u=>
    obtain⟨v,H',os,bare,un,hok',r',q⟩:=h;have q':v=.bl true:=q;subst q';obtain rfl:u=Value.bool true:=r';refine⟨rfl,OldK.of_keep fun b o e=>?_,os,bare⟩;cases q:H b with
    |none=>exact un.keep b o e q (by intro z;exact absurd (show b∈([]:List Addr)from z) (by simp)) (by simp)
    |some u=>
     rcases hO b with z|⟨ob,xs,z⟩
     .rw[q]at z;cases z
     .have z2:=un.frzs b ob _ z;obtain⟨e1,_⟩:=hok b _ z;obtain⟨e2,_⟩:=hok' b _ z2;rw[e]at e1;cases e1;exact e2
 cases hk:K.lookup a with
 |some o=>
  have e:=KX a o hk;rw[ha]at e;cases e;refine core (fun _=>none) (fun _=>.inl rfl) (.inr ⟨_,vs.toArray,_,hk,rfl,rfl,rfl,by rw[C1,lenV];exact hl,by simpa using rv⟩) (fun b u z=>by have z':(none:Option HO)=some u:=z;cases z') (fun b z=>absurd rfl z) fun z=>absurd rfl z
 |none=>
  refine core (fun b=>if b=a then some (.frz { cls:=.type "list",data:=.seq vs.toArray } (.lst (ns.map V.int)))else none) (fun b=>?_) (.inl (.inr ⟨{ cls:=.type "list",data:=.seq vs.toArray },B0 rfl⟩)) (fun b u z=>?_) (fun b z=>?_) fun _=>hk
  .by_cases hb:b=a
   .exact .inr ⟨_,_,B0 hb⟩
   .exact .inl (B2 hb)
  .by_cases hb:b=a
   .have z':=(B0 hb).symm.trans z;cases z';subst hb;exact⟨ha,by rw[A3];exact hl,vs,_,rv,ha⟩
   .have z':=(B2 hb).symm.trans z;cases z'
  .by_cases hb:b=a
   .exact hb
   .exact absurd (B2 hb) z
noncomputable abbrev KOf{K:Fg}{h:Heap}(_:K.In h):Fg:=K
theorem walk_of{l:PySem.W.OpenLaw}{n k:Nat}{q:Program}(hq:PyProof.Rows.importsNone q=true){loose:List Str}{XP:(Str->Option Value)->Heap->Prop}{YP:World->Heap->Prop}{d:DefRec}{K:Params->Fg}{CX:World->CXT}{sp:World->Sp}{x:Str}
 (hn:l.most=some n) (hn2:n<=sizeLine) (hdf:d.params.defaults=[]) (hr:cJ k callerA)
 (hY:∀(w:World)(h:Heap),YP w h->(K w.params).In h)
 (F:∀(w:World)(mg:Str->Option Value)(fa:Addr)(h:Heap),(K w.params).In h->h.Ns mainGlobals mg->mg d.name=some (.ref fa)->
  ∃fd:FuncData,(∀(s:Shared)(u:Value),BindsTo s fd ⟨[u],[]⟩ [(x,u)]) /\
   ∀base:Heap,(K w.params).In base->base.Ns mainGlobals mg->pC l.prog w (K w.params) mg base (CX w) k fa fd [x] (sp w))
 (hsp:∀(w:World)(H:Hp)(a:Addr)(ns:List Int),ns.length<=n->aDj H->SqL (K w.params) H a (ns.map V.int)->sp w [.ref a] H (fun v _=>v=.bl true) fun _ _ _=>False)
 (hCX:∀(w:World)(H:Hp)(s:Shared)(e:Value)(s':Shared),CX w [] H s (fun _ _ _=>False) e s'->False):
 PySem.W.WalkO q loose XP YP l.row.toRowW d [] (fun f vs=>PySem.call f vs):=by
 refine Att.attach_call hn hdf fun w s₀ s₁ mg mb fa o pm cd doc a vs ns G Y ho hd hcd hmg hobj hints hlen hg=>?_;have KX:=hY w _ Y;obtain⟨fd,hb,hF⟩:=F w mg fa _ KX G.T.g hmg;exact SY KX G.T.g G.T.b G.T.builtins G.T.nolimit (let⟨mm,hmm,_⟩:=(G.T.seer hq).mods;⟨mm,hmm⟩) hg hobj hints (C7 hlen hn2) hr hF hb (fun H hO hS=>hsp w H a ns hlen hO hS) fun H e s'=>hCX w H s₁ e s'
end L2
namespace L2
variable{H H':Hp}{M M':Sto}{γ:Ga}{K:Fg}
open PySem PySem.Spec PyProof.Rows
noncomputable def inClass(s:Stmt)(j:Nat):Stmt:=match s with
 |.ClassDef _ _ _ body _ _ _ _ _ _ _=>body.getD j (.Pass ⟨0,0,0,0⟩)
 |_=>.Pass ⟨0,0,0,0⟩
noncomputable def eJ(s:Stmt):Arguments:=match s with
 |.FunctionDef _ a _ _ _ _ _ _ _ _=>a
 |_=>{ posonlyargs:=[],args:=[],vararg:=none,kwonlyargs:=[],kw_defaults:=[],kwarg:=none,defaults:=[] }
noncomputable def bN(s:Stmt):List Stmt:=match s with
 |.FunctionDef _ _ b _ _ _ _ _ _ _=>b
 |_=>[]
noncomputable def aE(s:Stmt):Scope:=match s with
 |.FunctionDef _ _ _ _ _ _ sc _ _ _=>sc
 |_=>{ kind:=.function,names:=[],isGenerator:=false,isCoroutine:=false }
noncomputable abbrev CX0:CXT:=fun _ _ _ _ _ _=>False
noncomputable abbrev E0:XK:=fun _ _ _=>False
theorem aAt{X:Cx}:BD CX0 X E0:=fun _ _ _ _ _ _ _ h=>h.elim
structure Fun(K:Fg)(x qual:Str)(st:Stmt)(f:Addr)(fd:FuncData):Prop where
 ex:∃(oc:Value)(od:Option Addr)(kV doc pm:Value)(an:Option Addr)(cdv ct:Value)(osl:Array (Option Value)),
  fd=PySem.W.fnOf x qual (eJ st) (bN st) (aE st) .none kV doc pm an cdv ct/\K.lookup f=some ⟨oc,od,.func fd,osl⟩/\PySem.W.codeIn K cdv qual=true
 kp:PySem.W.keepIn K (.ref f)=true
section
variable{P:Program}{w:World}{K:Fg}{mg:Str->Option Value}{base:Heap}
theorem Fun.ok{x qual:Str}{st:Stmt}{f:Addr}{fd:FuncData}{N ps:List Str}{k:Nat}{sp:Sp}{q:Bool}(F:Fun K x qual st f fd)(S:aR N ps (aE st))(len:∀vs H Q E,sp vs H Q E->vs.length=ps.length)
 (hbody:∀(cdv:Value)(A:Around)(outer:List Env)(s:Shared)(H:Hp)(vs:List V)(Q:VK)(E:XK),cJ k (A.deeper (envOfC qual (aE st) s.heap.objs.size f cdv)) q->sp vs H Q E->
  ∃t,PSs (qS CX0 P w K mg base N qual (aE st) f cdv A outer s H E q).nox (bN st) t/\t { nx:=fun _ H'=>Q .non H',rt:=Q } (start N vs) H):pC P w K mg base CX0 (k+1) f fd ps sp q:=by
 obtain⟨oc,od,kV,doc,pm,an,cdv,ct,osl,rfl,lk,hcd⟩:=F.ex;refine aFu lk hcd S len fun A outer s H vs Q E hr hsp=>?_;obtain⟨t,h,z⟩:=hbody cdv A outer s H vs Q E hr hsp;exact⟨t,h.nox,z⟩
theorem Fun.binds{x qual:Str}{st:Stmt}{f:Addr}{fd:FuncData}{ps:List Str}(F:Fun K x qual st f fd)
 (h:∀(kV doc pm:Value)(an:Option Addr)(cdv ct:Value)(us:List Value),us.length=ps.length->bindArgs (PySem.W.fnOf x qual (eJ st) (bN st) (aE st) .none kV doc pm an cdv ct) ⟨us,[]⟩=pure (ps.zip us)):Binds K fd ps []:=by
 obtain⟨oc,od,kV,doc,pm,an,cdv,ct,osl,rfl,lk,hcd⟩:=F.ex;exact .all (h kV doc pm an cdv ct)
theorem OY{x qual:Str}{st:Stmt}{f:Addr}{oc:Value}{od an:Option Addr}{osl:Array (Option Value)}{kV doc pm cdv ct:Value}(l:K.lookup f=some ⟨oc,od,.func (PySem.W.fnOf x qual (eJ st) (bN st) (aE st) .none kV doc pm an cdv ct),osl⟩)
 (c:PySem.W.codeIn K cdv qual=true) (k:PySem.W.keepIn K (.ref f)=true):Fun K x qual st f (PySem.W.fnOf x qual (eJ st) (bN st) (aE st) .none kV doc pm an cdv ct):=⟨⟨oc,od,kV,doc,pm,an,cdv,ct,osl,rfl,l,c⟩,k⟩
end
noncomputable def gV(H H':Hp):Prop:=∀b o,H b=some o->H' b=some o
theorem gV.refl(H:Hp):gV H H:=fun _ _ h=>h
theorem gV.trans{H1 H2:Hp}(a:gV H H1)(b:gV H1 H2):gV H H2:=fun c o h=>b c o (a c o h)
theorem gV.free(e:gV H H'){l:Addr}(h:H' l=Option.none):H l=Option.none:=by
 cases q:H l with
 |none=>rfl
 |some o=>
  rw[e l o q]at h;cases h
theorem gV.seq{a:Addr}{xs:List V}(e:gV H H')(h:SqL K H a xs):SqL K H' a xs:=by
 rcases h with(h|⟨o,h⟩)|h
 .exact .inl (.inl (e _ _ h))
 .exact .inl (.inr ⟨o,e _ _ h⟩)
 .exact .inr h
noncomputable def dH(env:Env):List (Str×NameKind)->List (Str×Addr)->List (Str×Addr)
 |[],cs=>cs
 |y::r,cs=>dH env r (if (y.2==NameKind.free)=true then(y.1,(env.cells.lookup y.1).getD 0)::cs else cs)
theorem qD{env:Env}:∀(l:List (Str×NameKind))(cs:List (Str×Addr)),(∀y∈l,y.2=.free->∃c,env.cells.lookup y.1=some c)->
 (forIn l cs fun(x:Str×NameKind)(r:List (Str×Addr))=>if (x.2==NameKind.free)=true then(do
  let a <- cellOf env x.1
  pure (ForInStep.yield ((x.1,a)::r)))else pure (ForInStep.yield r))=(pure (dH env l cs):Sem (List (Str×Addr)))
 |[]=>fun cs _=>rfl
 |y::l=>fun cs h=>by
  rw[List.forIn_cons];by_cases hk:(y.2==NameKind.free)=true
  .obtain⟨c,hc⟩:=h y A9 (by simpa using hk);have e1:cellOf env y.1=pure c:=by unfold cellOf;rw[hc]
   rw[B0 hk,e1];show(forIn l ((y.1,c)::cs) _:Sem _)=_;rw[qD l _ fun z hz=>h z (A8 _ hz)]
   conv=>rhs;unfold dH
   rw[B0 hk,hc];rfl
  .rw[B2 hk];show(forIn l cs _:Sem _)=_;rw[qD l _ fun z hz=>h z (A8 _ hz)]
   conv=>rhs;unfold dH
   rw[B2 hk]
theorem wU{scope:Scope}{env:Env}(h:∀y∈scope.names,y.2=.free->∃c,env.cells.lookup y.1=some c):closureFor scope env=pure (dH env scope.names []):=by
 have e:=qD (env:=env) scope.names [] h;unfold closureFor
 show((forIn scope.names ([]:List (Str×Addr)) fun(x:Str×NameKind)(r:List (Str×Addr))=>if (x.2==NameKind.free)=true then(do
  let a <- cellOf env x.1
  pure (ForInStep.yield ((x.1,a)::r)))else pure (ForInStep.yield r)) >>= fun z=>pure z:Sem (List (Str×Addr)))=_
 rw[e];rfl
theorem yU{env:Env}:∀(l:List (Str×NameKind))(cs:List (Str×Addr)),(∀y∈l,y.2=.free->∃c,env.cells.lookup y.1=some c)->(∀x c,cs.lookup x=some c->env.cells.lookup x=some c)->
 ∀x c,(dH env l cs).lookup x=some c->env.cells.lookup x=some c
 |[]=>fun cs _ h x c e=>h x c e
 |y::l=>fun cs hf h x c e=>by
  unfold dH at e;refine yU l _ (fun z hz=>hf z (A8 _ hz)) ?_ x c e;intro z d ez;by_cases hk:(y.2==NameKind.free)=true
  .rw[B0 hk]at ez;obtain⟨c',hc'⟩:=hf y A9 (by simpa using hk);rw[hc']at ez;rw[D8]at ez;by_cases hz:(z==y.1)=true
   .rw[hz]at ez;have hz':z=y.1:=by simpa using hz
    rw[hz',hc'];exact ez
   .have hz':(z==y.1)=false:=by simpa using hz
    rw[hz']at ez;exact h z d ez
  .rw[B2 hk]at ez;exact h z d ez
theorem sL{env:Env}:∀(l:List (Str×NameKind))(cs:List (Str×Addr))(x:Str),((x,NameKind.free)∈l\/∃c,cs.lookup x=some c)->∃c,(dH env l cs).lookup x=some c
 |[]=>fun cs x h=>by
  rcases h with h|h
  .exact absurd h (by simp)
  .exact h
 |y::l=>fun cs x h=>by
  unfold dH;refine sL l _ x ?_;rcases h with h|⟨c,hc⟩
  .rcases List.mem_cons.mp h with e|e
   .subst e;refine .inr ?_;rw[B0 (by rfl)];exact⟨(env.cells.lookup x).getD 0,by rw[D8];simp⟩
   .exact .inl e
  .refine .inr ?_;by_cases hk:(y.2==NameKind.free)=true
   .rw[B0 hk,D8];by_cases hz:(x==y.1)=true
    .rw[hz];exact⟨_,rfl⟩
    .have hz':(x==y.1)=false:=by simpa using hz
     rw[hz'];exact⟨c,hc⟩
   .rw[B2 hk];exact⟨c,hc⟩
theorem pQ{env:Env}:∀{names:List (Str×NameKind)}{x:Str}{k:NameKind},
 (names.map fun(y:Str×NameKind)=>if (y.2==NameKind.free&&env.scope.kind==.function&&env.kindOf y.1==some .cell)=true then(y.1,NameKind.cell)else(y.1,y.2)).lookup x=some k->
 (names.lookup x=some k)\/(names.lookup x=some .free/\k=.cell)
 |[],x,k=>fun h=>by simp at h
 |y::r,x,k=>fun h=>by
  rw[C6]at h;by_cases hx:(x==y.1)=true
  .by_cases hc:(y.2==NameKind.free&&env.scope.kind==.function&&env.kindOf y.1==some .cell)=true
   .rw[B0 hc,D8,hx]at h;rw[D8,hx];have:y.2=.free:=by simp at hc;exact hc.1.1
    refine .inr ⟨by rw[this],?_⟩;cases h;rfl
   .rw[B2 hc,D8,hx]at h;rw[D8,hx];exact .inl h
  .have hx':(x==y.1)=false:=by simpa using hx
   have h':(r.map fun(y:Str×NameKind)=>if (y.2==NameKind.free&&env.scope.kind==.function&&env.kindOf y.1==some .cell)=true then(y.1,NameKind.cell)else(y.1,y.2)).lookup x=some k:=by
    by_cases hc:(y.2==NameKind.free&&env.scope.kind==.function&&env.kindOf y.1==some .cell)=true
    .rw[B0 hc,D8,hx']at h;exact h
    .rw[B2 hc,D8,hx']at h;exact h
   rw[D8,hx'];exact pQ h'
theorem vS{env:Env}:∀{names:List (Str×NameKind)}{x:Str},names.lookup x=some .free->
 (names.map fun(y:Str×NameKind)=>if (y.2==NameKind.free&&env.scope.kind==.function&&env.kindOf y.1==some .cell)=true then(y.1,NameKind.cell)else(y.1,y.2)).lookup x=some .cell \/
 (names.map fun(y:Str×NameKind)=>if (y.2==NameKind.free&&env.scope.kind==.function&&env.kindOf y.1==some .cell)=true then(y.1,NameKind.cell)else(y.1,y.2)).lookup x=some .free
 |[],x=>fun h=>by simp at h
 |y::r,x=>fun h=>by
  rw[C6];by_cases hx:(x==y.1)=true
  .rw[D8,hx]at h;have hy:y.2=.free:=D9 h;by_cases hc:(y.2==NameKind.free&&env.scope.kind==.function&&env.kindOf y.1==some .cell)=true
   .rw[B0 hc,D8,hx];exact .inl rfl
   .rw[B2 hc,D8,hx];exact .inr (by rw[hy])
  .have hx':(x==y.1)=false:=by simpa using hx
   rw[D8,hx']at h;have ih:=vS (env:=env) h;by_cases hc:(y.2==NameKind.free&&env.scope.kind==.function&&env.kindOf y.1==some .cell)=true
   .rw[B0 hc,D8,hx'];exact ih
   .rw[B2 hc,D8,hx'];exact ih
noncomputable def EH(X:Cx)(ifs:List Expr)(t:TT):Prop:=
 ∀(pins:List (Addr×Obj))(s:Shared)(σ:St)(H:Hp)(Q:Bool->Hp->Prop),Inv X pins σ H s->t σ H Q->
  wpAny (model X.prog X.w) X.A (forIn ifs true fun c r=>if r=true then(do
   let ok <- isTrue c X.env (eval c X.env)
   pure (ForInStep.yield ok))else pure (ForInStep.yield r)) (TP X pins σ Q) X.xe s
noncomputable def aEC:TT:=fun _ H Q=>Q true H
theorem QY{X:Cx}:EH X [] aEC:=fun _ _ _ H _ I h=>wpAny_tests_nil ⟨H,I,h⟩
theorem SB{X:Cx}{c:Expr}{t:TT}(h:PT X c t):EH X [c] t:=fun pins s σ H Q I hq=>wpAny_tests_one (h pins s σ H Q I hq)
section
variable{prog:Program}{w:World}{A:Around}{R:Result->Shared->Prop}{s:Shared}
theorem UJ{elt target iter:Expr}{ifs:List Expr}{scope:Scope}{pos:Pos}{it acc:Value}{env:Env}(I:Nat->Shared->Prop)
 (turn:∀n s,I n s->wpAny (model prog w) A (pyNext it) (fun r s1=>(r=none/\R (.ok .next) s1)\/∃v,r=some v /\
  wpAny (model prog w) A (letOwnedTupleGo target it v) (fun _ s2=>wpAny (model prog w) A (assign target env v) (fun _ s3=>
   wpAny (model prog w) A (forIn ifs true fun c r=>if r=true then(do
    let ok <- isTrue c env (eval c env)
    pure (ForInStep.yield ok))else pure (ForInStep.yield r)) (fun ok s4=>
     (ok=true/\wpAny (model prog w) A (eval elt env) (fun x s5=>wpAny (model prog w) A (call (.builtin "list.append") [acc,x]) (fun _ s6=>∃m,m<n/\I m s6) (fun _ _=>False) s5) (fun _ _=>False) s4) \/
     (ok=false/\∃m,m<n/\I m s4)) (fun _ _=>False) s3) (fun _ _=>False) s2) (fun _ _=>False) s1) (fun _ _=>False) s)
 (n:Nat) (h:I n s):codeAny (model prog w) A (.compLoop (.ListComp elt [⟨target,iter,ifs,0⟩] scope pos) 0 it acc env) R s:=by
 refine codeAny_loop rfl I (fun n s hI=>?_) n h
 show wpAny _ A ((compTurn (.ListComp elt [⟨target,iter,ifs,0⟩] scope pos) 0 it acc env).onRaise fun x=>do
  noteFrame x env
  theTreesLotGoes x) _ _ s
 refine wpAny_noted ?_;rw[compTurn_list];refine A1 (A0f (A1 (F9 (turn n s hI) (fun r s1 h1=>?_) fun _ _ f=>f.elim)));rcases h1 with⟨rfl,h1⟩|⟨v,rfl,h1⟩
 .exact A4 h1
 .refine A1 (F9 h1 (fun _ s2 h2=>?_) fun _ _ f=>f.elim);refine A1 (F9 h2 (fun _ s3 h3=>?_) fun _ _ f=>f.elim);refine A1 (F9 h3 (fun ok s4 h4=>?_) fun _ _ f=>f.elim);rcases h4 with⟨rfl,h4⟩|⟨rfl,h4⟩
  .refine A1 (A1 (F9 h4 (fun x s5 h5=>?_) fun _ _ f=>f.elim));exact A1 (F9 h5 (fun _ s6 h6=>A4 (A4 ⟨rfl,h6⟩)) fun _ _ f=>f.elim)
  .exact A4 ⟨rfl,h4⟩
end
noncomputable def dR(X:Cx)(N':List Str)(scope:Scope)(C:Addr)(s2:Shared)(H2:Hp)(fp:List Addr)(pn:List (Addr×Obj)):Cx:=
 { X with N:=N',s₀:=s2,H₀:=H2,env:=compEnvC scope (dH X.env scope.names []) C X.env,outer:=X.stack,stack:=X.stack,ex:=fp,fn:=fun _=>false,pn:=X.pn++pn,xe:=fun _ _=>False }
noncomputable def uJ(cap:List (Option Nat))(σ:St):St:=cap.map fun o=>o.bind fun j=>(σ[j]?).join
structure nR(X:Cx)(N':List Str)(cap:List (Option Nat))(scope:Scope):Prop where
 nocell:∀y∈scope.names,y.2≠.cell
 kind:scope.kind=.function
 names:∀y∈scope.names,y.2=.local->scope.names.lookup y.1=some .local
 frees:∀y∈scope.names,y.2=.free->X.env.kindOf y.1=some .cell\/X.env.kindOf y.1=some .free
 len:cap.length=N'.length
 cap:∀(i j:Nat),cap[i]?=some (some j)->∃x,N'[i]?=some x/\X.N[j]?=some x/\scope.names.lookup x=some .free
section
variable{X:Cx}{N':List Str}{cap:List (Option Nat)}{scope:Scope}{pins:List (Addr×Obj)}{σ:St}{H:Hp}{s:Shared}
theorem nR.cells(S:nR X N' cap scope)(ok:X.Ok):∀y∈scope.names,y.2=.free->∃c,X.env.cells.lookup y.1=some c:=fun y hy hk=>ok.has y.1 (S.frees y hy hk)
theorem nR.sub(S:nR X N' cap scope)(ok:X.Ok):∀x c,(dH X.env scope.names []).lookup x=some c->X.env.cells.lookup x=some c:=
 yU scope.names [] (S.cells ok) fun x c e=>by simp at e
theorem nR.kinds(S:nR X N' cap scope){C:Addr}{cl:List (Str×Addr)}{x:Str}(h:(compEnvC scope cl C X.env).kindOf x=some .cell\/(compEnvC scope cl C X.env).kindOf x=some .free):scope.names.lookup x=some .free:=by
 rcases h with h|h
 .rcases pQ (names:=scope.names) h with q|⟨q,_⟩
  .exact absurd rfl (S.nocell _ (J4 q))
  .exact q
 .rcases pQ (names:=scope.names) h with q|⟨q,_⟩
  .exact q
  .exact q
theorem Inv.stkAll(I:Inv X pins σ H s){b:Addr}(h1:b≠X.env.locals)(h2:b∉X.fs):b∉frs X.stack:=fun hb=>(List.mem_cons.mp (I.stkSub b hb)).elim h1 h2
theorem ED(S:nR X N' cap scope)(I:Inv X pins σ H s){fp:List Addr}{h4:Heap}{C:Addr}{tk:Nat}(hf:∀b∈fp,mR X pins H b)(hlt:∀b∈fp,b<s.heap.objs.size)
 (hC:s.heap.objs.size<=C) (hn:h4.Ns C fun _=>none) (hk:∀b o,s.heap.get? b=some o->h4.get? b=some o):
 Inv (dR X N' scope C s H fp pins) [] (uJ cap σ) H { s with heap:=h4,toks:=tk }:=by
 have cellLt:∀x c,X.env.cells.lookup x=some c->c<s.heap.objs.size:=fun x c e=>by
  obtain⟨v,q⟩:=I.cell x c e;exact q.lt
 have fresh:H C=none:=I.hok.fresh hC
 have ok:(dR X N' scope C s H fp pins).Ok:=by
  refine⟨I.ok.mod,S.kind,I.ok.glob,I.ok.blt,hC,fun x y c h1 h2=>?_,fun x hx=>?_,fun x c hx _=>?_,I.ok.hd,I.ok.frames,.inl rfl,fun b hb=>⟨?_,fun x c e=>?_⟩,I.bs,C7 I.ok.bsz I.sz,fun b o e hb=>?_,fun b hb=>?_,I.stack,I.stkFree⟩
  .exact I.ok.inj x y c (S.sub I.ok x c h1) (S.sub I.ok y c h2)
  .exact sL scope.names [] x (.inl (J4 (S.kinds hx)))
  .exact absurd hx (by show ¬(false=true);decide)
  .exact B7 (B8 (hlt b hb) hC)
  .exact(hf b hb).2.2.2.2.1 x c (S.sub I.ok x c e)
  .rcases (hf b hb).2.2.2.1 with z|z
   .exact I.ok.noex b o e z
   .exact absurd (B8 (A6 (I.ok.bs b o e).1) z) (J2 _)
  .exact I.stkAll (hf b hb).2.1 (hf b hb).2.2.1
 refine⟨ok,rfl,I.bare,Un.kept hk,⟨_,hn,fun i x v h1 h2 h3=>?_⟩,fun x c e=>?_,fresh,fun x c e=>I.freeC x c (S.sub I.ok x c e),fun p hp=>?_,I.hok.kept hk,?_⟩
 .-- a name that is caught
  have h2':(cap[i]?).map (fun o=>o.bind fun j=>(σ[j]?).join)=some (some v):=by
   have:(uJ cap σ)[i]?=some (some v):=h2;unfold uJ at this;rw[C0]at this;exact this
  cases e:cap[i]? with
  |none=>rw[e]at h2';simp at h2'
  |some o=>
   cases o with
   |none=>rw[e]at h2';simp at h2'
   |some j=>
    rw[e]at h2';obtain⟨x',a1,a2,a3⟩:=S.cap i j e
    have ex:x'=x:=by
     have:N'[i]?=some x:=h1;rw[a1]at this;exact D9 this
    subst ex
    have sv:σ[j]?=some (some v):=by
     have q:(σ[j]?).join=some v:=D9 h2';cases f:σ[j]? with
     |none=>rw[f]at q;simp at q
     |some o=>rw[f]at q;cases o with
      |none=>simp at q
      |some v'=>simp at q;rw[q]
    have hv:X.env.kindOf x'=some .cell\/X.env.kindOf x'=some .free:=S.frees _ (J4 a3) rfl;obtain⟨m,hm,hl⟩:=I.loc;obtain⟨u,r,l⟩:=hl j x' v a2 sv (hv.elim (fun z=>.inr (.inl z)) fun z=>.inr (.inr z));refine⟨u,r,.inr ⟨?_,?_⟩⟩
    .exact vS (env:=X.env) (names:=scope.names) a3
    .rcases l with⟨hk',_⟩|⟨_,c,hc,o,ho,hd⟩
     .rcases hv with z|z<;>rw[z]at hk'<;>cases hk'
     .obtain⟨c',hc'⟩:=sL (env:=X.env) scope.names [] x' (.inl (J4 a3));have:=S.sub I.ok x' c' hc';rw[hc]at this;cases this;exact⟨c,hc',o,hk c o ho,hd⟩
 .obtain⟨v,o,ho,hd⟩:=I.cell x c (S.sub I.ok x c e);exact⟨v,o,hk c o ho,hd⟩
 .have hp':p∈X.pn++pins:=by
   rcases List.mem_append.mp hp with z|z
   .exact z
   .exact absurd z (by simp)
  obtain⟨e,n,ne,nf,d⟩:=I.pin p hp';exact⟨hk _ _ e,n,B7 (B8 (A6 e) hC),I.stkAll ne nf,d⟩
 .show(uJ cap σ).length=N'.length;unfold uJ;rw[A3];exact S.len
end
noncomputable def tLc(cap:List (Option Nat))(wi:TI)(g:TG)(tc:TT)(te:TE):TE:=fun σ H Q=>wi σ H fun J H1=>∃W:Nat->Nat->List V->St->Hp->Prop,(∃m,W 0 m [] (uJ cap σ) H1)/\∀i m acc σ' H',W i m acc σ' H'->
 (J.stop i H'/\∀p,H' p=none->Q (.ref p) (upd H' p (.lst acc))) \/
 (J.go i H'/\acc.length<sizeLine/\∃N:List V->St->Hp->Prop,(∀acc' σ2 H2,N acc' σ2 H2->∃m',m'<m/\W (i+1) m' acc' σ2 H2)/\∀x H2,J.yld i H' x H2->g x σ' H2 fun σ2 H3=>tc σ2 H3 fun b H4=>(b=true/\te σ2 H4 fun v H5=>N (acc++[v]) σ2 H5)\/(b=false/\N acc σ2 H4))
section
variable{X:Cx}{N':List Str}{cap:List (Option Nat)}{scope:Scope}
theorem QJ{elt tg iter:Expr}{ifs:List Expr}{pos:Pos}{wi:TI}{g:TG}{tc:TT}{te:TE}(hc:X.calm=true)(S:nR X N' cap scope)(hi:PI X tg iter wi)
 (hg:∀C s H fp pn,PG (dR X N' scope C s H fp pn) tg g) (hif:∀C s H fp pn,EH (dR X N' scope C s H fp pn) ifs tc) (he:∀C s H fp pn,PE (dR X N' scope C s H fp pn) elt te)
 (hs:∀x,foldedSetIterable iter X.env x=pure x) {pins:List (Addr×Obj)} {s:Shared} {σ:St} {H:Hp} {Q:VK} (I:Inv X pins σ H s) (h:tLc cap wi g tc te σ H Q)
 {use:Option (Value->Sem Unit)} {QQ:Value->Shared->Prop}
 (post:∀(D C:Addr)(H':Hp)(acc:List V)(s':Shared),D≠C->(∃m,s'.heap.Ns C m)->(∀h',Heap.SameBut C s'.heap h'->Inv X pins σ (upd H' D (.lst acc)) { s' with heap:=h' })->mR X pins (upd H' D (.lst acc)) C->Q (.ref D) (upd H' D (.lst acc))->compPost (model X.prog X.w) X.A X.xe use QQ (.ref D) C (.ok .next) s'):
 wpAny (model X.prog X.w) X.A (comprehension (.ListComp elt [⟨tg,iter,ifs,0⟩] scope pos) scope X.env (firstIterPos [⟨tg,iter,ifs,0⟩] pos) (newList []) false (firstIter [⟨tg,iter,ifs,0⟩] X.env) use) QQ X.xe s:=by
 refine wpAny_comprehension_free (e:=.ListComp elt [⟨tg,iter,ifs,0⟩] scope pos) (g:=⟨tg,iter,ifs,0⟩) (gs:=[]) rfl hs (wU (S.cells I.ok)) S.kind S.names ?_;refine thn (hi pins s σ H _ I h) fun v s1 h1=>thn h1 fun itv s2 h2=>?_;obtain⟨it,fp,tn,J,H2,e,I2,T,st2,f2,W,⟨m0,w0⟩,turn⟩:=h2;subst e
 have fplt:∀b∈fp,b<s2.heap.objs.size:=fun b hb=>by
  obtain⟨o,e,_⟩:=T.obj _ _ st2 b hb;exact A6 e
 refine C9 (wpAny_newFunctionEnv S.nocell (fun y hy=>by simp at hy) (fun h1' hns hsb=>?_) S.kind);dsimp only at hns hsb ⊢;generalize hP:s2.heap.push { cls:=.type "list",dict:=none,data:=.seq ([]:List Value).toArray }=P2 at hns hsb ⊢;have hsz:P2.objs.size=s2.heap.objs.size+1:=by rw[<- hP,L8]
 have hDC:s2.heap.objs.size≠P2.objs.size:=by rw[hsz];exact B7 (L6 _)
 have hC:s2.heap.objs.size<=P2.objs.size:=by rw[hsz];exact Z6 _
 have keepP:∀b o,P2.get? b=some o->b≠P2.objs.size->h1'.get? b=some o:=fun b o e hb=>hsb.extBut b o hb (A2 _ e);have old:∀b o,s2.heap.get? b=some o->h1'.get? b=some o:=fun b o e=>keepP b o (by rw[<- hP];exact A2 _ e) (B7 (B8 (A6 e) hC));have hD0:h1'.get? s2.heap.objs.size=some { cls:=.type "list",data:=.seq #[] 0 }:=keepP _ _ (by rw[<- hP];exact B1 _ rfl) hDC
 have I4:Inv (dR X N' scope P2.objs.size s2 H2 fp pins) [] (uJ cap σ) H2 { s2 with heap:=h1',toks:=s2.toks+([]:List (Str×Value)).length }:=
  ED S I2 f2 fplt hC (by simpa using hns) old
 have loop:∀s4:Shared,s4={ s2 with heap:=h1',toks:=s2.toks+([]:List (Str×Value)).length }->
  codeAny (model X.prog X.w) X.A (.compLoop (.ListComp elt [⟨tg,iter,ifs,0⟩] scope pos) 0 (.ref it) (.ref s2.heap.objs.size) (compEnvC scope (dH X.env scope.names []) P2.objs.size X.env)) (compPost (model X.prog X.w) X.A X.xe use QQ (.ref s2.heap.objs.size) P2.objs.size) s4:=by
  rintro s4 rfl
  have hfrD:s2.heap.objs.size∉frs X.stack:=fun hb=>by
   obtain⟨_,o,ho,_⟩:=I2.stack.mem hb;exact absurd (A6 ho) (J2 _)
  have cne:∀x c,(dH X.env scope.names []).lookup x=some c->c<s2.heap.objs.size:=fun x c e=>by
   obtain⟨v,q⟩:=I2.cell x c (S.sub I2.ok x c e);exact q.lt
  have stat:∀{Hx:Hp}{ob:Obj},(∀b∈fp,Hx b=none)->∀b∈fp,mR (dR X N' scope P2.objs.size s2 H2 fp pins) [(s2.heap.objs.size,ob)] Hx b:=fun{Hx ob} hn b hb=>by
   refine⟨hn b hb,B7 (B8 (fplt b hb) hC),I2.stkAll (f2 b hb).2.1 (f2 b hb).2.2.1,.inl hb,fun x c e=>(f2 b hb).2.2.2.2.1 x c (S.sub I2.ok x c e),fun p hp=>?_⟩;rcases List.mem_append.mp hp with z|z
   .exact(f2 b hb).2.2.2.2.2 p z
   .rw[List.mem_singleton.mp z];exact J0 (fplt b hb)
  refine UJ (fun n s'=>∃(i:Nat)(σ':St)(H':Hp)(acc:List V)(its:List Value)(nn:Nat),Inv (dR X N' scope P2.objs.size s2 H2 fp pins) [] σ' H' s'/\tn i s'.heap/\(∀b∈fp,H' b=none)/\H' s2.heap.objs.size=none /\
   s'.heap.get? s2.heap.objs.size=some { cls:=.type "list",data:=.seq its.toArray nn }/\aU acc its/\acc.length<=sizeLine/\W i n acc σ' H') ?_ m0
   ⟨0,uJ cap σ,H2,[],[],0,I4,T.keep _ _ _ st2 fun b _ o e=>old b o e,fun b hb=>(f2 b hb).1,I2.hok.fresh (A7 _),hD0,.nil,J5 _,w0⟩
  rintro n s5 ⟨i,σ',H',acc,its,nn,I5,t5,fr5,d5,g5,va,la,w5⟩
  have I5p:Inv (dR X N' scope P2.objs.size s2 H2 fp pins) [(s2.heap.objs.size,{ cls:=.type "list",data:=.seq its.toArray nn })] σ' H' s5:=I5.pins_of fun p hp=>by
   rw[List.mem_singleton.mp hp];exact⟨g5,d5,hDC,hfrD,fun v z=>by cases z⟩
  rcases turn i n acc σ' H' w5 with⟨stop,q⟩|⟨go,lt,N,hN,step⟩
  .refine thn (T.done (dR X N' scope P2.objs.size s2 H2 fp pins) rfl rfl rfl hc i _ s5 σ' H' _ I5p (stat fr5) t5 stop) fun r s6 ⟨hr,I6⟩=>.inl ⟨hr,?_⟩;have d6:=(I6.pin (s2.heap.objs.size,{ cls:=.type "list",data:=.seq its.toArray nn }) (by simp)).1;have nC:H' P2.objs.size=none:=I6.free;refine post _ _ H' acc s6 hDC (let⟨m,hn,_⟩:=I6.loc;⟨m,hn⟩) (fun h' hs'=>?_) (I2.fpOk hC (by rw[aL hDC.symm];exact nC)) (q _ d5);have up:∀b o,b≠P2.objs.size->s6.heap.get? b=some o->h'.get? b=some o:=fun b o hb e=>hs'.extBut b o hb e;have ltC:∀b o,s2.heap.get? b=some o->b≠P2.objs.size/\b≠s2.heap.objs.size:=fun b o e=>⟨B7 (B8 (A6 e) hC),B7 (A6 e)⟩;have u6:Un (frs X.stack) fp H2 H' s2.heap s6.heap:=I6.base
   have u7:Un (frs X.stack) fp H2 (upd H' s2.heap.objs.size (.lst acc)) s2.heap h':=by
    refine⟨fun b o e n hb hx=>up b o (ltC b o e).1 (u6.keep b o e n hb hx),fun b o e n hb hx=>?_,fun b o e n hx=>?_,fun b o e hx=>?_,fun b xs e=>?_,fun b o u e=>?_,fun b ps e=>?_⟩
    .obtain⟨sl,q⟩:=u6.slot b o e n hb hx;exact⟨sl,up b _ (ltC b o e).1 q⟩
    .rw[aL (ltC b o e).2];exact u6.free b o e n hx
    .obtain⟨o',q⟩:=u6.there b o e hx;exact⟨o',up b o' (ltC b o e).1 q⟩
    .have z:=u6.tups b xs e;rw[aL (aO z d5)];exact z
    .have z:=u6.frzs b o u e;rw[aL (aO z d5)];exact z
    .obtain⟨more,z⟩:=u6.tbls b ps e;exact⟨more,by rw[aL (aO z d5)];exact z⟩
   have ok7:HOk X.prog X.w (upd H' s2.heap.objs.size (.lst acc)) h':=fun b u e=>by
    by_cases hb:b=s2.heap.objs.size
    .subst hb;rw[aP]at e;cases e;exact⟨la,its,nn,va,up _ _ hDC d6⟩
    .rw[aL hb]at e;refine(I6.hok b u e).stay (fun c v hc' z=>up c v ?_ z) (fun c z=>by rw[aL (aO z d5)];exact z) fun c xs z=>by rw[aL (aO z d5)];exact z
     rcases hc' with rfl|z
     .exact aO e nC
     .exact aO z nC
   have os6:s6.os=s2.os:=I6.os;have ba6:=I6.bare;obtain⟨hh,gg,dd,tt,oo⟩:=s6;subst os6;have z7:=I2.call (s:=s2) (h':=h') (g':=gg) (d':=dd) (t':=tt) (ch:=fp) u7 ok7 ba6 fun b hb=>⟨(f2 b hb).2.2.2.1,(f2 b hb).2.1,(f2 b hb).2.2.2.2.1,(f2 b hb).2.2.2.2.2⟩;exact z7
  .refine thn (T.item (dR X N' scope P2.objs.size s2 H2 fp pins) rfl rfl rfl hc i _ s5 σ' H' _ I5p (stat fr5) t5 go) fun r s6 ⟨u,hr,h6⟩=>.inr ⟨u,hr,?_⟩;refine thn h6 fun _ s7 ⟨x,H7,I7,r7,y7,t7,fr7⟩=>?_;have I7':=I7.pinned (stat fr7) (T.obj _ _ t7)
   have back:∀{σx:St}{Hx:Hp}{sx:Shared},Inv (dR X N' scope P2.objs.size s2 H2 fp pins) ([(s2.heap.objs.size,{ cls:=.type "list",data:=.seq its.toArray nn })]++tG fp s7.heap) σx Hx sx->
    (∀b∈fp,∀o,s7.heap.get? b=some o->sx.heap.get? b=some o)/\(∀b∈fp,Hx b=none)/\sx.heap.get? s2.heap.objs.size=some { cls:=.type "list",data:=.seq its.toArray nn }/\Hx s2.heap.objs.size=none:=fun{σx Hx sx} Ix=>by
    refine⟨fun b hb o e=>(Ix.pin (b,o) (C8 _ (C8 _ (gO hb e)))).1,fun b hb=>?_,?_,?_⟩
    .obtain⟨o,e,_⟩:=T.obj _ _ t7 b hb;exact(Ix.pin (b,o) (C8 _ (C8 _ (gO hb e)))).2.1
    .exact(Ix.pin (s2.heap.objs.size,_) (C8 _ (U5 _ (List.mem_singleton.mpr rfl)))).1
    .exact(Ix.pin (s2.heap.objs.size,{ cls:=.type "list",data:=.seq its.toArray nn }) (C8 _ (U5 _ (List.mem_singleton.mpr rfl)))).2.1
   refine thn (hg _ _ _ _ _ _ s7 σ' H7 x u _ I7' r7 (step x H7 y7)) fun _ s8 ⟨σ8,H8,I8,q8⟩=>?_;refine thn (hif _ _ _ _ _ _ s8 σ8 H8 _ I8 q8) fun b s9 ⟨H9,I9,q9⟩=>?_;rcases q9 with⟨rfl,q9⟩|⟨rfl,n9⟩
   .refine .inl ⟨rfl,thn (he _ _ _ _ _ _ s9 σ8 H9 _ I9 q9) fun uv s10 ⟨v,H10,I10,rv,n10⟩=>?_⟩;obtain⟨m',hm,w10⟩:=hN _ _ _ n10;obtain⟨b1,b2,b3,b4⟩:=back I10;refine wpAny_list_append_plain ⟨nn,b3⟩ (fun h' hp hs'=>?_) (by rw[C1,<- va.length];exact la);obtain⟨n2,e2⟩:=hp;have up:∀b o,b≠s2.heap.objs.size->s10.heap.get? b=some o->h'.get? b=some o:=fun b o hb e=>hs'.extBut b o hb e;have I10':Inv (dR X N' scope P2.objs.size s2 H2 fp pins) [] σ8 H10 s10:=I10.pins_of fun p hp=>absurd hp (by simp);refine⟨m',hm,i+1,σ8,H10,acc++[v],its++[uv],n2,I10'.turned (t':=s10.toks) up b4 hDC (.inr (A7 _)) (fun x c e=>B7 (cne x c e)) (fun p hp=>?_),T.keep _ _ _ t7 fun b hb o e=>up b o (B7 (fplt b hb)) (b1 b hb o e),b2,b4,?_,va.append (.cons rv .nil),?_,w10⟩
    .have hp':p∈X.pn++pins:=by
      rcases List.mem_append.mp hp with z|z
      .exact z
      .exact absurd z (by simp)
     exact B7 (A6 (I2.pin p hp').1)
    .rw[e2];simp
    .rw[B9,E7];exact lt
   .obtain⟨m',hm,w9⟩:=hN _ _ _ n9;obtain⟨b1,b2,b3,b4⟩:=back I9;exact .inr ⟨rfl,m',hm,i+1,σ8,H9,acc,its,nn,I9.pins_of fun p hp=>absurd hp (by simp),T.keep _ _ _ t7 b1,b2,b4,b3,va,la,w9⟩
 exact codeAny_compStart_list (loop _ rfl) (T.self _ 0 _ _ _ (T.keep _ _ _ st2 fun b _ o e=>old b o e) (loop _ rfl))
theorem aEE{elt tg iter:Expr}{ifs:List Expr}{pos:Pos}{wi:TI}{g:TG}{tc:TT}{te:TE}(hc:X.calm=true)(S:nR X N' cap scope)(hi:PI X tg iter wi)
 (hg:∀C s H fp pn,PG (dR X N' scope C s H fp pn) tg g) (hif:∀C s H fp pn,EH (dR X N' scope C s H fp pn) ifs tc) (he:∀C s H fp pn,PE (dR X N' scope C s H fp pn) elt te)
 (hs:∀x,foldedSetIterable iter X.env x=pure x:=by intro _;rfl):PE X (.ListComp elt [⟨tg,iter,ifs,0⟩] scope pos) (tLc cap wi g tc te):=by
 intro pins s σ H Q I h;rw[eval_ListComp];refine QJ (use:=none) (Q:=Q) hc S hi hg hif he hs I h fun D C H' acc s' hDC ⟨m,hn⟩ hI _ hq=>⟨m,hn,fun h' hs'=>?_⟩;exact⟨.ref D,_,hI h' hs',rfl,hq⟩
theorem OO{i:Nat}{x:Str}{elt tg iter:Expr}{ifs:List Expr}{pos pos' pos'':Pos}{wi:TI}{g:TG}{tc:TT}{te:TE}(hN:X.N.Nodup)(hix:X.N[i]?=some x)(hc:X.calm=true)(S:nR X N' cap scope)(hi:PI X tg iter wi)
 (hg:∀C s H fp pn,PG (dR X N' scope C s H fp pn) tg g) (hif:∀C s H fp pn,EH (dR X N' scope C s H fp pn) ifs tc) (he:∀C s H fp pn,PE (dR X N' scope C s H fp pn) elt te)
 (hsw:swapsWith (.ListComp elt [⟨tg,iter,ifs,0⟩] scope pos) (some (.Name x pos')) pos''.line X.env=pure true:=by rfl) (hx:X.env.scope.names.lookup x=some .local:=by rfl)
 (hs:∀x,foldedSetIterable iter X.env x=pure x:=by intro _;rfl):PS X (.Assign [.Name x pos'] (.ListComp elt [⟨tg,iter,ifs,0⟩] scope pos) pos'') (ZG (tLc cap wi g tc te) (EB i)):=by
 intro pins s σ H D I h;rw[exec_Assign_Name_used _ _ _ _ hsw];refine A1 (A0f (A1 ?_));show wpAny _ _ (comprehension (.ListComp elt [⟨tg,iter,ifs,0⟩] scope pos) scope X.env _ (newList []) false (firstIter [⟨tg,iter,ifs,0⟩] X.env) (some (assign (.Name x pos') X.env)) >>= fun _=>pure ()) _ _ s;refine A1 (thn (QJ (use:=some (assign (.Name x pos') X.env)) (QQ:=fun _ s'=>∃σ' H',Inv X pins σ' H' s'/\D.nx σ' H') (Q:=fun v H1=>EB i v σ H1 D.nx) hc S hi hg hif he hs I h fun E C H' acc s' hDC ⟨m,hn⟩ hI fC hq=>?_) fun _ s' hz=>A4 (A4 hz));have I1:Inv X pins σ (upd H' E (.lst acc)) s':=hI s'.heap (Heap.SameBut.refl ..);have I1:Inv X pins σ (upd H' E (.lst acc)) s':=I1;refine wpAny_assign_Name (zA (M:=model X.prog X.w) (A:=X.A) (E:=X.xe) I1 hN hix (.inl hx) (v:=.ref E) (u:=.ref E) rfl (fun s2 I2 hsb=>?_) (.inr hx));obtain⟨a,hs2,ha⟩:=hsb
 have hne:C≠a:=by
  rcases ha with z|z
  .rw[z];exact fC.2.1
  .exact fun w=>fC.2.2.2.2.1 x a z w.symm
 refine⟨m,hn.extBut hs2.extBut hne,fun h' hs'=>?_⟩;exact⟨_,_,I2.turned (t':=s2.toks) (fun b o hb e=>hs'.extBut b o hb e) fC.1 fC.2.1 fC.2.2.2.1 fC.2.2.2.2.1 fC.2.2.2.2.2,hq⟩
end
noncomputable def rG:Key->PyData
 |.inl i=>.int i
 |.inr x=>.str x
mutual
noncomputable def Rep(K:Fg)(H:Hp):PyData->V->Prop
 |.none,v=>v=.non
 |.bool b,v=>v=.bl b
 |.int i,v=>v=.int i
 |.str x,v=>v=.str x
 |.list xs,v=>∃a vs,v=.ref a/\SqL K H a vs/\aJ K H xs vs
 |.tuple xs,v=>∃a vs,v=.ref a/\SqT K H a vs/\aJ K H xs vs
 |.dict kvs,v=>∃a ks,v=.ref a/\H a=some (.dK ks)/\nG K H kvs ks
noncomputable def aJ(K:Fg)(H:Hp):List PyData->List V->Prop
 |[],vs=>vs=[]
 |d::ds,vs=>∃v r,vs=v::r/\Rep K H d v/\aJ K H ds r
noncomputable def nG(K:Fg)(H:Hp):List (PyData×PyData)->List (Key×V)->Prop
 |[],ks=>ks=[]
 |(k,d)::kvs,ks=>∃k' v r,ks=(k',v)::r/\k=rG k'/\Rep K H d v/\nG K H kvs r
end
theorem gV.seqT{a:Addr}{xs:List V}(e:gV H H')(h:SqT K H a xs):SqT K H' a xs:=by
 rcases h with h|h
 .refine .inl ?_;rcases h with h|⟨o,h⟩
  .exact .inl (e _ _ h)
  .exact .inr ⟨o,e _ _ h⟩
 .exact .inr h
mutual
theorem Rep.same{K:Fg}{H H':Hp}(e:gV H H'):∀(d:PyData)(v:V),Rep K H d v->Rep K H' d v
 |.none=>fun v h=>h
 |.bool b=>fun v h=>h
 |.int i=>fun v h=>h
 |.str x=>fun v h=>h
 |.list xs=>fun v h=>by
  obtain⟨a,vs,h1,h2,h3⟩:=h;exact⟨a,vs,h1,e.seq h2,aJ.same e xs vs h3⟩
 |.tuple xs=>fun v h=>by
  obtain⟨a,vs,h1,h2,h3⟩:=h;exact⟨a,vs,h1,e.seqT h2,aJ.same e xs vs h3⟩
 |.dict kvs=>fun v h=>by
  obtain⟨a,ks,h1,h2,h3⟩:=h;exact⟨a,ks,h1,e _ _ h2,nG.same e kvs ks h3⟩
theorem aJ.same{K:Fg}{H H':Hp}(e:gV H H'):∀(ds:List PyData)(vs:List V),aJ K H ds vs->aJ K H' ds vs
 |[]=>fun vs h=>h
 |d::ds=>fun vs h=>by
  obtain⟨v,r,h1,h2,h3⟩:=h;exact⟨v,r,h1,Rep.same e d v h2,aJ.same e ds r h3⟩
theorem nG.same{K:Fg}{H H':Hp}(e:gV H H'):∀(kvs:List (PyData×PyData))(ks:List (Key×V)),nG K H kvs ks->nG K H' kvs ks
 |[]=>fun ks h=>h
 |(k,d)::kvs=>fun ks h=>by
  obtain⟨k',v,r,h1,h2,h3,h4⟩:=h;exact⟨k',v,r,h1,h2,Rep.same e d v h3,nG.same e kvs r h4⟩
end
theorem aJ.length{K:Fg}{H:Hp}:∀{ds:List PyData}{vs:List V},aJ K H ds vs->ds.length=vs.length
 |[],vs=>fun h=>by rw[show vs=[]from h];rfl
 |d::ds,vs=>fun h=>by
  obtain⟨v,r,h1,_,h3⟩:=h;rw[h1,E9,E9,aJ.length h3]
theorem aJ.get{K:Fg}{H:Hp}:∀{ds:List PyData}{vs:List V}{i:Nat}{v:V},aJ K H ds vs->vs[i]?=some v->∃d,ds[i]?=some d/\Rep K H d v
 |[],vs,i,v=>fun h e=>by rw[show vs=[]from h]at e;simp at e
 |d::ds,vs,0,v=>fun h e=>by
  obtain⟨w,r,h1,h2,h3⟩:=h;rw[h1]at e;simp at e;subst e;exact⟨d,rfl,h2⟩
 |d::ds,vs,i+1,v=>fun h e=>by
  obtain⟨w,r,h1,h2,h3⟩:=h;rw[h1]at e;exact aJ.get (i:=i) h3 (by simpa using e)
theorem aJ.app{K:Fg}{H:Hp}:∀{ds es:List PyData}{vs ws:List V},aJ K H ds vs->aJ K H es ws->aJ K H (ds++es) (vs++ws)
 |[],es,vs,ws=>fun h k=>by rw[show vs=[]from h];exact k
 |d::ds,es,vs,ws=>fun h k=>by
  obtain⟨v,r,h1,h2,h3⟩:=h;exact⟨v,r++ws,by rw[h1];rfl,h2,aJ.app h3 k⟩
section
variable{X:Cx}{pins:List (Addr×Obj)}{σ:St}{H:Hp}{s:Shared}
theorem Inv.sysN(I:Inv X pins σ H s):H sysModules=none:=by
 obtain⟨o,es,ep,h,_⟩:=I.mod.sysm;exact(I.bs _ _ h).2
theorem Inv.sysL(I:Inv X pins σ H s){a:Addr}{xs:List V}(h:SqL X.K H a xs):sysModules≠a:=by
 intro e;subst e;have hn:=I.sysN;rcases h with(h|⟨o,h⟩)|⟨o,its,n,hk,_,_,hd,_⟩
 .rw[hn]at h;cases h
 .rw[hn]at h;cases h
 .obtain⟨o',es,ep,h',hd'⟩:=I.mod.sysm;have:=I.mod.kin _ _ hk;rw[h']at this;cases this;rw[hd]at hd';cases hd'
mutual
theorem Rep.reads'(I:Inv X pins σ H s):∀(d:PyData)(v:V)(u:Value),Rep X.K H d v->RelV v u->∃as,Reads s.heap u d as/\sysModules∉as
 |.none=>fun v u r q=>by
  rw[show v=.non from r]at q;rw[show u=Value.none from q];exact⟨_,.none,by simp⟩
 |.bool b=>fun v u r q=>by
  rw[show v=.bl b from r]at q;rw[show u=Value.bool b from q];exact⟨_,.bool b,by simp⟩
 |.int i=>fun v u r q=>by
  rw[show v=.int i from r]at q;obtain⟨t,rfl⟩:=(show ∃t,u=Value.int i t from q);exact⟨_,.int i t,by simp⟩
 |.str x=>fun v u r q=>by
  rw[show v=.str x from r]at q;obtain⟨t,rfl⟩:=(show ∃t,u=Value.str x t from q);exact⟨_,.str x t,by simp⟩
 |.list xs=>fun v u r q=>by
  obtain⟨a,vs,rfl,h2,h3⟩:=r;rw[show u=Value.ref a from q];obtain⟨its,hv,⟨o,n,hg,hc,_,hd⟩,_⟩:=I.list h2;obtain⟨as,ha,hs⟩:=aJ.reads' I xs vs its h3 hv;exact⟨_,.list hg hc hd (by simpa using ha),fun z=>(List.mem_cons.mp z).elim (I.sysL h2) hs⟩
 |.tuple xs=>fun v u r q=>by
  obtain⟨a,vs,rfl,h2,h3⟩:=r;rw[show u=Value.ref a from q];obtain⟨its,hv,⟨o,hg,hc,n,hd⟩,_⟩:=I.tuple h2;obtain⟨as,ha,hs⟩:=aJ.reads' I xs vs its h3 hv;exact⟨_,.tuple hg hc hd (by simpa using ha),hs⟩
 |.dict kvs=>fun v u r q=>by
  obtain⟨a,ks,rfl,h2,h3⟩:=r;rw[show u=Value.ref a from q];obtain⟨_,hS,vs,hkv,o,es,ep,hg,hex,hd,_,hp,_⟩:=(show bT X.prog X.w H s.heap a (.dK ks)from I.hok a _ h2);obtain⟨as,bs,h4,h5,n1,n2⟩:=nG.reads' I kvs ks vs es.toList h3 hkv hp;refine⟨_,.dict hg hex.1 hd h4 h5,fun z=>?_⟩;rcases List.mem_append.mp z with z|z
  .rcases List.mem_cons.mp z with z|z
   .rw[z]at hS;simp at hS
   .exact n1 z
  .exact n2 z
theorem aJ.reads'(I:Inv X pins σ H s):∀(ds:List PyData)(vs:List V)(us:List Value),aJ X.K H ds vs->aU vs us->∃as,ReadsAll s.heap us ds as/\sysModules∉as
 |[]=>fun vs us r q=>by
  rw[show vs=[]from r]at q;cases q;exact⟨_,.nil,by simp⟩
 |d::ds=>fun vs us r q=>by
  obtain⟨v,t,rfl,h2,h3⟩:=r;cases q with
  |cons q1 q2=>
   obtain⟨as,ha,n1⟩:=Rep.reads' I d v _ h2 q1;obtain⟨bs,hb,n2⟩:=aJ.reads' I ds t _ h3 q2;exact⟨_,.cons ha hb,fun z=>(List.mem_append.mp z).elim n1 n2⟩
theorem nG.reads'(I:Inv X pins σ H s):∀(kvs:List (PyData×PyData))(ks:List (Key×V))(vs:List (Key×Value))(es:List DictEntry),nG X.K H kvs ks->KV ks vs->Pairs (cW X.prog X.w) es vs->
 ∃as bs,ReadsAll s.heap (es.map (·.key)) (kvs.map (·.1)) as/\ReadsAll s.heap (es.map (·.val)) (kvs.map (·.2)) bs/\sysModules∉as/\sysModules∉bs
 |[]=>fun ks vs es r q p=>by
  rw[show ks=[]from r]at q;cases q;cases p;exact⟨_,_,.nil,.nil,by simp,by simp⟩
 |(k,d)::kvs=>fun ks vs es r q p=>by
  obtain⟨k',v,t,rfl,h1,h2,h3⟩:=r;cases q with
  |@cons _ kv _ vs' q1 q2=>
   cases p with
   |@cons e _ es' _ p1 p2 p3=>
    obtain⟨as,bs,ha,hb,n1,n2⟩:=nG.reads' I kvs t _ _ h3 q2 p3;obtain⟨cs,hc,n3⟩:=Rep.reads' I d v _ h2 q1.2
    have hkey:Reads s.heap e.key k []:=by
     rw[h1];have p1':xB kv.1 e.key=true:=p1;rw[<- show k'=kv.1 from q1.1]at p1';rcases cG p1' with⟨i,t',rfl,he⟩|⟨x,t',rfl,he⟩
     .rw[he];exact .int i t'
     .rw[he];exact .str x t'
    refine⟨_,_,.cons hkey ha,.cons (show Reads s.heap e.val d cs by rw[p2];exact hc) hb,by simpa using n1,fun z=>(List.mem_append.mp z).elim n3 n2⟩
end
theorem Rep.reads(I:Inv X pins σ H s)(d:PyData)(v:V)(u:Value)(r:Rep X.K H d v)(q:RelV v u):∃as,Reads s.heap u d as:=let⟨as,h,_⟩:=Rep.reads' I d v u r q;⟨as,h⟩
theorem aJ.reads(I:Inv X pins σ H s)(ds:List PyData)(vs:List V)(us:List Value)(r:aJ X.K H ds vs)(q:aU vs us):∃as,ReadsAll s.heap us ds as:=let⟨as,h,_⟩:=aJ.reads' I ds vs us r q;⟨as,h⟩
end
section
variable{X:Cx}
noncomputable def GI(K:Fg)(neg:Bool):R2:=fun x y H Q=>∃dx dy,Rep K H dx x/\Rep K H dy y/\SeqAt.shaped dx=true/\SeqAt.shaped dy=true/\Q (.bl (if neg then !PyData.eqv dx dy else PyData.eqv dx dy)) H
theorem TL(hu:X.A.units+64<cLine):OpR X (compareOp .Eq) (GI X.K false):=by
 intro pins s σ H x y v u Q I rx ry h;obtain⟨dx,dy,hx,hy,sx,sy,q⟩:=h;obtain⟨as,ha⟩:=Rep.reads I dx x v hx rx;obtain⟨bs,hb⟩:=Rep.reads I dy y u hy ry;exact eq_dataH ha hb sx sy hu ⟨.bl _,H,I,rfl,q⟩
theorem aCB(hu:X.A.units+64<cLine):OpR X (compareOp .NotEq) (GI X.K true):=by
 intro pins s σ H x y v u Q I rx ry h;obtain⟨dx,dy,hx,hy,sx,sy,q⟩:=h;obtain⟨as,ha⟩:=Rep.reads I dx x v hx rx;obtain⟨bs,hb⟩:=Rep.reads I dy y u hy ry;exact ne_dataH ha hb sx sy hu ⟨.bl _,H,I,rfl,q⟩
open Classical in
noncomputable def pB(h:Heap)(dv:PyData)(u:Value):Bool:=if ∃d as,Reads h u d as/\PyData.eqv d dv=true then true else false
theorem WS{h:Heap}{dv d:PyData}{u:Value}{as:List Addr}(r:Reads h u d as)(hc:d.canLay0=true):pB h dv u=PyData.eqv d dv:=by
 unfold pB;by_cases e:PyData.eqv d dv=true
 .rw[B0 ⟨d,as,r,e⟩,e]
 .rw[B2,Bool.eq_false_iff.mpr e];rintro⟨d',as',r',e'⟩;have:=SeqAt.Reads.unique d d' u as as' hc r r';subst this;exact e e'
theorem nI{A:Around}{s:Shared}{v:Value}{dv:PyData}{av:List Addr}(hv:Reads s.heap v dv av)(sv:SeqAt.shaped dv=true)(hu:A.units+64<cLine):
 ∀(us:List Value)(ds:List PyData)(as:List Addr),ReadsAll s.heap us ds as->ds.all SeqAt.shaped=true->(∀y∈us,SeqAt.EqAt A s y v (pB s.heap dv y))/\us.any (pB s.heap dv)=ds.any fun d=>PyData.eqv d dv
 |[]=>fun ds as r _=>by
  cases r;exact⟨fun y hy=>absurd hy (by simp),rfl⟩
 |y::us=>fun ds as r hs=>by
  cases r with
  |@cons _ _ d ds' as1 bs1 r1 r2=>
   rw[Z5,B5]at hs;obtain⟨h1,h2⟩:=nI hv sv hu us _ _ r2 hs.2;have e:=WS (dv:=dv) r1 (U4 hs.1);have hy:SeqAt.EqAt A s y v (PyData.eqv d dv):=SeqAt.eqAt_reads d dv A s y v _ _ r1 hv (U4 hs.1) (U4 sv) (SeqAt.room_of_shaped hs.1 hu);refine⟨fun z hz=>?_,by rw[O1,O1,e,h2]⟩;rcases List.mem_cons.mp hz with q|q
   .rw[q,e];exact hy
   .exact h1 z q
noncomputable def SN(K:Fg)(neg:Bool):R2:=fun x y H Q=>∃dx ds p vs,Rep K H dx x/\y=.ref p/\(SqL K H p vs\/SqT K H p vs)/\aJ K H ds vs/\SeqAt.shaped dx=true/\ds.all SeqAt.shaped=true /\
 Q (.bl (if neg then !ds.any fun d=>PyData.eqv d dx else ds.any fun d=>PyData.eqv d dx)) H
theorem aDu(hu:X.A.in1.units+64<cLine):OpR X (compareOp .In) (SN X.K false):=by
 intro pins s σ H x y v u Q I rx ry h;obtain⟨dx,ds,p,vs,hx,rfl,hp,hds,sx,sds,q⟩:=h;cases ry;obtain⟨as,ha⟩:=Rep.reads I dx x v hx rx;rcases hp with hp|hp
 .obtain⟨its,r,pl,hz⟩:=I.list hp;obtain⟨bs,hb⟩:=aJ.reads I ds vs its hds r;obtain⟨h1,h2⟩:=nI (A:=X.A.in1) ha sx hu its ds bs hb sds;refine SeqAt.in_listAt (pB s.heap dx) pl.isList (fun w hw=>h1 w (by simpa using hw)) ⟨.bl _,H,I,rfl,?_⟩;rw[show its.toArray.any (pB s.heap dx)=its.any (pB s.heap dx)by simp,h2];exact q
 .obtain⟨its,r,pl,hz⟩:=I.tuple hp;obtain⟨bs,hb⟩:=aJ.reads I ds vs its hds r;obtain⟨h1,h2⟩:=nI (A:=X.A.in1) ha sx hu its ds bs hb sds;refine SeqAt.in_tupleAt (pB s.heap dx) pl (fun w hw=>h1 w (by simpa using hw)) ⟨.bl _,H,I,rfl,?_⟩;rw[show its.toArray.any (pB s.heap dx)=its.any (pB s.heap dx)by simp,h2];exact q
theorem MP(hu:X.A.in1.units+64<cLine):OpR X (compareOp .NotIn) (SN X.K true):=by
 intro pins s σ H x y v u Q I rx ry h;obtain⟨dx,ds,p,vs,hx,rfl,hp,hds,sx,sds,q⟩:=h;cases ry;obtain⟨as,ha⟩:=Rep.reads I dx x v hx rx;rcases hp with hp|hp
 .obtain⟨its,r,pl,hz⟩:=I.list hp;obtain⟨bs,hb⟩:=aJ.reads I ds vs its hds r;obtain⟨h1,h2⟩:=nI (A:=X.A.in1) ha sx hu its ds bs hb sds;refine SeqAt.notIn_listAt (pB s.heap dx) pl.isList (fun w hw=>h1 w (by simpa using hw)) ⟨.bl _,H,I,rfl,?_⟩;rw[show its.toArray.any (pB s.heap dx)=its.any (pB s.heap dx)by simp,h2];exact q
 .obtain⟨its,r,pl,hz⟩:=I.tuple hp;obtain⟨bs,hb⟩:=aJ.reads I ds vs its hds r;obtain⟨h1,h2⟩:=nI (A:=X.A.in1) ha sx hu its ds bs hb sds;refine SeqAt.notIn_tupleAt (pB s.heap dx) pl (fun w hw=>h1 w (by simpa using hw)) ⟨.bl _,H,I,rfl,?_⟩;rw[show its.toArray.any (pB s.heap dx)=its.any (pB s.heap dx)by simp,h2];exact q
theorem aU.types:∀{Ts:List String}{its:List Value},aU (Ts.map V.ty) its->its=Ts.map Value.type
 |[],_=>fun h=>by cases h;rfl
 |t::Ts,its=>fun h=>by
  cases h with
  |cons r1 r2=>rw[show _=Value.type t from r1,aU.types r2];rfl
theorem aU.bools:∀{bs:List Bool}{its:List Value},aU (bs.map V.bl) its->its=bs.map Value.bool
 |[],_=>fun h=>by cases h;rfl
 |b::bs,its=>fun h=>by
  cases h with
  |cons r1 r2=>rw[show _=Value.bool b from r1,aU.bools r2];rfl
theorem all_range(bs:List Bool):(List.range bs.length).all (fun i=>bs.getD i false)=bs.all id:=by
 rw[Y5];simp only[List.all_eq_true,List.mem_range,id];constructor
 .intro h b hb;obtain⟨i,hi,rfl⟩:=List.mem_iff_getElem.mp hb;have:=h i hi;rw[D0,B6 hi]at this;exact this
 .intro h i hi;rw[D0,B6 hi];exact h _ (U9 hi)
theorem ET{prog:Program}{w:World}{A:Around}{bs:List Bool}:TruthOf prog w A (fun i v=>(bs.map Value.bool).toArray[i]?=some v) (fun i=>bs.getD i false):=by
 intro i v s Q E hP hQ;rw[U1,C0]at hP;cases e:bs[i]? with
 |none=>rw[e]at hP;cases hP
 |some b=>
  rw[e]at hP;cases hP;have hb:bs.getD i false=b:=by rw[D0,e];rfl
  have hQ':Q (bs.getD i false) s:=hQ;rw[hb]at hQ';exact O0 hQ'
noncomputable def tQ:Nat:=2 ^ 8000
noncomputable def RW(i:Int):Prop:=i.natAbs<tQ
theorem CM{j:Int}(h:RW j):j.natAbs.log2<9000:=by
 by_cases h0:j.natAbs=0
 .rw[h0];decide +kernel
 .exact O8 ((Nat.log2_lt h0).mpr h) (by decide)
noncomputable def aFr(i j:Int):Prop:=RW i/\RW j
theorem yD{j:Int}(h:RW j):Builtin.Int.intBits j<=2 ^ 20:=by
 unfold Builtin.Int.intBits;by_cases h0:(j==0)=true
 .rw[B0 h0];exact J5 _
 .rw[B2 h0];have:=CM h;omega
end
structure Callee(P:Program)(w:World)(K:Fg)(mg:Str->Option Value)(base:Heap)(k:Nat)(x:Str)(ps:List Str)(sp:Sp)(q:Bool:=true):Prop where
 ex:∃f fd,pC P w K mg base CX0 k f fd ps sp q/\mg x=some (.ref f)/\PySem.W.keepIn K (.ref f)=true/\Binds K fd ps []
structure Def(K:Fg)(mg:Str->Option Value)(x:Str)(st:Stmt):Prop where
 ex:∃f fd,Fun K x x st f fd/\mg x=some (.ref f)
section
variable{P:Program}{w:World}{K:Fg}{mg:Str->Option Value}{base:Heap}{X:Cx}
theorem Def.ok{x:Str}{st:Stmt}{N ps:List Str}{k:Nat}{sp:Sp}{q:Bool}(D:Def K mg x st)(S:aR N ps (aE st))
 (hb:∀(kV doc pm:Value)(an:Option Addr)(cdv ct:Value)(us:List Value),us.length=ps.length->bindArgs (PySem.W.fnOf x x (eJ st) (bN st) (aE st) .none kV doc pm an cdv ct) ⟨us,[]⟩=pure (ps.zip us))
 (len:∀vs H Q E,sp vs H Q E->vs.length=ps.length)
 (hbody:∀(f:Addr)(cdv:Value)(A:Around)(outer:List Env)(s:Shared)(H:Hp)(vs:List V)(Q:VK)(E:XK),cJ k (A.deeper (envOfC x (aE st) s.heap.objs.size f cdv)) q->sp vs H Q E->
  ∃t,PSs (qS CX0 P w K mg base N x (aE st) f cdv A outer s H E q).nox (bN st) t/\t { nx:=fun _ H'=>Q .non H',rt:=Q } (start N vs) H):Callee P w K mg base (k+1) x ps sp q:=by
 obtain⟨f,fd,F,m⟩:=D.ex;exact⟨f,fd,F.ok S len fun cdv A outer s H vs Q E hr h=>hbody f cdv A outer s H vs Q E hr h,m,F.kp,F.binds hb⟩
theorem def_mk{x:Str}{st:Stmt}{h:Heap}{f:Addr}{oc:Value}{od an:Option Addr}{osl:Array (Option Value)}{kV doc pm cdv ct:Value}(X:K.In h)(G:h.Ns mainGlobals mg)(a:PySem.W.nsIn K mainGlobals x=some (some (.ref f)))
 (l:K.lookup f=some ⟨oc,od,.func (PySem.W.fnOf x x (eJ st) (bN st) (aE st) .none kV doc pm an cdv ct),osl⟩) (c:PySem.W.codeIn K cdv x=true) (k:PySem.W.keepIn K (.ref f)=true):Def K mg x st:=
 ⟨f,_,OY l c k,PySem.W.mg_of X G a⟩
theorem aCQ{k:Nat}{x:Str}{ps:List Str}{sp:Sp}{p pos:Pos}{e:Expr}{es:List Expr}{t:TA}{q:Bool}(C:Callee X.prog X.w X.K X.mg X.base k x ps sp q)(hr:cJ k X.A q)(ha:PA X (e::es) t)(hg:Gl X x:=by rfl)
 (hdb:(x==("__debug__":Str))=false:=by decide) (he:starEach (e::es) X.env=(false,eval e X.env)::starEach es X.env:=by rfl) (hpl:(backTo pos (starEach es X.env)).any (·.1)=false:=by rfl):
 PE X (.Call (.Name x p) (e::es) [] pos) (OI sp [] E0 t):=by
 obtain⟨f,fd,F,m,kp,b⟩:=C.ex;exact XG F hr hg m kp b .nil aAt ha hdb he hpl
theorem cJ.units1{k:Nat}{A:Around}(r:cJ k A):A.in1.units+64<cLine:=by have:=r.un;show A.units+1+64<_;omega
noncomputable def MC(mg:Str->Option Value)(xs:List Str):Prop:=∀x∈xs,mg x=none
theorem MC.of{xs:List Str}(h:MC mg xs)(x:Str)(hx:x∈xs:=by decide +kernel):mg x=none:=h x hx
theorem RI:MC mg []:=fun _ h=>absurd h (by simp)
theorem bL{x:Str}{xs:List Str}(h:mg x=none)(hr:MC mg xs):MC mg (x::xs):=fun y hy=>(List.mem_cons.mp hy).elim (fun e=>e▸h) (hr y)
noncomputable def DN(i j:Int):Prop:=aBP i j\/aFr i j
theorem DN.ok{i j:Int}(h:DN i j):IntMulOk i j:=by
 rcases h with h|h
 .exact h.ok
 .exact IntMulOk.of_bits (yD h.1) (yD h.2)
theorem XX:OpR X (binaryOp .Mult) (rI DN fun i j=>.int (i*j)):=opI fun _ _ _ _ _ _ _ hc q=>mul_int q hc.ok
noncomputable def aAv(_ j:Int):Prop:=0<j/\RW j
theorem OA:OpR X (binaryOp .FloorDiv) (rI aAv fun i j=>.int (i / j)):=opI fun i j _ _ _ _ _ hc q=>by
 refine floordiv_int (Int.ne_of_gt hc.1) ?_ (.inl (PyProof.noPylong_of_log2 (CM hc.2)));rw[Int.fdiv_eq_ediv_of_nonneg _ (Int.le_of_lt hc.1)];exact q
end
noncomputable def aAm(sc0:Scope)(N N':List Str)(cap:List (Option Nat))(scope:Scope):Bool:=
 scope.names.all (fun y=>y.2 != .cell)&&(scope.kind==.function)&&scope.names.all (fun y=>y.2 != .local || scope.names.lookup y.1==some .local) &&
 scope.names.all (fun y=>y.2 != .free || (sc0.names.lookup y.1==some .cell || sc0.names.lookup y.1==some .free))&&(cap.length==N'.length) &&
 (List.range cap.length).all fun i=>match cap[i]? with
  |some (some j)=>(match N'[i]?,N[j]? with
   |some x,some y=>x==y&&scope.names.lookup x==some .free
   |_,_=>false)
  |_=>true
theorem cK{X:Cx}{sc0 scope:Scope}{N N':List Str}{cap:List (Option Nat)}(h1:X.env.scope=sc0)(h2:X.N=N)(h:aAm sc0 N N' cap scope=true):nR X N' cap scope:=by
 unfold aAm at h;simp only[Bool.and_eq_true,List.all_eq_true,beq_iff_eq,bne_iff_ne,ne_eq,Bool.or_eq_true,List.mem_range]at h;obtain⟨⟨⟨⟨⟨a,b⟩,c⟩,d⟩,e⟩,f⟩:=h;refine⟨a,b,fun y hy hk=>?_,fun y hy hk=>?_,e,fun i j hij=>?_⟩
 .rcases c y hy with z|z
  .exact absurd hk z
  .exact z
 .show X.env.scope.names.lookup y.1=_\/X.env.scope.names.lookup y.1=_;rw[h1];rcases d y hy with z|z
  .exact absurd hk z
  .exact z
 .have hi:i<cap.length:=(List.getElem?_eq_some_iff.mp hij).1;have g:=f i hi;rw[hij]at g;dsimp only at g;rw[h2];split at g
  .rename_i x y ex ey;rw[B5,beq_iff_eq,beq_iff_eq]at g;exact⟨x,ex,by rw[ey,g.1],g.2⟩
  .cases g
noncomputable def tyName:PyData->String
 |.none=>"NoneType"
 |.bool _=>"bool"
 |.int _=>"int"
 |.str _=>"str"
 |.list _=>"list"
 |.tuple _=>"tuple"
 |.dict _=>"dict"
noncomputable def asked:List String:=["int","bool","str","list","tuple","dict"]
noncomputable def isT(T S:String):Bool:=T==S || (T=="int"&&S=="bool")
noncomputable def xD(T:String)(d:PyData):Bool:=isT T (tyName d)
noncomputable def aEK(S T:String):Option Bool:=if (Value.type S==Value.type T)=true then some true else if PySem.W.kitMeta T=true then(PySem.fastBuiltinMro S).map (·.contains (Value.type T))else none
theorem PD:(["NoneType","bool","int","str","list","tuple","dict"].all fun S=>asked.all fun T=>aEK S T==some (isT T S))=true:=by decide +kernel
theorem NN{T:String}{d:PyData}(h:T∈asked):PySem.W.kitOne K (.type (tyName d)) (.type T)=some (xD T d):=by
 have e:PySem.W.kitOne K (.type (tyName d)) (.type T)=aEK (tyName d) T:=rfl;rw[e];have hk:=PD;rw[List.all_eq_true]at hk;have h1:=hk (tyName d) (by cases d<;>simp[tyName]);rw[List.all_eq_true]at h1;exact eq_of_beq (h1 T h)
theorem II{K:Fg}{d:PyData}:∀{Ts:List String},(∀T∈Ts,T∈asked)->PySem.W.kitAny K (.type (tyName d)) (Ts.map Value.type)=some (Ts.any fun T=>xD T d)
 |[]=>fun _=>rfl
 |T::Ts=>fun h=>by
  rw[C6];unfold PySem.W.kitAny;rw[NN (h T A9),O1];cases xD T d with
  |true=>rfl
  |false=>rw[Bool.false_or];exact II fun U hU=>h U (A8 _ hU)
section
variable{X:Cx}
theorem IQ{pins:List (Addr×Obj)}{σ:St}{H:Hp}{s:Shared}(I:Inv X pins σ H s):∀{d:PyData}{v:V}{u:Value},Rep X.K H d v->RelV v u->∃Hc:Heap->Prop,PySem.W.KitX X.K u (.type (tyName d)) Hc/\Hc s.heap/\u≠.builtin "__main__.__loader__#opaque"
 |.none,v,u=>fun h r=>by
  rw[show v=.non from h]at r;cases (show u=Value.none from r);exact⟨_,PySem.W.kitx_none,True.intro,fun z=>nomatch z⟩
 |.bool b,v,u=>fun h r=>by
  rw[show v=.bl b from h]at r;cases (show u=Value.bool b from r);exact⟨_,PySem.W.kitx_bool,True.intro,fun z=>nomatch z⟩
 |.int i,v,u=>fun h r=>by
  rw[show v=.int i from h]at r;obtain⟨t,q⟩:=(show ∃t,u=Value.int i t from r);cases q;exact⟨_,PySem.W.kitx_int,True.intro,fun z=>nomatch z⟩
 |.str x,v,u=>fun h r=>by
  rw[show v=.str x from h]at r;obtain⟨t,q⟩:=(show ∃t,u=Value.str x t from r);cases q;exact⟨_,PySem.W.kitx_str,True.intro,fun z=>nomatch z⟩
 |.list xs,v,u=>fun h r=>by
  obtain⟨a,vs,rfl,h2,_⟩:=h;cases (show u=Value.ref a from r);obtain⟨its,hv,⟨o,n,hg,hc,_,hd⟩,_⟩:=I.list h2;exact⟨_,PySem.W.kitx_list,⟨o,hg,hc⟩,fun z=>nomatch z⟩
 |.tuple xs,v,u=>fun h r=>by
  obtain⟨a,vs,rfl,h2,_⟩:=h;cases (show u=Value.ref a from r);obtain⟨its,hv,⟨o,hg,hc,n,hd⟩,_⟩:=I.tuple h2;exact⟨_,PySem.W.kitx_tuple,⟨o,hg,hc⟩,fun z=>nomatch z⟩
 |.dict kvs,v,u=>fun h r=>by
  obtain⟨a,ks,rfl,h2,_⟩:=h;cases (show u=Value.ref a from r);obtain⟨_,_,vs,_,o,es,ep,h1,hx,_⟩:=(show bT X.prog X.w H s.heap a (.dK ks)from I.hok a _ h2);exact⟨_,PySem.W.kitx_dict,⟨o,h1,hx.1⟩,fun z=>nomatch z⟩
noncomputable def aBm(K:Fg):List V->Hp->VK->Prop:=fun xs H Q=>∃x T d,xs=[x,.ty T]/\T∈asked/\Rep K H d x/\Q (.bl (xD T d)) H
theorem NA:eT X (.builtin "isinstance") (aBm X.K):=by
 intro pins s σ H xs us Q I r h;obtain⟨x,T,d,rfl,hT,hd,q⟩:=h;obtain⟨u,u',rfl,ru,ru'⟩:=vals2 r;cases (show u'=Value.type T from ru');obtain⟨Hc,Z,hh,hne⟩:=IQ I hd ru;exact PySem.W.kia_one Z I.kIn hh (NN hT) hne fun tk=>⟨.bl _,H,I.tok tk,rfl,q⟩
noncomputable def QU(K:Fg):List V->Hp->VK->Prop:=fun xs H Q=>∃(x:V)(p:Addr)(Ts:List String)(d:PyData),xs=[x,.ref p]/\H p=some (.tup (Ts.map V.ty))/\(∀T∈Ts,T∈asked)/\Rep K H d x/\Q (.bl (Ts.any fun T=>xD T d)) H
theorem GE:eT X (.builtin "isinstance") (QU X.K):=by
 intro pins s σ H xs us Q I r h;obtain⟨x,p,Ts,d,rfl,hp,hT,hd,q⟩:=h;obtain⟨u,u',rfl,ru,ru'⟩:=vals2 r;cases (show u'=Value.ref p from ru');obtain⟨_,its,rv,o,hg,hcl,n,hd'⟩:=(show bT X.prog X.w H s.heap p (.tup (Ts.map V.ty))from I.hok p _ hp);have hits:its=Ts.map Value.type:=aU.types rv;subst hits;obtain⟨oc,od,odt,osl⟩:=o;dsimp only at hcl hd';subst hcl hd';obtain⟨Hc,Z,hh,hne⟩:=IQ I hd ru;exact PySem.W.kia_tup Z I.kIn hh hg (II hT) hne fun tk=>⟨.bl _,H,I.tok tk,rfl,q⟩
end
theorem gV.upd{p:Addr}{o:HO}(h:H p=none):gV H (upd H p o):=fun b u e=>by rw[aL (aO e h)];exact e
noncomputable def bF:PyData->Option (List PyData)
 |.list xs=>some xs
 |.tuple xs=>some xs
 |_=>none
theorem jI{K:Fg}{H:Hp}:∀{d:PyData}{v:V}{ds:List PyData},Rep K H d v->bF d=some ds->∃a vs,v=.ref a/\(SqL K H a vs\/SqT K H a vs)/\aJ K H ds vs
 |.list xs,v,ds=>fun h e=>by
  obtain⟨a,vs,h1,h2,h3⟩:=h;cases e;exact⟨a,vs,h1,.inl h2,h3⟩
 |.tuple xs,v,ds=>fun h e=>by
  obtain⟨a,vs,h1,h2,h3⟩:=h;cases e;exact⟨a,vs,h1,.inr h2,h3⟩
 |.none,_,_=>fun _ e=>by cases e
 |.bool _,_,_=>fun _ e=>by cases e
 |.int _,_,_=>fun _ e=>by cases e
 |.str _,_,_=>fun _ e=>by cases e
 |.dict _,_,_=>fun _ e=>by cases e
section
variable{X:Cx}{tg:Expr}
noncomputable def aBj(K:Fg)(tl:TE):TI:=fun σ H R=>tl σ H fun x H1=>∃a,x=.ref a/\((∃xs,SqL K H1 a xs/\R (Itl K a) H1)\/(∃xs,SqT K H1 a xs/\R (Itt K a) H1))
theorem aBe{l:Expr}{tl:TE}(hl:PE X l tl):PI X tg l (aBj X.K tl):=by
 intro pins s σ H R I h;refine thn (hl pins s σ H _ I h) fun v s1 hz=>?_;obtain⟨x,H1,I1,r1,a,e,q1⟩:=hz;subst e;cases r1
 have fp:∀b∈[s1.heap.objs.size],mR X pins H1 b:=fun b hb=>by
  have e:b=s1.heap.objs.size:=List.mem_singleton.mp hb;subst e;exact I1.fpOk (A7 _) (I1.hok.fresh (A7 _))
 rcases q1 with⟨xs,hq,q⟩|⟨xs,hq,q⟩
 .obtain⟨its,rv,p,hz⟩:=I1.list hq;refine wpAny_pyIter_list p.isList ?_;exact⟨s1.heap.objs.size,[s1.heap.objs.size],_,_,H1,rfl,I1.kept (t':=s1.toks) fun b o e=>A2 _ e,MM a _,⟨_,B1 _ rfl,rfl,rfl⟩,fp,q⟩
 .obtain⟨its,rv,p,hz⟩:=I1.tuple hq;refine O9 (show s1.heap.IsTuple a its.toArray from p) ?_;exact⟨s1.heap.objs.size,[s1.heap.objs.size],_,_,H1,rfl,I1.kept (t':=s1.toks) fun b o e=>A2 _ e,GK a _,⟨_,B1 _ rfl,rfl,rfl⟩,fp,q⟩
end
inductive CD where
 |d (x:PyData)
 |c (n:Nat)
 |t (xs:List (PyData ⊕ Nat))
 |f (kvs:List (List Key×PyData))
inductive Cell where
 |lst (xs:List CD)
 |dk (kvs:List (Key×CD))
 |dt (kvs:List (List Key×CD))
 |obj (nm:Str) (fs:List (Str×CD))
 |exc (fr:Bool) (nm:Str) (fs:List (Str×CD))
 |dead
structure Wd where
 F:Hp
 α:Nat->Addr
 n:Nat
structure Wd.Ext(W W':Wd):Prop where
 ff:gV W.F W'.F
 ln:W.n<=W'.n
 al:∀i,i<W.n->W'.α i=W.α i
theorem Wd.Ext.refl(W:Wd):W.Ext W:=⟨gV.refl _,A7 _,fun _ _=>rfl⟩
theorem Wd.Ext.trans{W W1 W2:Wd}(a:W.Ext W1)(b:W1.Ext W2):W.Ext W2:=⟨a.ff.trans b.ff,C7 a.ln b.ln,fun i h=>(b.al i (B8 h a.ln)).trans (a.al i h)⟩
noncomputable def DM(K:Fg)(W:Wd):PyData ⊕ Nat->V->Prop
 |.inl x,v=>Rep K W.F x v
 |.inr i,v=>i<W.n/\v=.ref (W.α i)
noncomputable def cdA:PyData ⊕ Nat->CD
 |.inl x=>.d x
 |.inr i=>.c i
noncomputable def bR(K:Fg)(W:Wd):CD->V->Prop
 |.d x,v=>Rep K W.F x v
 |.c i,v=>i<W.n/\v=.ref (W.α i)
 |.t xs,v=>∃a vs,v=.ref a/\W.F a=some (.tup vs)/\Paired (DM K W) xs vs
 |.f kvs,v=>∃a o us,v=.ref a/\W.F a=some (.frz o (.dT us))/\Paired (fun p q=>p.1=q.1/\Rep K W.F p.2 q.2) kvs us
noncomputable abbrev bO(K:Fg)(W:Wd):List CD->List V->Prop:=Paired (bR K W)
noncomputable def EY(K:Fg)(W:Wd):Option CD->Option V->Prop
 |none,none=>True
 |some x,some v=>bR K W x v
 |_,_=>False
noncomputable abbrev cT(K:Fg)(W:Wd):List (Option CD)->St->Prop:=Paired (EY K W)
noncomputable def fG(K:Fg)(nm:Str):Addr:=match PySem.W.nsIn K mainGlobals nm with
 |some (some (.ref C))=>C
 |_=>0
noncomputable def aFH(a:Addr)(c:Value)(dx:Option Addr)(fr:Bool)(h:Heap):Prop:=∃o vs,h.get? a=some o/\o.cls=c/\o.dict=dx/\o.data=.fields vs/\(fr=true->1<vs.size/\vs[1]?=some .none)
noncomputable def SX(K:Fg)(W:Wd)(dx:Option Addr)(fs:List (Str×CD)):Prop:=match dx with
 |none=>fs=[]
 |some d=>fs≠[]/\∃us,W.F d=some (.xd us)/\Paired (fun p q=>p.1=q.1/\bR K W p.2 q.2) fs us
noncomputable def KZ(K:Fg)(W:Wd)(a:Addr):Cell->HO->Prop
 |.lst xs,.lst vs=>bO K W xs vs
 |.dk kvs,.dK us=>Paired (fun p q=>p.1=q.1/\bR K W p.2 q.2) kvs us
 |.dt kvs,.dT us=>Paired (fun p q=>p.1=q.1/\bR K W p.2 q.2) kvs us
 |.obj nm fs,.ins C _ us=>C=fG K nm/\Paired (fun p q=>p.1=q.1/\bR K W p.2 q.2) fs us
 |.exc fr nm fs,.ext φ=>∃dx,φ=aFH a (.ref (fG K nm)) dx fr/\SX K W dx fs
 |_,_=>False
structure Good(K:Fg)(W:Wd)(M:List Cell)(H:Hp):Prop where
 fh:gV W.F H
 n:W.n=M.length
 cs:∀i c,M[i]?=some c->c≠.dead->W.F (W.α i)=none/\∃o,H (W.α i)=some o/\KZ K W (W.α i) c o
 inj:∀i j c c',M[i]?=some c->M[j]?=some c'->c≠.dead->c'≠.dead->W.α i=W.α j->i=j
section
variable{K:Fg}{W W':Wd}{M M':List Cell}{H H':Hp}
theorem DM.up{x:PyData ⊕ Nat}{v:V}(h:DM K W x v)(e:W.Ext W'):DM K W' x v:=by
 cases x with
 |inl x=>exact Rep.same e.ff _ _ h
 |inr i=>exact⟨B8 h.1 e.ln,by rw[e.al i h.1];exact h.2⟩
theorem bR.up{x:CD}{v:V}(h:bR K W x v)(e:W.Ext W'):bR K W' x v:=by
 cases x with
 |d x=>exact Rep.same e.ff _ _ h
 |c i=>exact⟨B8 h.1 e.ln,by rw[e.al i h.1];exact h.2⟩
 |t xs=>
  obtain⟨a,vs,h1,h2,h3⟩:=h;exact⟨a,vs,h1,e.ff _ _ h2,Paired.mapP h3 fun _ _ r=>DM.up r e⟩
 |f kvs=>
  obtain⟨a,o,us,h1,h2,h3⟩:=h;exact⟨a,o,us,h1,e.ff _ _ h2,Paired.mapP h3 fun _ _ r=>⟨r.1,Rep.same e.ff _ _ r.2⟩⟩
theorem bO.up{xs:List CD}{vs:List V}(h:bO K W xs vs)(e:W.Ext W'):bO K W' xs vs:=Paired.mapP h fun _ _ r=>bR.up r e
theorem cT.up{γ:List (Option CD)}{σ:St}(h:cT K W γ σ)(e:W.Ext W'):cT K W' γ σ:=Paired.mapP h fun a b r=>by
 cases a<;>cases b
 .exact True.intro
 .exact False.elim r
 .exact False.elim r
 .exact bR.up r e
theorem SX.up{dx:Option Addr}{fs:List (Str×CD)}(h:SX K W dx fs)(e:W.Ext W'):SX K W' dx fs:=by
 cases dx with
 |none=>exact h
 |some d=>
  obtain⟨h0,us,h1,h2⟩:=h;exact⟨h0,us,e.ff _ _ h1,Paired.mapP h2 fun _ _ r=>⟨r.1,bR.up r.2 e⟩⟩
theorem KZ.up{a:Addr}{c:Cell}{o:HO}(h:KZ K W a c o)(e:W.Ext W'):KZ K W' a c o:=by
 cases c<;>cases o<;>first|exact(let⟨dx,h1,h2⟩:=h;⟨dx,h1,h2.up e⟩)|exact False.elim h|exact bO.up h e|exact Paired.mapP h fun _ _ r=>⟨r.1,bR.up r.2 e⟩|exact⟨h.1,Paired.mapP h.2 fun _ _ r=>⟨r.1,bR.up r.2 e⟩⟩
theorem Good.lay(g:Good K W M H){p:Addr}{o:HO}(hp:H p=none):W.Ext { W with F:=upd W.F p o }/\Good K { W with F:=upd W.F p o } M (upd H p o):=by
 have fp:W.F p=none:=g.fh.free hp;have e:W.Ext { W with F:=upd W.F p o }:=⟨gV.upd fp,A7 _,fun _ _=>rfl⟩;refine⟨e,?_,g.n,fun i c hi hc=>?_,g.inj⟩
 .intro b u hb;have hb:upd W.F p o b=some u:=hb;by_cases q:b=p
  .subst q;rw[aP]at hb;rw[aP];exact hb
  .rw[aL q]at hb;rw[aL q];exact g.fh b u hb
 .obtain⟨h1,o',h2,h3⟩:=g.cs i c hi hc;have ne:W.α i≠p:=aO h2 hp;exact⟨by show upd W.F p o (W.α i)=none;rw[aL ne];exact h1,o',by rw[aL ne];exact h2,h3.up e⟩
noncomputable def Wd.more(W:Wd)(p:Addr):Wd:={ W with α:=fun i=>if i=W.n then p else W.α i,n:=W.n+1 }
theorem Wd.ext_more(W:Wd)(p:Addr):W.Ext (W.more p):=⟨gV.refl _,Z6 _,fun i h=>B2 (B7 h)⟩
theorem Good.new(g:Good K W M H){p:Addr}{c:Cell}{o:HO}(hp:H p=none)(r:KZ K W p c o):Good K (W.more p) (M++[c]) (upd H p o):=by
 have e:=W.ext_more p
 have at_:∀i c',(M++[c])[i]?=some c'->(i<M.length/\M[i]?=some c')\/(i=M.length/\c'=c):=fun i c' h=>by
  by_cases q:i<M.length
  .rw[L5 q]at h;exact .inl ⟨q,h⟩
  .rw[F0 (Nat.le_of_not_lt q)]at h
   have h':i-M.length=0:=by
    cases k:i-M.length with
    |zero=>rfl
    |succ m=>rw[k]at h;simp at h
   rw[h']at h;refine .inr ⟨by omega,?_⟩;simpa using h.symm
 have al:∀i,i<M.length->(W.more p).α i=W.α i:=fun i h=>e.al i (by rw[g.n];exact h);have an:(W.more p).α M.length=p:=by show(if M.length=W.n then p else _)=p;rw[B0 g.n.symm]
 have nep:∀i c',M[i]?=some c'->c'≠.dead->W.α i≠p:=fun i c' h hc=>by
  obtain⟨_,o',h2,_⟩:=g.cs i c' h hc;exact aO h2 hp
 refine⟨?_,?_,fun i c' hi hc=>?_,fun i j c1 c2 hi hj d1 d2 he=>?_⟩
 .intro b u hb;have:=g.fh b u hb;rw[aL (aO this hp)];exact this
 .show W.n+1=_;rw[g.n,B9];rfl
 .rcases at_ i c' hi with⟨q,h⟩|⟨rfl,rfl⟩
  .obtain⟨h1,o',h2,h3⟩:=g.cs i c' h hc;rw[al i q];exact⟨h1,o',by rw[aL (nep i c' h hc)];exact h2,h3.up e⟩
  .rw[an];exact⟨g.fh.free hp,o,aP,r.up e⟩
 .rcases at_ i c1 hi with⟨q,h⟩|⟨rfl,rfl⟩
  .rcases at_ j c2 hj with⟨q',h'⟩|⟨rfl,rfl⟩
   .rw[al i q,al j q']at he;exact g.inj i j c1 c2 h h' d1 d2 he
   .rw[al i q,an]at he;exact absurd he (nep i c1 h d1)
  .rcases at_ j c2 hj with⟨q',h'⟩|⟨rfl,rfl⟩
   .rw[an,al j q']at he;exact absurd he.symm (nep j c2 h' d2)
   .rfl
theorem Good.set(g:Good K W M H){i:Nat}{c c':Cell}{o':HO}(hi:M[i]?=some c)(hc:c≠.dead)(r:KZ K W (W.α i) c' o'):Good K W (M.set i c') (upd H (W.α i) o'):=by
 obtain⟨h1,o,h2,h3⟩:=g.cs i c hi hc;have lt:i<M.length:=(List.getElem?_eq_some_iff.mp hi).1
 have at_:∀j d,(M.set i c')[j]?=some d->(j=i/\d=c')\/(j≠i/\M[j]?=some d):=fun j d h=>by
  by_cases q:i=j
  .subst q;rw[J3 lt]at h;exact .inl ⟨rfl,(D9 h).symm⟩
  .rw[F6 q]at h;exact .inr ⟨fun z=>q z.symm,h⟩
 refine⟨?_,by rw[g.n,O6],fun j d hj hd=>?_,fun j k d1 d2 hj hk e1 e2 he=>?_⟩
 .intro b u hb;rw[aL (aO hb h1)];exact g.fh b u hb
 .rcases at_ j d hj with⟨rfl,rfl⟩|⟨q,h⟩
  .exact⟨h1,o',aP,r⟩
  .obtain⟨k1,u,k2,k3⟩:=g.cs j d h hd;have ne:W.α j≠W.α i:=fun z=>q (g.inj j i d c h hi hd hc z);exact⟨k1,u,by rw[aL ne];exact k2,k3⟩
 .rcases at_ j d1 hj with⟨rfl,rfl⟩|⟨q,h⟩<;>rcases at_ k d2 hk with⟨rfl,rfl⟩|⟨q',h'⟩
  .rfl
  .exact g.inj _ k c d2 hi h' hc e2 he
  .exact g.inj j _ d1 c h hi e1 hc he
  .exact g.inj j k d1 d2 h h' e1 e2 he
end
noncomputable abbrev Ga:=List (Option CD)
noncomputable abbrev Sto:=List Cell
noncomputable abbrev EF:=Ga->Sto->Option (CD×Sto)
noncomputable abbrev TF:=Ga->Sto->Option (Bool×Sto)
noncomputable abbrev AF:=Ga->Sto->Option (List CD×Sto)
inductive Out where
 |nx (γ:Ga)|bk (γ:Ga)|ct (γ:Ga)|rt (x:CD)
noncomputable abbrev SF:=Ga->Sto->Option (Out×Sto)
noncomputable abbrev GF:=CD->Ga->Sto->Option (Ga×Sto)
noncomputable abbrev GsF:=List CD->Ga->Sto->Option (Ga×Sto)
noncomputable abbrev F1:=CD->Sto->Option (CD×Sto)
noncomputable abbrev F2:=CD->CD->Sto->Option (CD×Sto)
noncomputable abbrev FN:=List CD->Sto->Option (CD×Sto)
section
variable(K:Fg)
noncomputable def SE(t:TE)(f:EF):Prop:=∀γ M x M',f γ M=some (x,M')->∀(W:Wd)(H:Hp)(σ:St)(Q:VK),Good K W M H->cT K W γ σ->(∀v W' H',W.Ext W'->Good K W' M' H'->bR K W' x v->Q v H')->t σ H Q
noncomputable def STt(t:TT)(f:TF):Prop:=∀γ M b M',f γ M=some (b,M')->∀(W:Wd)(H:Hp)(σ:St)(Q:Bool->Hp->Prop),Good K W M H->cT K W γ σ->(∀W' H',W.Ext W'->Good K W' M' H'->Q b H')->t σ H Q
noncomputable def SA(t:TA)(f:AF):Prop:=∀γ M xs M',f γ M=some (xs,M')->∀(W:Wd)(H:Hp)(σ:St)(Q:List V->Hp->Prop),Good K W M H->cT K W γ σ->(∀vs W' H',W.Ext W'->Good K W' M' H'->bO K W' xs vs->Q vs H')->t σ H Q
noncomputable def aAj(D:Ends)(W:Wd)(H:Hp):Out->Prop
 |.nx γ=>∀σ,cT K W γ σ->D.nx σ H
 |.bk γ=>∀σ,cT K W γ σ->D.bk σ H
 |.ct γ=>∀σ,cT K W γ σ->D.ct σ H
 |.rt x=>∀v,bR K W x v->D.rt v H
noncomputable def SS(t:TS)(f:SF):Prop:=∀γ M o M',f γ M=some (o,M')->∀(W:Wd)(H:Hp)(σ:St)(D:Ends),Good K W M H->cT K W γ σ->(∀W' H',W.Ext W'->Good K W' M' H'->aAj K D W' H' o)->t D σ H
noncomputable def SG(t:TG)(f:GF):Prop:=∀x γ M γ' M',f x γ M=some (γ',M')->∀(W:Wd)(H:Hp)(σ:St)(v:V)(Q:St->Hp->Prop),Good K W M H->cT K W γ σ->bR K W x v->(∀σ' W' H',W.Ext W'->Good K W' M' H'->cT K W' γ' σ'->Q σ' H')->t v σ H Q
noncomputable def SGs(t:TGs)(f:GsF):Prop:=∀xs γ M γ' M',f xs γ M=some (γ',M')->∀(W:Wd)(H:Hp)(σ:St)(vs:List V)(Q:St->Hp->Prop),Good K W M H->cT K W γ σ->bO K W xs vs->(∀σ' W' H',W.Ext W'->Good K W' M' H'->cT K W' γ' σ'->Q σ' H')->t vs σ H Q
noncomputable def P2(r:R2)(f:F2):Prop:=∀x y M z M',f x y M=some (z,M')->∀(W:Wd)(H:Hp)(v u:V)(Q:VK),Good K W M H->bR K W x v->bR K W y u->(∀w W' H',W.Ext W'->Good K W' M' H'->bR K W' z w->Q w H')->r v u H Q
noncomputable def P1(r:V->Hp->VK->Prop)(f:F1):Prop:=∀x M z M',f x M=some (z,M')->∀(W:Wd)(H:Hp)(v:V)(Q:VK),Good K W M H->bR K W x v->(∀w W' H',W.Ext W'->Good K W' M' H'->bR K W' z w->Q w H')->r v H Q
noncomputable def PN(r:List V->Hp->VK->Prop)(f:FN):Prop:=∀xs M z M',f xs M=some (z,M')->∀(W:Wd)(H:Hp)(vs:List V)(Q:VK),Good K W M H->bO K W xs vs->(∀w W' H',W.Ext W'->Good K W' M' H'->bR K W' z w->Q w H')->r vs H Q
noncomputable def spM(f:FN):Sp:=fun vs H Q _=>∃xs M W y M',Good K W M H/\bO K W xs vs/\f xs M=some (y,M')/\∀v W' H',W.Ext W'->Good K W' M' H'->bR K W' y v->Q v H'
end
noncomputable def aD(i:Nat):EF:=fun γ M=>match γ[i]? with
 |some (some x)=>some (x,M)
 |_=>none
noncomputable def fC(x:PyData):EF:=fun _ M=>some (.d x,M)
noncomputable def fOp(h:F2)(f g:EF):EF:=fun γ M=>(f γ M).bind fun r=>(g γ r.2).bind fun q=>h r.1 q.1 q.2
noncomputable def fUn(h:F1)(f:EF):EF:=fun γ M=>(f γ M).bind fun r=>h r.1 r.2
noncomputable def asB:CD->Option Bool
 |.d (.bool b)=>some b
 |_=>none
noncomputable def lQ(f g:EF):EF:=fun γ M=>(f γ M).bind fun r=>(asB r.1).bind fun b=>if b=true then g γ r.2 else some (.d (.bool false),r.2)
noncomputable def fOr(f g:EF):EF:=fun γ M=>(f γ M).bind fun r=>(asB r.1).bind fun b=>if b=true then some (.d (.bool true),r.2)else g γ r.2
noncomputable def VV(f:EF):EF:=fun γ M=>(f γ M).bind fun r=>(asB r.1).bind fun b=>some (.d (.bool (!b)),r.2)
noncomputable def fIf(t:TF)(f g:EF):EF:=fun γ M=>(t γ M).bind fun r=>if r.1=true then f γ r.2 else g γ r.2
noncomputable def OB(f g:TF):TF:=fun γ M=>(f γ M).bind fun r=>if r.1=true then g γ r.2 else some (false,r.2)
noncomputable def gOr(f g:TF):TF:=fun γ M=>(f γ M).bind fun r=>if r.1=true then some (true,r.2)else g γ r.2
noncomputable def rJ(f:TF):TF:=fun γ M=>(f γ M).bind fun r=>some (!r.1,r.2)
noncomputable def gB(f:EF):TF:=fun γ M=>(f γ M).bind fun r=>(asB r.1).bind fun b=>some (b,r.2)
noncomputable def vU(h h':F2)(f g e:EF):EF:=fun γ M=>(f γ M).bind fun r=>(g γ r.2).bind fun q=>(h r.1 q.1 q.2).bind fun z=>(asB z.1).bind fun b=>if b=true then(e γ z.2).bind fun w=>h' q.1 w.1 w.2 else some (.d (.bool false),z.2)
noncomputable def aG:AF:=fun _ M=>some ([],M)
noncomputable def aC(f:EF)(g:AF):AF:=fun γ M=>(f γ M).bind fun r=>(g γ r.2).bind fun q=>some (r.1::q.1,q.2)
noncomputable def lV:List CD->Option (List PyData)
 |[]=>some []
 |.d x::r=>(lV r).map (x::·)
 |.c _::_=>none
 |.t _::_=>none
 |.f _::_=>none
noncomputable def dJ(f:AF):EF:=fun γ M=>(f γ M).bind fun r=>(lV r.1).bind fun ds=>if ds.length<=sizeLine then some (.d (.tuple ds),r.2)else none
noncomputable def pE(f:AF):EF:=fun γ M=>(f γ M).bind fun r=>(lV r.1).bind fun ds=>if ds.length<=sizeLine then some (.d (.list ds),r.2)else none
noncomputable def pY(f:AF):EF:=fun γ M=>(f γ M).bind fun r=>if r.1.length<=sizeLine then some (.c r.2.length,r.2++[.lst r.1])else none
noncomputable def aK(h:FN)(f:AF):EF:=fun γ M=>(f γ M).bind fun r=>h r.1 r.2
noncomputable def dM:SF:=fun γ M=>some (.nx γ,M)
noncomputable def aX(f g:SF):SF:=fun γ M=>(f γ M).bind fun r=>match r.1 with
 |.nx γ'=>g γ' r.2
 |o=>some (o,r.2)
noncomputable def lA(f:EF):SF:=fun γ M=>(f γ M).bind fun r=>some (.nx γ,r.2)
noncomputable def cO(f:EF):SF:=fun γ M=>(f γ M).bind fun r=>some (.rt r.1,r.2)
noncomputable def aEi:SF:=fun _ M=>some (.rt (.d .none),M)
noncomputable def sIf(c:TF)(f g:SF):SF:=fun γ M=>(c γ M).bind fun r=>if r.1=true then f γ r.2 else g γ r.2
noncomputable def aV(f:EF)(g:GF):SF:=fun γ M=>(f γ M).bind fun r=>(g r.1 γ r.2).bind fun q=>some (.nx q.1,q.2)
noncomputable def hName(i:Nat):GF:=fun x γ M=>some (γ.set i (some x),M)
noncomputable def gT:GsF:=fun xs γ M=>match xs with
 |[]=>some (γ,M)
 |_=>none
noncomputable def aZ(f:GF)(g:GsF):GsF:=fun xs γ M=>match xs with
 |x::r=>(f x γ M).bind fun q=>g r q.1 q.2
 |[]=>none
noncomputable def gX(n:Nat)(g:GsF):GF:=fun x γ M=>match x with
 |.d (.tuple ds)=>if ds.length=n then g (ds.map .d) γ M else none
 |.t xs=>if xs.length=n then g (xs.map cdA) γ M else none
 |_=>none
noncomputable abbrev F3:=CD->CD->CD->Sto->Option Sto
noncomputable def hSub(fo fi:EF)(s:F3):GF:=fun x γ M=>(fo γ M).bind fun r=>(fi γ r.2).bind fun q=>(s r.1 q.1 x q.2).bind fun M'=>some (γ,M')
noncomputable def xQ(i j:Nat)(f:AF):SF:=fun γ M=>(f γ M).bind fun r=>match r.1 with
 |[x,y]=>some (.nx ((γ.set i (some x)).set j (some y)),r.2)
 |_=>none
noncomputable def lW(g:GF)(b:SF):List CD->Ga->Sto->Option (Out×Sto)
 |[],γ,M=>some (.nx γ,M)
 |x::xs,γ,M=>(g x γ M).bind fun r=>(b r.1 r.2).bind fun q=>match q.1 with
  |.nx γ'=>lW g b xs γ' q.2
  |.ct γ'=>lW g b xs γ' q.2
  |.bk γ'=>some (.nx γ',q.2)
  |.rt x=>some (.rt x,q.2)
noncomputable def nN(f:AF)(g:GF)(b:SF):SF:=fun γ M=>(f γ M).bind fun r=>lW g b r.1 γ r.2
noncomputable def eM(c:TF)(b:SF):Nat->Ga->Sto->Option (Out×Sto)
 |0,_,_=>none
 |n+1,γ,M=>(c γ M).bind fun r=>if r.1=true then(b γ r.2).bind fun q=>match q.1 with
  |.nx γ'=>eM c b n γ' q.2
  |.ct γ'=>eM c b n γ' q.2
  |.bk γ'=>some (.nx γ',q.2)
  |.rt x=>some (.rt x,q.2)else some (.nx γ,r.2)
open Classical in
noncomputable def qE(c:TF)(b:SF):SF:=fun γ M=>if h:∃n,(eM c b n γ M).isSome=true then eM c b h.choose γ M else none
noncomputable def lcF(g:GF)(c:TF)(e:EF):List CD->Ga->Sto->Option (List CD×Sto)
 |[],γ,M=>some ([],M)
 |x::xs,γ,M=>(g x γ M).bind fun a=>(c a.1 a.2).bind fun b=>if b.1=true then(e a.1 b.2).bind fun r=>(lcF g c e xs a.1 r.2).bind fun q=>some (r.1::q.1,q.2)else lcF g c e xs a.1 b.2
noncomputable def iR(cap:List (Option Nat))(γ:Ga):Ga:=cap.map fun o=>o.bind fun j=>(γ[j]?).join
noncomputable def gE:TF:=fun _ M=>some (true,M)
noncomputable def tV(cap:List (Option Nat))(f:AF)(g:GF)(c:TF)(e:EF):AF:=fun γ M=>(f γ M).bind fun r=>if r.1.length<=sizeLine then lcF g c e r.1 (iR cap γ) r.2 else none
noncomputable def fLc(cap:List (Option Nat))(f:AF)(g:GF)(c:TF)(e:EF):EF:=pE (tV cap f g c e)
noncomputable def FD(cap:List (Option Nat))(f:AF)(g:GF)(c:TF)(e:EF):EF:=pY (tV cap f g c e)
noncomputable def fnF(ps N:Nat)(b:SF):FN:=fun xs M=>if xs.length=ps then(b (xs.map some++List.replicate (N-xs.length) none) M).bind fun r=>match r.1 with
 |.rt x=>some (x,r.2)
 |.nx _=>some (.d .none,r.2)
 |_=>none else none
theorem aH{α β:Type}{o:Option α}{k:α->Option β}{r:β}(h:o.bind k=some r):∃a,o=some a/\k a=some r:=by
 cases o with
 |none=>cases h
 |some a=>exact⟨a,rfl,h⟩
theorem Paired.get{α β:Type}{R:α->β->Prop}:∀{xs:List α}{ys:List β}{i:Nat}{x:α},Paired R xs ys->xs[i]?=some x->∃y,ys[i]?=some y/\R x y
 |_,_,_,_,.nil=>fun e=>by simp at e
 |_,_,0,_,.cons r _=>fun e=>by simp at e;subst e;exact⟨_,rfl,r⟩
 |_,_,i+1,x,.cons _ t=>fun e=>by
  obtain⟨u,h1,h2⟩:=Paired.get (i:=i) (x:=x) t (by simpa using e);exact⟨u,by simpa using h1,h2⟩
theorem Paired.set{α β:Type}{R:α->β->Prop}{x:α}{y:β}(r:R x y):∀{xs:List α}{ys:List β}(i:Nat),Paired R xs ys->Paired R (xs.set i x) (ys.set i y)
 |_,_,_,.nil=>.nil
 |_,_,0,.cons _ t=>.cons r t
 |_,_,i+1,.cons q t=>.cons q (Paired.set r i t)
theorem Paired.app{α β:Type}{R:α->β->Prop}:∀{xs xs':List α}{ys ys':List β},Paired R xs ys->Paired R xs' ys'->Paired R (xs++xs') (ys++ys')
 |_,_,_,_,.nil=>fun s=>s
 |_,_,_,_,.cons r t=>fun s=>.cons r (Paired.app t s)
theorem Paired.len{α β:Type}{R:α->β->Prop}{xs:List α}{ys:List β}(p:Paired R xs ys):xs.length=ys.length:=A0e p
section
variable{K:Fg}
theorem eF{W:Wd}:∀{xs:List CD}{ds:List PyData}{vs:List V},lV xs=some ds->bO K W xs vs->aJ K W.F ds vs
 |[],ds,vs=>fun e h=>by
  cases e;cases h;rfl
 |.c _::_,ds,vs=>fun e h=>by cases e
 |.t _::_,ds,vs=>fun e h=>by cases e
 |.f _::_,ds,vs=>fun e h=>by cases e
 |.d x::r,ds,vs=>fun e h=>by
  cases h with
  |@cons _ v _ vs' h1 h2=>
   unfold lV at e;cases q:lV r with
   |none=>rw[q]at e;cases e
   |some es=>
    rw[q]at e;cases e;exact⟨v,vs',rfl,h1,eF q h2⟩
theorem KG{W:Wd}{xs:List (PyData ⊕ Nat)}{vs:List V}(h:Paired (DM K W) xs vs):bO K W (xs.map cdA) vs:=by
 induction h with
 |nil=>exact .nil
 |@cons x v _ _ r _ ih=>exact .cons (by cases x<;>exact r) ih
theorem eV{W:Wd}:∀{ds:List PyData}{vs:List V},aJ K W.F ds vs->bO K W (ds.map .d) vs
 |[],vs=>fun h=>by rw[show vs=[]from h];exact .nil
 |d::ds,vs=>fun h=>by
  obtain⟨v,r,rfl,h1,h2⟩:=h;exact .cons h1 (eV h2)
theorem CH:∀{xs:List CD}{ds:List PyData},lV xs=some ds->ds.length=xs.length
 |[],ds=>fun e=>by cases e;rfl
 |.c _::_,ds=>fun e=>by cases e
 |.t _::_,ds=>fun e=>by cases e
 |.f _::_,ds=>fun e=>by cases e
 |.d x::r,ds=>fun e=>by
  unfold lV at e;cases q:lV r with
  |none=>rw[q]at e;cases e
  |some es=>
   rw[q]at e;cases e;rw[E9,E9,CH q]
theorem aCV{i:Nat}:SE K (aFg i) (aD i):=by
 intro γ M x M' h W H σ Q g r k;unfold aD at h;cases e:γ[i]? with
 |none=>rw[e]at h;cases h
 |some o=>
  cases o with
  |none=>rw[e]at h;cases h
  |some y=>
   rw[e]at h;cases h;obtain⟨v,hv,rv⟩:=Paired.get r e;cases v with
   |none=>exact False.elim rv
   |some v=>exact⟨v,hv,k v W H (.refl _) g rv⟩
theorem PZ{i:Int}:SE K (tC (.int i)) (fC (.int i)):=by
 intro γ M x M' h W H σ Q g r k;cases h;exact k _ W H (.refl _) g rfl
theorem aDZ{b:Bool}:SE K (tC (.bl b)) (fC (.bool b)):=by
 intro γ M x M' h W H σ Q g r k;cases h;exact k _ W H (.refl _) g rfl
variable{ta tb tc:TE}{f g e:EF}{tt uu:TT}{ft gt:TF}{tA:TA}{fa:AF}
theorem JV{r:R2}{h:F2}(p:P2 K r h)(a:SE K ta f)(b:SE K tb g):SE K (tOp r ta tb) (fOp h f g):=by
 intro γ M x M' hh W H σ Q G R k;obtain⟨⟨y,M1⟩,h1,hh⟩:=aH hh;obtain⟨⟨z,M2⟩,h2,hh⟩:=aH hh;refine a _ _ _ _ h1 W H σ _ G R fun v W1 H1 e1 G1 r1=>?_;refine b _ _ _ _ h2 W1 H1 σ _ G1 (R.up e1) fun u W2 H2 e2 G2 r2=>?_;exact p _ _ _ _ _ hh W2 H2 v u Q G2 (r1.up e2) r2 fun w W3 H3 e3 G3 r3=>k w W3 H3 ((e1.trans e2).trans e3) G3 r3
theorem BW{x:CD}{b:Bool}(h:asB x=some b):x=.d (.bool b):=by
 cases x with
 |c n=>cases h
 |t n=>cases h
 |f n=>cases h
 |d x=>cases x<;>first|cases h;rfl|cases h
theorem aBN(a:SE K ta f)(b:SE K tb g):SE K (aAd ta tb) (lQ f g):=by
 intro γ M x M' hh W H σ Q G R k;obtain⟨⟨y,M1⟩,h1,hh⟩:=aH hh;obtain⟨c,h2,hh⟩:=aH hh;refine a _ _ _ _ h1 W H σ _ G R fun v W1 H1 e1 G1 r1=>?_;have hy:y=_:=BW h2;subst hy;refine⟨c,r1,?_⟩;cases c with
 |true=>rw[B0 rfl];rw[B0 rfl]at hh;exact b _ _ _ _ hh W1 H1 σ Q G1 (R.up e1) fun w W3 H3 e3 G3 r3=>k w W3 H3 (e1.trans e3) G3 r3
 |false=>
  rw[B2 B4];rw[B2 B4]at hh;cases hh;exact k _ W1 H1 e1 G1 rfl
theorem aCq(a:SE K ta f):SE K (aAw ta) (VV f):=by
 intro γ M x M' hh W H σ Q G R k;obtain⟨⟨y,M1⟩,h1,hh⟩:=aH hh;obtain⟨c,h2,hh⟩:=aH hh;refine a _ _ _ _ h1 W H σ _ G R fun v W1 H1 e1 G1 r1=>?_;have hy:y=_:=BW h2;subst hy;cases hh;exact⟨c,r1,k _ W1 H1 e1 G1 rfl⟩
theorem OL{r r':R2}{h h':F2}(p:P2 K r h)(p':P2 K r' h')(a:SE K ta f)(b:SE K tb g)(c:SE K tc e):SE K (ON r r' ta tb tc) (vU h h' f g e):=by
 intro γ M x M' hh W H σ Q G R k;obtain⟨⟨y,M1⟩,h1,hh⟩:=aH hh;obtain⟨⟨z,M2⟩,h2,hh⟩:=aH hh;obtain⟨⟨w,M3⟩,h3,hh⟩:=aH hh;obtain⟨q,h4,hh⟩:=aH hh;refine a _ _ _ _ h1 W H σ _ G R fun v W1 H1 e1 G1 r1=>?_;refine b _ _ _ _ h2 W1 H1 σ _ G1 (R.up e1) fun u W2 H2 e2 G2 r2=>?_;refine p _ _ _ _ _ h3 W2 H2 v u _ G2 (r1.up e2) r2 fun t W3 H3 e3 G3 r3=>?_;have hy:w=_:=BW h4;subst hy;refine⟨q,r3,?_⟩;have e13:=(e1.trans e2).trans e3;cases q with
 |true=>
  rw[B0 rfl];rw[B0 rfl]at hh;obtain⟨⟨m,M4⟩,h5,hh⟩:=aH hh;refine c _ _ _ _ h5 W3 H3 σ _ G3 (R.up e13) fun o W4 H4 e4 G4 r4=>?_;exact p' _ _ _ _ _ hh W4 H4 u o Q G4 (r2.up (e3.trans e4)) r4 fun w W5 H5 e5 G5 r5=>k w W5 H5 ((e13.trans e4).trans e5) G5 r5
 |false=>
  rw[B2 B4];rw[B2 B4]at hh;cases hh;exact k _ W3 H3 e13 G3 rfl
theorem aBY(a:STt K tt ft)(b:STt K uu gt):STt K (aFh tt uu) (OB ft gt):=by
 intro γ M x M' hh W H σ Q G R k;obtain⟨⟨c,M1⟩,h1,hh⟩:=aH hh;refine a _ _ _ _ h1 W H σ _ G R fun W1 H1 e1 G1=>?_;cases c with
 |true=>rw[B0 rfl];rw[B0 rfl]at hh;exact b _ _ _ _ hh W1 H1 σ Q G1 (R.up e1) fun W3 H3 e3 G3=>k W3 H3 (e1.trans e3) G3
 |false=>rw[B2 B4];rw[B2 B4]at hh;cases hh;exact k W1 H1 e1 G1
theorem aED(a:STt K tt ft)(b:STt K uu gt):STt K (tOr tt uu) (gOr ft gt):=by
 intro γ M x M' hh W H σ Q G R k;obtain⟨⟨c,M1⟩,h1,hh⟩:=aH hh;refine a _ _ _ _ h1 W H σ _ G R fun W1 H1 e1 G1=>?_;cases c with
 |true=>rw[B0 rfl];rw[B0 rfl]at hh;cases hh;exact k W1 H1 e1 G1
 |false=>rw[B2 B4];rw[B2 B4]at hh;exact b _ _ _ _ hh W1 H1 σ Q G1 (R.up e1) fun W3 H3 e3 G3=>k W3 H3 (e1.trans e3) G3
theorem aCZ(a:STt K tt ft):STt K (aER tt) (rJ ft):=by
 intro γ M x M' hh W H σ Q G R k;obtain⟨⟨c,M1⟩,h1,hh⟩:=aH hh;cases hh;exact a _ _ _ _ h1 W H σ _ G R fun W1 H1 e1 G1=>k W1 H1 e1 G1
theorem aBt(a:SE K ta f):STt K (tB ta) (gB f):=by
 intro γ M x M' hh W H σ Q G R k;obtain⟨⟨y,M1⟩,h1,hh⟩:=aH hh;obtain⟨c,h2,hh⟩:=aH hh;refine a _ _ _ _ h1 W H σ _ G R fun v W1 H1 e1 G1 r1=>?_;have hy:y=_:=BW h2;subst hy;cases hh;exact⟨_,r1,k W1 H1 e1 G1⟩
theorem YR(a:SE K ta f):STt K (aAy ta) (gB f):=aBt a
theorem aCv:SA K RU aG:=by
 intro γ M x M' hh W H σ Q G R k;cases hh;exact k [] W H (.refl _) G .nil
theorem VS(a:SE K ta f)(b:SA K tA fa):SA K (tS ta tA) (aC f fa):=by
 intro γ M x M' hh W H σ Q G R k;obtain⟨⟨y,M1⟩,h1,hh⟩:=aH hh;obtain⟨⟨ys,M2⟩,h2,hh⟩:=aH hh;cases hh;refine a _ _ _ _ h1 W H σ _ G R fun v W1 H1 e1 G1 r1=>?_;exact b _ _ _ _ h2 W1 H1 σ _ G1 (R.up e1) fun vs W2 H2 e2 G2 r2=>k _ W2 H2 (e1.trans e2) G2 (.cons (r1.up e2) r2)
theorem aDx(b:SA K tA fa):SE K (UP tA) (dJ fa):=by
 intro γ M x M' hh W H σ Q G R k;obtain⟨⟨ys,M1⟩,h1,hh⟩:=aH hh;obtain⟨ds,h2,hh⟩:=aH hh;by_cases hl:ds.length<=sizeLine
 .rw[B0 hl]at hh;cases hh;refine b _ _ _ _ h1 W H σ _ G R fun vs W1 H1 e1 G1 r1=>?_;have ra:=eF h2 r1;refine⟨by rw[<- ra.length];exact hl,fun p hp=>?_⟩;obtain⟨e2,G2⟩:=G1.lay (o:=.tup vs) hp;exact k _ _ _ (e1.trans e2) G2 ⟨p,vs,rfl,SqT.of aP,aJ.same e2.ff _ _ ra⟩
 .rw[B2 hl]at hh;cases hh
theorem aAU(b:SA K tA fa):SE K (aAM tA) (pE fa):=by
 intro γ M x M' hh W H σ Q G R k;obtain⟨⟨ys,M1⟩,h1,hh⟩:=aH hh;obtain⟨ds,h2,hh⟩:=aH hh;by_cases hl:ds.length<=sizeLine
 .rw[B0 hl]at hh;cases hh;refine b _ _ _ _ h1 W H σ _ G R fun vs W1 H1 e1 G1 r1=>?_;have ra:=eF h2 r1;refine⟨by rw[<- ra.length];exact hl,fun p hp=>?_⟩;obtain⟨e2,G2⟩:=G1.lay (o:=.lst vs) hp;exact k _ _ _ (e1.trans e2) G2 ⟨p,vs,rfl,SqL.of aP,aJ.same e2.ff _ _ ra⟩
 .rw[B2 hl]at hh;cases hh
theorem Good.newV{W:Wd}(g:Good K W M H){p:Addr}:bR K (W.more p) (.c M.length) (.ref p):=by
 refine⟨?_,?_⟩
 .show M.length<W.n+1;rw[g.n];exact L6 _
 .show V.ref p=.ref (if M.length=W.n then p else W.α M.length);rw[B0 g.n.symm]
theorem aBH(b:SA K tA fa):SE K (aAM tA) (pY fa):=by
 intro γ M x M' hh W H σ Q G R k;obtain⟨⟨ys,M1⟩,h1,hh⟩:=aH hh;by_cases hl:ys.length<=sizeLine
 .have hh:(if ys.length<=sizeLine then some (CD.c M1.length,M1++[Cell.lst ys])else none)=some (x,M'):=hh;rw[B0 hl]at hh;cases hh;refine b _ _ _ _ h1 W H σ _ G R fun vs W1 H1 e1 G1 r1=>?_;refine⟨by rw[<- Paired.len r1];exact hl,fun p hp=>?_⟩;exact k _ _ _ (e1.trans (W1.ext_more p)) (G1.new hp (c:=.lst ys) (o:=.lst vs) r1) G1.newV
 .have hh:(if ys.length<=sizeLine then some (CD.c M1.length,M1++[Cell.lst ys])else none)=some (x,M'):=hh;rw[B2 hl]at hh;cases hh
theorem YN{h:FN}(b:SA K tA fa):SE K (OI (spM K h) [] E0 tA) (aK h fa):=by
 intro γ M x M' hh W H σ Q G R k;obtain⟨⟨ys,M1⟩,h1,hh⟩:=aH hh;refine b _ _ _ _ h1 W H σ _ G R fun vs W1 H1 e1 G1 r1=>?_;rw[L4];exact⟨ys,M1,W1,x,M',G1,r1,hh,fun v W2 H2 e2 G2 r2=>k v W2 H2 (e1.trans e2) G2 r2⟩
theorem aAc{r:List V->Hp->VK->Prop}{h:FN}(p:PN K r h)(b:SA K tA fa):SE K (tCB r tA) (aK h fa):=by
 intro γ M x M' hh W H σ Q G R k;obtain⟨⟨ys,M1⟩,h1,hh⟩:=aH hh;refine b _ _ _ _ h1 W H σ _ G R fun vs W1 H1 e1 G1 r1=>?_;exact p _ _ _ _ hh W1 H1 vs Q G1 r1 fun v W2 H2 e2 G2 r2=>k v W2 H2 (e1.trans e2) G2 r2
end
section
variable{K:Fg}{ta tb tc:TE}{f g e:EF}{tt uu:TT}{ft gt:TF}{tA:TA}{fa:AF}{t u:TS}{p q:SF}{tg:TG}{hg:GF}{tgs:TGs}{hgs:GsF}
theorem YK:SS K aAq dM:=by
 intro γ M o M' hh W H σ D G R k;cases hh;exact k W H (.refl _) G σ R
theorem aDA(a:SS K t p)(b:SS K u q):SS K (aDX t u) (aX p q):=by
 intro γ M o M' hh W H σ D G R k;obtain⟨⟨o1,M1⟩,h1,hh⟩:=aH hh;refine a _ _ _ _ h1 W H σ _ G R fun W1 H1 e1 G1=>?_;cases o1 with
 |nx γ1=>
  intro σ1 R1;exact b _ _ _ _ hh W1 H1 σ1 D G1 R1 fun W2 H2 e2 G2=>k W2 H2 (e1.trans e2) G2
 |bk γ1=>cases hh;exact k W1 H1 e1 G1
 |ct γ1=>cases hh;exact k W1 H1 e1 G1
 |rt x=>cases hh;exact k W1 H1 e1 G1
theorem VM(a:SE K ta f):SS K (aAC ta) (lA f):=by
 intro γ M o M' hh W H σ D G R k;obtain⟨⟨y,M1⟩,h1,hh⟩:=aH hh;cases hh;exact a _ _ _ _ h1 W H σ _ G R fun v W1 H1 e1 G1 r1=>k W1 H1 e1 G1 σ (R.up e1)
theorem aAJ(a:SE K ta f):SS K (aDS ta) (cO f):=by
 intro γ M o M' hh W H σ D G R k;obtain⟨⟨y,M1⟩,h1,hh⟩:=aH hh;cases hh;exact a _ _ _ _ h1 W H σ _ G R fun v W1 H1 e1 G1 r1=>k W1 H1 e1 G1 v r1
theorem aFl(c:STt K tt ft)(a:SS K t p)(b:SS K u q):SS K (aEb tt t u) (sIf ft p q):=by
 intro γ M o M' hh W H σ D G R k;obtain⟨⟨c1,M1⟩,h1,hh⟩:=aH hh;refine c _ _ _ _ h1 W H σ _ G R fun W1 H1 e1 G1=>?_;cases c1 with
 |true=>rw[B0 rfl];rw[B0 rfl]at hh;exact a _ _ _ _ hh W1 H1 σ D G1 (R.up e1) fun W3 H3 e3 G3=>k W3 H3 (e1.trans e3) G3
 |false=>rw[B2 B4];rw[B2 B4]at hh;exact b _ _ _ _ hh W1 H1 σ D G1 (R.up e1) fun W3 H3 e3 G3=>k W3 H3 (e1.trans e3) G3
theorem FT(a:SE K ta f)(b:SG K tg hg):SS K (ZG ta tg) (aV f hg):=by
 intro γ M o M' hh W H σ D G R k;obtain⟨⟨y,M1⟩,h1,hh⟩:=aH hh;obtain⟨⟨γ1,M2⟩,h2,hh⟩:=aH hh;cases hh;refine a _ _ _ _ h1 W H σ _ G R fun v W1 H1 e1 G1 r1=>?_;exact b _ _ _ _ _ h2 W1 H1 σ v _ G1 (R.up e1) r1 fun σ' W2 H2 e2 G2 R2=>k W2 H2 (e1.trans e2) G2 σ' R2
theorem cT.set{W:Wd}{σ:St}{x:CD}{v:V}(R:cT K W γ σ)(i:Nat)(r:bR K W x v):cT K W (γ.set i (some x)) (σ.set i (some v)):=Paired.set (R:=EY K W) (show EY K W (some x) (some v)from r) i R
theorem zY{i:Nat}:SG K (EB i) (hName i):=by
 intro x γ M γ' M' hh W H σ v Q G R r k;cases hh;exact k _ W H (.refl _) G (cT.set R i r)
theorem VF:SGs K aEx gT:=by
 intro xs γ M γ' M' hh W H σ vs Q G R r k;cases r with
 |nil=>cases hh;exact⟨rfl,k σ W H (.refl _) G R⟩
 |cons _ _=>cases hh
theorem NZ(a:SG K tg hg)(b:SGs K tgs hgs):SGs K (aAl tg tgs) (aZ hg hgs):=by
 intro xs γ M γ' M' hh W H σ vs Q G R r k;cases r with
 |nil=>cases hh
 |@cons x v xs vs r1 r2=>
  obtain⟨⟨γ1,M1⟩,h1,hh⟩:=aH (show(hg x γ M).bind _=_ from hh);refine⟨v,vs,rfl,a _ _ _ _ _ h1 W H σ v _ G R r1 fun σ1 W1 H1 e1 G1 R1=>?_⟩;exact b _ _ _ _ _ hh W1 H1 σ1 vs _ G1 R1 (bO.up r2 e1) fun σ2 W2 H2 e2 G2 R2=>k σ2 W2 H2 (e1.trans e2) G2 R2
theorem aBo{n:Nat}(b:SGs K tgs hgs):SG K (aCI K n tgs) (gX n hgs):=by
 intro x γ M γ' M' hh W H σ v Q G R r k;cases x with
 |c _=>cases hh
 |f _=>cases hh
 |t xs=>
  have hh:(if xs.length=n then hgs (xs.map cdA) γ M else none)=some (γ',M'):=hh;by_cases hl:xs.length=n
  .rw[B0 hl]at hh;obtain⟨a,vs,rfl,h2,h3⟩:=r;have hp:=KG h3;exact⟨a,vs,rfl,SqT.of (G.fh _ _ h2),by rw[<- hl];simpa using(Paired.len h3).symm,b _ _ _ _ _ hh W H σ vs Q G R hp k⟩
  .rw[B2 hl]at hh;cases hh
 |d x=>
  cases x with
  |tuple ds=>
   have hh:(if ds.length=n then hgs (ds.map .d) γ M else none)=some (γ',M'):=hh;by_cases hl:ds.length=n
   .rw[B0 hl]at hh;obtain⟨a,vs,rfl,h2,h3⟩:=(show ∃a vs,v=.ref a/\SqT K W.F a vs/\aJ K W.F ds vs from r);exact⟨a,vs,rfl,G.fh.seqT h2,by rw[<- h3.length];exact hl,b _ _ _ _ _ hh W H σ vs Q G R (eV h3) k⟩
   .rw[B2 hl]at hh;cases hh
  |_=>cases hh
noncomputable def P3(K:Fg)(r:V->V->V->Hp->(Hp->Prop)->Prop)(f:F3):Prop:=∀x y z M M',f x y z M=some M'->∀(W:Wd)(H:Hp)(v u w:V)(Q:Hp->Prop),Good K W M H->bR K W x v->bR K W y u->bR K W z w->(∀W' H',W.Ext W'->Good K W' M' H'->Q H')->r v u w H Q
theorem aCD{r:XS}{s:F3}(p:P3 K r s)(a:SE K ta f)(b:SE K tb g):SG K (aEg ta tb r) (hSub f g s):=by
 intro x γ M γ' M' hh W H σ v Q G R rv k;obtain⟨⟨o,M1⟩,h1,hh⟩:=aH hh;obtain⟨⟨i,M2⟩,h2,hh⟩:=aH hh;obtain⟨M3,h3,hh⟩:=aH hh;cases hh;refine a _ _ _ _ h1 W H σ _ G R fun v1 W1 H1 e1 G1 r1=>?_;refine b _ _ _ _ h2 W1 H1 σ _ G1 (R.up e1) fun v2 W2 H2 e2 G2 r2=>?_;exact p _ _ _ _ _ h3 W2 H2 v1 v2 v _ G2 (r1.up e2) r2 (rv.up (e1.trans e2)) fun W3 H3 e3 G3=>k σ W3 H3 ((e1.trans e2).trans e3) G3 (R.up ((e1.trans e2).trans e3))
theorem aCH{i j:Nat}(b:SA K tA fa):SS K (aET i j tA) (xQ i j fa):=by
 intro γ M o M' hh W H σ D G R k;obtain⟨⟨ys,M1⟩,h1,hh⟩:=aH hh;refine b _ _ _ _ h1 W H σ _ G R fun vs W1 H1 e1 G1 r1=>?_;rcases r1 with _|⟨a1,_|⟨a2,_|_⟩⟩
 .cases hh
 .cases hh
 .cases hh;exact⟨_,_,rfl,k W1 H1 e1 G1 _ (cT.set (cT.set (R.up e1) i a1) j a2)⟩
 .cases hh
noncomputable def GA(K:Fg)(J:It)(xs:List CD)(W:Wd):Prop:=∀W' M' H',W.Ext W'->Good K W' M' H'->
 (∀i x,xs[i]?=some x->J.go i H'/\∀y H'',J.yld i H' y H''->∃W'',W'.Ext W''/\Good K W'' M' H''/\bR K W'' x y)/\J.stop xs.length H'
noncomputable def SI(K:Fg)(wi:TI)(f:AF):Prop:=∀γ M xs M',f γ M=some (xs,M')->∀(W:Wd)(H:Hp)(σ:St)(R:It->Hp->Prop),Good K W M H->cT K W γ σ->(∀J W' H',W.Ext W'->Good K W' M' H'->GA K J xs W'->R J H')->wi σ H R
noncomputable def cC(f:EF):AF:=fun γ M=>(f γ M).bind fun r=>match r.1 with
 |.d x=>(bF x).bind fun ds=>some (ds.map .d,r.2)
 |_=>none
theorem aBz(a:SE K ta f):SI K (aBj K ta) (cC f):=by
 intro γ M xs M' hh W H σ R G Rs k;obtain⟨⟨y,M1⟩,h1,hh⟩:=aH hh;cases y with
 |c _=>cases hh
 |t _=>cases hh
 |f _=>cases hh
 |d y=>
  obtain⟨ds,h2,hh⟩:=aH (show(bF y).bind _=_ from hh);cases hh;refine a _ _ _ _ h1 W H σ _ G Rs fun v W1 H1 e1 G1 r1=>?_;obtain⟨p,vs,rfl,hs,hr⟩:=jI (show Rep K W1.F y v from r1) h2;refine⟨p,rfl,?_⟩
  have item:∀(i:Nat)(x:CD)(W2:Wd),W1.Ext W2->(ds.map CD.d)[i]?=some x->∃u,vs[i]?=some u/\bR K W2 x u:=fun i x W2 e2 hx=>by
   obtain⟨u,hu,ru⟩:=Paired.get (eV hr) hx;exact⟨u,hu,ru.up e2⟩
  have hlen:(ds.map CD.d).length=vs.length:=by rw[A3];exact hr.length
  rcases hs with hs|hs
  .refine .inl ⟨vs,G1.fh.seq hs,k _ W1 H1 e1 G1 fun W2 M2 H2 e2 G2=>?_⟩;have hs2:SqL K H2 p vs:=G2.fh.seq (e2.ff.seq hs);refine⟨fun i x hx=>?_,?_⟩
   .obtain⟨u,hu,ru⟩:=item i x W2 e2 hx;refine⟨⟨vs,u,hs2,hu⟩,fun y' H'' hy=>⟨W2,.refl _,by rw[hy.1];exact G2,?_⟩⟩;have:=hy.2 vs hs2;rw[hu]at this;cases this;exact ru
   .rw[hlen];exact⟨vs,hs2,A7 _⟩
  .refine .inr ⟨vs,G1.fh.seqT hs,k _ W1 H1 e1 G1 fun W2 M2 H2 e2 G2=>?_⟩;have hs2:SqT K H2 p vs:=G2.fh.seqT (e2.ff.seqT hs);refine⟨fun i x hx=>?_,?_⟩
   .obtain⟨u,hu,ru⟩:=item i x W2 e2 hx;refine⟨⟨vs,u,hs2,hu⟩,fun y' H'' hy=>⟨W2,.refl _,by rw[hy.1];exact G2,?_⟩⟩;have:=hy.2 vs hs2;rw[hu]at this;cases this;exact ru
   .rw[hlen];exact⟨vs,hs2,A7 _⟩
noncomputable def fE(lo:Int)(n:Nat):List CD:=(List.range n).map fun i=>.d (.int (lo+(i:Nat)))
theorem EM{lo:Int}{n i:Nat}{x:CD}(h:(fE lo n)[i]?=some x):i<n/\x=.d (.int (lo+i)):=by
 unfold fE at h;rw[C0]at h;by_cases hi:i<n
 .rw[A0b hi]at h;exact⟨hi,(D9 h).symm⟩
 .rw[List.getElem?_eq_none_iff.mpr (by simpa using hi)]at h;cases h
noncomputable def dD(i:Int):Bool:=decide (-(2 ^ 62)<=i)&&decide (i<2 ^ 62)
noncomputable def cU(f:AF):AF:=fun γ M=>(f γ M).bind fun r=>match r.1 with
 |[.d (.int j)]=>if dD j=true then some (fE 0 j.toNat,r.2)else none
 |_=>none
noncomputable def qV(f:AF):AF:=fun γ M=>(f γ M).bind fun r=>match r.1 with
 |[.d (.int i),.d (.int j)]=>if dD i=true/\dD j=true then some (fE i (j-i).toNat,r.2)else none
 |_=>none
theorem yJ{lo:Int}{n:Nat}{W:Wd}:GA K (Itr lo n) (fE lo n) W:=fun W' M' H' e G=>
 ⟨fun i x hx=>⟨(EM hx).1,fun y H'' hy=>⟨W',.refl _,by rw[hy.1];exact G,by rw[(EM hx).2];exact hy.2⟩⟩,by show n<=_;simp[fE]⟩
theorem fZ{i:Int}(h:dD i=true):-(2 ^ 62)<=i/\i<2 ^ 62:=by
 unfold dD at h;rw[B5]at h;exact⟨C3 h.1,C3 h.2⟩
theorem UF(b:SA K tA fa):SI K (ZV tA) (cU fa):=by
 intro γ M xs M' hh W H σ R G Rs k;obtain⟨⟨ys,M1⟩,h1,hh⟩:=aH hh;refine b _ _ _ _ h1 W H σ _ G Rs fun vs W1 H1 e1 G1 r1=>?_;revert hh;dsimp only;split
 .rename_i j;intro hh;by_cases hs:dD j=true
  .rw[B0 hs]at hh;cases hh;cases r1 with
   |cons r r'=>
    cases r';exact⟨j,by rw[show _=V.int j from r],(fZ hs).1,(fZ hs).2,k _ W1 H1 e1 G1 yJ⟩
  .rw[B2 hs]at hh;cases hh
 .intro hh;cases hh
theorem YB(b:SA K tA fa):SI K (ZR tA) (qV fa):=by
 intro γ M xs M' hh W H σ R G Rs k;obtain⟨⟨ys,M1⟩,h1,hh⟩:=aH hh;refine b _ _ _ _ h1 W H σ _ G Rs fun vs W1 H1 e1 G1 r1=>?_;revert hh;dsimp only;split
 .rename_i i j;intro hh;by_cases hs:dD i=true/\dD j=true
  .rw[B0 hs]at hh;cases hh;cases r1 with
   |cons r r'=>
    cases r' with
    |cons r2 r''=>
     cases r'';exact⟨i,j,by rw[show _=V.int i from r,show _=V.int j from r2],⟨(fZ hs.1).1,(fZ hs.1).2,(fZ hs.2).1,(fZ hs.2).2⟩,k _ W1 H1 e1 G1 yJ⟩
  .rw[B2 hs]at hh;cases hh
 .intro hh;cases hh
theorem aAP{wi:TI}(i:SI K wi fa)(a:SG K tg hg)(b:SS K t p):SS K (aFf wi tg t) (nN fa hg p):=by
 intro γ M o M' hh W H σ D G R k;obtain⟨⟨xs,M1⟩,h1,hh⟩:=aH hh;have hh:lW hg p xs γ M1=some (o,M'):=hh;refine i _ _ _ _ h1 W H σ _ G R fun J W1 H1 e1 G1 gv=>?_;refine⟨fun j m σ' H'=>∃γ' M2 W2,j<=xs.length/\m=xs.length-j/\W1.Ext W2/\Good K W2 M2 H'/\cT K W2 γ' σ'/\lW hg p (xs.drop j) γ' M2=some (o,M'),⟨_,γ,M1,W1,J5 _,rfl,.refl _,G1,R.up e1,hh⟩,?_⟩;rintro j m σ' H' ⟨γ',M2,W2,hj,rfl,e2,G2,R2,h2⟩;obtain⟨gv1,gv2⟩:=gv W2 M2 H' e2 G2;by_cases hlt:j<xs.length
 .obtain⟨go,yl⟩:=gv1 j xs[j] (B6 hlt);rw[Y1 hlt]at h2;refine .inr ⟨go,fun σ3 H3=>∃γ3 M3 W3,W2.Ext W3/\Good K W3 M3 H3/\cT K W3 γ3 σ3/\lW hg p (xs.drop (j+1)) γ3 M3=some (o,M'),?_,fun y H3 hy=>?_⟩
  .rintro σ3 H3 ⟨γ3,M3,W3,e3,G3,R3,h3⟩;exact⟨_,by omega,γ3,M3,W3,hlt,rfl,e2.trans e3,G3,R3,h3⟩
  .obtain⟨W8,e8,G8,ry⟩:=yl y H3 hy;obtain⟨⟨γ4,M4⟩,h4,h2⟩:=aH (show(hg xs[j] γ' M2).bind _=_ from h2);obtain⟨⟨o5,M5⟩,h5,h2⟩:=aH h2;refine a _ _ _ _ _ h4 W8 _ σ' y _ G8 (R2.up e8) ry fun σ4 W4 H4 e4 G4 R4=>?_;refine b _ _ _ _ h5 W4 H4 σ4 _ G4 R4 fun W5 H5 e5 G5=>?_;have e25:=(e8.trans e4).trans e5;cases o5 with
   |nx γ5=>exact fun σ5 R5=>⟨γ5,M5,W5,e25,G5,R5,h2⟩
   |ct γ5=>exact fun σ5 R5=>⟨γ5,M5,W5,e25,G5,R5,h2⟩
   |bk γ5=>cases h2;exact k W5 H5 ((e1.trans e2).trans e25) G5
   |rt x=>cases h2;exact k W5 H5 ((e1.trans e2).trans e25) G5
 .have e:j=xs.length:=by omega
  subst e;rw[List.drop_length]at h2;cases h2;exact .inl ⟨gv2,k W2 H' (e1.trans e2) G2 σ' R2⟩
theorem OR(c:STt K tt ft)(b:SS K t p):SS K (QP tt t) (qE ft p):=by
 intro γ M o M' hh W H σ D G R k;unfold qE at hh;by_cases hex:∃n,(eM ft p n γ M).isSome=true
 .rw[dif_pos hex]at hh;generalize hex.choose=n at hh;refine⟨fun m σ' H'=>∃γ' M2 W2,W.Ext W2/\Good K W2 M2 H'/\cT K W2 γ' σ'/\eM ft p m γ' M2=some (o,M'),⟨n,γ,M,W,.refl _,G,R,hh⟩,?_⟩;rintro m σ' H' ⟨γ',M2,W2,e2,G2,R2,h2⟩;cases m with
  |zero=>cases h2
  |succ m=>
   obtain⟨⟨c3,M3⟩,h3,h2⟩:=aH (show(ft γ' M2).bind _=_ from h2);refine c _ _ _ _ h3 W2 H' σ' _ G2 R2 fun W3 H3 e3 G3=>?_;cases c3 with
   |true=>
    rw[B0 rfl];rw[B0 rfl]at h2;obtain⟨⟨o4,M4⟩,h4,h2⟩:=aH h2;refine⟨fun σ4 H4=>∃γ4 M4 W4,W2.Ext W4/\Good K W4 M4 H4/\cT K W4 γ4 σ4/\eM ft p m γ4 M4=some (o,M'),?_,?_⟩
    .rintro σ4 H4 ⟨γ4,M4,W4,e4,G4,R4,h4⟩;exact⟨m,L6 _,γ4,M4,W4,e2.trans e4,G4,R4,h4⟩
    .refine b _ _ _ _ h4 W3 H3 σ' _ G3 (R2.up e3) fun W5 H5 e5 G5=>?_;have e25:=e3.trans e5;cases o4 with
     |nx γ5=>exact fun σ5 R5=>⟨γ5,M4,W5,e25,G5,R5,h2⟩
     |ct γ5=>exact fun σ5 R5=>⟨γ5,M4,W5,e25,G5,R5,h2⟩
     |bk γ5=>cases h2;exact k W5 H5 (e2.trans e25) G5
     |rt x=>cases h2;exact k W5 H5 (e2.trans e25) G5
   |false=>
    rw[B2 B4];rw[B2 B4]at h2;cases h2;exact k W3 H3 (e2.trans e3) G3 σ' (R2.up e3)
 .rw[dif_neg hex]at hh;cases hh
theorem jG{c:TF}{b:SF}:∀{n m:Nat}{γ:Ga}{M:Sto}{r:Out×Sto},eM c b n γ M=some r->n<=m->eM c b m γ M=some r
 |0,_,_,_,_=>fun h _=>by cases h
 |n+1,0,_,_,_=>fun _ h=>by omega
 |n+1,m+1,γ,M,r=>fun h hl=>by
  obtain⟨⟨b1,M1⟩,h1,h⟩:=aH (show(c γ M).bind _=_ from h);show(c γ M).bind _=_;rw[h1];show(if b1=true then _ else _)=_;cases b1 with
  |false=>exact h
  |true=>
   rw[B0 rfl];rw[B0 rfl]at h;obtain⟨⟨o,M2⟩,h2,h⟩:=aH h;rw[h2];cases o with
   |nx γ'=>exact jG (n:=n) (m:=m) h (by omega)
   |ct γ'=>exact jG (n:=n) (m:=m) h (by omega)
   |bk γ'=>exact h
   |rt x=>exact h
theorem EI{c:TF}{b:SF}{n:Nat}{r:Out×Sto}(h:eM c b n γ M=some r):qE c b γ M=some r:=by
 unfold qE;have hex:∃n,(eM c b n γ M).isSome=true:=⟨n,by rw[h];rfl⟩;rw[dif_pos hex];have hs:=hex.choose_spec;cases q:eM c b hex.choose γ M with
 |none=>rw[q]at hs;cases hs
 |some r'=>
  rcases Nat.le_total n hex.choose with z|z
  .rw[jG h z]at q;exact q.symm▸rfl
  .rw[jG q z]at h;exact h
theorem zZ{W:Wd}{γ:Ga}{σ:St}(R:cT K W γ σ):∀cap:List (Option Nat),cT K W (iR cap γ) (uJ cap σ)
 |[]=>.nil
 |none::r=>.cons True.intro (zZ R r)
 |some j::r=>by
  refine .cons ?_ (zZ R r);show EY K W ((γ[j]?).join) ((σ[j]?).join);cases e:γ[j]? with
  |none=>
   have:σ[j]?=none:=by
    have hl:=Paired.len R;exact List.getElem?_eq_none_iff.mpr (by have:=List.getElem?_eq_none_iff.mp e;omega)
   rw[this];exact True.intro
  |some x=>
   obtain⟨y,hy,r'⟩:=Paired.get R e;rw[hy];exact r'
theorem AD{g:GF}{c:TF}{e:EF}:∀{xs:List CD}{γ:Ga}{M:Sto}{ys:List CD}{M':Sto},lcF g c e xs γ M=some (ys,M')->ys.length<=xs.length
 |[],_,_,_,_=>fun h=>by cases h;exact J5 _
 |x::xs,γ,M,ys,M'=>fun h=>by
  obtain⟨⟨γ1,M1⟩,h1,h⟩:=aH (show(g x γ M).bind _=_ from h);obtain⟨⟨b,M2⟩,h2,h⟩:=aH h;cases b with
  |true=>
   rw[B0 rfl]at h;obtain⟨⟨y,M3⟩,h3,h⟩:=aH h;obtain⟨⟨zs,M4⟩,h4,h⟩:=aH h;cases h;have:=AD h4;simp only[List.length_cons];omega
  |false=>
   rw[B2 B4]at h;have:=AD h;simp only[List.length_cons];omega
theorem QD{wi:TI}{cap:List (Option Nat)}{te:TE}{fe:EF}(i:SI K wi fa)(a:SG K tg hg)(c:STt K tt ft)(b:SE K te fe){xs:List CD}(hh:tV cap fa hg ft fe γ M=some (xs,M'))
 {W:Wd} {H:Hp} {σ:St} {Q:VK} (G:Good K W M H) (R:cT K W γ σ) (k:∀vs W' H',W.Ext W'->Good K W' M' H'->bO K W' xs vs->∀p,H' p=none->Q (.ref p) (upd H' p (.lst vs))):tLc cap wi tg tt te σ H Q:=by
 obtain⟨⟨ys,M1⟩,h1,hh⟩:=aH hh;have hh:(if ys.length<=sizeLine then lcF hg ft fe ys (iR cap γ) M1 else none)=some (xs,M'):=hh;by_cases hl:ys.length<=sizeLine
 .rw[B0 hl]at hh;refine i _ _ _ _ h1 W H σ _ G R fun J W1 H1 e1 G1 gv=>?_
  refine⟨fun j m acc σ' H'=>∃γ' M2 W2 pre suf,j<=ys.length/\m=ys.length-j/\acc.length<=j/\W1.Ext W2/\Good K W2 M2 H'/\cT K W2 γ' σ'/\bO K W2 pre acc/\pre++suf=xs/\lcF hg ft fe (ys.drop j) γ' M2=some (suf,M'),
   ⟨_,iR cap γ,M1,W1,[],xs,J5 _,rfl,J5 _,.refl _,G1,zZ (R.up e1) cap,.nil,rfl,hh⟩,?_⟩
  rintro j m acc σ' H' ⟨γ',M2,W2,pre,suf,hj,rfl,hacc,e2,G2,R2,rp,hx,h2⟩;obtain⟨gv1,gv2⟩:=gv W2 M2 H' e2 G2;by_cases hlt:j<ys.length
  .obtain⟨go,yl⟩:=gv1 j ys[j] (B6 hlt);rw[Y1 hlt]at h2;refine .inr ⟨go,by omega,fun acc3 σ3 H3=>∃γ3 M3 W3 pre3 suf3,acc3.length<=j+1/\W2.Ext W3/\Good K W3 M3 H3/\cT K W3 γ3 σ3/\bO K W3 pre3 acc3/\pre3++suf3=xs/\lcF hg ft fe (ys.drop (j+1)) γ3 M3=some (suf3,M'),?_,fun y H3 hy=>?_⟩
   .rintro acc3 σ3 H3 ⟨γ3,M3,W3,pre3,suf3,hl3,e3,G3,R3,rp3,hx3,h3⟩;exact⟨_,by omega,γ3,M3,W3,pre3,suf3,hlt,rfl,hl3,e2.trans e3,G3,R3,rp3,hx3,h3⟩
   .obtain⟨W8,e8,G8,ry⟩:=yl y H3 hy;obtain⟨⟨γ4,M4⟩,h4,h2⟩:=aH (show(hg ys[j] γ' M2).bind _=_ from h2);obtain⟨⟨b5,M5⟩,h5,h2⟩:=aH h2;refine a _ _ _ _ _ h4 W8 _ σ' y _ G8 (R2.up e8) ry fun σ4 W4 H4 e4 G4 R4=>?_;refine c _ _ _ _ h5 W4 H4 σ4 _ G4 R4 fun W5 H5 e5 G5=>?_;have e25:=(e8.trans e4).trans e5;cases b5 with
    |true=>
     rw[B0 rfl]at h2;obtain⟨⟨z,M6⟩,h6,h2⟩:=aH h2;obtain⟨⟨zs,M7⟩,h7,h2⟩:=aH h2;cases h2;refine .inl ⟨rfl,b _ _ _ _ h6 W5 H5 σ4 _ G5 (R4.up e5) fun v W6 H6 e6 G6 r6=>?_⟩;refine⟨γ4,M6,W6,pre++[z],zs,by rw[B9];simp only[List.length_singleton];omega,e25.trans e6,G6,R4.up (e5.trans e6),Paired.app (bO.up rp (e25.trans e6)) (.cons r6 .nil),by rw[<- hx,S0];rfl,h7⟩
    |false=>
     rw[B2 B4]at h2;exact .inr ⟨rfl,γ4,M5,W5,pre,suf,by omega,e25,G5,R4.up e5,bO.up rp e25,hx,h2⟩
  .have e:j=ys.length:=by omega
   subst e;rw[List.drop_length]at h2;cases h2;rw[L4]at hx;subst hx;exact .inl ⟨gv2,k acc W2 H' (e1.trans e2) G2 rp⟩
 .rw[B2 hl]at hh;cases hh
theorem MY{cap:List (Option Nat)}{fa:AF}{hg:GF}{ft:TF}{fe:EF}{xs:List CD}(hh:tV cap fa hg ft fe γ M=some (xs,M')):xs.length<=sizeLine:=by
 obtain⟨⟨ys,M1⟩,h1,hh⟩:=aH hh;have hh:(if ys.length<=sizeLine then lcF hg ft fe ys (iR cap γ) M1 else none)=some (xs,M'):=hh;by_cases hl:ys.length<=sizeLine
 .rw[B0 hl]at hh;exact C7 (AD hh) hl
 .rw[B2 hl]at hh;cases hh
theorem aDM{wi:TI}{cap:List (Option Nat)}{te:TE}{fe:EF}(i:SI K wi fa)(a:SG K tg hg)(c:STt K tt ft)(b:SE K te fe):SE K (tLc cap wi tg tt te) (fLc cap fa hg ft fe):=by
 intro γ M x M' hh W H σ Q G R k;obtain⟨⟨ys,M1⟩,h1,hh⟩:=aH hh;obtain⟨ds,h2,hh⟩:=aH hh;by_cases hl:ds.length<=sizeLine
 .rw[B0 hl]at hh;cases hh;refine QD i a c b h1 G R fun vs W1 H1 e1 G1 r1 p hp=>?_;obtain⟨e2,G2⟩:=G1.lay (o:=.lst vs) hp;exact k _ _ _ (e1.trans e2) G2 ⟨p,vs,rfl,SqL.of aP,aJ.same e2.ff _ _ (eF h2 r1)⟩
 .rw[B2 hl]at hh;cases hh
theorem aDr{wi:TI}{cap:List (Option Nat)}{te:TE}{fe:EF}(i:SI K wi fa)(a:SG K tg hg)(c:STt K tt ft)(b:SE K te fe):SE K (tLc cap wi tg tt te) (FD cap fa hg ft fe):=by
 intro γ M x M' hh W H σ Q G R k;obtain⟨⟨ys,M1⟩,h1,hh⟩:=aH hh;have hh:(if ys.length<=sizeLine then some (CD.c M1.length,M1++[Cell.lst ys])else none)=some (x,M'):=hh;rw[B0 (MY h1)]at hh;cases hh;refine QD i a c b h1 G R fun vs W1 H1 e1 G1 r1 p hp=>?_;exact k _ _ _ (e1.trans (W1.ext_more p)) (G1.new hp (c:=.lst ys) (o:=.lst vs) r1) G1.newV
theorem aCC:STt K aEC gE:=by
 intro γ M x M' hh W H σ Q G R k;cases hh;exact k W H (.refl _) G
theorem bO.some{W:Wd}:∀{xs:List CD}{vs:List V},bO K W xs vs->cT K W (xs.map some) (vs.map some)
 |_,_,.nil=>.nil
 |_,_,.cons r t=>.cons r (bO.some t)
theorem rK{W:Wd}:∀n:Nat,cT K W (List.replicate n none) (List.replicate n none)
 |0=>.nil
 |n+1=>.cons True.intro (rK n)
theorem Def.okM{P:Program}{w:World}{mg:Str->Option Value}{base:Heap}{x:Str}{st:Stmt}{N ps:List Str}{k:Nat}{b:SF}{q:Bool}(D:Def K mg x st)(S:aR N ps (aE st))
 (hb:∀(kV doc pm:Value)(an:Option Addr)(cdv ct:Value)(us:List Value),us.length=ps.length->bindArgs (PySem.W.fnOf x x (eJ st) (bN st) (aE st) .none kV doc pm an cdv ct) ⟨us,[]⟩=pure (ps.zip us))
 (hbody:∀(f:Addr)(cdv:Value)(A:Around)(outer:List Env)(s:Shared)(H:Hp)(E:XK),cJ k (A.deeper (envOfC x (aE st) s.heap.objs.size f cdv)) q->
  ∃t,PSs (qS CX0 P w K mg base N x (aE st) f cdv A outer s H E q).nox (bN st) t/\SS K t b):Callee P w K mg base (k+1) x ps (spM K (fnF ps.length N.length b)) q:=by
 have len:∀vs H Q E,spM K (fnF ps.length N.length b) vs H Q E->vs.length=ps.length:=fun vs H Q E h=>by
  obtain⟨xs,M,W,y,M',G,R,hf,_⟩:=h;by_cases hl:xs.length=ps.length
  .rw[<- Paired.len R];exact hl
  .unfold fnF at hf;rw[B2 hl]at hf;cases hf
 refine D.ok S hb len fun f cdv A outer s H vs Q E hr h=>?_;obtain⟨t,hP,hS⟩:=hbody f cdv A outer s H E hr;refine⟨t,hP,?_⟩;obtain⟨xs,M,W,y,M',G,R,hf,k⟩:=h;by_cases hl:xs.length=ps.length
 .unfold fnF at hf;rw[B0 hl]at hf;obtain⟨⟨o,M1⟩,h1,hf⟩:=aH hf
  have hR:cT K W (xs.map some++List.replicate (N.length-xs.length) none) (start N vs):=by
   unfold start;rw[<- Paired.len R];exact Paired.app (bO.some R) (rK _)
  refine hS _ _ _ _ h1 W H _ _ G hR fun W1 H1 e1 G1=>?_;cases o with
  |rt x=>cases hf;exact fun v r=>k v W1 H1 e1 G1 r
  |nx γ=>cases hf;exact fun σ r=>k .non W1 H1 e1 G1 rfl
  |bk γ=>cases hf
  |ct γ=>cases hf
 .unfold fnF at hf;rw[B2 hl]at hf;cases hf
end
noncomputable def HC(h h':F2):F2:=fun x y M=>match h x y M with
 |some r=>some r
 |none=>h' x y M
noncomputable def pI(g:Int->Int->Option PyData):F2:=fun x y M=>match x,y with
 |.d (.int i),.d (.int j)=>(g i j).bind fun z=>some (.d z,M)
 |_,_=>none
theorem OZ{g:Int->Int->Option PyData}{x y:CD}{z:CD}(h:pI g x y M=some (z,M')):∃i j w,x=.d (.int i)/\y=.d (.int j)/\g i j=some w/\z=.d w/\M'=M:=by
 unfold pI at h;split at h
 .rename_i i j;obtain⟨w,h1,h⟩:=aH h;cases h;exact⟨i,j,w,rfl,rfl,h1,rfl,rfl⟩
 .cases h
section
variable{X:Cx}{K:Fg}
theorem QX{g:Int->Int->Int}:P2 K (rI0 fun i j=>.int (g i j)) (pI fun i j=>some (.int (g i j))):=by
 intro x y M z M' h W H v u Q G rx ry k;obtain⟨i,j,w,rfl,rfl,hw,rfl,rfl⟩:=OZ h;cases hw;exact⟨i,j,rx,ry,k _ W H (.refl _) G rfl⟩
theorem JC{g:Int->Int->Bool}:P2 K (rI0 fun i j=>.bl (g i j)) (pI fun i j=>some (.bool (g i j))):=by
 intro x y M z M' h W H v u Q G rx ry k;obtain⟨i,j,w,rfl,rfl,hw,rfl,rfl⟩:=OZ h;cases hw;exact⟨i,j,rx,ry,k _ W H (.refl _) G rfl⟩
noncomputable def ifS(c:Bool)(x:PyData):Option PyData:=if c=true then some x else none
theorem aCu{c:Bool}{x y:PyData}(h:ifS c x=some y):c=true/\y=x:=by
 unfold ifS at h;cases c with
 |true=>rw[B0 rfl]at h;cases h;exact⟨rfl,rfl⟩
 |false=>rw[B2 B4]at h;cases h
theorem LH{C:Int->Int->Prop}{c:Int->Int->Bool}{g:Int->Int->Int}(hc:∀i j,c i j=true->C i j):P2 K (rI C fun i j=>.int (g i j)) (pI fun i j=>ifS (c i j) (.int (g i j))):=by
 intro x y M z M' h W H v u Q G rx ry k;obtain⟨i,j,w,rfl,rfl,hw,rfl,rfl⟩:=OZ h;obtain⟨h1,rfl⟩:=aCu hw;exact⟨i,j,rx,ry,hc i j h1,k _ W H (.refl _) G rfl⟩
noncomputable def aFd:F2:=pI fun i j=>some (.int (i+j))
noncomputable def xE:F2:=pI fun i j=>some (.int (i-j))
noncomputable def fV(i j:Int):Bool:=decide (i.natAbs<2 ^ 64) || decide (j.natAbs<2 ^ 64) || (decide (i.natAbs<tQ)&&decide (j.natAbs<tQ))
noncomputable def wQ:F2:=pI fun i j=>ifS (fV i j) (.int (i*j))
noncomputable def jN(_ j:Int):Bool:=decide (0<j)&&decide (j.natAbs<tQ)
noncomputable def dF:F2:=pI fun i j=>ifS (jN i j) (.int (i / j))
noncomputable def eY(_ j:Int):Bool:=decide (0<j)
noncomputable def bY:F2:=pI fun i j=>ifS (eY i j) (.int (i % j))
noncomputable def zO(i j:Int):Bool:=decide (0<=j)&&decide (j<=1000000)&&decide (i.natAbs<2 ^ 64)
noncomputable def XF:F2:=pI fun i j=>ifS (zO i j) (.int (i ^ j.toNat))
theorem mulOk_of{i j:Int}(h:fV i j=true):DN i j:=by
 unfold fV at h;simp only[Bool.or_eq_true,Bool.and_eq_true,decide_eq_true_eq]at h;rcases h with(h|h)|h
 .exact .inl (.inl ⟨by omega,by omega⟩)
 .exact .inl (.inr ⟨by omega,by omega⟩)
 .exact .inr h
noncomputable def ltI:F2:=pI fun i j=>some (.bool (decide (i<j)))
noncomputable def leI:F2:=pI fun i j=>some (.bool (decide (i<=j)))
noncomputable def gtI:F2:=pI fun i j=>some (.bool (decide (j<i)))
noncomputable def geI:F2:=pI fun i j=>some (.bool (decide (j<=i)))
noncomputable def eqD(neg:Bool):F2:=fun x y M=>match x,y with
 |.d a,.d b=>if (SeqAt.shaped a&&SeqAt.shaped b)=true then some (.d (.bool (if neg then !PyData.eqv a b else PyData.eqv a b)),M)else none
 |_,_=>none
theorem ZX{neg:Bool}:P2 K (GI K neg) (eqD neg):=by
 intro x y M z M' h W H v u Q G rx ry k;unfold eqD at h;split at h
 .rename_i a b;by_cases hs:(SeqAt.shaped a&&SeqAt.shaped b)=true
  .rw[B0 hs]at h;cases h;rw[B5]at hs;exact⟨a,b,Rep.same G.fh _ _ rx,Rep.same G.fh _ _ ry,hs.1,hs.2,k _ W H (.refl _) G rfl⟩
  .rw[B2 hs]at h;cases h
 .cases h
noncomputable def inD(neg:Bool):F2:=fun x y M=>match x,y with
 |.d a,.d b=>(bF b).bind fun ds=>if (SeqAt.shaped a&&ds.all SeqAt.shaped)=true then some (.d (.bool (if neg then !ds.any fun d=>PyData.eqv d a else ds.any fun d=>PyData.eqv d a)),M)else none
 |_,_=>none
theorem aAz{neg:Bool}:P2 K (SN K neg) (inD neg):=by
 intro x y M z M' h W H v u Q G rx ry k;unfold inD at h;split at h
 .rename_i a b;obtain⟨ds,h1,h⟩:=aH h;by_cases hs:(SeqAt.shaped a&&ds.all SeqAt.shaped)=true
  .rw[B0 hs]at h;cases h;rw[B5]at hs;obtain⟨p,vs,rfl,hq,hr⟩:=jI (Rep.same G.fh _ _ ry) h1;exact⟨a,ds,p,vs,Rep.same G.fh _ _ rx,rfl,hq,hr,hs.1,hs.2,k _ W H (.refl _) G rfl⟩
  .rw[B2 hs]at h;cases h
 .cases h
theorem aJ.nth{ds:List PyData}{vs:List V}{i:Nat}{d:PyData}(h:aJ K H ds vs)(e:ds[i]?=some d):∃v,vs[i]?=some v/\Rep K H d v:=by
 have hlt:i<vs.length:=by rw[<- h.length];exact(List.getElem?_eq_some_iff.mp e).1
 have hv:vs[i]?=some vs[i]:=B6 hlt;obtain⟨d',hd',r⟩:=h.get hv;rw[e]at hd';cases hd';exact⟨_,hv,r⟩
theorem HN{α:Type}{xs:List α}{i:Int}{x:α}(h:atI xs i=some x):∃j,ixN xs.length i=some j/\xs[j]?=some x:=by
 unfold atI at h;exact aH h
theorem BA{α:Type}{xs:List α}{i:Int}{j:Nat}{x:α}(h:ixN xs.length i=some j)(e:xs[j]?=some x):atI xs i=some x:=by
 unfold atI;rw[h];exact e
noncomputable def ixF:F2:=fun x y M=>match x,y with
 |.d a,.d (.int n)=>(bF a).bind fun ds=>(atI ds n).bind fun e=>some (.d e,M)
 |.c i,.d (.int n)=>match M[i]? with
  |some (.lst xs)=>(atI xs n).bind fun e=>some (e,M)
  |_=>none
 |.t xs,.d (.int n)=>(atI xs n).bind fun e=>some (cdA e,M)
 |_,_=>none
theorem Good.lstAt{W:Wd}{i:Nat}{xs:List CD}(G:Good K W M H)(h:M[i]?=some (.lst xs)):∃vs,H (W.α i)=some (.lst vs)/\bO K W xs vs:=by
 obtain⟨_,o,h2,h3⟩:=G.cs i _ h (by intro z;cases z);cases o with
 |lst vs=>exact⟨vs,h2,h3⟩
 |_=>exact False.elim h3
theorem aEU:P2 K (rIx K) ixF:=by
 intro x y M z M' h W H v u Q G rx ry k;unfold ixF at h;split at h
 .rename_i a n;obtain⟨ds,h1,h⟩:=aH h;obtain⟨e,h2,h⟩:=aH h;cases h;obtain⟨p,vs,rfl,hq,hr⟩:=jI (Rep.same G.fh _ _ rx) h1;obtain⟨j,hj,he⟩:=HN h2;obtain⟨w,hw,rw'⟩:=hr.nth he;have hlen:=hr.length;have hat:atI vs n=some w:=BA (by rw[<- hlen];exact hj) hw;obtain⟨p',vs',e',hq',hr'⟩:=jI (show Rep K W.F a (.ref p)from rx) h1;cases e'
  have same:∀w',vs'[j]?=some w'->Rep K W.F e w':=fun w' hw'=>by
   obtain⟨w2,h3,h4⟩:=hr'.nth he;rw[hw']at h3;cases h3;exact h4
  obtain⟨w',hw',r'⟩:=hr'.nth he;have hat':atI vs' n=some w':=BA (by rw[<- hr'.length];exact hj) hw';rcases hq' with hq'|hq'
  .exact .inl ⟨p,vs',n,w',rfl,ry,G.fh.seq hq',hat',k _ W H (.refl _) G r'⟩
  .exact .inr (.inl ⟨p,vs',n,w',rfl,ry,G.fh.seqT hq',hat',k _ W H (.refl _) G r'⟩)
 .rename_i i n;split at h
  .rename_i xs hx;obtain⟨e,h2,h⟩:=aH h;cases h;obtain⟨vs,hv,hr⟩:=G.lstAt hx;obtain⟨j,hj,he⟩:=HN h2;obtain⟨w,hw,r'⟩:=Paired.get hr he;have hat:atI vs n=some w:=BA (by rw[<- Paired.len hr];exact hj) hw;rw[show v=.ref (W.α i)from rx.2];exact .inl ⟨_,vs,n,w,rfl,ry,SqL.of hv,hat,k _ W H (.refl _) G r'⟩
  .cases h
 .rename_i xs n;obtain⟨e,h2,h⟩:=aH h;cases h;obtain⟨a,vs,rfl,hv,hr⟩:=rx;obtain⟨j,hj,he⟩:=HN h2;obtain⟨w,hw,r'⟩:=Paired.get hr he;have hat:atI vs n=some w:=BA (by rw[<- Paired.len hr];exact hj) hw;exact .inr (.inl ⟨_,vs,n,w,rfl,ry,SqT.of (G.fh _ _ hv),hat,k _ W H (.refl _) G (by cases e<;>exact r')⟩)
 .cases h
noncomputable def lB:FN:=fun xs M=>match xs with
 |[.d a]=>(bF a).bind fun ds=>some (.d (.int ds.length),M)
 |[.c i]=>match M[i]? with
  |some (.lst ys)=>some (.d (.int ys.length),M)
  |_=>none
 |[.t xs]=>some (.d (.int xs.length),M)
 |_=>none
theorem aCW:PN K (fun xs H Q=>∃p ys,xs=[.ref p]/\(SqL K H p ys\/SqT K H p ys)/\Q (.int ys.length) H) lB:=by
 intro xs M z M' h W H vs Q G r k;unfold lB at h;split at h
 .rename_i a;obtain⟨ds,h1,h⟩:=aH h;cases h;rcases r with _|⟨r1,_|_⟩;obtain⟨p,us,rfl,hq,hr⟩:=jI (Rep.same G.fh _ _ r1) h1;refine⟨p,us,rfl,hq,?_⟩;rw[<- hr.length];exact k _ W H (.refl _) G rfl
 .rename_i i;split at h
  .rename_i ys hy;cases h;rcases r with _|⟨r1,_|_⟩;obtain⟨us,hv,hr⟩:=G.lstAt hy;rw[r1.2];refine⟨_,us,rfl,.inl (SqL.of hv),?_⟩;rw[<- Paired.len hr];exact k _ W H (.refl _) G rfl
  .cases h
 .rename_i xs;cases h;rcases r with _|⟨r1,_|_⟩;obtain⟨a,us,rfl,hv,hr⟩:=r1;refine⟨_,us,rfl,.inr (SqT.of (G.fh _ _ hv)),?_⟩;rw[<- Paired.len hr];exact k _ W H (.refl _) G rfl
 .cases h
noncomputable def uA:FN:=fun xs M=>match xs with
 |[.d a]=>(bF a).bind fun ds=>some (.d (.list ds),M)
 |[.c i]=>match M[i]? with
  |some (.lst ys)=>(lV ys).bind fun ds=>some (.d (.list ds),M)
  |_=>none
 |_=>none
theorem WG:PN K (fun xs H Q=>∃p ys,xs=[.ref p]/\(SqL K H p ys\/SqT K H p ys)/\∀l,H l=none->Q (.ref l) (upd H l (.lst ys))) uA:=by
 intro xs M z M' h W H vs Q G r k;unfold uA at h;split at h
 .rename_i a;obtain⟨ds,h1,h⟩:=aH h;cases h;rcases r with _|⟨r1,_|_⟩;obtain⟨p,us,rfl,hq,hr⟩:=jI (show Rep K W.F a _ from r1) h1;refine⟨p,us,rfl,hq.imp (fun z=>G.fh.seq z) (fun z=>G.fh.seqT z),fun l hl=>?_⟩;obtain⟨e2,G2⟩:=G.lay (o:=.lst us) hl;exact k _ _ _ e2 G2 ⟨l,us,rfl,SqL.of aP,aJ.same e2.ff _ _ hr⟩
 .rename_i i;split at h
  .rename_i ys hy;obtain⟨ds,h1,h⟩:=aH h;cases h;rcases r with _|⟨r1,_|_⟩;obtain⟨us,hv,hr⟩:=G.lstAt hy;rw[r1.2];refine⟨_,us,rfl,.inl (SqL.of hv),fun l hl=>?_⟩;obtain⟨e2,G2⟩:=G.lay (o:=.lst us) hl;exact k _ _ _ e2 G2 ⟨l,us,rfl,SqL.of aP,aJ.same e2.ff _ _ (eF h1 hr)⟩
  .cases h
 .cases h
noncomputable def eQ:FN:=fun xs M=>match xs with
 |[.d (.list ds)]=>some (.d (.tuple ds),M)
 |[.d (.tuple ds)]=>some (.d (.tuple ds),M)
 |[.c i]=>match M[i]? with
  |some (.lst ys)=>(lV ys).bind fun ds=>some (.d (.tuple ds),M)
  |_=>none
 |_=>none
theorem TR:PN K (fun xs H Q=>∃p ys,xs=[.ref p]/\((SqL K H p ys/\∀l,H l=none->Q (.ref l) (upd H l (.tup ys)))\/(SqT K H p ys/\Q (.ref p) H))) eQ:=by
 intro xs M z M' h W H vs Q G r k;unfold eQ at h;split at h
 .rename_i ds;cases h;rcases r with _|⟨r1,_|_⟩;obtain⟨p,us,rfl,hq,hr⟩:=(show ∃a us,_=V.ref a/\SqL K W.F a us/\aJ K W.F ds us from r1);refine⟨p,us,rfl,.inl ⟨G.fh.seq hq,fun l hl=>?_⟩⟩;obtain⟨e2,G2⟩:=G.lay (o:=.tup us) hl;exact k _ _ _ e2 G2 ⟨l,us,rfl,SqT.of aP,aJ.same e2.ff _ _ hr⟩
 .rename_i ds;cases h;rcases r with _|⟨r1,_|_⟩;obtain⟨p,us,rfl,hq,hr⟩:=(show ∃a us,_=V.ref a/\SqT K W.F a us/\aJ K W.F ds us from r1);exact⟨p,us,rfl,.inr ⟨G.fh.seqT hq,k _ W H (.refl _) G ⟨p,us,rfl,hq,hr⟩⟩⟩
 .rename_i i;split at h
  .rename_i ys hy;obtain⟨ds,h1,h⟩:=aH h;cases h;rcases r with _|⟨r1,_|_⟩;obtain⟨us,hv,hr⟩:=G.lstAt hy;rw[r1.2];refine⟨_,us,rfl,.inl ⟨SqL.of hv,fun l hl=>?_⟩⟩;obtain⟨e2,G2⟩:=G.lay (o:=.tup us) hl;exact k _ _ _ e2 G2 ⟨l,us,rfl,SqT.of aP,aJ.same e2.ff _ _ (eF h1 hr)⟩
  .cases h
 .cases h
noncomputable def QF(T:String)(f:EF):EF:=fun γ M=>(f γ M).bind fun r=>match r.1 with
 |.d a=>some (.d (.bool (xD T a)),r.2)
 |_=>none
theorem aCL{T:String}{ta:TE}{f:EF}(hT:T∈asked)(a:SE K ta f):SE K (tCB (aBm K) (tS ta (tS (tC (.ty T)) RU))) (QF T f):=by
 intro γ M x M' hh W H σ Q G R k;obtain⟨⟨y,M1⟩,h1,hh⟩:=aH hh;cases y with
 |c _=>cases hh
 |t _=>cases hh
 |f _=>cases hh
 |d y=>
  cases hh;refine a _ _ _ _ h1 W H σ _ G R fun v W1 H1 e1 G1 r1=>?_;exact⟨v,T,y,rfl,hT,Rep.same G1.fh _ _ r1,k _ W1 H1 e1 G1 rfl⟩
noncomputable def IA(T U:String)(f:EF):EF:=fun γ M=>(f γ M).bind fun r=>match r.1 with
 |.d a=>some (.d (.bool (xD T a || xD U a)),r.2)
 |_=>none
theorem ZF{T U:String}{ta:TE}{f:EF}(hT:T∈asked)(hU:U∈asked)(a:SE K ta f):SE K (tCB (QU K) (tS ta (tS (UP (tS (tC (.ty T)) (tS (tC (.ty U)) RU))) RU))) (IA T U f):=by
 intro γ M x M' hh W H σ Q G R k;obtain⟨⟨y,M1⟩,h1,hh⟩:=aH hh;cases y with
 |c _=>cases hh
 |t _=>cases hh
 |f _=>cases hh
 |d y=>
  cases hh;refine a _ _ _ _ h1 W H σ _ G R fun v W1 H1 e1 G1 r1=>?_;refine⟨by show 2<=sizeLine;decide,fun p hp=>?_⟩;obtain⟨e2,G2⟩:=G1.lay (o:=.tup [.ty T,.ty U]) hp;refine⟨v,p,[T,U],y,rfl,aP,fun S hS=>?_,Rep.same (e2.ff.trans G2.fh) _ _ r1,?_⟩
  .rcases List.mem_cons.mp hS with rfl|hS
   .exact hT
   .rw[List.mem_singleton.mp hS];exact hU
  .have e:([T,U].any fun T=>xD T y)=(xD T y || xD U y):=by simp
   rw[e];exact k _ _ _ (e1.trans e2) G2 rfl
noncomputable def UK(M:Sto):CD->Option Bool
 |.d .none=>some false
 |.d (.bool b)=>some b
 |.d (.int i)=>some (i != 0)
 |.d (.list ds)=>some (!ds.isEmpty)
 |.d (.tuple ds)=>some (!ds.isEmpty)
 |.c i=>match M[i]? with
  |some (.lst xs)=>some (!xs.isEmpty)
  |some (.dk kvs)=>some (!kvs.isEmpty)
  |_=>none
 |_=>none
noncomputable def HS(f:EF):TF:=fun γ M=>(f γ M).bind fun r=>(UK r.2 r.1).bind fun b=>some (b,r.2)
theorem jF{α β:Type}{xs:List α}{ys:List β}(h:xs.length=ys.length):xs.isEmpty=ys.isEmpty:=by
 cases xs<;>cases ys<;>simp at h ⊢
theorem aDi{ta:TE}{f:EF}(a:SE K ta f):STt K (fun σ H Q=>ta σ H fun x H'=>∃k,YA K x H' k/\Q k H') (HS f):=by
 intro γ M b M' hh W H σ Q G R k;obtain⟨⟨y,M1⟩,h1,hh⟩:=aH hh;obtain⟨b1,h2,hh⟩:=aH hh;cases hh;refine a _ _ _ _ h1 W H σ _ G R fun v W1 H1 e1 G1 r1=>⟨_,?_,k W1 H1 e1 G1⟩;cases y with
 |d y=>
  cases y with
  |none=>cases h2;rw[show v=.non from r1];rfl
  |bool c=>cases h2;rw[show v=.bl _ from r1];rfl
  |int i=>cases h2;rw[show v=.int _ from r1];rfl
  |str x=>cases h2
  |list ds=>
   cases h2;obtain⟨p,us,rfl,hq,hr⟩:=(show ∃a us,_=V.ref a/\SqL K W1.F a us/\aJ K W1.F ds us from r1);exact .inl ⟨us,G1.fh.seq hq,by rw[jF hr.length]⟩
  |tuple ds=>
   cases h2;obtain⟨p,us,rfl,hq,hr⟩:=(show ∃a us,_=V.ref a/\SqT K W1.F a us/\aJ K W1.F ds us from r1);exact .inr (.inl ⟨us,G1.fh.seqT hq,by rw[jF hr.length]⟩)
  |dict kvs=>cases h2
 |t _=>cases h2
 |f _=>cases h2
 |c i=>
  rw[r1.2];unfold UK at h2;dsimp only at h2;split at h2
  .rename_i xs hx;cases h2;obtain⟨us,hv,hr⟩:=G1.lstAt hx;exact .inl ⟨us,SqL.of hv,by rw[jF (Paired.len hr)]⟩
  .rename_i kvs hx;cases h2;obtain⟨_,o,g2,g3⟩:=G1.cs i _ hx (by intro z;cases z);cases o with
   |dK us=>exact .inr (.inr ⟨us,g2,by rw[jF (Paired.len g3)]⟩)
   |_=>exact False.elim g3
  .cases h2
noncomputable def boolsOf:List PyData->Option (List Bool)
 |[]=>some []
 |.bool b::r=>(boolsOf r).bind fun bs=>some (b::bs)
 |_::_=>none
noncomputable def CW:FN:=fun xs M=>match xs with
 |[.d (.list ds)]=>(boolsOf ds).bind fun bs=>some (.d (.bool (bs.all id)),M)
 |_=>none
theorem zD{H:Hp}:∀{ds:List PyData}{bs:List Bool}{vs:List V},boolsOf ds=some bs->aJ K H ds vs->vs=bs.map V.bl
 |[],bs,vs=>fun e h=>by cases e;exact h
 |.bool b::r,bs,vs=>fun e h=>by
  obtain⟨cs,h1,e⟩:=aH (show(boolsOf r).bind _=_ from e);cases e;obtain⟨v,us,rfl,h2,h3⟩:=h;rw[show v=V.bl b from h2,zD h1 h3];rfl
 |.none::_,_,_=>fun e _=>by cases e
 |.int _::_,_,_=>fun e _=>by cases e
 |.str _::_,_,_=>fun e _=>by cases e
 |.list _::_,_,_=>fun e _=>by cases e
 |.tuple _::_,_,_=>fun e _=>by cases e
 |.dict _::_,_,_=>fun e _=>by cases e
theorem LK(hc:X.calm=true):eT X (.builtin "all") (fun xs H Q=>∃(p:Addr)(bs:List Bool),xs=[.ref p]/\SqL X.K H p (bs.map V.bl)/\Q (.bl (bs.all id)) H):=by
 intro pins s σ H xs us Q I r h;obtain⟨p,bs,rfl,hp,q⟩:=h;obtain⟨u,rfl,ru⟩:=vals1 r;cases (show u=Value.ref p from ru);obtain⟨its,rv,pl,hz⟩:=I.list hp;have hits:=aU.bools rv;subst hits;refine call_all_walk (wpAny_pyIter_list pl.isList ?_);have hlt:p<s.heap.objs.size:=pl.lt;refine⟨_,_,_,_,_,_,(fun i=>bs.getD i false),rfl,Walks.list (A:=X.A.in1) (I.ok.hd hc) s.heap.objs.size p (B7 hlt) (bs.map Value.bool).toArray,⟨⟨_,B1 _ rfl,rfl,rfl⟩,pl.isList.at fun o e=>A2 _ e⟩,ET,fun h' tk hk=>?_⟩;have e1:((bs.map Value.bool).toArray).size=bs.length:=by simp
 rw[e1,all_range];refine⟨.bl _,H,I.kept (h':=h') (t':=tk) fun b o e=>?_,rfl,q⟩;exact hk b o (fun z=>by rw[List.mem_singleton]at z;exact absurd (A6 e) (by rw[z];exact J2 _)) (A2 _ e)
theorem aCo:PN K (fun xs H Q=>∃(p:Addr)(bs:List Bool),xs=[.ref p]/\SqL K H p (bs.map V.bl)/\Q (.bl (bs.all id)) H) CW:=by
 intro xs M z M' h W H vs Q G r k;unfold CW at h;split at h
 .rename_i ds;obtain⟨bs,h1,h⟩:=aH h;cases h;rcases r with _|⟨r1,_|_⟩;obtain⟨p,us,rfl,hq,hr⟩:=(show ∃a us,_=V.ref a/\SqL K W.F a us/\aJ K W.F ds us from r1);have e:=zD h1 hr;subst e;exact⟨p,bs,rfl,G.fh.seq hq,k _ W H (.refl _) G rfl⟩
 .cases h
noncomputable def BP:F3:=fun x y z M=>match x,y with
 |.c i,.d (.int k)=>match M[i]? with
  |some (.lst xs)=>(ixN xs.length k).bind fun j=>some (M.set i (.lst (xs.set j z)))
  |_=>none
 |_,_=>none
theorem aBp:P3 K aAh BP:=by
 intro x y z M M' h W H v u w Q G rx ry rz k;unfold BP at h;split at h
 .rename_i i n;split at h
  .rename_i xs hx;obtain⟨j,h1,h⟩:=aH h;cases h;obtain⟨us,hv,hr⟩:=G.lstAt hx;refine⟨W.α i,us,n,j,rx.2,ry,hv,by rw[<- Paired.len hr];exact h1,?_⟩;exact k W _ (.refl _) (G.set hx (by intro q;cases q) (c':=.lst (xs.set j z)) (show bO K W _ _ from Paired.set (R:=bR K W) rz j hr))
  .cases h
 .cases h
end
section
variable{X:Cx}{K:Fg}
noncomputable def DY(K:Fg):R2:=fun x y H Q=>∃l b xs zs,x=.ref l/\y=.ref b/\SqL K H l xs/\SqL K H b zs/\xs.length+zs.length<=sizeLine/\∀p,H p=none->Q (.ref p) (upd H p (.lst (xs++zs)))
theorem op_catS:OpR X (binaryOp .Add) (DY X.K):=by
 intro pins s σ H x y v u Q I rx ry h;obtain⟨l,b,xs,zs,rfl,rfl,hH,hB,hz,q⟩:=h;cases rx;cases ry;obtain⟨its,r,⟨⟨cls,dd,data,sl⟩,n,ho,hc,hdd,hd⟩,_⟩:=I.list hH;obtain⟨its2,r2,⟨⟨cls2,dd2,data2,sl2⟩,n2,ho2,hc2,hdd2,hd2⟩,_⟩:=I.list hB;simp only at hc hd hc2 hd2;subst hc hd hc2 hd2;have e1:=r.length;have e2:=r2.length;refine concat_meets ⟨_,ho,rfl⟩ ⟨_,ho2,rfl⟩ noFill_list_add seq_list_add PySem.F.slot_list_add PySem.F.entry_list_add (PySem.F.args_list_add_2 _ _) (list_addW l b its.toArray its2.toArray n n2 dd dd2 sl sl2 (by rw[C1,C1];omega)) ⟨ho,ho2,?_⟩;have ea:its.toArray++its2.toArray=(its++its2).toArray:=by simp
 rw[ea];exact⟨.ref _,_,I.lnew (t':=s.toks) (r.append r2) (by rw[B9];omega),rfl,q _ I.fresh⟩
noncomputable def rB(M:Sto):CD->Option (List CD)
 |.d (.list ds)=>some (ds.map .d)
 |.c i=>match M[i]? with
  |some (.lst xs)=>some xs
  |_=>none
 |_=>none
theorem oR{W:Wd}{x:CD}{xs:List CD}{v:V}(G:Good K W M H)(h:rB M x=some xs)(r:bR K W x v):∃p vs,v=.ref p/\SqL K H p vs/\bO K W xs vs:=by
 unfold rB at h;split at h
 .rename_i ds;cases h;obtain⟨p,us,rfl,hq,hr⟩:=(show ∃a us,_=V.ref a/\SqL K W.F a us/\aJ K W.F ds us from r);exact⟨p,us,rfl,G.fh.seq hq,eV hr⟩
 .rename_i i;split at h
  .rename_i ys hy;cases h;obtain⟨us,hv,hr⟩:=G.lstAt hy;exact⟨_,us,r.2,SqL.of hv,hr⟩
  .cases h
 .cases h
noncomputable def aEP:F2:=fun x y M=>(rB M x).bind fun xs=>(rB M y).bind fun ys=>(lV (xs++ys)).bind fun ds=>if ds.length<=sizeLine then some (.d (.list ds),M)else none
theorem VE:P2 K (DY K) aEP:=by
 intro x y M z M' h W H v u Q G rx ry k;obtain⟨xs,h1,h⟩:=aH h;obtain⟨ys,h2,h⟩:=aH h;obtain⟨ds,h3,h⟩:=aH h;by_cases hl:ds.length<=sizeLine
 .rw[B0 hl]at h;cases h;obtain⟨p,vs,rfl,hp,hr⟩:=oR G h1 rx;obtain⟨q,us,rfl,hq,hs⟩:=oR G h2 ry;have el:=CH h3;rw[B9]at el;refine⟨p,q,vs,us,rfl,rfl,hp,hq,by rw[<- Paired.len hr,<- Paired.len hs];omega,fun l hl=>?_⟩;obtain⟨e2,G2⟩:=G.lay (o:=.lst (vs++us)) hl;exact k _ _ _ e2 G2 ⟨l,_,rfl,SqL.of aP,aJ.same e2.ff _ _ (eF h3 (Paired.app hr hs))⟩
 .rw[B2 hl]at h;cases h
noncomputable def aCG:F2:=fun x y M=>match x,y with
 |.d (.tuple xs),.d (.tuple ys)=>if xs≠[]/\xs.length+ys.length<=sizeLine then some (.d (.tuple (xs++ys)),M)else none
 |_,_=>none
theorem aJ.nil_iff{ds:List PyData}{vs:List V}(r:aJ K H ds vs):vs=[]↔ds=[]:=by
 have:=r.length;constructor<;>intro h<;>subst h<;>simp at this
 .exact this
 .exact List.eq_nil_of_length_eq_zero this.symm
theorem XI:P2 K (QE K) aCG:=by
 intro x y M z M' h W H v u Q G rx ry k;unfold aCG at h;split at h
 .rename_i xs ys;by_cases hc:xs≠[]/\xs.length+ys.length<=sizeLine
  .rw[B0 hc]at h;cases h;obtain⟨p,vs,rfl,hp,hr⟩:=(show ∃a us,v=V.ref a/\SqT K W.F a us/\aJ K W.F xs us from rx);obtain⟨q,us,rfl,hq,hs⟩:=(show ∃a us,u=V.ref a/\SqT K W.F a us/\aJ K W.F ys us from ry);refine⟨p,q,vs,us,rfl,rfl,G.fh.seqT hp,G.fh.seqT hq,fun z=>hc.1 (hr.nil_iff.mp z),by rw[<- hr.length,<- hs.length];exact hc.2,fun z=>?_,fun z l hl=>?_⟩
   .have:ys=[]:=hs.nil_iff.mp z;subst this;rw[L4]at k;exact k _ W H (.refl _) G ⟨p,vs,rfl,hp,hr⟩
   .obtain⟨e2,G2⟩:=G.lay (o:=.tup (vs++us)) hl;exact k _ _ _ e2 G2 ⟨l,_,rfl,SqT.of aP,aJ.same e2.ff _ _ (aJ.app hr hs)⟩
  .rw[B2 hc]at h;cases h
 .cases h
theorem P2.or{r r':R2}{h h':F2}(a:P2 K r h)(b:P2 K r' h'):P2 K (fun x y H Q=>r x y H Q\/r' x y H Q) (HC h h'):=by
 intro x y M z M' hh W H v u Q G rv ru k;unfold HC at hh;cases e:h x y M with
 |some q=>
  rw[e]at hh;cases hh;exact .inl (a _ _ _ _ _ e W H v u Q G rv ru k)
 |none=>
  rw[e]at hh;exact .inr (b _ _ _ _ _ hh W H v u Q G rv ru k)
noncomputable def GS(K:Fg):R2:=fun x y H Q=>∃a b ys,x=.ref a/\y=.ref b/\SqT K H a []/\SqT K H b ys/\Q (.ref b) H
theorem op_catT0:OpR X (binaryOp .Add) (GS X.K):=by
 intro pins s σ H x y v u Q I rx ry h;obtain⟨a,b,ys,rfl,rfl,ha,hb,q⟩:=h;cases rx;cases ry;obtain⟨its,r1,⟨⟨cls,dd,data,sl⟩,ho,hc,n,hd⟩,_⟩:=I.tuple ha;obtain⟨its2,r2,⟨⟨cls2,dd2,data2,sl2⟩,ho2,hc2,n2,hd2⟩,_⟩:=I.tuple hb;simp only at hc hd hc2 hd2;subst hc hd hc2 hd2;cases r1;exact concat_meets ⟨_,ho,rfl⟩ ⟨_,ho2,rfl⟩ noFill_tuple_add seq_tuple_add PySem.F.slot_tuple_add PySem.F.entry_tuple_add (PySem.F.args_tuple_add_2 _ _) (tuple_addW0 a b #[] its2.toArray n n2 dd dd2 sl sl2 rfl) ⟨ho,ho2,⟨.ref b,H,I,rfl,q⟩⟩
noncomputable def RH:F2:=fun x y M=>match x,y with
 |.d (.tuple []),.d (.tuple ys)=>some (.d (.tuple ys),M)
 |_,_=>none
theorem RE:P2 K (GS K) RH:=by
 intro x y M z M' h W H v u Q G rx ry k;unfold RH at h;split at h
 .rename_i ys;cases h;obtain⟨p,vs,rfl,hp,hr⟩:=(show ∃a us,v=V.ref a/\SqT K W.F a us/\aJ K W.F [] us from rx);obtain⟨q,us,rfl,hq,hs⟩:=(show ∃a us,u=V.ref a/\SqT K W.F a us/\aJ K W.F ys us from ry);rw[show vs=[]from hr]at hp;exact⟨p,q,us,rfl,rfl,G.fh.seqT hp,G.fh.seqT hq,k _ W H (.refl _) G ⟨q,us,rfl,hq,hs⟩⟩
 .cases h
noncomputable def fU:F2:=HC aFd (HC aEP (HC RH aCG))
noncomputable def OE(K:Fg):R2:=fun x y H Q=>(rI0 fun i j=>.int (i+j)) x y H Q\/DY K x y H Q\/GS K x y H Q\/QE K x y H Q
theorem UV:OpR X (binaryOp .Add) (OE X.K):=op_add.or (op_catS.or (op_catT0.or UB))
theorem WC:P2 K (OE K) fU:=P2.or QX (P2.or VE (P2.or RE XI))
noncomputable def eqS(neg:Bool):F2:=fun x y M=>match x,y with
 |.d (.str a),.d (.str b)=>some (.d (.bool (if neg then !(a==b)else a==b)),M)
 |_,_=>none
noncomputable def eqX(neg:Bool):F2:=HC (eqS neg) (eqD neg)
noncomputable def aBh(K:Fg):R2:=fun x y H Q=>rEq x y H Q\/GI K false x y H Q
noncomputable def aDf(K:Fg):R2:=fun x y H Q=>rNe x y H Q\/GI K true x y H Q
theorem OM{a b:Str}:decide (V.str a=V.str b)=(a==b):=by
 by_cases e:a=b
 .subst e;simp
 .have h:¬V.str a=V.str b:=fun q=>e (V.str.inj q);rw[E2 h,beq_eq_false_iff_ne.mpr e]
theorem aDv:P2 K rEq (eqS false):=by
 intro x y M z M' h W H v u Q G rx ry k;unfold eqS at h;split at h
 .rename_i a b;cases h;rw[show v=.str a from rx,show u=.str b from ry];refine⟨rfl,?_⟩;rw[OM];exact k _ W H (.refl _) G rfl
 .cases h
theorem aCF:P2 K rNe (eqS true):=by
 intro x y M z M' h W H v u Q G rx ry k;unfold eqS at h;split at h
 .rename_i a b;cases h;rw[show v=.str a from rx,show u=.str b from ry];refine⟨rfl,?_⟩;rw[OM];exact k _ W H (.refl _) G rfl
 .cases h
theorem TV:P2 K (aBh K) (eqX false):=P2.or aDv ZX
theorem aCz:P2 K (aDf K) (eqX true):=P2.or aCF ZX
theorem aBu(hu:X.A.units+64<cLine):OpR X (compareOp .Eq) (aBh X.K):=op_eq.or (TL hu)
theorem aCX(hu:X.A.units+64<cLine):OpR X (compareOp .NotEq) (aDf X.K):=op_ne.or (aCB hu)
theorem aCm:P2 K (rI0 fun i j=>.int (i-j)) xE:=QX
theorem aDl:P2 K (rI DN fun i j=>.int (i*j)) wQ:=LH fun _ _ h=>mulOk_of h
theorem VL:P2 K (rI aAv fun i j=>.int (i / j)) dF:=LH fun i j h=>by
 unfold jN at h;rw[B5]at h;exact⟨C3 h.1,C3 (p:=j.natAbs<tQ) h.2⟩
theorem aDB:P2 K (rI (fun _ j=>0<j) fun i j=>.int (i % j)) bY:=LH fun i j h=>C3 h
theorem aCY:P2 K (rI VR fun i j=>.int (i ^ j.toNat)) XF:=LH fun i j h=>by
 unfold zO at h;rw[B5,B5]at h;exact⟨C3 h.1.1,C3 h.1.2,C3 h.2⟩
theorem aEh:P2 K (rI0 fun i j=>.bl (decide (i<j))) ltI:=JC
theorem aDH:P2 K (rI0 fun i j=>.bl (decide (i<=j))) leI:=JC
theorem aEQ:P2 K (rI0 fun i j=>.bl (decide (j<i))) gtI:=JC
theorem aDU:P2 K (rI0 fun i j=>.bl (decide (j<=i))) geI:=JC
end
section
variable{X:Cx}{K:Fg}
theorem aFA(h:X.K=K):eT X (.builtin "isinstance") (aBm K):=by subst h;exact NA
theorem aDQ(h:X.K=K):eT X (.builtin "isinstance") (QU K):=by subst h;exact GE
noncomputable def aEF(K:Fg):R2:=rIx K
theorem kIx(h:X.K=K):IxR X (aEF K):=by subst h;exact aBc
theorem aBK:P2 K (aEF K) ixF:=aEU
noncomputable def aAD(K:Fg):List V->Hp->VK->Prop:=fun xs H Q=>∃p ys,xs=[.ref p]/\(SqL K H p ys\/SqT K H p ys)/\Q (.int ys.length) H
theorem aFS(h:X.K=K):eT X (.builtin "len") (aAD K):=by subst h;exact BQ
theorem YC:PN K (aAD K) lB:=aCW
noncomputable def HG(K:Fg):List V->Hp->VK->Prop:=fun xs H Q=>∃p ys,xs=[.ref p]/\(SqL K H p ys\/SqT K H p ys)/\∀l,H l=none->Q (.ref l) (upd H l (.lst ys))
theorem aAF(h:X.K=K):eT X (.type "list") (HG K):=by subst h;exact BL
theorem RC:PN K (HG K) uA:=WG
noncomputable def IX(K:Fg):List V->Hp->VK->Prop:=fun xs H Q=>∃p ys,xs=[.ref p]/\((SqL K H p ys/\∀l,H l=none->Q (.ref l) (upd H l (.tup ys)))\/(SqT K H p ys/\Q (.ref p) H))
theorem aCx(h:X.K=K):eT X (.type "tuple") (IX K):=by subst h;exact xH
theorem LM:PN K (IX K) eQ:=TR
noncomputable def aAB(K:Fg):List V->Hp->VK->Prop:=fun xs H Q=>∃(p:Addr)(bs:List Bool),xs=[.ref p]/\SqL K H p (bs.map V.bl)/\Q (.bl (bs.all id)) H
theorem aFK(h:X.K=K)(hc:X.calm=true):eT X (.builtin "all") (aAB K):=by subst h;exact LK hc
theorem WX:PN K (aAB K) CW:=aCo
theorem kEq(h:X.K=K)(hu:X.A.units+64<cLine):OpR X (compareOp .Eq) (aBh K):=by subst h;exact aBu hu
theorem kNe(h:X.K=K)(hu:X.A.units+64<cLine):OpR X (compareOp .NotEq) (aDf K):=by subst h;exact aCX hu
theorem kIn(h:X.K=K)(hu:X.A.in1.units+64<cLine):OpR X (compareOp .In) (SN K false):=by subst h;exact aDu hu
theorem aBX(h:X.K=K)(hu:X.A.in1.units+64<cLine):OpR X (compareOp .NotIn) (SN K true):=by subst h;exact MP hu
theorem aFw(h:X.K=K):OpR X (binaryOp .Add) (OE K):=by subst h;exact UV
theorem VG{tg l:Expr}{tl:TE}(h:X.K=K)(hl:PE X l tl):PI X tg l (aBj K tl):=by subst h;exact aBe hl
theorem WW{es:List Expr}{k:Nat}{t:TGs}{n:Nat}{pos:Pos}(hK:X.K=K)(hc:X.calm=true)(h:PGs X es t)
 (hn:(assignEach es X.env).length=n:=by rfl) (hst:(assignEach es X.env).findIdx? (·.1)=none:=by rfl):PG X (.Tuple es k pos) (aCI K n t):=by subst hK;exact aBf hc h hn hst
noncomputable def aEf(K:Fg)(ta:TE):TT:=fun σ H Q=>ta σ H fun x H'=>∃k,YA K x H' k/\Q k H'
theorem WU{a:Expr}{ta:TE}(hK:X.K=K)(ha:PE X a ta)(he:∀whole,isTrue a X.env whole=(do let v <- whole;standAt a.pos;holding [v] (truthy v))):PT X a (aEf K ta):=by subst hK;exact NV ha he
theorem YE{ta:TE}{f:EF}(a:SE K ta f):STt K (aEf K ta) (HS f):=aDi a
end
section
variable{es:List Expr}{env:Env}
theorem fY{a b}:starEach (.Name a b::es) env=(false,eval (.Name a b) env)::starEach es env:=rfl
theorem uW{a b c}:starEach (.Tuple a b c::es) env=(false,eval (.Tuple a b c) env)::starEach es env:=rfl
theorem yA{a b c d}:starEach (.Call a b c d::es) env=(false,eval (.Call a b c d) env)::starEach es env:=rfl
theorem zE{pos:Pos}:(backTo pos (starEach [] env)).any (·.1)=false:=rfl
theorem qI{pos:Pos}{e:Expr}(hs:starEach (e::es) env=(false,eval e env)::starEach es env)(h:(backTo pos (starEach es env)).any (·.1)=false):(backTo pos (starEach (e::es) env)).any (·.1)=false:=by
 rw[hs];have e1:backTo pos ((false,eval e env)::starEach es env)=(false,(do let v <- eval e env;standAt pos;pure v:Sem Value))::backTo pos (starEach es env)\/(backTo pos ((false,eval e env)::starEach es env)).any (·.1)=(backTo pos (starEach es env)).any (·.1):=.inr (by unfold backTo;simp);rcases e1 with q|q
 .rw[q,O1,h];rfl
 .rw[q];exact h
end
section
variable{P:Program}{w:World}{K:Fg}{mg:Str->Option Value}
theorem Fun.okM{base:Heap}{x:Str}{st:Stmt}{N ps:List Str}{k:Nat}{b:SF}{f:Addr}{fd:FuncData}(F:Fun K x x st f fd)(S:aR N ps (aE st))
 (hbody:∀(f:Addr)(cdv:Value)(A:Around)(outer:List Env)(s:Shared)(H:Hp)(E:XK),cJ k (A.deeper (envOfC x (aE st) s.heap.objs.size f cdv))->
  ∃t,PSs (qS CX0 P w K mg base N x (aE st) f cdv A outer s H E).nox (bN st) t/\SS K t b):pC P w K mg base CX0 (k+1) f fd ps (spM K (fnF ps.length N.length b)):=by
 have len:∀vs H Q E,spM K (fnF ps.length N.length b) vs H Q E->vs.length=ps.length:=fun vs H Q E h=>by
  obtain⟨xs,M,W,y,M',G,R,hf,_⟩:=h;by_cases hl:xs.length=ps.length
  .rw[<- Paired.len R];exact hl
  .unfold fnF at hf;rw[B2 hl]at hf;cases hf
 refine F.ok S len fun cdv A outer s H vs Q E hr h=>?_;obtain⟨t,hP,hS⟩:=hbody f cdv A outer s H E hr;refine⟨t,hP,?_⟩;obtain⟨xs,M,W,y,M',G,R,hf,k⟩:=h;by_cases hl:xs.length=ps.length
 .unfold fnF at hf;rw[B0 hl]at hf;obtain⟨⟨o,M1⟩,h1,hf⟩:=aH hf
  have hR:cT K W (xs.map some++List.replicate (N.length-xs.length) none) (start N vs):=by
   unfold start;rw[<- Paired.len R];exact Paired.app (bO.some R) (rK _)
  refine hS _ _ _ _ h1 W H _ _ G hR fun W1 H1 e1 G1=>?_;cases o with
  |rt x=>cases hf;exact fun v r=>k v W1 H1 e1 G1 r
  |nx γ=>cases hf;exact fun σ r=>k .non W1 H1 e1 G1 rfl
  |bk γ=>cases hf
  |ct γ=>cases hf
 .unfold fnF at hf;rw[B2 hl]at hf;cases hf
theorem Def.okL{x p:Str}{st:Stmt}{N:List Str}{k:Nat}{b:SF}{F:FN}(D:Def K mg x st)(S:aR N [p] (aE st))(hF:F=fnF 1 N.length b)
 (hb:∀(kV doc pm:Value)(an:Option Addr)(cdv ct:Value)(us:List Value),us.length=[p].length->bindArgs (PySem.W.fnOf x x (eJ st) (bN st) (aE st) .none kV doc pm an cdv ct) ⟨us,[]⟩=pure ([p].zip us))
 (hbody:∀(base:Heap)(f:Addr)(cdv:Value)(A:Around)(outer:List Env)(s:Shared)(H:Hp)(E:XK),cJ k (A.deeper (envOfC x (aE st) s.heap.objs.size f cdv))->
  ∃t,PSs (qS CX0 P w K mg base N x (aE st) f cdv A outer s H E).nox (bN st) t/\SS K t b):
 ∃f fd,mg x=some (.ref f)/\(∀(s:Shared)(u:Value),BindsTo s fd ⟨[u],[]⟩ [(p,u)])/\∀base,pC P w K mg base CX0 (k+1) f fd [p] (spM K F):=by
 subst hF;obtain⟨f,fd,Fu,m⟩:=D.ex;refine⟨f,fd,m,fun s u=>?_,fun base=>Fu.okM S (hbody base)⟩;obtain⟨oc,od,kV,doc,pm,an,cdv,ct,osl,rfl,lk,hcd⟩:=Fu.ex;exact .of_eq (hb kV doc pm an cdv ct [u] rfl)
theorem DF{H:Hp}:∀ns:List Int,aJ K H (ns.map .int) (ns.map V.int)
 |[]=>rfl
 |n::ns=>⟨.int n,ns.map V.int,rfl,rfl,DF ns⟩
theorem aDs{F:FN}(hF:∀ns:List Int,ns.length<=63->∃M',F [.d (.list (ns.map .int))] []=some (.d (.bool true),M')){a:Addr}{ns:List Int}(hl:ns.length<=63)(hS:SqL K H a (ns.map V.int))(E:XK):
 spM K F [.ref a] H (fun v _=>v=.bl true) E:=by
 obtain⟨M',h⟩:=hF ns hl;refine⟨[.d (.list (ns.map .int))],[],⟨H,fun _=>0,0⟩,_,M',⟨gV.refl H,rfl,fun i c h=>by simp at h,fun i j c c' h=>by simp at h⟩,.cons (show ∃a' vs,V.ref a=.ref a'/\SqL K H a' vs/\aJ K H (ns.map .int) vs from⟨a,ns.map V.int,rfl,hS,DF ns⟩) .nil,h,fun v W' H' _ _ r=>r⟩
theorem law_walk{l:PySem.W.OpenLaw}{q:Program}{loose:List Str}{XP:(Str->Option Value)->Heap->Prop}{YP:World->Heap->Prop}{d:DefRec}{K:Params->Fg}{F:FN}{k:Nat}{p:Str}(hq:PyProof.Rows.importsNone q=true)(hn:l.most=some 63)(hdf:d.params.defaults=[])(hr:cJ k callerA)
 (hY:∀(w:World)(h:Heap),YP w h->(K w.params).In h)
 (hT:∀(w:World)(mg:Str->Option Value)(h:Heap),(K w.params).In h->h.Ns mainGlobals mg->∃f fd,mg d.name=some (.ref f)/\(∀(s:Shared)(u:Value),BindsTo s fd ⟨[u],[]⟩ [(p,u)])/\∀base,pC l.prog w (K w.params) mg base CX0 k f fd [p] (spM (K w.params) F))
 (hF:∀ns:List Int,ns.length<=63->∃M',F [.d (.list (ns.map .int))] []=some (.d (.bool true),M')):
 PySem.W.WalkO q loose XP YP l.row.toRowW d [] (fun f vs=>PySem.call f vs):=
 L2.walk_of hq (n:=63) (k:=k) (x:=p) (CX:=fun _=>CX0) (sp:=fun w=>spM (K w.params) F) hn (by decide) hdf hr hY
  (fun w mg fa h KX G hmg=>by
   obtain⟨f,fd,m,hb,hf⟩:=hT w mg h KX G;have e:(some (Value.ref f))=some (.ref fa):=m.symm.trans hmg;cases e;exact⟨fd,hb,fun base _ _=>hf base⟩)
  (fun w H a ns hl _ hS=>aDs hF hl hS _) fun _ _ _ _ _ z=>z
end
noncomputable def VW(e:Expr)(es:List Expr):Prop:=∀env:Env,starEach (e::es) env=(false,eval e env)::starEach es env
noncomputable def JD:List Expr->Prop
 |[]=>True
 |e::es=>VW e es/\JD es
theorem JD.plain:∀{es:List Expr},JD es->∀(env:Env)(pos:Pos),(backTo pos (starEach es env)).any (·.1)=false
 |[]=>fun _ _ _=>rfl
 |_::_=>fun h env pos=>qI (h.1 env) (h.2.plain env pos)
section
variable{ι:Type}
structure ME(K:Fg)(X:ι->Cx)(e:Expr)(f:EF):Prop where
 ex:∃t,(∀i,PE (X i) e t)/\SE K t f
structure MT(K:Fg)(X:ι->Cx)(e:Expr)(f:TF):Prop where
 ex:∃t,(∀i,PT (X i) e t)/\STt K t f
structure MW(K:Fg)(X:ι->Cx)(e:Expr)(f:TF):Prop where
 ex:∃t,(∀i,PW (X i) e t)/\STt K t f
structure MA(K:Fg)(X:ι->Cx)(es:List Expr)(f:AF):Prop where
 ex:∃t,(∀i,PA (X i) es t)/\SA K t f
 st:JD es
structure MG(K:Fg)(X:ι->Cx)(e:Expr)(f:GF):Prop where
 ex:∃t,(∀i,PG (X i) e t)/\SG K t f
structure MGs(K:Fg)(X:ι->Cx)(es:List Expr)(f:GsF):Prop where
 ex:∃t,(∀i,PGs (X i) es t)/\SGs K t f
structure MI(K:Fg)(X:ι->Cx)(tg e:Expr)(f:AF):Prop where
 ex:∃t,(∀i,PI (X i) tg e t)/\SI K t f
structure MF(K:Fg)(X:ι->Cx)(es:List Expr)(f:TF):Prop where
 ex:∃t,(∀i,EH (X i) es t)/\STt K t f
structure MS(K:Fg)(X:ι->Cx)(st:Stmt)(f:SF):Prop where
 ex:∃t,(∀i,PS (X i) st t)/\SS K t f
structure ML(K:Fg)(X:ι->Cx)(st:List Stmt)(f:SF):Prop where
 ex:∃t,(∀i,PSs (X i) st t)/\SS K t f
structure Q2(K:Fg)(X:ι->Cx)(o:Value->Value->Sem Value)(h:F2):Prop where
 ex:∃r,(∀i,OpR (X i) o r)/\P2 K r h
structure Q1(K:Fg)(X:ι->Cx)(o:Value->Sem Value)(h:F1):Prop where
 ex:∃r,(∀i,UnR (X i) o r)/\P1 K r h
structure QN(K:Fg)(X:ι->Cx)(f:Value)(h:FN):Prop where
 ex:∃r,(∀i,eT (X i) f r)/\PN K r h
structure QI(K:Fg)(X:ι->Cx)(h:F2):Prop where
 ex:∃r,(∀i,IxR (X i) r)/\P2 K r h
structure QS(K:Fg)(X:ι->Cx)(h:F3):Prop where
 ex:∃r,(∀i,aDe (X i) r)/\P3 K r h
variable{K:Fg}{X:ι->Cx}{a b c e:Expr}{es:List Expr}{f g h:EF}{ft gt:TF}{fa:AF}{pos:Pos}
theorem aA(i:Nat){x:Str}(hN:∀j,(X j).N[i]?=some x:=by intro _;rfl)(hv:∀j,Vis (X j).env.scope x:=by intro _;first|exact Or.inl rfl|exact Or.inr (Or.inl rfl)|exact Or.inr (Or.inr rfl))(hd:(x==("__debug__":Str))=false:=by decide)(hcd:(x==("__classdict__":Str))=false:=by decide):
 ME K X (.Name x pos) (aD i):=⟨_,fun j=>aCa (hN j) (hv j) hd hcd,aCV⟩
theorem aI{i:Int}{j:Nat}:ME K X (.Constant (.int i) j pos) (fC (.int i)):=⟨_,fun _=>aCU,PZ⟩
theorem zM{i:Bool}{j:Nat}:ME K X (.Constant (.bool i) j pos) (fC (.bool i)):=⟨_,fun _=>aEO,aDZ⟩
theorem oH{x:Str}{n:Int}(hm:∀i,∃t:Tok,(X i).mg x=some (.int n t))(hg:∀i,Gl (X i) x:=by intro _;rfl)(hd:(x==("__debug__":Str))=false:=by decide):ME K X (.Name x pos) (fC (.int n)):=
 ⟨_,fun i=>VP (v:=.int n) (hg i) (hm i).choose_spec ⟨_,rfl⟩ hd,PZ⟩
theorem aS{op:Operator}{k:F2}(q:Q2 K X (binaryOp op) k)(x:ME K X a f)(y:ME K X b g):ME K X (.BinOp a op b pos) (fOp k f g):=by
 obtain⟨r,q1,q2⟩:=q.ex;obtain⟨t,x1,x2⟩:=x.ex;obtain⟨u,y1,y2⟩:=y.ex;exact⟨_,fun i=>aFb (q1 i) (x1 i) (y1 i),JV q2 x2 y2⟩
theorem eR{rest:List Expr}(x:ME K X a f)(y:ME K X (.BoolOp .And (b::rest) pos) g):ME K X (.BoolOp .And (a::b::rest) pos) (lQ f g):=by
 obtain⟨t,x1,x2⟩:=x.ex;obtain⟨u,y1,y2⟩:=y.ex;exact⟨_,fun i=>aBM (x1 i) (y1 i),aBN x2 y2⟩
theorem iA{op:BoolOp}(x:ME K X a f):ME K X (.BoolOp op [a] pos) f:=by
 obtain⟨t,x1,x2⟩:=x.ex;exact⟨_,fun i=>aBr (x1 i),x2⟩
theorem aAX(x:ME K X a f):ME K X (.UnaryOp .Not a pos) (VV f):=by
 obtain⟨t,x1,x2⟩:=x.ex;exact⟨_,fun i=>aBL (x1 i),aCq x2⟩
theorem eK{op:CmpOp}{k:F2}(q:Q2 K X (compareOp op) k)(x:ME K X a f)(y:ME K X b g)(hm:behindInMarks op b=false:=by rfl):ME K X (.Compare a [op] [b] pos) (fOp k f g):=by
 obtain⟨r,q1,q2⟩:=q.ex;obtain⟨t,x1,x2⟩:=x.ex;obtain⟨u,y1,y2⟩:=y.ex;exact⟨_,fun i=>ZL (q1 i) (x1 i) (y1 i) hm,JV q2 x2 y2⟩
theorem ES{op op':CmpOp}{k k':F2}(q:Q2 K X (compareOp op) k)(q':Q2 K X (compareOp op') k')(x:ME K X a f)(y:ME K X b g)(z:ME K X c h)(hm:lastMarks [op,op'] [b,c]=false:=by with_unfolding_all rfl):ME K X (.Compare a [op,op'] [b,c] pos) (vU k k' f g h):=by
 obtain⟨r,q1,q2⟩:=q.ex;obtain⟨r',q1',q2'⟩:=q'.ex;obtain⟨t,x1,x2⟩:=x.ex;obtain⟨u,y1,y2⟩:=y.ex;obtain⟨v,z1,z2⟩:=z.ex;exact⟨_,fun i=>QW (q1 i) (q1' i) (x1 i) (y1 i) (z1 i) hm,OL q2 q2' x2 y2 z2⟩
theorem aF:MA K X [] aG:=⟨⟨_,fun _=>BV,aCv⟩,trivial⟩
theorem aB(x:ME K X e f)(y:MA K X es fa)(hs:VW e es:=by intro _;rfl):MA K X (e::es) (aC f fa):=by
 obtain⟨t,x1,x2⟩:=x.ex;obtain⟨u,y1,y2⟩:=y.ex;exact⟨⟨_,fun i=>lY (x1 i) (y1 i) (hs _),VS x2 y2⟩,hs,y.st⟩
theorem eL{k:Nat}(x:MA K X es fa):ME K X (.Tuple es k pos) (dJ fa):=by
 obtain⟨t,x1,x2⟩:=x.ex;exact⟨_,fun i=>HK (x1 i),aDx x2⟩
theorem tI(x:MA K X es fa):ME K X (.List es pos) (pE fa):=by
 obtain⟨t,x1,x2⟩:=x.ex;exact⟨_,fun i=>PR (x1 i),aAU x2⟩
theorem BM(x:MA K X es fa):ME K X (.List es pos) (pY fa):=by
 obtain⟨t,x1,x2⟩:=x.ex;exact⟨_,fun i=>PR (x1 i),aBH x2⟩
theorem bU{k:F2}(q:QI K X k)(x:ME K X a f)(y:ME K X b g)(hs:JW b:=by intro _ _;rfl):ME K X (.Subscript a b pos) (fOp k f g):=by
 obtain⟨r,q1,q2⟩:=q.ex;obtain⟨t,x1,x2⟩:=x.ex;obtain⟨u,y1,y2⟩:=y.ex;exact⟨_,fun i=>aEj (q1 i) (x1 i) (y1 i) hs,JV q2 x2 y2⟩
theorem aQ{k:Nat}{x:Str}{ps:List Str}{F:FN}{p:Pos}{q:Bool}(C:∀i,Callee (X i).prog (X i).w (X i).K (X i).mg (X i).base k x ps (spM K F) q)(hr:∀i,cJ k (X i).A q)(y:MA K X (e::es) fa)(hg:∀i,Gl (X i) x:=by intro _;rfl)(hd:(x==("__debug__":Str))=false:=by decide):
 ME K X (.Call (.Name x p) (e::es) [] pos) (aK F fa):=by
 obtain⟨u,y1,y2⟩:=y.ex;exact⟨_,fun i=>aCQ (C i) (hr i) (y1 i) (hg i) hd (y.st.1 _) (y.st.2.plain _ _),YN y2⟩
theorem bX{x:Str}{id:String}{F:FN}{p:Pos}(q:QN K X (.builtin id) F)(hm:∀i,(X i).mg x=none)(hv:bootBuiltins x=some (.builtin id))(y:MA K X (e::es) fa)(hg:∀i,Gl (X i) x:=by intro _;rfl)(hn:x≠"__name__":=by decide)(hd:(x==("__debug__":Str))=false:=by decide):
 ME K X (.Call (.Name x p) (e::es) [] pos) (aK F fa):=by
 obtain⟨r,q1,q2⟩:=q.ex;obtain⟨u,y1,y2⟩:=y.ex;exact⟨_,fun i=>xA (q1 i) (hg i) (hm i) hv (y1 i) hn hd (y.st.1 _) (y.st.2.plain _ _),aAc q2 y2⟩
theorem gU{x:Str}{id:String}{F:FN}{p:Pos}(q:QN K X (.type id) F)(hm:∀i,(X i).mg x=none)(hv:bootBuiltins x=some (.type id))(y:MA K X (e::es) fa)(hg:∀i,Gl (X i) x:=by intro _;rfl)(hn:x≠"__name__":=by decide)(hd:(x==("__debug__":Str))=false:=by decide):
 ME K X (.Call (.Name x p) (e::es) [] pos) (aK F fa):=by
 obtain⟨r,q1,q2⟩:=q.ex;obtain⟨u,y1,y2⟩:=y.ex;exact⟨_,fun i=>NI (q1 i) (hg i) (hm i) hv (y1 i) hn hd (y.st.1 _) (y.st.2.plain _ _),aAc q2 y2⟩
theorem NL{T:String}{y:Str}{p p':Pos}(hK:∀i,(X i).K=K)(hT:T∈asked)(x:ME K X a f)(hs:VW a [.Name y p'])(hm:∀i,(X i).mg "isinstance"=none)(hmy:∀i,(X i).mg y=none)(hb:bootBuiltins y=some (.type T))(hg:∀i,Gl (X i) "isinstance":=by intro _;rfl)(hgy:∀i,Gl (X i) y:=by intro _;rfl)
 (hn:y≠"__name__":=by decide) (hd:(y==("__debug__":Str))=false:=by decide):ME K X (.Call (.Name "isinstance" p) [a,.Name y p'] [] pos) (QF T f):=by
 obtain⟨t,x1,x2⟩:=x.ex;refine⟨_,fun i=>xA (aFA (hK i)) (hg i) (hm i) boot_isinstance (lY (x1 i) (lY (BK (v:=.ty T) (hgy i) (hmy i) hb rfl hn hd) BV fY) (hs _)) (by decide) (by decide) (hs _) (qI fY zE),aCL hT x2⟩
theorem XR{T U:String}{y z:Str}{p p' p'' p3:Pos}{k:Nat}(hK:∀i,(X i).K=K)(hT:T∈asked)(hU:U∈asked)(x:ME K X a f)(hs:VW a [.Tuple [.Name y p',.Name z p''] k p3])(hm:∀i,(X i).mg "isinstance"=none)(hmy:∀i,(X i).mg y=none)(hmz:∀i,(X i).mg z=none)
 (hb:bootBuiltins y=some (.type T)) (hbz:bootBuiltins z=some (.type U)) (hg:∀i,Gl (X i) "isinstance":=by intro _;rfl) (hgy:∀i,Gl (X i) y:=by intro _;rfl) (hgz:∀i,Gl (X i) z:=by intro _;rfl)
 (hn:y≠"__name__":=by decide) (hd:(y==("__debug__":Str))=false:=by decide) (hn':z≠"__name__":=by decide) (hd':(z==("__debug__":Str))=false:=by decide):ME K X (.Call (.Name "isinstance" p) [a,.Tuple [.Name y p',.Name z p''] k p3] [] pos) (IA T U f):=by
 obtain⟨t,x1,x2⟩:=x.ex;refine⟨_,fun i=>xA (aDQ (hK i)) (hg i) (hm i) boot_isinstance (lY (x1 i) (lY (HK (lY (BK (v:=.ty T) (hgy i) (hmy i) hb rfl hn hd) (lY (BK (v:=.ty U) (hgz i) (hmz i) hbz rfl hn' hd') BV fY) fY)) BV uW) (hs _)) (by decide) (by decide) (hs _) (qI uW zE),ZF hT hU x2⟩
theorem lT(x:MT K X a ft):MT K X (.UnaryOp .Not a pos) (rJ ft):=by
 obtain⟨t,x1,x2⟩:=x.ex;exact⟨_,fun i=>aBq (x1 i),aCZ x2⟩
theorem aAW{rest:List Expr}(x:MT K X a ft)(y:MW K X (.BoolOp .And (b::rest) pos) gt):MW K X (.BoolOp .And (a::b::rest) pos) (OB ft gt):=by
 obtain⟨t,x1,x2⟩:=x.ex;obtain⟨u,y1,y2⟩:=y.ex;exact⟨_,fun i=>aBl (x1 i) (y1 i),aBY x2 y2⟩
theorem UX(x:MT K X a ft):MW K X (.BoolOp .And [a] pos) ft:=by
 obtain⟨t,x1,x2⟩:=x.ex;exact⟨_,fun i=>VN (x1 i),x2⟩
theorem yV{rest:List Expr}(x:MT K X a ft)(y:MW K X (.BoolOp .Or (b::rest) pos) gt):MW K X (.BoolOp .Or (a::b::rest) pos) (gOr ft gt):=by
 obtain⟨t,x1,x2⟩:=x.ex;obtain⟨u,y1,y2⟩:=y.ex;exact⟨_,fun i=>aFi (x1 i) (y1 i),aED x2 y2⟩
theorem BB(x:MT K X a ft):MW K X (.BoolOp .Or [a] pos) ft:=by
 obtain⟨t,x1,x2⟩:=x.ex;exact⟨_,fun i=>aBg (x1 i),x2⟩
theorem OS(x:MW K X a ft):MT K X a ft:=by
 obtain⟨t,x1,x2⟩:=x.ex;exact⟨_,fun i=>(x1 i).pt,x2⟩
theorem bW{op:CmpOp}{k:F2}(q:Q2 K X (compareOp op) k)(x:ME K X a f)(y:ME K X b g)(hm:behindInMarks op b=false:=by rfl):MT K X (.Compare a [op] [b] pos) (gB (fOp k f g)):=by
 obtain⟨r,q1,q2⟩:=q.ex;obtain⟨t,x1,x2⟩:=x.ex;obtain⟨u,y1,y2⟩:=y.ex;exact⟨_,fun i=>UR (q1 i) (x1 i) (y1 i) hm,YR (JV q2 x2 y2)⟩
theorem lO(x:ME K X a f)(he:∀(env:Env)(whole:Sem Value),isTrue a env whole=(do let v <- whole;standAt a.pos;holding [v] (truthy v)):=by intro _ _;rfl):MT K X a (gB f):=by
 obtain⟨t,x1,x2⟩:=x.ex;exact⟨_,fun i=>aCc (x1 i) (he _),aBt x2⟩
theorem aBn(hK:∀i,(X i).K=K)(x:ME K X a f)(he:∀(env:Env)(whole:Sem Value),isTrue a env whole=(do let v <- whole;standAt a.pos;holding [v] (truthy v)):=by intro _ _;rfl):MT K X a (HS f):=by
 obtain⟨t,x1,x2⟩:=x.ex;exact⟨_,fun i=>WU (hK i) (x1 i) (he _),YE x2⟩
theorem fR{tg:Expr}{p:Pos}(hm:∀i,(X i).mg "range"=none)(x:MA K X [a] fa)(hg:∀i,Gl (X i) "range":=by intro _;rfl):MI K X tg (.Call (.Name "range" p) [a] [] pos) (cU fa):=by
 obtain⟨t,x1,x2⟩:=x.ex;exact⟨_,fun i=>LI (hg i) (hm i) (x1 i) (x.st.1 _),UF x2⟩
theorem uP{tg:Expr}{p:Pos}(hm:∀i,(X i).mg "range"=none)(x:MA K X [a,b] fa)(hg:∀i,Gl (X i) "range":=by intro _;rfl):MI K X tg (.Call (.Name "range" p) [a,b] [] pos) (qV fa):=by
 obtain⟨t,x1,x2⟩:=x.ex;exact⟨_,fun i=>MH (hg i) (hm i) (x1 i) (by rw[x.st.1,x.st.2.1];rfl) (by rw[x.st.2.1];rfl),YB x2⟩
theorem mY{tg:Expr}(hK:∀i,(X i).K=K)(x:ME K X a f):MI K X tg a (cC f):=by
 obtain⟨t,x1,x2⟩:=x.ex;exact⟨_,fun i=>VG (hK i) (x1 i),aBz x2⟩
theorem aT(i:Nat){x:Str}(hN:∀j,(X j).N.Nodup)(hi:∀j,(X j).N[i]?=some x:=by intro _;rfl)(hx:∀j,Loc (X j).env.scope x:=by intro _;first|exact Or.inl rfl|exact Or.inr rfl)(hf:∀j,(X j).fn x=true\/(X j).env.scope.names.lookup x=some .local:=by intro _;first|exact .inl rfl|exact .inr rfl):
 MG K X (.Name x pos) (hName i):=⟨_,fun j=>XD (hN j) (hi j) (hx j) (hf j),zY⟩
theorem iJ:MGs K X [] gT:=⟨_,fun _=>UW,VF⟩
theorem bH{gf:GF}{gs:GsF}(x:MG K X e gf)(y:MGs K X es gs)(hs:∀env:Env,(assignEach (e::es) env).map (·.2)=assign e env::(assignEach es env).map (·.2):=by intro _;rfl):MGs K X (e::es) (aZ gf gs):=by
 obtain⟨t,x1,x2⟩:=x.ex;obtain⟨u,y1,y2⟩:=y.ex;exact⟨_,fun i=>RV (x1 i) (y1 i) (hs _),NZ x2 y2⟩
theorem lJ{gs:GsF}{k n:Nat}(hK:∀i,(X i).K=K)(hc:∀i,(X i).calm=true)(x:MGs K X es gs)(hn:∀env:Env,(assignEach es env).length=n:=by intro _;rfl)(hst:∀env:Env,(assignEach es env).findIdx? (·.1)=none:=by intro _;rfl):MG K X (.Tuple es k pos) (gX n gs):=by
 obtain⟨t,x1,x2⟩:=x.ex;exact⟨_,fun i=>WW (hK i) (hc i) (x1 i) (hn _) (hst _),aBo x2⟩
theorem RP{s:F3}(q:QS K X s)(x:ME K X a f)(y:ME K X b g) (hs:∀(env:Env)(v:Value),assign (.Subscript a b pos) env v=(do
 let ov <- holding [v] (eval a env);let iv <- holding [v,ov] (eval b env)
 standAt pos
 holding [v,ov,iv] (setItem ov iv v)
 release [v,ov,iv] []):=by intro _ _;rfl):MG K X (.Subscript a b pos) (hSub f g s):=by
 obtain⟨r,q1,q2⟩:=q.ex;obtain⟨t,x1,x2⟩:=x.ex;obtain⟨u,y1,y2⟩:=y.ex;exact⟨_,fun i=>aBC (x1 i) (y1 i) (q1 i) (hs _),aCD q2 x2 y2⟩
theorem kF:MF K X [] gE:=⟨_,fun _=>QY,aCC⟩
theorem nA(x:MT K X c ft):MF K X [c] ft:=by
 obtain⟨t,x1,x2⟩:=x.ex;exact⟨_,fun i=>SB (x1 i),x2⟩
noncomputable abbrev LcI(ι:Type):Type:=ι×Addr×Shared×Hp×List Addr×List (Addr×Obj)
noncomputable def jX(X:ι->Cx)(N':List Str)(scope:Scope):LcI ι->Cx:=fun j=>dR (X j.1) N' scope j.2.1 j.2.2.1 j.2.2.2.1 j.2.2.2.2.1 j.2.2.2.2.2
variable{N':List Str}{cap:List (Option Nat)}{scope:Scope}{tg iter elt:Expr}{ifs:List Expr}{gf:GF}
theorem mK(hc:∀i,(X i).calm=true)(S:∀i,nR (X i) N' cap scope)(x:MI K X tg iter fa)(y:MG K (jX X N' scope) tg gf)(z:MF K (jX X N' scope) ifs ft)(w:ME K (jX X N' scope) elt f)(hs:∀(env:Env)(x:Value),foldedSetIterable iter env x=pure x:=by intro _ _;rfl):
 ME K X (.ListComp elt [⟨tg,iter,ifs,0⟩] scope pos) (fLc cap fa gf ft f):=by
 obtain⟨t,x1,x2⟩:=x.ex;obtain⟨u,y1,y2⟩:=y.ex;obtain⟨v,z1,z2⟩:=z.ex;obtain⟨o,w1,w2⟩:=w.ex;exact⟨_,fun i=>aEE (hc i) (S i) (x1 i) (fun C s H fp pn=>y1 (i,C,s,H,fp,pn)) (fun C s H fp pn=>z1 (i,C,s,H,fp,pn)) (fun C s H fp pn=>w1 (i,C,s,H,fp,pn)) (hs _),aDM x2 y2 z2 w2⟩
theorem oT(i:Nat){x':Str}{pos' pos'':Pos}(hN:∀j,(X j).N.Nodup)(hc:∀i,(X i).calm=true)(S:∀i,nR (X i) N' cap scope)(x:MI K X tg iter fa)(y:MG K (jX X N' scope) tg gf)(z:MF K (jX X N' scope) ifs ft)(w:ME K (jX X N' scope) elt f)
 (hix:∀j,(X j).N[i]?=some x':=by intro _;rfl) (hsw:∀j,swapsWith (.ListComp elt [⟨tg,iter,ifs,0⟩] scope pos) (some (.Name x' pos')) pos''.line (X j).env=pure true:=by intro _;rfl) (hx:∀j,(X j).env.scope.names.lookup x'=some .local:=by intro _;rfl) (hs:∀(env:Env)(x:Value),foldedSetIterable iter env x=pure x:=by intro _ _;rfl):
 MS K X (.Assign [.Name x' pos'] (.ListComp elt [⟨tg,iter,ifs,0⟩] scope pos) pos'') (aV (FD cap fa gf ft f) (hName i)):=by
 obtain⟨t,x1,x2⟩:=x.ex;obtain⟨u,y1,y2⟩:=y.ex;obtain⟨v,z1,z2⟩:=z.ex;obtain⟨o,w1,w2⟩:=w.ex;exact⟨_,fun j=>OO (hN j) (hix j) (hc j) (S j) (x1 j) (fun C s H fp pn=>y1 (j,C,s,H,fp,pn)) (fun C s H fp pn=>z1 (j,C,s,H,fp,pn)) (fun C s H fp pn=>w1 (j,C,s,H,fp,pn)) (hsw j) (hx j) (hs _),FT (aDr x2 y2 z2 w2) zY⟩
variable{st:Stmt}{sts:List Stmt}{sf sg:SF}
theorem gI:ML K X [] dM:=⟨_,fun _=>WH,YK⟩
theorem aN(x:MS K X st sf):ML K X [st] sf:=by
 obtain⟨t,x1,x2⟩:=x.ex;exact⟨_,fun i=>UT (x1 i),x2⟩
theorem aM(x:MS K X st sf)(y:ML K X sts sg):ML K X (st::sts) (aX sf sg):=by
 obtain⟨t,x1,x2⟩:=x.ex;obtain⟨u,y1,y2⟩:=y.ex;exact⟨_,fun i=>TQ (x1 i) (y1 i),aDA x2 y2⟩
theorem bE(x:ME K X e f):MS K X (.Return (some e) pos) (cO f):=by
 obtain⟨t,x1,x2⟩:=x.ex;exact⟨_,fun i=>aCw (x1 i),aAJ x2⟩
noncomputable def vG:SF:=fun _ _=>none
theorem rN:MS K X st vG:=⟨NK,fun _=>RM,fun _ _ _ _ h=>by cases h⟩
theorem oZ(x:ME K X e f)(hs:∀i,swapsWith e none pos.line (X i).env=pure false:=by intro _;rfl):MS K X (.Expr e pos) (lA f):=by
 obtain⟨t,x1,x2⟩:=x.ex;exact⟨_,fun i=>VB (x1 i) (hs i),VM x2⟩
theorem fQ{sts':List Stmt}(x:MT K X c ft)(y:ML K X sts sf)(z:ML K X sts' sg):MS K X (.If c sts sts' pos) (sIf ft sf sg):=by
 obtain⟨t,x1,x2⟩:=x.ex;obtain⟨u,y1,y2⟩:=y.ex;obtain⟨v,z1,z2⟩:=z.ex;exact⟨_,fun i=>aEu (x1 i) (y1 i) (z1 i),aFl x2 y2 z2⟩
theorem DT(hp:∀i,PassesOwn (model (X i).prog (X i).w) (X i).A (X i).env (X i).xe)(x:MT K X c ft)(y:ML K X sts sf):MS K X (.While c sts [] pos) (qE ft sf):=by
 obtain⟨t,x1,x2⟩:=x.ex;obtain⟨u,y1,y2⟩:=y.ex;exact⟨_,fun i=>NY (hp i) (x1 i) (y1 i),OR x2 y2⟩
theorem mD(hp:∀i,PassesOwn (model (X i).prog (X i).w) (X i).A (X i).env (X i).xe)(hc:∀i,(X i).calm=true)(x:MI K X tg iter fa)(y:MG K X tg gf)(z:ML K X sts sf)(hs:∀(env:Env)(x:Value),foldedSetIterable iter env x=pure x:=by intro _ _;rfl):MS K X (.For tg iter sts [] pos) (nN fa gf sf):=by
 obtain⟨t,x1,x2⟩:=x.ex;obtain⟨u,y1,y2⟩:=y.ex;obtain⟨v,z1,z2⟩:=z.ex;exact⟨_,fun i=>aCR (hp i) (hc i) (x1 i) (y1 i) (z1 i) (hs _),aAP x2 y2 z2⟩
theorem bD(i:Nat){x':Str}{pos':Pos}(hN:∀j,(X j).N.Nodup)(x:ME K X e f)(hi:∀j,(X j).N[i]?=some x':=by intro _;rfl)(hx:∀j,Loc (X j).env.scope x':=by intro _;first|exact Or.inl rfl|exact Or.inr rfl)(hs:∀j,swapsWith e (some (.Name x' pos')) pos.line (X j).env=pure false:=by intro _;rfl)
 (hf:∀j,(X j).fn x'=true\/(X j).env.scope.names.lookup x'=some .local:=by intro _;first|exact .inl rfl|exact .inr rfl):MS K X (.Assign [.Name x' pos'] e pos) (aV f (hName i)):=by
 obtain⟨t,x1,x2⟩:=x.ex;exact⟨_,fun j=>aDn (hN j) (hi j) (hx j) (x1 j) (hs j) (hf j),FT x2 zY⟩
theorem HX(i j:Nat){x' y':Str}{px py pt pt2:Pos}{kt k2:Nat}(hc:∀j,(X j).calm=true)(hN:∀j,(X j).N.Nodup)(x:MA K X [a,b] fa)(hij:i≠j:=by decide)(hi:∀k,(X k).N[i]?=some x':=by intro _;rfl)(hj:∀k,(X k).N[j]?=some y':=by intro _;rfl)(hx:∀k,(X k).env.scope.names.lookup x'=some .local:=by intro _;rfl)(hy:∀k,(X k).env.scope.names.lookup y'=some .local:=by intro _;rfl)
 (h1:∀k,swappedStores [.Tuple [.Name x' px,.Name y' py] kt pt] (.Tuple [a,b] k2 pt2) (X k).env=pure (some [x',y']):=by intro _;rfl) (h2:∀k,swapsWithSole [.Tuple [.Name x' px,.Name y' py] kt pt] (.Tuple [a,b] k2 pt2) pos.line (X k).env=pure false:=by intro _;rfl):
 MS K X (.Assign [.Tuple [.Name x' px,.Name y' py] kt pt] (.Tuple [a,b] k2 pt2) pos) (xQ i j fa):=by
 obtain⟨t,x1,x2⟩:=x.ex;exact⟨_,fun k=>aAL (hc k) (hN k) (hi k) (hj k) hij (hx k) (hy k) (x1 k) (h1 k) (h2 k),aCH x2⟩
theorem OK(x:ME K X e f)(y:MG K X tg gf)(h1:∀k,swapsWithSole [tg] e pos.line (X k).env=pure false:=by intro _;rfl)(h2:∀k,swappedStores [tg] e (X k).env=pure none:=by intro _;rfl)(h3:∀env:Env,(assignEach [tg] env).map (·.2)=[assign tg env]:=by intro _;rfl):MS K X (.Assign [tg] e pos) (aV f gf):=by
 obtain⟨t,x1,x2⟩:=x.ex;obtain⟨u,y1,y2⟩:=y.ex;exact⟨_,fun k=>aAR (x1 k) (y1 k) (h1 k) (h2 k) (h3 _),FT x2 y2⟩
theorem mQ(hK:∀i,(X i).K=K:=by intro _;rfl):Q2 K X (binaryOp .Add) fU:=⟨_,fun i=>aFw (hK i),WC⟩
theorem JA:Q2 K X (binaryOp .Sub) xE:=⟨_,fun _=>aCj,aCm⟩
theorem tM:Q2 K X (binaryOp .Mult) wQ:=⟨_,fun _=>XX,aDl⟩
theorem gA:Q2 K X (binaryOp .FloorDiv) dF:=⟨_,fun _=>OA,VL⟩
theorem cY:Q2 K X (binaryOp .Mod) bY:=⟨_,fun _=>aAY,aDB⟩
theorem aFt:Q2 K X (binaryOp .Pow) XF:=⟨_,fun _=>aBI,aCY⟩
theorem xU:Q2 K X (compareOp .Lt) ltI:=⟨_,fun _=>aEH,aEh⟩
theorem aCJ:Q2 K X (compareOp .LtE) leI:=⟨_,fun _=>aEZ,aDH⟩
theorem RX:Q2 K X (compareOp .Gt) gtI:=⟨_,fun _=>aEM,aEQ⟩
theorem aEz:Q2 K X (compareOp .GtE) geI:=⟨_,fun _=>aDD,aDU⟩
theorem pA(hK:∀i,(X i).K=K)(hu:∀i,(X i).A.units+64<cLine):Q2 K X (compareOp .Eq) (eqX false):=⟨_,fun i=>kEq (hK i) (hu i),TV⟩
theorem XY(hK:∀i,(X i).K=K)(hu:∀i,(X i).A.units+64<cLine):Q2 K X (compareOp .NotEq) (eqX true):=⟨_,fun i=>kNe (hK i) (hu i),aCz⟩
theorem aDz(hK:∀i,(X i).K=K)(hu:∀i,(X i).A.in1.units+64<cLine):Q2 K X (compareOp .In) (inD false):=⟨_,fun i=>kIn (hK i) (hu i),aAz⟩
theorem YT(hK:∀i,(X i).K=K)(hu:∀i,(X i).A.in1.units+64<cLine):Q2 K X (compareOp .NotIn) (inD true):=⟨_,fun i=>aBX (hK i) (hu i),aAz⟩
theorem dY(hK:∀i,(X i).K=K:=by intro _;rfl):QI K X ixF:=⟨_,fun i=>kIx (hK i),aBK⟩
theorem zK(hK:∀i,(X i).K=K:=by intro _;rfl):QN K X (.builtin "len") lB:=⟨_,fun i=>aFS (hK i),YC⟩
theorem aDy(hK:∀i,(X i).K=K):QN K X (.type "list") uA:=⟨_,fun i=>aAF (hK i),RC⟩
theorem oV(hK:∀i,(X i).K=K):QN K X (.type "tuple") eQ:=⟨_,fun i=>aCx (hK i),LM⟩
theorem aAn(hK:∀i,(X i).K=K)(hc:∀i,(X i).calm=true):QN K X (.builtin "all") CW:=⟨_,fun i=>aFK (hK i) (hc i),WX⟩
theorem aAi:QS K X BP:=⟨_,fun _=>set_list,aBp⟩
end
section
variable{P:Program}{w:World}{K:Fg}{mg:Str->Option Value}
theorem Def.okG{base:Heap}{x:Str}{st:Stmt}{N ps:List Str}{k:Nat}{b:SF}{q:Bool}(D:Def K mg x st)(S:aR N ps (aE st))
 (hb:∀(kV doc pm:Value)(an:Option Addr)(cdv ct:Value)(us:List Value),us.length=ps.length->bindArgs (PySem.W.fnOf x x (eJ st) (bN st) (aE st) .none kV doc pm an cdv ct) ⟨us,[]⟩=pure (ps.zip us))
 (hbody:∀(f:Addr)(cdv:Value)(A:Around)(outer:List Env)(s:Shared)(H:Hp)(E:XK),cJ k (A.deeper (envOfC x (aE st) s.heap.objs.size f cdv)) q->
  ML K (fun _:Unit=>(qS CX0 P w K mg base N x (aE st) f cdv A outer s H E q).nox) (bN st) b):Callee P w K mg base (k+1) x ps (spM K (fnF ps.length N.length b)) q:=
 D.okM S hb fun f cdv A outer s H E hr=>by
  obtain⟨t,h1,h2⟩:=(hbody f cdv A outer s H E hr).ex;exact⟨t,h1 (),h2⟩
theorem Def.okLG{x p:Str}{st:Stmt}{N:List Str}{k:Nat}{b:SF}{F:FN}(D:Def K mg x st)(S:aR N [p] (aE st))(hF:F=fnF 1 N.length b)
 (hb:∀(kV doc pm:Value)(an:Option Addr)(cdv ct:Value)(us:List Value),us.length=[p].length->bindArgs (PySem.W.fnOf x x (eJ st) (bN st) (aE st) .none kV doc pm an cdv ct) ⟨us,[]⟩=pure ([p].zip us))
 (hbody:∀(base:Heap)(f:Addr)(cdv:Value)(A:Around)(outer:List Env)(s:Shared)(H:Hp)(E:XK),cJ k (A.deeper (envOfC x (aE st) s.heap.objs.size f cdv))->
  ML K (fun _:Unit=>(qS CX0 P w K mg base N x (aE st) f cdv A outer s H E).nox) (bN st) b):
 ∃f fd,mg x=some (.ref f)/\(∀(s:Shared)(u:Value),BindsTo s fd ⟨[u],[]⟩ [(p,u)])/\∀base,pC P w K mg base CX0 (k+1) f fd [p] (spM K F):=
 D.okL S hF hb fun base f cdv A outer s H E hr=>by
  obtain⟨t,h1,h2⟩:=(hbody base f cdv A outer s H E hr).ex;exact⟨t,h1 (),h2⟩
end
end L2
namespace HT
open PySem PyProof.Rows PySem.Spec
section
variable{prog:Program}{w:World}{A:Around}{E:Value->Shared->Prop}{s:Shared}
theorem getItem_tuple_whole{t sl:Addr}{items:Array Value}{vl vu:Value}{lo hi:Option Int}{Q:Value->Shared->Prop}(ht:IsTup s.heap t items)(hs:s.heap.IsSliceOf sl vl vu .none)(pl:IsPart vl lo)(pu:IsPart vu hi)
 (hw:sIx items.size 0 lo=0/\sIx items.size items.size hi=items.size) (h:Q (.ref t) s):wpAny (model prog w) A (getItem (.ref t) (.ref sl)) Q E s:=by
 obtain⟨os,hos,hcs,hds⟩:=id hs;have hTs:s.TypeIs (.ref sl) "slice":=⟨os,hos,hcs⟩;unfold getItem
 try with_reducible refine F7 ?_
 first|refine A1 (A4 ?_)|skip
 refine A1 (wpAny_sequenceKey ht.typeIs (by decide) ?_)
 refine A1 (E6 (name:=Str.ofString "__getitem__") ht.typeIs S5
  (E4 S5 ht.typeIs entry_tuple_getitem ?_ (args_tuple_getitem _ _)))
 show wpAny _ _ (Builtin.Tuple.tupleItemsOf (.ref t) >>= _) _ _ s;refine A1 (tupleItemsOf_ ht ?_);refine A1 (Z7 hTs ?_);rw[B0 (by decide)];refine A1 (kU hs pl pu ?_)
 have hyes:(((sIx items.size 0 lo:Nat):Int)==0&&(1:Int)==1&&(sIx items.size items.size hi-sIx items.size 0 lo)==items.size)=true:=by
  rw[hw.1,hw.2];simp
 show wpAny _ _ (if (((sIx items.size 0 lo:Nat):Int)==0&&(1:Int)==1&&(sIx items.size items.size hi-sIx items.size 0 lo)==items.size)=true then _ else _) _ _ s;rw[B0 hyes];refine A1 (m:=Builtin.Tuple.tupleIsExact (.ref t)) ?_;unfold Builtin.Tuple.tupleIsExact;refine A1 (Z7 ht.typeIs (A4 ?_));rw[B0 (by decide)];exact A1 (A0c (A4 ⟨_,rfl,A4 h⟩))
end
end HT
namespace L2
variable{M:Sto}{H:Hp}{K:Fg}{apos cpos:Pos}
open PySem PySem.Spec PyProof.Rows
noncomputable def aDJ(K:Fg):V->Option Int->Option Int->Hp->VK->Prop:=fun x lo hi H Q=>∃a xs,x=.ref a/\SqT K H a xs/\(HT.sIx xs.length 0 lo=0/\HT.sIx xs.length xs.length hi=xs.length)/\Q (.ref a) H
theorem QA{X:Cx}:SlR X (aDJ X.K):=by
 intro pins s σ H x v vl vu lo hi sl Q I rx hs pl pu h;obtain⟨a,xs,rfl,hx,hw,q⟩:=h;cases rx;obtain⟨its,r,ht,hz⟩:=I.tuple hx;have hlen:its.toArray.size=xs.length:=by rw[C1];exact r.length.symm
 refine⟨"tuple",_,PyProof.Rows.slot_tuple_getitem.lookup,ht.typeIs,?_⟩;exact HT.getItem_tuple_whole ht hs pl pu (by rw[hlen];exact hw) ⟨.ref a,H,I,rfl,q⟩
noncomputable def qQ{α:Type}(xs:List α)(lo hi:Option Int):List α:=(xs.drop (HT.sIx xs.length 0 lo)).take (HT.sIx xs.length xs.length hi-HT.sIx xs.length 0 lo)
noncomputable abbrev OF:=Ga->Sto->Option (Option Int×Sto)
noncomputable def rM:OF:=fun _ M=>some (none,M)
noncomputable def asI:CD->Option Int
 |.d (.int i)=>some i
 |_=>none
noncomputable def DK(f:EF):OF:=fun γ M=>(f γ M).bind fun r=>(asI r.1).bind fun i=>some (some i,r.2)
noncomputable def slF(x:CD)(lo hi:Option Int)(M:Sto):Option (CD×Sto):=match x with
 |.d (.list ds)=>some (.d (.list (qQ ds lo hi)),M)
 |.d (.tuple ds)=>some (.d (.tuple (qQ ds lo hi)),M)
 |.c i=>match M[i]? with
  |some (.lst xs)=>(lV (qQ xs lo hi)).bind fun ds=>some (.d (.list ds),M)
  |_=>none
 |_=>none
noncomputable def fSl(f:EF)(l u:OF):EF:=fun γ M=>(f γ M).bind fun r=>(l γ r.2).bind fun p=>(u γ p.2).bind fun q=>slF r.1 p.1 q.1 q.2
noncomputable def aCy(K:Fg):V->Option Int->Option Int->Hp->VK->Prop:=fun x lo hi H Q=>aDW K x lo hi H Q\/aFj K x lo hi H Q\/aDJ K x lo hi H Q
theorem kSl{X:Cx}(h:X.K=K):SlR X (aCy K):=by subst h;exact sl_list.or (sl_tup.or QA)
section
variable{K:Fg}
noncomputable def SO(K:Fg)(t:TO)(f:OF):Prop:=∀γ M b M',f γ M=some (b,M')->∀(W:Wd)(H:Hp)(σ:St)(Q:Option Int->Hp->Prop),Good K W M H->cT K W γ σ->(∀W' H',W.Ext W'->Good K W' M' H'->Q b H')->t σ H Q
theorem UM:SO K IG rM:=by
 intro γ M x M' hh W H σ Q G R k;cases hh;exact k W H (.refl _) G
theorem aCb{x:CD}{i:Int}(h:asI x=some i):x=.d (.int i):=by
 cases x with
 |c n=>cases h
 |t n=>cases h
 |f n=>cases h
 |d x=>cases x<;>first|cases h;rfl|cases h
theorem ZD{ta:TE}{f:EF}(a:SE K ta f):SO K (aAb ta) (DK f):=by
 intro γ M x M' hh W H σ Q G R k;obtain⟨⟨y,M1⟩,h1,hh⟩:=aH hh;obtain⟨i,h2,hh⟩:=aH hh;cases hh;refine a _ _ _ _ h1 W H σ _ G R fun v W1 H1 e1 G1 r1=>?_;have hy:y=_:=aCb h2;subst hy;exact⟨i,r1,k W1 H1 e1 G1⟩
theorem aJ.drop{H:Hp}:∀{ds:List PyData}{vs:List V}(n:Nat),aJ K H ds vs->aJ K H (ds.drop n) (vs.drop n)
 |_,_,0=>fun h=>h
 |[],vs,n+1=>fun h=>by rw[show vs=[]from h];rfl
 |d::ds,vs,n+1=>fun h=>by
  obtain⟨v,r,rfl,_,h3⟩:=h;exact aJ.drop n h3
theorem aJ.take{H:Hp}:∀{ds:List PyData}{vs:List V}(n:Nat),aJ K H ds vs->aJ K H (ds.take n) (vs.take n)
 |_,_,0=>fun h=>rfl
 |[],vs,n+1=>fun h=>by rw[show vs=[]from h];rfl
 |d::ds,vs,n+1=>fun h=>by
  obtain⟨v,r,rfl,h2,h3⟩:=h;exact⟨v,r.take n,rfl,h2,aJ.take n h3⟩
theorem aJ.cut{ds:List PyData}{vs:List V}(h:aJ K H ds vs)(lo hi:Option Int):aJ K H (qQ ds lo hi) (sJ vs lo hi):=by
 unfold qQ sJ;rw[h.length];exact(h.drop _).take _
theorem wM{α β:Type}{R:α->β->Prop}:∀{xs:List α}{ys:List β}(n:Nat),Paired R xs ys->Paired R (xs.drop n) (ys.drop n)
 |_,_,0,h=>h
 |_,_,_+1,.nil=>.nil
 |_,_,n+1,.cons _ t=>wM n t
theorem pT{α β:Type}{R:α->β->Prop}:∀{xs:List α}{ys:List β}(n:Nat),Paired R xs ys->Paired R (xs.take n) (ys.take n)
 |_,_,0,h=>.nil
 |_,_,_+1,.nil=>.nil
 |_,_,n+1,.cons r t=>.cons r (pT n t)
theorem LA{W:Wd}{xs:List CD}{vs:List V}(h:bO K W xs vs)(lo hi:Option Int):bO K W (qQ xs lo hi) (sJ vs lo hi):=by
 unfold qQ sJ;rw[Paired.len h];exact pT _ (wM _ h)
theorem RB{x:CD}{lo hi:Option Int}{z:CD}{M':Sto}(h:slF x lo hi M=some (z,M')){W:Wd}{v:V}{Q:VK}(G:Good K W M H)(rx:bR K W x v)(k:∀w W' H',W.Ext W'->Good K W' M' H'->bR K W' z w->Q w H'):aCy K v lo hi H Q:=by
 unfold slF at h;split at h
 .rename_i ds;cases h;obtain⟨p,us,rfl,hq,hr⟩:=(show ∃a us,_=V.ref a/\SqL K W.F a us/\aJ K W.F ds us from rx);refine .inl ⟨p,us,rfl,G.fh.seq hq,fun l hl=>?_⟩;obtain⟨e2,G2⟩:=G.lay (o:=.lst (sJ us lo hi)) hl;exact k _ _ _ e2 G2 ⟨l,_,rfl,SqL.of aP,aJ.same e2.ff _ _ (hr.cut lo hi)⟩
 .rename_i ds;cases h;obtain⟨p,us,rfl,hq,hr⟩:=(show ∃a us,_=V.ref a/\SqT K W.F a us/\aJ K W.F ds us from rx);by_cases hw:HT.sIx us.length 0 lo=0/\HT.sIx us.length us.length hi=us.length
  .refine .inr (.inr ⟨p,us,rfl,G.fh.seqT hq,hw,?_⟩)
   have e:qQ ds lo hi=ds:=by
    unfold qQ;rw[hr.length,hw.1,hw.2,<- hr.length];simp
   rw[e]at k;exact k _ W H (.refl _) G ⟨p,us,rfl,hq,hr⟩
  .refine .inr (.inl ⟨p,us,rfl,G.fh.seqT hq,hw,fun l hl=>?_⟩);obtain⟨e2,G2⟩:=G.lay (o:=.tup (sJ us lo hi)) hl;exact k _ _ _ e2 G2 ⟨l,_,rfl,SqT.of aP,aJ.same e2.ff _ _ (hr.cut lo hi)⟩
 .rename_i i;split at h
  .rename_i xs hx;obtain⟨ds,h1,h⟩:=aH h;cases h;obtain⟨us,hv,hr⟩:=G.lstAt hx;rw[rx.2];refine .inl ⟨_,us,rfl,SqL.of hv,fun l hl=>?_⟩;obtain⟨e2,G2⟩:=G.lay (o:=.lst (sJ us lo hi)) hl;exact k _ _ _ e2 G2 ⟨l,_,rfl,SqL.of aP,aJ.same e2.ff _ _ (eF h1 (LA hr lo hi))⟩
  .cases h
 .cases h
theorem aFo{ta:TE}{f:EF}{tl th:TO}{l u:OF}(a:SE K ta f)(b:SO K tl l)(c:SO K th u):SE K (tSl (aCy K) ta tl th) (fSl f l u):=by
 intro γ M x M' hh W H σ Q G R k;obtain⟨⟨y,M1⟩,h1,hh⟩:=aH hh;obtain⟨⟨p,M2⟩,h2,hh⟩:=aH hh;obtain⟨⟨q,M3⟩,h3,hh⟩:=aH hh;refine a _ _ _ _ h1 W H σ _ G R fun v W1 H1 e1 G1 r1=>?_;refine b _ _ _ _ h2 W1 H1 σ _ G1 (R.up e1) fun W2 H2 e2 G2=>?_;refine c _ _ _ _ h3 W2 H2 σ _ G2 (R.up (e1.trans e2)) fun W3 H3 e3 G3=>?_;exact RB hh G3 (r1.up (e2.trans e3)) fun w W4 H4 e4 G4 r4=>k w W4 H4 (((e1.trans e2).trans e3).trans e4) G4 r4
noncomputable def intF:FN:=fun xs M=>match xs with
 |[.d (.int i)]=>some (.d (.int i),M)
 |[.d (.bool b)]=>some (.d (.int (if b then 1 else 0)),M)
 |_=>none
noncomputable def tyB(T:String)(M:Sto):CD->Bool
 |.d (.list _)=>T=="list"
 |.d (.str _)=>T=="str"
 |.c i=>match M[i]? with
  |some (.lst _)=>T=="list"
  |some (.dk _)=>T=="dict"
  |some (.dt _)=>T=="dict"
  |_=>false
 |_=>false
theorem QL{T:String}{x:CD}{W:Wd}{v:V}(h:tyB T M x=true)(G:Good K W M H)(r:bR K W x v):tyV K T v H:=by
 unfold tyB at h;split at h
 .rename_i ds;obtain⟨p,us,rfl,hq,hr⟩:=(show ∃a us,_=V.ref a/\SqL K W.F a us/\aJ K W.F ds us from r);exact .inl ⟨eq_of_beq h,us,G.fh.seq hq⟩
 .rename_i x;rw[show v=.str x from r];exact eq_of_beq h
 .rename_i i;rw[r.2];split at h
  .rename_i xs hx;obtain⟨us,hv,hr⟩:=G.lstAt hx;exact .inl ⟨eq_of_beq h,us,SqL.of hv⟩
  .rename_i kvs hx;obtain⟨_,o,g2,g3⟩:=G.cs i _ hx (by intro z;cases z);cases o with
   |dK us=>exact .inr (.inr (.inl ⟨eq_of_beq h,.inl ⟨us,g2⟩⟩))
   |_=>exact False.elim g3
  .rename_i kvs hx;obtain⟨_,o,g2,g3⟩:=G.cs i _ hx (by intro z;cases z);cases o with
   |dT us=>exact .inr (.inr (.inl ⟨eq_of_beq h,.inr ⟨us,g2⟩⟩))
   |_=>exact False.elim g3
  .cases h
 .cases h
noncomputable abbrev FM:=CD->List CD->Sto->Option (CD×Sto)
noncomputable def bQ(T:String)(h:FM)(f:EF)(fa:AF):EF:=fun γ M=>(f γ M).bind fun r=>if tyB T r.2 r.1=true then(fa γ r.2).bind fun q=>h r.1 q.1 q.2 else none
noncomputable def PM(K:Fg)(r:V->List V->Hp->VK->Prop)(f:FM):Prop:=∀x xs M z M',f x xs M=some (z,M')->∀(W:Wd)(H:Hp)(v:V)(vs:List V)(Q:VK),Good K W M H->bR K W x v->bO K W xs vs->(∀w W' H',W.Ext W'->Good K W' M' H'->bR K W' z w->Q w H')->r v vs H Q
theorem WI{T:String}{r:V->List V->Hp->VK->Prop}{h:FM}{ta:TE}{f:EF}{tA:TA}{fa:AF}(p:PM K r h)(a:SE K ta f)(b:SA K tA fa):SE K (tBM K T r ta tA) (bQ T h f fa):=by
 intro γ M x M' hh W H σ Q G R k;obtain⟨⟨y,M1⟩,h1,hh⟩:=aH hh;by_cases hT:tyB T M1 y=true
 .have hh:(if tyB T M1 y=true then(fa γ M1).bind fun q=>h y q.1 q.2 else none)=some (x,M'):=hh;rw[B0 hT]at hh;obtain⟨⟨ys,M2⟩,h2,hh⟩:=aH hh;refine a _ _ _ _ h1 W H σ _ G R fun v W1 H1 e1 G1 r1=>⟨QL hT G1 r1,?_⟩;refine b _ _ _ _ h2 W1 H1 σ _ G1 (R.up e1) fun vs W2 H2 e2 G2 r2=>?_;exact p _ _ _ _ _ hh W2 H2 v vs Q G2 (r1.up e2) r2 fun w W3 H3 e3 G3 r3=>k w W3 H3 ((e1.trans e2).trans e3) G3 r3
 .have hh:(if tyB T M1 y=true then(fa γ M1).bind fun q=>h y q.1 q.2 else none)=some (x,M'):=hh;rw[B2 hT]at hh;cases hh
theorem CT{T:String}{r:V->List V->Hp->VK->Prop}{h:FM}{ta:TE}{f:EF}(p:PM K r h)(a:SE K ta f):SE K (aFp K T r ta) (bQ T h f aG):=by
 intro γ M x M' hh W H σ Q G R k;obtain⟨⟨y,M1⟩,h1,hh⟩:=aH hh;have hh:(if tyB T M1 y=true then h y [] M1 else none)=some (x,M'):=hh;by_cases hT:tyB T M1 y=true
 .rw[B0 hT]at hh;refine a _ _ _ _ h1 W H σ _ G R fun v W1 H1 e1 G1 r1=>⟨QL hT G1 r1,?_⟩;exact p _ _ _ _ _ hh W1 H1 v [] Q G1 r1 .nil fun w W3 H3 e3 G3 r3=>k w W3 H3 (e1.trans e3) G3 r3
 .rw[B2 hT]at hh;cases hh
noncomputable def eE:FM:=fun x ys M=>match x,ys with
 |.c i,[y]=>match M[i]? with
  |some (.lst xs)=>if xs.length<sizeLine then some (.d .none,M.set i (.lst (xs++[y])))else none
  |_=>none
 |_,_=>none
theorem LR:PM K IU eE:=by
 intro x ys M z M' h W H v vs Q G rx rs k;unfold eE at h;split at h
 .rename_i i y;split at h
  .rename_i xs hx;by_cases hl:xs.length<sizeLine
   .rw[B0 hl]at h;cases h;obtain⟨us,hv,hr⟩:=G.lstAt hx;rcases rs with _|⟨r1,_|_⟩;refine⟨W.α i,us,_,rx.2,rfl,hv,by rw[<- Paired.len hr];exact hl,?_⟩;exact k _ W _ (.refl _) (G.set hx (by intro q;cases q) (c':=.lst (xs++[y])) (show bO K W _ _ from Paired.app hr (.cons r1 .nil))) rfl
   .rw[B2 hl]at h;cases h
  .cases h
 .cases h
noncomputable def gH:FM:=fun x ys M=>match x,ys with
 |.c i,[]=>match M[i]? with
  |some (.lst xs)=>(xs[xs.length-1]?).bind fun y=>some (y,M.set i (.lst xs.dropLast))
  |_=>none
 |_,_=>none
theorem wJ{α β:Type}{R:α->β->Prop}{xs:List α}{ys:List β}(h:Paired R xs ys):Paired R xs.dropLast ys.dropLast:=by
 rw[List.dropLast_eq_take,List.dropLast_eq_take,Paired.len h];exact pT _ h
theorem aCn:PM K aEV gH:=by
 intro x ys M z M' h W H v vs Q G rx rs k;unfold gH at h;split at h
 .rename_i i;split at h
  .rename_i xs hx;obtain⟨y,h1,h⟩:=aH h;cases h;obtain⟨us,hv,hr⟩:=G.lstAt hx;obtain⟨u,hu,ru⟩:=Paired.get hr h1;cases rs;refine⟨W.α i,us,u,rx.2,rfl,hv,by rw[<- Paired.len hr];exact hu,?_⟩;exact k _ W _ (.refl _) (G.set hx (by intro q;cases q) (c':=.lst xs.dropLast) (show bO K W _ _ from wJ hr)) ru
  .cases h
 .cases h
end
section
variable{ι:Type}{K:Fg}{X:ι->Cx}{a b c e o:Expr}{es:List Expr}{f g h:EF}{fa:AF}{pos:Pos}
structure MO(K:Fg)(X:ι->Cx)(e:Option Expr)(f:OF):Prop where
 ex:∃t,(∀i,PO (X i) e t)/\SO K t f
theorem UG:MO K X none rM:=⟨_,fun _=>WM,UM⟩
theorem WR(x:ME K X e f):MO K X (some e) (DK f):=by
 obtain⟨t,x1,x2⟩:=x.ex;exact⟨_,fun i=>UI (x1 i),ZD x2⟩
theorem aEI{lo hi:Option Expr}{l u:OF}{p2:Pos}(hK:∀i,(X i).K=K)(x:ME K X a f)(y:MO K X lo l)(z:MO K X hi u):ME K X (.Subscript a (.Slice lo hi none p2) pos) (fSl f l u):=by
 obtain⟨t,x1,x2⟩:=x.ex;obtain⟨t',y1,y2⟩:=y.ex;obtain⟨t'',z1,z2⟩:=z.ex;exact⟨_,fun i=>PQ (kSl (hK i)) (x1 i) (y1 i) (z1 i),aFo x2 y2 z2⟩
theorem sX(hK:∀i,(X i).K=K)(x:ME K X o f)(y:MA K X [e] fa)(hb:∀env:Env,attributeBase o "append" env (eval o env)=eval o env:=by intro _;rfl)(hl:(apos.endLine==cpos.line)=true:=by rfl):
 ME K X (.Call (.Attribute o "append" apos) [e] [] cpos) (bQ "list" eE f fa):=by
 obtain⟨t,x1,x2⟩:=x.ex;obtain⟨u,y1,y2⟩:=y.ex;refine⟨_,fun i=>?_,WI LR x2 y2⟩;have:=aFn PySem.F.plainAttrs_list PySem.F.slot_list_append PySem.F.type_list_append MU (x1 i) (y1 i) (apos:=apos) (cpos:=cpos) (hb _) (by rw[y.st.1];rfl) hl (y.st.1 _) (y.st.2.plain _ _);rw[hK i]at this;exact this
theorem mH(hK:∀i,(X i).K=K)(x:ME K X o f)(hb:∀env:Env,attributeBase o "pop" env (eval o env)=eval o env:=by intro _;rfl)(hl:(apos.endLine==cpos.line)=true:=by rfl):
 ME K X (.Call (.Attribute o "pop" apos) [] [] cpos) (bQ "list" gH f aG):=by
 obtain⟨t,x1,x2⟩:=x.ex;refine⟨_,fun i=>?_,CT aCn x2⟩;have:=RO PySem.F.plainAttrs_list PySem.F.slot_list_pop PySem.F.type_list_pop aAQ (x1 i) (apos:=apos) (cpos:=cpos) (hb _) hl;rw[hK i]at this;exact this
end
noncomputable def ZU(K:Fg):List V->Hp->VK->Prop:=fun xs H Q=>∃x d,xs=[x]/\Rep K H d x/\d.showable=true/\d.depth<=64/\d.shown.length<=sizeLine/\Q (.str d.shown) H
theorem aFa{X:Cx}(hK:X.K=K)(hg:X.A.guards=some [])(hu:X.A.units+200<cLine):eT X (.builtin "repr") (ZU K):=by
 subst hK;intro pins s σ H xs us Q I r h;obtain⟨x,d,rfl,hd,hs,hp,hz,q⟩:=h;obtain⟨u,rfl,ru⟩:=vals1 r
 have big:∀a,u=.ref a->wpAny (model X.prog X.w) X.A (call (.builtin "repr") [u]) (EP X pins σ Q) X.xe s:=fun a e=>by
  subst e;obtain⟨as,hr,hn⟩:=Rep.reads' I d x _ hd ru;exact repr_of_reads' hr hs (fun _=>hn) hg (by omega) (fun _ _ e=>e) (fun h' u' tk hk=>⟨.str d.shown,H,I.kept (h':=h') (t':=tk) hk,⟨_,rfl⟩,q⟩) hz
 cases d with
 |none=>
  rw[show x=.non from hd]at ru;cases (show u=Value.none from ru);exact PySem.P.repr_of_none ⟨.str _,H,I.tok _,⟨_,rfl⟩,q⟩
 |bool b=>
  rw[show x=.bl b from hd]at ru;cases (show u=Value.bool b from ru);refine PySem.P.repr_of_bool ⟨.str _,H,I.tok _,⟨_,rfl⟩,?_⟩;cases b<;>exact q
 |int i=>
  rw[show x=.int i from hd]at ru;obtain⟨t,rfl⟩:=(show ∃t,u=Value.int i t from ru);exact PySem.P.repr_of_int (C3 hs) ⟨.str _,H,I.tok _,⟨_,rfl⟩,q⟩
 |str y=>
  rw[show x=.str y from hd]at ru;obtain⟨t,rfl⟩:=(show ∃t,u=Value.str y t from ru);exact PySem.P.repr_of_str ⟨.str _,H,I.tok _,⟨_,rfl⟩,q⟩ hz
 |list ds=>obtain⟨a,vs,e,_,_⟩:=hd;subst e;exact big a ru
 |tuple ds=>obtain⟨a,vs,e,_,_⟩:=hd;subst e;exact big a ru
 |dict ds=>obtain⟨a,vs,e,_,_⟩:=hd;subst e;exact big a ru
noncomputable def oX(d:PyData):Bool:=d.showable&&decide (d.depth<=64)&&decide (d.shown.length<=sizeLine)
noncomputable def JY:FN:=fun xs M=>match xs with
 |[.d x]=>if oX x=true then some (.d (.str x.shown),M)else none
 |_=>none
theorem cJ.u200{k:Nat}{A:Around}(r:cJ k A):A.units+200<cLine:=by have:=r.un;omega
theorem Good.freeze{W:Wd}(g:Good K W M H){i:Nat}{c:Cell}{o':HO}(hi:M[i]?=some c)(hc:c≠.dead):
 W.Ext { W with F:=upd W.F (W.α i) o' }/\Good K { W with F:=upd W.F (W.α i) o' } (M.set i .dead) (upd H (W.α i) o'):=by
 obtain⟨h1,o,h2,h3⟩:=g.cs i c hi hc;have lt:i<M.length:=(List.getElem?_eq_some_iff.mp hi).1;have e:W.Ext { W with F:=upd W.F (W.α i) o' }:=⟨gV.upd h1,A7 _,fun _ _=>rfl⟩
 have at_:∀j d,(M.set i .dead)[j]?=some d->d≠.dead->j≠i/\M[j]?=some d:=fun j d h hd=>by
  by_cases q:i=j
  .subst q;rw[J3 lt]at h;exact absurd (D9 h).symm hd
  .rw[F6 q]at h;exact⟨fun z=>q z.symm,h⟩
 refine⟨e,?_,by show W.n=_;rw[g.n,O6],fun j d hj hd=>?_,fun j k d1 d2 hj hk e1 e2 he=>?_⟩
 .intro b u hb;have hb:upd W.F (W.α i) o' b=some u:=hb;by_cases q:b=W.α i
  .subst q;rw[aP]at hb;rw[aP];exact hb
  .rw[aL q]at hb;rw[aL q];exact g.fh b u hb
 .obtain⟨q,h⟩:=at_ j d hj hd;obtain⟨k1,u,k2,k3⟩:=g.cs j d h hd;have ne:W.α j≠W.α i:=fun z=>q (g.inj j i d c h hi hd hc z);exact⟨by show upd W.F (W.α i) o' (W.α j)=none;rw[aL ne];exact k1,u,by rw[aL ne];exact k2,k3.up e⟩
 .exact g.inj j k d1 d2 (at_ j d1 hj e1).2 (at_ k d2 hk e2).2 e1 e2 he
noncomputable def keyOf:CD->Option Key
 |.d (.int i)=>some (.inl i)
 |.d (.str x)=>some (.inr x)
 |_=>none
section
variable{K:Fg}
theorem sD{W:Wd}{x:CD}{k:Key}{v:V}(h:keyOf x=some k)(r:bR K W x v):v=kV k:=by
 unfold keyOf at h;split at h
 .cases h;exact r
 .cases h;exact r
 .cases h
end
mutual
noncomputable def wt:PyData->Nat
 |.none=>4
 |.bool _=>5
 |.int _=>2000
 |.str x=>(reprText x).length
 |.list xs=>tZ xs+3
 |.tuple xs=>tZ xs+3
 |.dict kvs=>NF kvs+3
noncomputable def tZ:List PyData->Nat
 |[]=>0
 |x::xs=>wt x+2+tZ xs
noncomputable def NF:List (PyData×PyData)->Nat
 |[]=>0
 |(k,v)::r=>wt k+wt v+4+NF r
end
mutual
noncomputable def oks:PyData->Bool
 |.none=>true
 |.bool _=>true
 |.int i=>decide (i.natAbs<2 ^ 1900)
 |.str _=>true
 |.list xs=>pZ xs
 |.tuple xs=>pZ xs
 |.dict kvs=>yS kvs
noncomputable def pZ:List PyData->Bool
 |[]=>true
 |x::xs=>oks x&&pZ xs
noncomputable def yS:List (PyData×PyData)->Bool
 |[]=>true
 |(k,v)::r=>oks k&&oks v&&yS r
end
theorem WA{i:Int}(h:i.natAbs<2 ^ 1900):i.natAbs.log2<1900:=by
 by_cases h0:i.natAbs=0
 .rw[h0];decide +kernel
 .exact(Nat.log2_lt h0).mpr h
theorem ZK{i:Int}(h:i.natAbs<2 ^ 1900):((toString i:String):Str).length<=2000:=by
 have h1:=int_text_length_le (k:=1900) (by decide) (WA h);show(Str.ofString (toString i)).length<=2000;rw[PySem.ofString_length];omega
mutual
theorem shown_le:∀d:PyData,oks d=true->d.shown.length<=wt d
 |.none=>fun _=>by decide
 |.bool b=>fun _=>by cases b<;>decide
 |.int i=>fun h=>ZK (C3 h)
 |.str x=>fun _=>A7 _
 |.list xs=>fun h=>by
  have:=shownAll_le xs h;have h2:=listText_len_le (PyData.shownAll xs);show(listText (PyData.shownAll xs)).length<=tZ xs+3;omega
 |.tuple xs=>fun h=>by
  have:=shownAll_le xs h;have h2:=tupleText_len_le (PyData.shownAll xs);show(tupleText (PyData.shownAll xs)).length<=tZ xs+3;omega
 |.dict kvs=>fun h=>by
  have:=shownKv_le kvs h;have h2:=dictText_len_le (PyData.shownKv kvs);show(dictText (PyData.shownKv kvs)).length<=NF kvs+3;omega
theorem shownAll_le:∀xs:List PyData,pZ xs=true->((PyData.shownAll xs).map (·.length)).sum+2*(PyData.shownAll xs).length<=tZ xs
 |[]=>fun _=>by simp[PyData.shownAll,tZ]
 |x::xs=>fun h=>by
  unfold pZ at h;rw[B5]at h;have h1:=shown_le x h.1;have h2:=shownAll_le xs h.2;simp only[PyData.shownAll,tZ,List.map_cons,List.sum_cons,List.length_cons];omega
theorem shownKv_le:∀kvs:List (PyData×PyData),yS kvs=true->((PyData.shownKv kvs).map (·.length)).sum+2*(PyData.shownKv kvs).length<=NF kvs
 |[]=>fun _=>by simp[PyData.shownKv,NF]
 |(k,v)::r=>fun h=>by
  unfold yS at h;rw[B5,B5]at h;have h1:=shown_le k h.1.1;have h2:=shown_le v h.1.2;have h3:=shownKv_le r h.2
  have e:(PyData.shown k++": "++PyData.shown v).length=(PyData.shown k).length+2+(PyData.shown v).length:=by
   rw[strLen_append,strLen_append];rfl
  simp only[PyData.shownKv,NF,List.map_cons,List.sum_cons,List.length_cons,e];omega
end
mutual
theorem jT:∀d:PyData,oks d=true->d.showable=true
 |.none=>fun _=>rfl
 |.bool _=>fun _=>rfl
 |.int i=>fun h=>by
  have h:i.natAbs<2 ^ 1900:=C3 h;refine C5 ?_;by_cases h0:i.natAbs=0
  .rw[h0];decide +kernel
  .exact O8 ((Nat.log2_lt h0).mpr h) (by decide)
 |.str _=>fun _=>rfl
 |.list xs=>fun h=>showableAll_of xs h
 |.tuple xs=>fun h=>showableAll_of xs h
 |.dict kvs=>fun h=>showableKv_of kvs h
theorem showableAll_of:∀xs:List PyData,pZ xs=true->PyData.showableAll xs=true
 |[]=>fun _=>rfl
 |x::xs=>fun h=>by
  unfold pZ at h;rw[B5]at h;show(PyData.showable x&&PyData.showableAll xs)=true;rw[jT x h.1,showableAll_of xs h.2];rfl
theorem showableKv_of:∀kvs:List (PyData×PyData),yS kvs=true->PyData.showableKv kvs=true
 |[]=>fun _=>rfl
 |(k,v)::r=>fun h=>by
  unfold yS at h;rw[B5,B5]at h;show(PyData.showable k&&PyData.showable v&&PyData.showableKv r)=true;rw[jT k h.1.1,jT v h.1.2,showableKv_of r h.2];rfl
end
structure Fit(n m:Nat)(d:PyData):Prop where
 ok:oks d=true
 wt:wt d<=n
 dp:d.depth<=m
theorem Fit.shown{n m:Nat}{d:PyData}(f:Fit n m d)(hn:n<=sizeLine:=by decide)(hm:m<=64:=by decide):oX d=true:=by
 unfold oX;rw[jT d f.ok,C5 (C7 f.dp hm),C5 (C7 (C7 (shown_le d f.ok) f.wt) hn)];rfl
theorem NW{n m:Nat}{d:PyData}(f:Fit n m d)(hn:n<=sizeLine:=by decide)(hm:m<=64:=by decide):JY [.d d] M=some (.d (.str d.shown),M):=by
 unfold JY;dsimp only;rw[B0 (f.shown hn hm)]
noncomputable def xO(f:Str)(v:CD):List (Str×CD)->List (Str×CD)
 |[]=>[(f,v)]
 |(g,x)::r=>if g=f then(g,v)::r else(g,x)::xO f v r
section
variable{K:Fg}
theorem FB{W:Wd}{f:Str}{x:CD}{v:V}(r:bR K W x v):∀{fs:List (Str×CD)}{us:List (Str×V)},Paired (fun p q=>p.1=q.1/\bR K W p.2 q.2) fs us->Paired (fun p q=>p.1=q.1/\bR K W p.2 q.2) (xO f x fs) (lF f v us)
 |_,_,.nil=>.cons ⟨rfl,r⟩ .nil
 |(g,y)::fs,(g',u)::us,.cons h t=>by
  obtain⟨h1,h2⟩:=h;have h1:g=g':=h1;subst h1;unfold xO lF;by_cases e:g=f
  .rw[B0 e,B0 e];exact .cons ⟨rfl,r⟩ t
  .rw[B2 e,B2 e];exact .cons ⟨rfl,h2⟩ (FB r t)
theorem zC{W:Wd}{f:Str}{x:CD}:∀{fs:List (Str×CD)}{us:List (Str×V)},Paired (fun p q=>p.1=q.1/\bR K W p.2 q.2) fs us->fs.lookup f=some x->∃v,us.lookup f=some v/\bR K W x v
 |_,_,.nil=>fun h=>by cases h
 |(g,y)::fs,(g',u)::us,.cons h t=>fun e=>by
  obtain⟨h1,h2⟩:=h;have h1:g=g':=h1;subst h1;rw[D8]at e ⊢;by_cases q:(f==g)=true
  .rw[q]at e ⊢;cases e;exact⟨u,rfl,h2⟩
  .have q':(f==g)=false:=by simpa using q
   rw[q']at e ⊢;exact zC t e
theorem Good.objAt{W:Wd}{i:Nat}{nm:Str}{fs:List (Str×CD)}(G:Good K W M H)(h:M[i]?=some (.obj nm fs)):∃dx us,H (W.α i)=some (.ins (fG K nm) dx us)/\Paired (fun p q=>p.1=q.1/\bR K W p.2 q.2) fs us:=by
 obtain⟨_,o,h2,h3⟩:=G.cs i _ h (by intro z;cases z);cases o with
 |ins C dx us=>
  obtain⟨e,p⟩:=h3;subst e;exact⟨dx,us,h2,p⟩
 |_=>exact False.elim h3
theorem Good.extra{W:Wd}(g:Good K W M H){p:Addr}{o:HO}(hp:H p=none):Good K W M (upd H p o):=by
 refine⟨fun b u hb=>?_,g.n,fun i c hi hc=>?_,g.inj⟩
 .have:=g.fh b u hb;rw[aL (aO this hp)];exact this
 .obtain⟨h1,o',h2,h3⟩:=g.cs i c hi hc;exact⟨h1,o',by rw[aL (aO h2 hp)];exact h2,h3⟩
noncomputable def objOf(nm:Str)(M:Sto):CD->Option (Nat×List (Str×CD))
 |.c i=>match M[i]? with
  |some (.obj nm' fs)=>if nm'=nm then some (i,fs)else none
  |_=>none
 |_=>none
theorem EO{nm:Str}{x:CD}{i:Nat}{fs:List (Str×CD)}(h:objOf nm M x=some (i,fs)):x=.c i/\M[i]?=some (.obj nm fs):=by
 unfold objOf at h;split at h
 .rename_i j;split at h
  .rename_i nm' fs' hj;by_cases e:nm'=nm
   .rw[B0 e]at h;cases h;subst e;exact⟨rfl,hj⟩
   .rw[B2 e]at h;cases h
  .cases h
 .cases h
noncomputable def kB(nm f:Str)(e:EF):EF:=fun γ M=>(e γ M).bind fun r=>(objOf nm r.2 r.1).bind fun p=>(p.2.lookup f).bind fun v=>some (v,r.2)
theorem aDb{nm f:Str}{ta:TE}{e:EF}(c:Cls K (fG K nm))(n:gF K (fG K nm) f)(a:SE K ta e):SE K (aDV K ta f) (kB nm f e):=by
 intro γ M x M' hh W H σ Q G R k;obtain⟨⟨y,M1⟩,h1,hh⟩:=aH hh;obtain⟨⟨i,fs⟩,h2,hh⟩:=aH hh;obtain⟨v,h3,hh⟩:=aH hh;cases hh;refine a _ _ _ _ h1 W H σ _ G R fun u W1 H1 e1 G1 r1=>?_;obtain⟨rfl,hM⟩:=EO h2;obtain⟨dx,us,hH,hp⟩:=G1.objAt hM;obtain⟨w,hw,rw'⟩:=zC hp h3;exact⟨W1.α i,_,dx,us,w,r1.2,hH,c,n,hw,k w W1 H1 e1 G1 rw'⟩
noncomputable def yO(nm f:Str)(eo ev:EF):SF:=fun γ M=>(ev γ M).bind fun v=>(eo γ v.2).bind fun o=>(objOf nm o.2 o.1).bind fun p=>if p.2.length<1000 then some (.nx γ,o.2.set p.1 (.obj nm (xO f v.1 p.2)))else none
theorem aDt{nm f:Str}{ta tv:TE}{eo ev:EF}(c:Cls K (fG K nm))(n:gF K (fG K nm) f)(a:SE K ta eo)(b:SE K tv ev):SS K (aEv K ta tv f) (yO nm f eo ev):=by
 intro γ M o M' hh W H σ D G R k;obtain⟨⟨y,M1⟩,h1,hh⟩:=aH hh;obtain⟨⟨z,M2⟩,h2,hh⟩:=aH hh;obtain⟨⟨i,fs⟩,h3,hh⟩:=aH hh;by_cases hl:fs.length<1000
 .have hh:(if fs.length<1000 then some (Out.nx γ,M2.set i (.obj nm (xO f y fs)))else none)=some (o,M'):=hh;rw[B0 hl]at hh;cases hh;refine b _ _ _ _ h1 W H σ _ G R fun v W1 H1 e1 G1 r1=>?_;refine a _ _ _ _ h2 W1 H1 σ _ G1 (R.up e1) fun u W2 H2 e2 G2 r2=>?_;obtain⟨rfl,hM⟩:=EO h3;obtain⟨dx,us,hH,hp⟩:=G2.objAt hM;refine⟨W2.α i,_,dx,us,r2.2,hH,c,n,by rw[<- Paired.len hp];exact hl,?_⟩;exact k W2 _ (e1.trans e2) (G2.set hM (by intro q;cases q) (c':=.obj nm (xO f y fs)) (o':=.ins (fG K nm) dx (lF f v us)) ⟨rfl,FB (r1.up e2) hp⟩) σ (R.up (e1.trans e2))
 .have hh:(if fs.length<1000 then some (Out.nx γ,M2.set i (.obj nm (xO f y fs)))else none)=some (o,M'):=hh;rw[B2 hl]at hh;cases hh
noncomputable def EG:CD->Bool
 |.d .none=>true
 |_=>false
noncomputable def yW(nm:Str)(h:FN)(fa:AF):EF:=fun γ M=>(fa γ M).bind fun r=>(h (.c r.2.length::r.1) (r.2++[.obj nm []])).bind fun q=>if EG q.1=true then some (.c r.2.length,q.2)else none
theorem RS{x:CD}(h:EG x=true):x=.d .none:=by
 cases x with
 |c n=>cases h
 |t n=>cases h
 |f n=>cases h
 |d x=>cases x<;>first|rfl|cases h
theorem YF{nm:Str}{h:FN}{tA:TA}{fa:AF}(b:SA K tA fa):SE K (ZY (fG K nm) (spM K h) [] E0 tA) (yW nm h fa):=by
 intro γ M x M' hh W H σ Q G R k;obtain⟨⟨ys,M1⟩,h1,hh⟩:=aH hh;obtain⟨⟨z,M2⟩,h2,hh⟩:=aH hh;by_cases hz:EG z=true
 .have hh:(if EG z=true then some (CD.c M1.length,M2)else none)=some (x,M'):=hh;rw[B0 hz]at hh;cases hh;have hz':=RS hz;subst hz';refine b _ _ _ _ h1 W H σ _ G R fun vs W1 H1 e1 G1 r1=>?_;intro p dx hp hdx hne;rw[L4];have Ga:=G1.extra (o:=.own p) hdx;have hp':(upd H1 dx (.own p)) p=none:=by rw[aL (O7 hne)];exact hp
  have Gb:=Ga.new hp' (c:=.obj nm []) (o:=.ins (fG K nm) dx []) ⟨rfl,.nil⟩;have e2:=W1.ext_more p;refine⟨.c M1.length::ys,M1++[.obj nm []],W1.more p,.d .none,M',Gb,.cons G1.newV (bO.up r1 e2),h2,fun v W3 H3 e3 G3 r3=>⟨r3,?_⟩⟩;exact k _ W3 H3 ((e1.trans e2).trans e3) G3 (G1.newV.up e3)
 .have hh:(if EG z=true then some (CD.c M1.length,M2)else none)=some (x,M'):=hh;rw[B2 hz]at hh;cases hh
end
structure BI(P:Program)(w:World)(K:Fg)(mg:Str->Option Value)(base:Heap)(k:Nat)(nm:Str)(ps:List Str)(sp:Sp):Prop where
 ex:∃f fd,pC P w K mg base CX0 k f fd ps sp/\Mk K (fG K nm) f/\Binds K fd ps []/\mg nm=some (.ref (fG K nm))
section
variable{ι:Type}{K:Fg}{X:ι->Cx}{a b c e o:Expr}{es:List Expr}{f g h:EF}{fa:AF}{pos:Pos}
theorem sP{nm fl:Str}(hK:∀i,(X i).K=K)(hc:Cls K (fG K nm))(hn:gF K (fG K nm) fl)(x:ME K X o f)(hb:∀env:Env,attributeBase o fl env (eval o env)=eval o env:=by intro _;rfl):ME K X (.Attribute o fl pos) (kB nm fl f):=by
 obtain⟨t,x1,x2⟩:=x.ex;refine⟨_,fun i=>?_,aDb hc hn x2⟩;have:=aBi (x1 i) (hb _) (pos:=pos);rw[hK i]at this;exact this
theorem FQ{nm fl:Str}{pos':Pos}(hK:∀i,(X i).K=K)(hc:Cls K (fG K nm))(hn:gF K (fG K nm) fl)(x:ME K X o f)(y:ME K X e g)(hs:∀i,swapsWith e (some (.Attribute o fl pos')) pos.line (X i).env=pure false:=by intro _;rfl):MS K X (.Assign [.Attribute o fl pos'] e pos) (yO nm fl f g):=by
 obtain⟨t,x1,x2⟩:=x.ex;obtain⟨u,y1,y2⟩:=y.ex;refine⟨_,fun i=>?_,aDt hc hn x2 y2⟩;have:=aAT (x1 i) (y1 i) (hs i);rw[hK i]at this;exact this
theorem XW{k:Nat}{nm:Str}{ps:List Str}{F:FN}{p:Pos}(C:∀i,BI (X i).prog (X i).w (X i).K (X i).mg (X i).base k nm ps (spM K F))(hK:∀i,(X i).K=K)(hr:∀i,cJ (k+1) (X i).A)(y:MA K X (e::es) fa)(hg:∀i,Gl (X i) nm:=by intro _;rfl)(hd:(nm==("__debug__":Str))=false:=by decide):
 ME K X (.Call (.Name nm p) (e::es) [] pos) (yW nm F fa):=by
 obtain⟨u,y1,y2⟩:=y.ex;refine⟨_,fun i=>?_,YF y2⟩;obtain⟨f,fd,F',M,B,m⟩:=(C i).ex;have:=WV M F' (hr i) (hg i) m B .nil aAt (y1 i) hd (y.st.1 _) (y.st.2.plain _ _) (p:=p) (pos:=pos);rw[hK i]at this;exact this
end
structure XB(K:Fg)(nm m qual:Str)(st:Stmt):Prop where
 ex:∃f fd,Fun K m qual st f fd/\PySem.W.findIn K (.ref (fG K nm)) m=some (some (.ref f))/\PySem.W.isFn K (.ref f)=true
section
variable{P:Program}{w:World}{K:Fg}{mg:Str->Option Value}{base:Heap}
theorem Fun.okQ{x qual:Str}{st:Stmt}{N ps:List Str}{k:Nat}{b:SF}{f:Addr}{fd:FuncData}(F:Fun K x qual st f fd)(S:aR N ps (aE st))
 (hbody:∀(f:Addr)(cdv:Value)(A:Around)(outer:List Env)(s:Shared)(H:Hp)(E:XK),cJ k (A.deeper (envOfC qual (aE st) s.heap.objs.size f cdv))->
  ML K (fun _:Unit=>(qS CX0 P w K mg base N qual (aE st) f cdv A outer s H E).nox) (bN st) b):pC P w K mg base CX0 (k+1) f fd ps (spM K (fnF ps.length N.length b)):=by
 have len:∀vs H Q E,spM K (fnF ps.length N.length b) vs H Q E->vs.length=ps.length:=fun vs H Q E h=>by
  obtain⟨xs,M,W,y,M',G,R,hf,_⟩:=h;by_cases hl:xs.length=ps.length
  .rw[<- Paired.len R];exact hl
  .unfold fnF at hf;rw[B2 hl]at hf;cases hf
 refine F.ok S len fun cdv A outer s H vs Q E hr h=>?_;obtain⟨t,hP,hS⟩:=(hbody f cdv A outer s H E hr).ex;refine⟨t,hP (),?_⟩;obtain⟨xs,M,W,y,M',G,R,hf,k⟩:=h;by_cases hl:xs.length=ps.length
 .unfold fnF at hf;rw[B0 hl]at hf;obtain⟨⟨o,M1⟩,h1,hf⟩:=aH hf
  have hR:cT K W (xs.map some++List.replicate (N.length-xs.length) none) (start N vs):=by
   unfold start;rw[<- Paired.len R];exact Paired.app (bO.some R) (rK _)
  refine hS _ _ _ _ h1 W H _ _ G hR fun W1 H1 e1 G1=>?_;cases o with
  |rt x=>cases hf;exact fun v r=>k v W1 H1 e1 G1 r
  |nx γ=>cases hf;exact fun σ r=>k .non W1 H1 e1 G1 rfl
  |bk γ=>cases hf
  |ct γ=>cases hf
 .unfold fnF at hf;rw[B2 hl]at hf;cases hf
theorem XB.okI{nm qual:Str}{st:Stmt}{N ps:List Str}{k:Nat}{b:SF}(D:XB K nm "__init__" qual st)(hm:PySem.W.makesIn K (fG K nm)=true)(hk:PySem.W.keepIn K (.ref (fG K nm))=true)(hg:mg nm=some (.ref (fG K nm)))(S:aR N ps (aE st))
 (hb:∀(kV doc pm:Value)(an:Option Addr)(cdv ct:Value)(us:List Value),us.length=ps.length->bindArgs (PySem.W.fnOf "__init__" qual (eJ st) (bN st) (aE st) .none kV doc pm an cdv ct) ⟨us,[]⟩=pure (ps.zip us))
 (hbody:∀(f:Addr)(cdv:Value)(A:Around)(outer:List Env)(s:Shared)(H:Hp)(E:XK),cJ k (A.deeper (envOfC qual (aE st) s.heap.objs.size f cdv))->
  ML K (fun _:Unit=>(qS CX0 P w K mg base N qual (aE st) f cdv A outer s H E).nox) (bN st) b):BI P w K mg base (k+1) nm ps (spM K (fnF ps.length N.length b)):=by
 obtain⟨f,fd,F,h1,h2⟩:=D.ex;exact⟨f,fd,F.okQ S hbody,⟨hm,h1,h2,hk⟩,F.binds hb,hg⟩
end
section
variable{K:Fg}
theorem yP{α β:Type}{R:α->β->Prop}:∀{xs:List α}{ys:List β},Paired R xs ys->Paired R xs.reverse ys.reverse
 |_,_,.nil=>.nil
 |_,_,.cons h t=>by
  rw[List.reverse_cons,List.reverse_cons];exact Paired.app (yP t) (.cons h .nil)
noncomputable def iV:FM:=fun x ys M=>match x,ys with
 |.c i,[]=>match M[i]? with
  |some (.lst xs)=>some (.d .none,M.set i (.lst xs.reverse))
  |_=>none
 |_,_=>none
theorem GV:PM K CG iV:=by
 intro x ys M z M' h W H v vs Q G rx rs k;unfold iV at h;split at h
 .rename_i i;split at h
  .rename_i xs hx;cases h;obtain⟨us,hv,hr⟩:=G.lstAt hx;cases rs;refine⟨W.α i,us,rx.2,rfl,hv,?_⟩;exact k _ W _ (.refl _) (G.set hx (by intro q;cases q) (c':=.lst xs.reverse) (show bO K W _ _ from yP hr)) rfl
  .cases h
 .cases h
noncomputable def aDR:List V->Hp->VK->Prop:=fun xs H Q=>∃i j,xs=[.int i,.int j]/\Q (.int (if j > i then j else i)) H
noncomputable def aDY:List V->Hp->VK->Prop:=fun xs H Q=>∃i j,xs=[.int i,.int j]/\Q (.int (if j<i then j else i)) H
noncomputable def CI:FN:=fun xs M=>match xs with
 |[.d (.int i),.d (.int j)]=>some (.d (.int (if j > i then j else i)),M)
 |_=>none
noncomputable def DV:FN:=fun xs M=>match xs with
 |[.d (.int i),.d (.int j)]=>some (.d (.int (if j<i then j else i)),M)
 |_=>none
theorem XT:PN K aDR CI:=by
 intro xs M z M' h W H vs Q G r k;unfold CI at h;split at h
 .rename_i i j;cases h;rcases r with _|⟨r1,_|⟨r2,_|_⟩⟩;exact⟨i,j,by rw[show _=V.int i from r1,show _=V.int j from r2],k _ W H (.refl _) G rfl⟩
 .cases h
theorem YW:PN K aDY DV:=by
 intro xs M z M' h W H vs Q G r k;unfold DV at h;split at h
 .rename_i i j;cases h;rcases r with _|⟨r1,_|⟨r2,_|_⟩⟩;exact⟨i,j,by rw[show _=V.int i from r1,show _=V.int j from r2],k _ W H (.refl _) G rfl⟩
 .cases h
end
section
variable{ι:Type}{K:Fg}{X:ι->Cx}{a b c e o:Expr}{es:List Expr}{f g h:EF}{fa:AF}{pos:Pos}
theorem aAV(hc:∀i,(X i).calm=true):QN K X (.builtin "max") CI:=⟨_,fun i=>KQ (hc i),XT⟩
theorem aDm(hc:∀i,(X i).calm=true):QN K X (.builtin "min") DV:=⟨_,fun i=>MX (hc i),YW⟩
theorem HI(hK:∀i,(X i).K=K)(x:ME K X o f)(hb:∀env:Env,attributeBase o "reverse" env (eval o env)=eval o env:=by intro _;rfl)(hl:(apos.endLine==cpos.line)=true:=by rfl):
 ME K X (.Call (.Attribute o "reverse" apos) [] [] cpos) (bQ "list" iV f aG):=by
 obtain⟨t,x1,x2⟩:=x.ex;refine⟨_,fun i=>?_,CT GV x2⟩;have:=RO PySem.F.plainAttrs_list PySem.F.slot_list_reverse PySem.F.type_list_reverse GU (x1 i) (apos:=apos) (cpos:=cpos) (hb _) hl;rw[hK i]at this;exact this
end
open PySem PySem.W PyProof.Rows
noncomputable def KS{α:Type}(lt:Nat->Nat->Bool)(n:Nat):KasT α->(α->Prop)->Prop
 |.ret a,Q=>Q a
 |.ask i j k,Q=>i<n/\j<n/\KS lt n (k (lt i j)) Q
theorem KS.mono{α:Type}{lt:Nat->Nat->Bool}{n:Nat}{Q R:α->Prop}(m:∀a,Q a->R a):∀{t:KasT α},KS lt n t Q->KS lt n t R
 |.ret _=>fun h=>m _ h
 |.ask _ _ _=>fun h=>⟨h.1,h.2.1,KS.mono m h.2.2⟩
theorem KS.wp{α:Type}{lt:Nat->Nat->Bool}{n:Nat}{Q:α->Prop}{R:α->Shared->Prop}{s:Shared}{cmp:Nat->Nat->(Bool->Shared->Prop)->Shared->Prop}
 (hc:∀i j C,i<n->j<n->C (lt i j) s->cmp i j C s) (m:∀a,Q a->R a s):∀{t:KasT α},KS lt n t Q->KasT.kasWp cmp t R s
 |.ret _=>fun h=>m _ h
 |.ask _ _ _=>fun h=>hc _ _ _ h.1 h.2.1 (KS.wp hc m h.2.2)
section
variable{lt:Nat->Nat->Bool}{n:Nat}
noncomputable def Inv2(n:Nat)(p:Array Nat):Prop:=p.Perm (List.range n).toArray
theorem Inv2.ent{p:Array Nat}(h:Inv2 n p)(h0:0<n)(k:Nat):p.getD k 0<n:=by
 rw[C2];cases e:p[k]? with
 |none=>exact h0
 |some x=>
  have hm:x∈p:=Array.mem_of_getElem? e;have:=(h.mem_iff (a:=x)).mp hm;simpa using this
theorem nX{p:Array Nat}(hp:Inv2 n p)(i j:Nat):Inv2 n (kas_rev p i j):=(mirror_perm p i j _).trans hp
end
end L2
namespace L2
open PySem PySem.Spec PyProof.Rows
noncomputable def mM:List PyData->Option (List Int)
 |[]=>some []
 |.int n::r=>(mM r).bind fun ns=>some (n::ns)
 |_=>none
theorem tH{h:Heap}:∀{ds:List PyData}{us:List Value}{as:List Addr}{ns:List Int},ReadsAll h us ds as->mM ds=some ns->IntsAre us ns
 |[],_,_,_=>fun r e=>by cases r;cases e;exact .nil
 |d::ds,_,_,_=>fun r e=>by
  cases r with
  |cons r1 r2=>
   cases d with
   |int n=>
    have e:(mM ds).bind (fun ns=>some (n::ns))=some _:=e;obtain⟨ms,h1,h2⟩:=Option.bind_eq_some_iff.mp e;cases h2;cases r1;exact .cons _ _ (tH r2 h1)
   |_=>cases e
noncomputable def BJ:PyData->PyData->Option Bool
 |.int a,.int b=>some (decide (a<b))
 |.tuple xs,.tuple ys=>(mM xs).bind fun ns=>(mM ys).bind fun ms=>some (HT.lexLt ns ms)
 |_,_=>none
noncomputable def jM:List PyData->List PyData->Option Bool
 |[],ys=>some (decide (0<ys.length))
 |_::_,[]=>some false
 |x::xs,y::ys=>if PyData.eqv x y=true then jM xs ys else BJ x y
noncomputable def isI:PyData->Bool
 |.int _=>true
 |_=>false
section
variable{prog:Program}{w:World}{A:Around}{E:Value->Shared->Prop}{s:Shared}
theorem WQ{p q:Value}{x y:PyData}{as bs:List Addr}{c fl:Bool}{Q:Bool->Shared->Prop}(hu:A.units<cLine)(r1:Reads s.heap p x as)(r2:Reads s.heap q y bs)(h:BJ x y=some c)(hf:fl=true->isI x=true/\isI y=true)(k:Q c s):
 wpAny (model prog w) A (oneLt' fl p q) Q E s:=by
 unfold BJ at h;split at h
 .rename_i a b;cases r1;cases r2;cases h;cases fl with
  |true=>exact oneLt_int k
  |false=>exact PySem.W.kat_one _ _ (lt_int k)
 .rename_i xs ys;obtain⟨ns,h1,h⟩:=Option.bind_eq_some_iff.mp h;obtain⟨ms,h2,h⟩:=Option.bind_eq_some_iff.mp h;cases h;cases fl with
  |true=>exact absurd (hf rfl).1 (by intro z;cases z)
  |false=>
   cases r1 with
   |tuple g1 g2 g3 g4=>
    cases r2 with
    |tuple k1 k2 k3 k4=>
     exact PySem.W.kat_one _ _ (HT.lt_tupInts ⟨_,g1,g2,_,g3⟩ ⟨_,k1,k2,_,k3⟩ (tH g4 h1) (tH k4 h2) hu k)
 .cases h
theorem JH{b fin c:Bool}{Q:Bool->Shared->Prop}(hu:A.units+64<cLine)(k:Q c s):∀(xs ys:List PyData)(us ws:List Value)(as bs:List Addr)(i:Nat),ReadsAll s.heap us xs as->ReadsAll s.heap ws ys bs->xs.all SeqAt.shaped=true->ys.all SeqAt.shaped=true->
 jM xs ys=some c->fin=decide (us.length<ws.length)->((b&&i==0)=true->xs.head?.all isI=true/\ys.head?.all isI=true)->PySem.W.KatLex prog w A b fin Q (us.zip ws) i s
 |[],ys=>fun us ws as bs i r1 r2 s1 s2 h hf hb=>by
  cases r1
  have hl:ws.length=ys.length:=by
   clear k h hf hb s2
   induction r2 using ReadsAll.rec (motive_1:=fun _ _ _ _=>True)with
   |nil=>rfl
   |cons _ _ _ ih=>simp[ih]
   |_=>trivial
  rw[List.zip_nil_left];refine PySem.W.kat_nil ?_;have h:some (decide (0<ys.length))=some c:=h;cases h;rw[hf,hl];exact k
 |x::xs,[]=>fun us ws as bs i r1 r2 s1 s2 h hf hb=>by
  cases r2;rw[List.zip_nil_right];refine PySem.W.kat_nil ?_;cases h;rw[hf];simpa using k
 |x::xs,y::ys=>fun us ws as bs i r1 r2 s1 s2 h hf hb=>by
  cases r1 with
  |cons a1 a2=>
   cases r2 with
   |cons b1 b2=>
    rw[Z5,B5]at s1 s2;rw[List.zip_cons_cons];refine PySem.W.kat_cons ?_;refine SeqAt.eqAt_reads x y A s _ _ _ _ a1 b1 (U4 s1.1) (U4 s2.1) (SeqAt.room_of_shaped s1.1 hu) _ _ _ _ ?_;have h:(if PyData.eqv x y=true then jM xs ys else BJ x y)=some c:=h;cases e:PyData.eqv x y with
    |true=>
     rw[e,B0 rfl]at h;refine PySem.W.kat_yes (JH hu k xs ys _ _ _ _ (i+1) a2 b2 s1.2 s2.2 h ?_ (fun z=>?_))
     .rw[hf];simp
     .simp at z
    |false=>
     rw[e,B2 B4]at h;refine PySem.W.kat_no (WQ (by omega) a1 b1 h (fun z=>?_) k);have:=hb z;simpa using this
end
open PySem PySem.W PyProof.Rows
noncomputable def UH{α:Type}(lt:Nat->Nat->Bool):KasT α->α
 |.ret a=>a
 |.ask i j k=>UH lt (k (lt i j))
noncomputable def KA{α:Type}(n:Nat):KasT α->(α->Prop)->Prop
 |.ret a,Q=>Q a
 |.ask i j k,Q=>i<n/\j<n/\∀b,KA n (k b) Q
section
variable{n:Nat}
theorem KA.bind{α β:Type}{f:α->KasT β}{Q:β->Prop}:∀{t:KasT α},KA n t (fun a=>KA n (f a) Q)->KA n (t.bind f) Q
 |.ret _=>fun h=>h
 |.ask _ _ _=>fun h=>⟨h.1,h.2.1,fun b=>KA.bind (h.2.2 b)⟩
theorem KA.ks{α:Type}{lt:Nat->Nat->Bool}{Q:α->Prop}:∀{t:KasT α},KA n t Q->KS lt n t (fun a=>a=UH lt t/\Q a)
 |.ret _=>fun h=>⟨rfl,h⟩
 |.ask i j _=>fun h=>⟨h.1,h.2.1,KA.ks (h.2.2 (lt i j))⟩
theorem KS.run{α:Type}{lt:Nat->Nat->Bool}{Q:α->Prop}:∀{t:KasT α},KS lt n t Q->Q (UH lt t)
 |.ret _=>fun h=>h
 |.ask i j k=>fun h=>KS.run (t:=k (lt i j)) h.2.2
theorem HF{p:Array Nat}(hp:Inv2 n p)(h0:0<n){Q:Nat->Prop}(q:∀r,Q r):∀(f m:Nat),KA n (kas_asc p f m) Q
 |0=>fun m=>by rw[kas_asc.eq_def];exact q m
 |f+1=>fun m=>by
  rw[kas_asc.eq_def];refine⟨hp.ent h0 _,hp.ent h0 _,fun b=>?_⟩;cases b with
  |true=>exact q m
  |false=>exact HF hp h0 q f (m+1)
theorem uN(h0:0<n){Q:Array Nat×Nat×Nat->Prop}(k:∀p m q,Inv2 n p->Q (p,m,q)):∀(f:Nat)(p:Array Nat)(m q:Nat),Inv2 n p->KA n (kas_desc f p m q) Q
 |0=>fun p m q hp=>by rw[kas_desc.eq_def];exact k p m q hp
 |f+1=>fun p m q hp=>by
  rw[kas_desc.eq_def];refine⟨hp.ent h0 _,hp.ent h0 _,fun b=>?_⟩;cases b with
  |true=>
   dsimp only;rw[B0 rfl];by_cases hq:q > 0
   .rw[B0 hq];exact uN h0 k f _ _ _ (nX hp _ _)
   .rw[B2 hq];exact uN h0 k f _ _ _ hp
  |false=>
   dsimp only;rw[B2 B4];refine⟨hp.ent h0 _,hp.ent h0 _,fun b=>?_⟩;cases b with
   |true=>exact k p m q hp
   |false=>exact uN h0 k f _ _ _ hp
theorem DO(h0:0<n){p:Array Nat}{m:Nat}(hp:Inv2 n p):KA n (kas_tail3 m n p) (fun r=>Inv2 n r.2):=by
 rw[kas_tail3.eq_def];exact KA.bind (HF (nX hp 0 m) h0 (fun r=>nX hp 0 m) _ _)
theorem tL(h0:0<n){p:Array Nat}{m:Nat}(hp:Inv2 n p):KA n (kas_descPart m n p) (fun r=>Inv2 n r.2):=by
 rw[kas_descPart.eq_def];refine KA.bind (uN h0 (fun p' m' q' a=>?_) _ _ _ _ hp);show KA n (if q' > 0 then kas_tail3 m' n (kas_rev p' (m'-(q'+1)) m')else kas_tail3 m' n p') _;by_cases hq:q' > 0
 .rw[B0 hq];exact DO h0 (nX a _ _)
 .rw[B2 hq];exact DO h0 a
theorem OV(h0:0<n){p:Array Nat}(hp:Inv2 n p):KA n (kas_count n p) (fun r=>Inv2 n r.2):=by
 rw[kas_count.eq_def];refine KA.bind (HF hp h0 (fun r=>?_) _ _);by_cases e:(r==n)=true
 .rw[B0 e];exact hp
 .rw[B2 e];by_cases g:r > 1
  .rw[B0 g];refine⟨hp.ent h0 _,hp.ent h0 _,fun b=>?_⟩;cases b with
   |true=>exact hp
   |false=>exact tL h0 (nX hp _ _)
  .rw[B2 g];exact tL h0 hp
theorem vQ(h0:0<n){p:Array Nat}(hp:Inv2 n p){k:Nat}{Q:Nat->Prop}(q:∀l,Q l):∀(f l r:Nat),KA n (kas_place p k f l r) Q
 |0=>fun l r=>by rw[kas_place.eq_def];exact q l
 |f+1=>fun l r=>by
  rw[kas_place.eq_def];show KA n (if l>=r then _ else _) Q;by_cases g:l>=r
  .rw[B0 g];exact q l
  .rw[B2 g];refine⟨hp.ent h0 _,hp.ent h0 _,fun b=>?_⟩;cases b with
   |true=>exact vQ h0 hp q f _ _
   |false=>exact vQ h0 hp q f _ _
theorem QB(h0:0<n):∀(f:Nat)(p:Array Nat)(k:Nat),Inv2 n p->KA n (kas_bin f p k) (Inv2 n)
 |0=>fun p k hp=>by rw[kas_bin.eq_def];exact hp
 |f+1=>fun p k hp=>by
  rw[kas_bin.eq_def];exact KA.bind (vQ h0 hp (fun l=>QB h0 f _ (k+1) ((bubble_perm p k (k-l)).trans hp)) k 0 k)
theorem KC(h0:0<n):KA n (kas_sort n) (Inv2 n):=by
 unfold kas_sort;have:=OV h0 (p:=(List.range n).toArray) (Array.Perm.refl _);refine KA.bind ?_
 have mono:∀{α:Type}{Q R:α->Prop}(m:∀a,Q a->R a)(t:KasT α),KA n t Q->KA n t R:=by
  intro α Q R m t
  induction t with
  |ret a=>exact m a
  |ask i j k ih=>exact fun h=>⟨h.1,h.2.1,fun b=>ih b (h.2.2 b)⟩
 refine mono (fun r a=>?_) _ this;by_cases e:r.fst<n
 .rw[B0 e];exact QB h0 _ _ _ a
 .rw[B2 e];exact a
noncomputable def fD(lt:Nat->Nat->Bool)(n:Nat):List Nat:=(UH lt (kas_sort n)).toList
theorem jR(lt:Nat->Nat->Bool)(h0:0<n):(fD lt n).Perm (List.range n):=by
 have:=KS.run (KA.ks (lt:=lt) (KC h0));simpa[fD]using Array.perm_iff_toList_perm.mp this.2
end
end L2
namespace L2
open PySem PySem.Spec PyProof.Rows
mutual
noncomputable def tW:PyData->Bool
 |.int _=>true
 |.tuple xs=>iW xs
 |_=>false
noncomputable def iW:List PyData->Bool
 |[]=>true
 |x::r=>tW x&&iW r
end
mutual
theorem rk{h h':Heap}(k:∀b o vs n,h.get? b=some o->o.data=.seq vs n->h'.get? b=some o):∀(d:PyData)(v:Value)(as:List Addr),tW d=true->Reads h v d as->Reads h' v d as
 |.int n=>fun _ _ _ r=>by cases r;exact .int _ _
 |.tuple xs=>fun _ _ e r=>by
  cases r with
  |tuple a b c d=>exact .tuple (k _ _ _ _ a c) b c (NJ k xs _ _ (by unfold tW at e;exact e) d)
 |.none=>fun _ _ e _=>by unfold tW at e;cases e
 |.bool _=>fun _ _ e _=>by unfold tW at e;cases e
 |.str _=>fun _ _ e _=>by unfold tW at e;cases e
 |.list _=>fun _ _ e _=>by unfold tW at e;cases e
 |.dict _=>fun _ _ e _=>by unfold tW at e;cases e
theorem NJ{h h':Heap}(k:∀b o vs n,h.get? b=some o->o.data=.seq vs n->h'.get? b=some o):∀(ds:List PyData)(vs:List Value)(as:List Addr),iW ds=true->ReadsAll h vs ds as->ReadsAll h' vs ds as
 |[]=>fun _ _ _ r=>by cases r;exact .nil
 |d::ds=>fun _ _ e r=>by
  cases r with
  |cons a b=>
   unfold iW at e;rw[B5]at e;exact .cons (rk k d _ _ e.1 a) (NJ k ds _ _ e.2 b)
end
theorem ReadsAll.at{h:Heap}:∀{ds:List PyData}{vs:List Value}{as:List Addr}(i:Nat),ReadsAll h vs ds as->i<ds.length->∃bs,Reads h (vs.getD i .none) (ds.getD i .none) bs
 |[],_,_,i=>fun _ hi=>absurd hi (Nat.not_lt_zero _)
 |d::ds,_,_,0=>fun r _=>by cases r with|cons a b=>exact⟨_,a⟩
 |d::ds,_,_,i+1=>fun r hi=>by
  cases r with
  |cons a b=>
   obtain⟨bs,x⟩:=ReadsAll.at i b (Nat.lt_of_succ_lt_succ hi);exact⟨bs,x⟩
theorem ReadsAll.len{h:Heap}:∀{ds:List PyData}{vs:List Value}{as:List Addr},ReadsAll h vs ds as->vs.length=ds.length
 |[],_,_=>fun r=>by cases r;rfl
 |d::ds,_,_=>fun r=>by
  cases r with
  |cons a b=>simp[ReadsAll.len b]
section
variable{prog:Program}{w:World}{A:Around}{E:Value->Shared->Prop}{s:Shared}
theorem aCh{b c:Bool}{p q:Value}{xs ys:List PyData}{as bs:List Addr}{Q:Bool->Shared->Prop}(hu:A.units+64<cLine)(r1:Reads s.heap p (.tuple xs) as)(r2:Reads s.heap q (.tuple ys) bs)
 (s1:xs.all SeqAt.shaped=true) (s2:ys.all SeqAt.shaped=true) (h:jM xs ys=some c) (hb:b=true->xs.head?.all isI=true/\ys.head?.all isI=true) (k:Q c s):wpAny (model prog w) A (keyLt' (tuples' b) p q) Q E s:=by
 cases r1 with
 |tuple a1 a2 a3 a4=>
  cases r2 with
  |tuple b1 b2 b3 b4=>
   refine PySem.W.kat_lt a1 a3 b1 b3 (JH hu k xs ys _ _ _ _ 0 a4 b4 s1 s2 h (by simp) (fun z=>hb ?_));simpa using z
noncomputable def jU(rows:List (List PyData)):Bool:=rows.all fun r=>match r with
 |.int _::_=>true
 |_=>false
noncomputable def mJ(rows:List (List PyData)):Bool:=rows.all fun r=>match r with
 |.tuple _::_=>true
 |_=>false
theorem aBa{M:Model}{h:Heap}(n:Int)(t:Tok):PySem.W.Looks M h (typeOf (.int n t)) (.type "int"):=fun A Q E s _ q=>by
 show wpAny M A (pure _) Q E s;exact A4 q
theorem firstsI{h:Heap}:∀{rows:List (List PyData)}{vs:List Value}{as:List Addr},ReadsAll h vs (rows.map .tuple) as->jU rows=true->∃fs,PySem.W.KatTups h vs fs/\fs.length=rows.length/\∀v∈fs,∃n t,v=.int n t
 |[],_,_=>fun r _=>by cases r;exact⟨[],.nil,rfl,fun v hv=>nomatch hv⟩
 |x::rows,_,_=>fun r e=>by
  unfold jU at e;rw[Z5,B5]at e;cases r with
  |cons a b=>
   obtain⟨fs,h1,h2,h3⟩:=firstsI b (by unfold jU;exact e.2);cases x with
   |nil=>exact absurd e.1 (by decide)
   |cons d ds=>
    cases d with
    |int n=>
     cases a with
     |tuple g1 g2 g3 g4=>
      rename_i o vs n' ;generalize hv:vs.toList=l at g4;cases g4 with
      |cons q1 q2=>
       cases q1 with
       |int _ t=>
        refine⟨.int n t::fs,.cons g1 g2 g3 (f:=.int n t) ?_ h1,by simp[h2],?_⟩
        .rw[<- E1,hv];rfl
        .intro v hv';rcases List.mem_cons.mp hv' with z|z
         .exact⟨_,_,z⟩
         .exact h3 v z
    |_=>exact absurd e.1 (by intro z;cases z)
end
section
variable{prog:Program}{w:World}{A:Around}{E:Value->Shared->Prop}{s:Shared}
theorem aBE{M:Model}{h:Heap}{a:Addr}{o:Obj}(g:h.get? a=some o)(c:o.cls=.type "tuple"):PySem.W.Looks M h (typeOf (.ref a)) (.type "tuple"):=fun A Q E s k q=>Z7 (show s.TypeIs (.ref a) "tuple" from⟨o,k _ _ g,c⟩) q
theorem JN{h:Heap}:∀{rows:List (List PyData)}{vs:List Value}{as:List Addr},ReadsAll h vs (rows.map .tuple) as->mJ rows=true->∃fs,PySem.W.KatTups h vs fs/\fs.length=rows.length/\∀v∈fs,∃a o,v=.ref a/\h.get? a=some o/\o.cls=.type "tuple"
 |[],_,_=>fun r _=>by cases r;exact⟨[],.nil,rfl,fun v hv=>nomatch hv⟩
 |x::rows,_,_=>fun r e=>by
  unfold mJ at e;rw[Z5,B5]at e;cases r with
  |cons a b=>
   obtain⟨fs,h1,h2,h3⟩:=JN b (by unfold mJ;exact e.2);cases x with
   |nil=>exact absurd e.1 (by decide)
   |cons d ds=>
    cases d with
    |tuple ys=>
     cases a with
     |tuple g1 g2 g3 g4=>
      rename_i o vs n';generalize hv:vs.toList=l at g4;cases g4 with
      |cons q1 q2=>
       cases q1 with
       |@tuple a' _ _ _ _ _ k1 k2 k3 k4=>
        refine⟨.ref a'::fs,.cons g1 g2 g3 (f:=.ref a') ?_ h1,by simp[h2],?_⟩
        .rw[<- E1,hv];rfl
        .intro v hv';rcases List.mem_cons.mp hv' with z|z
         .exact⟨_,_,z,k1,k2⟩
         .exact h3 v z
    |_=>exact absurd e.1 (by intro z;cases z)
theorem LJ{M:Model}{rows:List (List PyData)}{vs:List Value}{as:List Addr}{Q:SortKind->Shared->Prop}(r:ReadsAll s.heap vs (rows.map .tuple) as)(h0:0<rows.length)(hk:jU rows=true\/mJ rows=true)(q:Q (tuples' (jU rows)) s):wpAny M A (keyKind' vs.toArray) Q E s:=by
 rcases hk with hk|hk
 .obtain⟨fs,h1,h2,h3⟩:=firstsI r hk;rw[hk]at q;refine PySem.W.kat_kind (T:=.type "int") h1 (by omega) (fun v hv=>?_) (by decide) q;obtain⟨n,t,rfl⟩:=h3 v hv;exact aBa n t
 .obtain⟨fs,h1,h2,h3⟩:=JN r hk
  have e:jU rows=false:=by
   cases rows with
   |nil=>cases h0
   |cons x r=>
    unfold mJ at hk;rw[Z5,B5]at hk;cases x with
    |nil=>rfl
    |cons d ds=>cases d<;>first|rfl|exact absurd hk.1 (by intro z;cases z)
  rw[e]at q;refine PySem.W.kat_kind (T:=.type "tuple") h1 (by omega) (fun v hv=>?_) (by decide) q;obtain⟨a,o,rfl,g,c⟩:=h3 v hv;exact aBE g c
end
section
variable{X:Cx}{pins:List (Addr×Obj)}{σ:St}{H:Hp}{s:Shared}{h':Heap}
theorem bT.there{P:Program}{w:World}{H:Hp}{h:Heap}{a:Addr}{o:HO}(x:bT P w H h a o):∃u,h.get? a=some u:=by
 induction o with
 |lst xs=>obtain⟨_,_,_,_,e⟩:=x;exact⟨_,e⟩
 |tup xs=>obtain⟨_,_,_,_,e,_⟩:=x;exact⟨_,e⟩
 |dK kvs=>obtain⟨_,_,_,_,o,_,_,e,_⟩:=x;exact⟨_,e⟩
 |dT kvs=>obtain⟨_,_,_,_,o,_,_,e,_⟩:=x;exact⟨_,e⟩
 |set S n=>obtain⟨o,_,_,_,e,_⟩:=x;exact⟨_,e⟩
 |ins C dx fs=>obtain⟨_,_,_,e,_⟩:=x;exact⟨_,e⟩
 |own y=>exact x
 |xd fs=>obtain⟨_,⟨_,_,_,e,_⟩,_⟩:=x;exact⟨_,e⟩
 |rng lo hi=>obtain⟨_,_,_,e⟩:=x;exact⟨_,e⟩
 |frz o u=>exact⟨_,x.1⟩
 |tbl ps=>exact⟨_,x⟩
 |met f x'=>exact⟨_,x⟩
 |ext φ=>exact x.2.1
theorem HOk.none{P:Program}{w:World}{H:Hp}{h:Heap}{a:Addr}(x:HOk P w H h)(e:h.get? a=none):H a=none:=by
 cases q:H a with
 |none=>rfl
 |some o=>
  obtain⟨u,z⟩:=(x a o q).there;rw[e]at z;cases z
theorem Inv.laidL{a:Addr}{o:HO}(I:Inv X pins σ H s)(k:∀b u,b≠X.env.locals->s.heap.get? b=some u->h'.get? b=some u)(ns:∀m,s.heap.Ns X.env.locals m->h'.Ns X.env.locals m)(hp:s.heap.get? a=none)(new:bT X.prog X.w (upd H a o) h' a o):
 Inv X pins σ (upd H a o) { s with heap:=h' }:=by
 have hn:=I.hok.none hp;have nt:∀b u,H b=some u->b≠X.env.locals:=fun b u e z=>by rw[z,I.free]at e;cases e
 refine I.step (g':=s.gens) (t':=s.toks) (d':=s.drawn) (ch:=[]) (fun _ z=>nomatch z) (fun b o h1 _ _ e _=>k b o h1 e) (fun b o h1 _ _ e _=>⟨o.slots,k b o h1 e⟩) (fun b o _ e n=>?_) (fun b o _ e=>?_) (fun b xs e=>?_) (fun b o u e=>?_) (fun b ps e=>⟨#[],?_⟩) ns ?_ I.bare
 .rw[aL (fun z=>by subst z;rw[hp]at e;cases e)];exact n
 .by_cases z:b=X.env.locals
  .subst z;obtain⟨m,hm,_⟩:=I.loc;obtain⟨o',_,_,q,_⟩:=ns m hm;exact⟨o',q⟩
  .exact⟨o,k b o z e⟩
 .rw[aL (aO e hn)];exact e
 .rw[aL (aO e hn)];exact e
 .rw[aL (aO e hn)];simpa using e
 .intro b u e;by_cases hb:b=a
  .subst hb;rw[aP]at e;cases e;exact new
  .rw[aL hb]at e;refine(I.hok b u e).stay (fun c v hc q=>k c v ?_ q) (fun c q=>by rw[aL (aO q hn)];exact q) fun c xs q=>by rw[aL (aO q hn)];exact q
   rcases hc with z|z
   .rw[z];exact nt b _ e
   .exact nt c _ z
theorem IJ{h:Heap}{L:Addr}{m m':Str->Option Value}(a:h.Ns L m)(b:h.Ns L m'):m=m':=by
 obtain⟨o,es,ep,h1,h2,_,h3⟩:=a;obtain⟨o',es',ep',k1,k2,_,k3⟩:=b;rw[h1]at k1;cases k1;rw[h2]at k2;cases k2;funext x;rw[<- h3 x,k3 x]
noncomputable def lX(rows:List (List PyData))(i j:Nat):Bool:=(jM (rows.getD i []) (rows.getD j [])).getD false
theorem yY{vs:List V}{us:List Value}(r:aU vs us):∀ps:List Nat,aU (ps.map fun i=>vs.getD i .non) (ps.map fun i=>us.getD i .none)
 |[]=>.nil
 |p::ps=>by
  refine .cons ?_ (yY r ps)
  have go:∀{vs:List V}{us:List Value}(i:Nat),aU vs us->RelV (vs.getD i .non) (us.getD i .none):=by
   intro vs us i r
   induction r generalizing i with
   |nil=>exact rfl
   |cons a b ih=>cases i with
    |zero=>exact a
    |succ i=>exact ih i
  exact go p r
end
noncomputable def sortable(rows:List (List PyData)):Bool:=decide (2<=rows.length)&&decide (rows.length<64)&&rows.all (fun r=>r.all SeqAt.shaped&&iW r)&&(jU rows || mJ rows)&&(List.range rows.length).all fun i=>(List.range rows.length).all fun j=>(jM (rows.getD i []) (rows.getD j [])).isSome
noncomputable def BY(rows:List (List PyData)):List PyData:=(fD (lX rows) rows.length).map fun i=>.tuple (rows.getD i [])
theorem tT{rows:List (List PyData)}(h:sortable rows=true):2<=rows.length/\rows.length<64/\(∀r∈rows,r.all SeqAt.shaped=true/\iW r=true)/\(jU rows=true\/mJ rows=true)/\(∀i j,i<rows.length->j<rows.length->(jM (rows.getD i []) (rows.getD j [])).isSome=true):=by
 unfold sortable at h;rw[B5,B5,B5,B5,Bool.or_eq_true]at h;obtain⟨⟨⟨⟨h1,h2⟩,h3⟩,h4⟩,h5⟩:=h;refine⟨C3 h1,C3 h2,fun r hr=>?_,h4,fun i j hi hj=>?_⟩
 .have:=List.all_eq_true.mp h3 r hr
  rwa [B5]at this
 .exact List.all_eq_true.mp (List.all_eq_true.mp h5 i (List.mem_range.mpr hi)) j (List.mem_range.mpr hj)
section
variable{K:Fg}
theorem aJ.len{H:Hp}:∀{ds:List PyData}{vs:List V},aJ K H ds vs->vs.length=ds.length
 |[],_=>fun h=>by
  have h:_=[]:=h;rw[h];rfl
 |d::ds,_=>fun h=>by
  obtain⟨v,r,rfl,_,h2⟩:=(show ∃v r,_=v::r/\Rep K H d v/\aJ K H ds r from h);simp[aJ.len h2]
theorem wL{H:Hp}{rows:List (List PyData)}{us:List V}(r:aJ K H (rows.map .tuple) us):∀ps:List Nat,(∀i∈ps,i<rows.length)->aJ K H (ps.map fun i=>.tuple (rows.getD i [])) (ps.map fun i=>us.getD i .non)
 |[]=>fun _=>rfl
 |p::ps=>fun hp=>by
  refine⟨_,_,rfl,?_,wL r ps fun i hi=>hp i (A8 _ hi)⟩;have hi:=hp p A9;have hl:=aJ.len r;rw[A3]at hl
  have hu:us[p]?=some (us.getD p .non):=by
   rw[D0,B6 (by omega)];rfl
  obtain⟨d,h1,h2⟩:=aJ.get r hu;rw[C0,B6 hi]at h1;cases h1;have e:rows.getD p []=rows[p]:=by rw[D0,B6 hi];rfl
  show Rep K H (.tuple (rows.getD p [])) (us.getD p .non);rw[e];exact h2
theorem aAr{lt:Nat->Nat->Bool}{n:Nat}(h0:0<n):∀i∈fD lt n,i<n:=fun i hi=>List.mem_range.mp ((jR lt h0).mem_iff.mp hi)
end
theorem cJ.units2{k:Nat}{A:Around}(r:cJ k A):A.in1.in1.units+64<cLine:=by have:=r.un;show A.units+1+1+64<_;omega
section
variable{prog:Program}{w:World}{A:Around}{E:Value->Shared->Prop}{s:Shared}
theorem uM{a:Addr}{vs:List Value}{n:Nat}{P:PySem.Fin->Shared->Prop}(g:s.heap.get? a=some (seqObj "list" vs.toArray n))(h2:vs.length<2)
 (k:P (.done (.ret .none)) { s with heap:=sortedHeap s.heap a vs vs.toArray }):wpAny (model prog w) A (Builtin.«list.sort» ⟨[.ref a],[]⟩) P E s:=by
 rw[list_sort_plain];have hz:vs.toArray.size<=sizeLine:=by rw[C1,F8];omega
 refine A1 (listItems_at g rfl ?_);refine A1 (listUpdate_at g rfl ?_ hz (by simp));have g1:=get?_update_seq g (fun _=>#[]);have hlt:=A6 g1;refine A1 (seqEpoch_at g1 rfl ?_);refine A1 (wpAny_newTuple ?_ (by simpa using hz));refine A1 (wpAny_newList ?_);refine F7 ?_;have hs:vs.toArray.size<2:=by simpa using h2
 dsimp only;rw[B0 hs,B0 hs];refine A1 (A4 ?_);refine A1 ?_;show wpAny (model prog w) A (pure ((),SortSt.mk' general' (vs.toArray.zip vs.toArray) #[] 7 none)) _ E _;refine A4 ?_;dsimp only;have g2:=A2 { cls:=.type "tuple",data:=.seq vs.toArray.toList.toArray } g1;have g3:=A2 { cls:=.type "list",data:=.seq ([]:List Value).toArray } g2;refine A1 (seqEpoch_at g3 rfl ?_)
 have hm:Array.map (fun x=>x.snd) (arrOf (SortSt.mk' general' (vs.toArray.zip vs.toArray) #[] 7 none))=vs.toArray:=by
  show Array.map (fun x=>x.snd) (vs.toArray.zip vs.toArray)=vs.toArray
  apply Array.ext
  .simp
  .intro i h1 h2;simp
 rw[hm];refine A1 (listUpdate_at g3 rfl ?_ (by simp) (by omega));rw[B2 (by simp)];exact A4 k
end
section
variable{X:Cx}{pins:List (Addr×Obj)}{σ:St}{H:Hp}{s:Shared}
end
structure Exc where
 nm:Str
 fs:List (Str×CD)
inductive Rs where
 |v (x:CD)|x (e:Exc)
inductive aEs where
 |o (o:Out)|xc (γ:Ga) (e:Exc)
noncomputable abbrev EX:=Ga->Sto->Option (Rs×Sto)
noncomputable abbrev AX:=Ga->Sto->Option ((List CD ⊕ Exc)×Sto)
noncomputable abbrev SFX:=Ga->Sto->Option (aEs×Sto)
noncomputable abbrev FX:=List CD->Sto->Option (Rs×Sto)
section
variable(K:Fg)
noncomputable def ExR(W:Wd)(ex:Exc)(c:Value)(dx:Option Addr):Prop:=c=.ref (fG K ex.nm)/\SX K W dx ex.fs
noncomputable def OutOkX(EE:St->XK)(D:Ends)(W:Wd)(H:Hp):aEs->Prop
 |.o o=>aAj K D W H o
 |.xc γ ex=>∀σ c dx,cT K W γ σ->ExR K W ex c dx->EE σ c dx H
end
noncomputable def liE(f:EF):EX:=fun γ M=>(f γ M).bind fun r=>some (.v r.1,r.2)
noncomputable def liA(f:AF):AX:=fun γ M=>(f γ M).bind fun r=>some (.inl r.1,r.2)
noncomputable def liS(f:SF):SFX:=fun γ M=>(f γ M).bind fun r=>some (.o r.1,r.2)
noncomputable def xCons(f:EX)(g:AX):AX:=fun γ M=>(f γ M).bind fun r=>match r.1 with
 |.x e=>some (.inr e,r.2)
 |.v x=>(g γ r.2).bind fun q=>match q.1 with
  |.inr e=>some (.inr e,q.2)
  |.inl xs=>some (.inl (x::xs),q.2)
noncomputable def aEY(f:EX)(k:CD->Sto->Option (Rs×Sto)):EX:=fun γ M=>(f γ M).bind fun r=>match r.1 with
 |.x e=>some (.x e,r.2)
 |.v x=>k x r.2
noncomputable def aAH(f:AX)(k:List CD->Sto->Option (Rs×Sto)):EX:=fun γ M=>(f γ M).bind fun r=>match r.1 with
 |.inr e=>some (.x e,r.2)
 |.inl xs=>k xs r.2
noncomputable def aEc(h:FX)(f:AX):EX:=aAH f h
noncomputable def aEL(f g:SFX):SFX:=fun γ M=>(f γ M).bind fun r=>match r.1 with
 |.o (.nx γ')=>g γ' r.2
 |o=>some (o,r.2)
noncomputable def aES(f:EX):SFX:=fun γ M=>(f γ M).bind fun r=>match r.1 with
 |.x e=>some (.xc γ e,r.2)
 |.v x=>some (.o (.rt x),r.2)
noncomputable def aCd(f:EX):SFX:=fun γ M=>(f γ M).bind fun r=>match r.1 with
 |.x e=>some (.xc γ e,r.2)
 |.v _=>some (.o (.nx γ),r.2)
noncomputable def aEG(f:EX)(g:GF):SFX:=fun γ M=>(f γ M).bind fun r=>match r.1 with
 |.x e=>some (.xc γ e,r.2)
 |.v x=>(g x γ r.2).bind fun q=>some (.o (.nx q.1),q.2)
noncomputable def aFF(c:TF)(f g:SFX):SFX:=fun γ M=>(c γ M).bind fun r=>if r.1=true then f γ r.2 else g γ r.2
noncomputable def aBR(nm:Str):SFX:=fun γ M=>some (.xc γ ⟨nm,[]⟩,M)
noncomputable def fnX(ps N:Nat)(b:SFX):FX:=fun xs M=>if xs.length=ps then(b (xs.map some++List.replicate (N-xs.length) none) M).bind fun r=>match r.1 with
 |.o (.rt x)=>some (.v x,r.2)
 |.o (.nx _)=>some (.v (.d .none),r.2)
 |.xc _ e=>some (.x e,r.2)
 |_=>none else none
noncomputable def YD:Option Nat->Ga->Ga
 |none,γ=>γ
 |some i,γ=>γ.set i none
noncomputable def setG:Option Nat->Ga->CD->Ga
 |none,γ,_=>γ
 |some i,γ,x=>γ.set i (some x)
noncomputable def aFe(n:Option Nat):Out->Out
 |.nx γ=>.nx (YD n γ)
 |.bk γ=>.bk (YD n γ)
 |.ct γ=>.ct (YD n γ)
 |.rt x=>.rt x
structure HMi where
 tab:List (Str×Bool)
 n:Option Nat
 f:SF
noncomputable def aCK:List HMi->Ga->Exc->Sto->Option (Out×Sto)
 |[],_,_,_=>none
 |h::r,γ,ex,M=>match h.tab.lookup ex.nm with
  |some true=>(h.f (setG h.n γ (.c M.length)) (M++[.exc false ex.nm ex.fs])).bind fun q=>some (aFe h.n q.1,q.2)
  |some false=>aCK r γ ex M
  |none=>none
noncomputable def aFT(b:SFX)(hs:List HMi):SF:=fun γ M=>(b γ M).bind fun r=>match r.1 with
 |.o o=>some (o,r.2)
 |.xc γ' ex=>aCK hs γ' ex r.2
section
variable{K:Fg}{EE:St->XK}{ta tb:TE}{tA:TA}{t u:TS}{f g:EX}{fa:AX}{p q:SFX}{tt:TT}{ft:TF}{tg:TG}{hg:GF}
end
section
variable{ι:Type}
variable{K:Fg}{X:ι->Cx}{EE:ι->St->XK}{e a b c tg iter:Expr}{es:List Expr}{f g:EX}{fa:AX}{p q:SFX}{ft:TF}{gf:GF}{st:Stmt}{sts sts':List Stmt}{pos:Pos}
end
section
variable{X:Cx}{K:Fg}
noncomputable def aFs(tab:List (Str×Bool))(nn:Option Bool)(f:EF):EF:=fun γ M=>(f γ M).bind fun r=>match r.1 with
 |.c i=>(match r.2[i]? with
  |some (.exc _ nm _)=>(tab.lookup nm).bind fun b=>some (.d (.bool b),r.2)
  |_=>none)
 |.d .none=>nn.bind fun b=>some (.d (.bool b),r.2)
 |_=>none
end
noncomputable def aBk(h:FX)(f:AF):EF:=fun γ M=>(f γ M).bind fun r=>(h r.1 r.2).bind fun q=>match q.1 with
 |.v x=>some (x,q.2)
 |.x _=>none
section
variable{K:Fg}{cv:Value}{a:Str}{b:Bool}{l:List (Str×Bool)}
theorem WO{nm:Str}{C:Addr}(h:PySem.W.nsIn K mainGlobals nm=some (some (.ref C))):fG K nm=C:=by unfold fG;rw[h]
end
mutual
noncomputable def snap:Nat->Sto->CD->Option PyData
 |_,_,.d x=>some x
 |0,_,.c _=>none
 |n+1,M,.c i=>match M[i]? with
  |some (.lst xs)=>(oC n M xs).bind fun ds=>some (.list ds)
  |_=>none
 |_,_,.f _=>none
 |0,_,.t _=>none
 |n+1,M,.t xs=>(oC n M (xs.map cdA)).bind fun ds=>some (.tuple ds)
noncomputable def oC:Nat->Sto->List CD->Option (List PyData)
 |_,_,[]=>some []
 |n,M,x::xs=>(snap n M x).bind fun d=>(oC n M xs).bind fun ds=>some (d::ds)
end
section
variable{K:Fg}{W:Wd}{M:Sto}{H:Hp}
theorem Good.lstAt'(G:Good K W M H){i:Nat}{xs:List CD}(h:M[i]?=some (.lst xs)):∃vs,H (W.α i)=some (.lst vs)/\bO K W xs vs:=by
 obtain⟨_,o,h2,h3⟩:=G.cs i _ h (by intro z;cases z);cases o with
 |lst vs=>exact⟨vs,h2,h3⟩
 |_=>exact False.elim h3
mutual
theorem qY(G:Good K W M H):∀(n:Nat)(x:CD)(d:PyData)(v:V),snap n M x=some d->bR K W x v->Rep K H d v
 |0,.d x=>fun d v h r=>by unfold snap at h;cases h;exact Rep.same G.fh _ _ r
 |n+1,.d x=>fun d v h r=>by unfold snap at h;cases h;exact Rep.same G.fh _ _ r
 |0,.c i=>fun d v h r=>by unfold snap at h;cases h
 |n+1,.c i=>fun d v h r=>by
  unfold snap at h;cases e:M[i]? with
  |none=>rw[e]at h;cases h
  |some c=>
   rw[e]at h;cases c with
   |lst xs=>
    obtain⟨ds,h1,h⟩:=aH (show(oC n M xs).bind _=_ from h);cases h;obtain⟨vs,h2,h3⟩:=G.lstAt' e;exact⟨W.α i,vs,r.2,SqL.of h2,tK G n xs ds vs h1 h3⟩
   |_=>cases h
 |0,.f xs=>fun d v h r=>by unfold snap at h;cases h
 |n+1,.f xs=>fun d v h r=>by unfold snap at h;cases h
 |0,.t xs=>fun d v h r=>by unfold snap at h;cases h
 |n+1,.t xs=>fun d v h r=>by
  unfold snap at h;obtain⟨ds,h1,h⟩:=aH h;cases h;obtain⟨a,vs,rfl,h2,h3⟩:=r;exact⟨a,vs,rfl,SqT.of (G.fh _ _ h2),tK G n _ ds vs h1 (KG h3)⟩
theorem tK(G:Good K W M H):∀(n:Nat)(xs:List CD)(ds:List PyData)(vs:List V),oC n M xs=some ds->bO K W xs vs->aJ K H ds vs
 |_,[]=>fun ds vs h r=>by
  unfold oC at h;cases h;cases r;rfl
 |n,x::xs=>fun ds vs h r=>by
  unfold oC at h;obtain⟨d,h1,h⟩:=aH h;obtain⟨es,h2,h⟩:=aH h;cases h;cases r with
  |@cons _ v _ vs' r1 r2=>exact⟨v,vs',rfl,qY G n x d v h1 r1,tK G n xs es vs' h2 r2⟩
end
end
noncomputable def pK:FN:=fun xs M=>match xs with
 |[x]=>(snap 5 M x).bind fun d=>if oX d=true then some (.d (.str d.shown),M)else none
 |_=>none
theorem FL{n:Nat}{M:Sto}{x:PyData}:snap n M (.d x)=some x:=by cases n<;>simp only[snap]
theorem US{x:PyData}{M:Sto}:pK [.d x] M=JY [.d x] M:=by unfold pK JY;dsimp only;rw[FL];rfl
theorem QH{K:Fg}:PN K (ZU K) pK:=by
 intro xs M z M' h W H vs Q G r k;unfold pK at h;split at h
 .rename_i x;obtain⟨d,h1,h⟩:=aH h;by_cases hs:oX d=true
  .rw[B0 hs]at h;cases h;rcases r with _|⟨r1,_|_⟩;have hs':=hs;unfold oX at hs;rw[B5,B5]at hs;exact⟨_,d,rfl,qY G 5 x d _ h1 r1,hs.1.1,C3 hs.1.2,C3 hs.2,k _ W H (.refl _) G rfl⟩
  .rw[B2 hs]at h;cases h
 .cases h
theorem AN{ι:Type}{K:Fg}{X:ι->Cx}(hK:∀i,(X i).K=K)(hg:∀i,(X i).A.guards=some [])(hu:∀i,(X i).A.units+200<cLine):QN K X (.builtin "repr") pK:=⟨_,fun i=>aFa (hK i) (hg i) (hu i),QH⟩
open PySem PySem.Spec PyProof.Rows PySem.Builtin PySem.Builtin.ObjectAttr
end L2
namespace L2
variable{M:Sto}{H:Hp}
open PySem PySem.Spec PyProof.Rows
section
variable{P:Program}{w:World}{K:Fg}{mg:Str->Option Value}{base:Heap}
theorem UZ{nm m qual:Str}{st:Stmt}{C f:Addr}{oc:Value}{od an:Option Addr}{osl:Array (Option Value)}{kV doc pm cdv ct:Value}(hC:fG K nm=C)(hf:PySem.W.findIn K (.ref C) m=some (some (.ref f)))
 (l:K.lookup f=some ⟨oc,od,.func (PySem.W.fnOf m qual (eJ st) (bN st) (aE st) .none kV doc pm an cdv ct),osl⟩) (c:PySem.W.codeIn K cdv qual=true) (k:PySem.W.keepIn K (.ref f)=true) (fn:PySem.W.isFn K (.ref f)=true):XB K nm m qual st:=
 ⟨f,_,OY l c k,by rw[hC];exact hf,fn⟩
end
section
variable{K:Fg}
noncomputable def sT:F2:=fun x y M=>(rB M x).bind fun xs=>(rB M y).bind fun ys=>if xs.length+ys.length<=sizeLine then some (.c M.length,M++[.lst (xs++ys)])else none
theorem YL:P2 K (DY K) sT:=by
 intro x y M z M' h W H v u Q G rx ry k;obtain⟨xs,h1,h⟩:=aH h;obtain⟨ys,h2,h⟩:=aH h;by_cases hl:xs.length+ys.length<=sizeLine
 .rw[B0 hl]at h;cases h;obtain⟨p,vs,rfl,hp,hr⟩:=oR G h1 rx;obtain⟨q,us,rfl,hq,hs⟩:=oR G h2 ry;refine⟨p,q,vs,us,rfl,rfl,hp,hq,by rw[<- Paired.len hr,<- Paired.len hs];exact hl,fun l hl=>?_⟩;exact k _ (W.more l) _ (W.ext_more l) (G.new hl (c:=.lst (xs++ys)) (o:=.lst (vs++us)) (Paired.app hr hs)) G.newV
 .rw[B2 hl]at h;cases h
end
noncomputable abbrev KY:=Key ⊕ List Key
noncomputable abbrev KF:=Ga->Sto->Option (KY×Sto)
noncomputable def MQ(W:Wd):KY->V->Prop
 |.inl k,v=>v=kV k
 |.inr ks,v=>∃b,v=.ref b/\W.F b=some (.tup (ks.map kV))
theorem MQ.up{W W':Wd}{k:KY}{v:V}(h:MQ W k v)(e:W.Ext W'):MQ W' k v:=by
 cases k with
 |inl k=>exact h
 |inr ks=>obtain⟨b,h1,h2⟩:=h;exact⟨b,h1,e.ff _ _ h2⟩
section
variable{K:Fg}
noncomputable def SK(K:Fg)(t:TE)(f:KF):Prop:=∀γ M k M',f γ M=some (k,M')->∀(W:Wd)(H:Hp)(σ:St)(Q:VK),Good K W M H->cT K W γ σ->(∀v W' H',W.Ext W'->Good K W' M' H'->MQ W' k v->Q v H')->t σ H Q
noncomputable def sV(f:EF):KF:=fun γ M=>(f γ M).bind fun r=>(keyOf r.1).bind fun k=>some (.inl k,r.2)
noncomputable def keysOf:List CD->Option (List Key)
 |[]=>some []
 |x::xs=>(keyOf x).bind fun k=>(keysOf xs).bind fun ks=>some (k::ks)
noncomputable def qT(fa:AF):KF:=fun γ M=>(fa γ M).bind fun r=>(keysOf r.1).bind fun ks=>if ks.length<=sizeLine then some (.inr ks,r.2)else none
variable{t td ty tx tv:TE}{tA:TA}{f fo fx fv:EF}{fk:KF}{fa:AF}
theorem aCt(a:SE K t f):SK K t (sV f):=by
 intro γ M k M' hh W H σ Q G R c;obtain⟨⟨x,M1⟩,h1,hh⟩:=aH hh;obtain⟨k',h2,hh⟩:=aH hh;cases hh;exact a _ _ _ _ h1 W H σ _ G R fun v W1 H1 e1 G1 r1=>c v W1 H1 e1 G1 (sD h2 r1)
theorem vR{W:Wd}:∀{xs:List CD}{ks:List Key}{vs:List V},keysOf xs=some ks->bO K W xs vs->vs=ks.map kV
 |[],ks,vs=>fun h r=>by cases h;cases r;rfl
 |x::xs,ks,vs=>fun h r=>by
  obtain⟨k,h1,h⟩:=aH h;obtain⟨ks',h2,h⟩:=aH h;cases h;cases r with
  |cons r1 r2=>rw[sD h1 r1,vR h2 r2];rfl
theorem aBZ(b:SA K tA fa):SK K (UP tA) (qT fa):=by
 intro γ M k M' hh W H σ Q G R c;obtain⟨⟨ys,M1⟩,h1,hh⟩:=aH hh;obtain⟨ks,h2,hh⟩:=aH hh;by_cases hl:ks.length<=sizeLine
 .rw[B0 hl]at hh;cases hh;refine b _ _ _ _ h1 W H σ _ G R fun vs W1 H1 e1 G1 r1=>?_;have ev:=vR h2 r1;refine⟨by rw[ev,A3];exact hl,fun p hp=>?_⟩;obtain⟨e2,G2⟩:=G1.lay (o:=.tup vs) hp;exact c _ _ _ (e1.trans e2) G2 ⟨p,rfl,by show upd W1.F p (.tup vs) p=_;rw[aP,ev]⟩
 .rw[B2 hl]at hh;cases hh
section
variable{κ:Type}[DecidableEq κ]
noncomputable def lkC(kvs:List (κ×CD))(k:κ):Option CD:=(kvs.find? fun kv=>decide (kv.1=k)).map (·.2)
noncomputable def putD(kvs:List (κ×CD))(k:κ)(v:CD):List (κ×CD):=
 if (kvs.any fun kv=>decide (kv.1=k))=true then kvs.map (fun kv=>if kv.1=k then(kv.1,v)else kv)else kvs++[(k,v)]
noncomputable abbrev PKV(K:Fg)(W:Wd)(kvs:List (κ×CD))(us:List (κ×V)):Prop:=Paired (fun p q=>p.1=q.1/\bR K W p.2 q.2) kvs us
theorem AE{W:Wd}{k:κ}:∀{kvs:List (κ×CD)}{us:List (κ×V)},PKV K W kvs us->EY K W (lkC kvs k) (iO us k)
 |_,_,.nil=>True.intro
 |_,_,.cons (a:=p) (b:=q) (l₁:=ps) (l₂:=qs) r1 r2=>by
  by_cases h:p.1=k
  .have h':q.1=k:=r1.1▸h;rw[show lkC (p::ps) k=some p.2 by simp[lkC,List.find?_cons,h],show iO (q::qs) k=some q.2 by simp[iO,List.find?_cons,h']];exact r1.2
  .have h':¬q.1=k:=r1.1▸h;rw[show lkC (p::ps) k=lkC ps k by simp[lkC,List.find?_cons,h],show iO (q::qs) k=iO qs k by simp[iO,List.find?_cons,h']];exact AE r2
theorem DC{W:Wd}{k:κ}:∀{kvs:List (κ×CD)}{us:List (κ×V)},PKV K W kvs us->(kvs.any fun kv=>decide (kv.1=k))=us.any fun kv=>decide (kv.1=k)
 |_,_,.nil=>rfl
 |_,_,.cons r1 r2=>by rw[O1,O1,DC r2,r1.1]
theorem FH{W:Wd}{k:κ}{x:CD}{v:V}(rv:bR K W x v):∀{kvs:List (κ×CD)}{us:List (κ×V)},PKV K W kvs us->PKV K W (kvs.map fun kv=>if kv.1=k then(kv.1,x)else kv) (us.map fun kv=>if kv.1=k then(kv.1,v)else kv)
 |_,_,.nil=>.nil
 |_,_,.cons (a:=p) (b:=q) r1 r2=>by
  rw[C6,C6];refine .cons ?_ (FH rv r2);by_cases h:p.1=k
  .rw[B0 h,B0 (r1.1▸h)];exact⟨r1.1,rv⟩
  .rw[B2 h,B2 (r1.1▸h)];exact r1
theorem zN{W:Wd}{k:κ}{x:CD}{v:V}{kvs:List (κ×CD)}{us:List (κ×V)}(r:PKV K W kvs us)(rv:bR K W x v):PKV K W (putD kvs k x) (putK us k v):=by
 unfold putD putK;rw[DC r];split
 .exact FH rv r
 .exact Paired.app r (.cons ⟨rfl,rv⟩ .nil)
end
noncomputable def lkP(kvs:List (List Key×PyData))(k:List Key):Option PyData:=(kvs.find? fun kv=>decide (kv.1=k)).map (·.2)
theorem CU{W:Wd}{k:List Key}:∀{kvs:List (List Key×PyData)}{us:List (List Key×V)},Paired (fun p q=>p.1=q.1/\Rep K W.F p.2 q.2) kvs us->EY K W ((lkP kvs k).map .d) (iO us k)
 |_,_,.nil=>True.intro
 |_,_,.cons (a:=p) (b:=q) (l₁:=ps) (l₂:=qs) r1 r2=>by
  by_cases h:p.1=k
  .have h':q.1=k:=r1.1▸h;rw[show lkP (p::ps) k=some p.2 by simp[lkP,List.find?_cons,h],show iO (q::qs) k=some q.2 by simp[iO,List.find?_cons,h']];exact r1.2
  .have h':¬q.1=k:=r1.1▸h;rw[show lkP (p::ps) k=lkP ps k by simp[lkP,List.find?_cons,h],show iO (q::qs) k=iO qs k by simp[iO,List.find?_cons,h']];exact CU r2
noncomputable def atD(M:Sto):CD->KY->Option (Option CD)
 |.c i,.inl k=>match M[i]? with
  |some (.dk kvs)=>some (lkC kvs k)
  |_=>none
 |.c i,.inr ks=>match M[i]? with
  |some (.dt kvs)=>some (lkC kvs ks)
  |_=>none
 |.f kvs,.inr ks=>some ((lkP kvs ks).map .d)
 |_,_=>none
noncomputable def uI(M:Sto):CD->KY->CD->Option Sto
 |.c i,.inl k,x=>match M[i]? with
  |some (.dk kvs)=>if kvs.length<sizeLine then some (M.set i (.dk (putD kvs k x)))else none
  |_=>none
 |.c i,.inr ks,x=>match M[i]? with
  |some (.dt kvs)=>if kvs.length<sizeLine then some (M.set i (.dt (putD kvs ks x)))else none
  |_=>none
 |_,_,_=>none
theorem Good.dkAt{W:Wd}{i:Nat}{kvs:List (Key×CD)}(G:Good K W M H)(h:M[i]?=some (.dk kvs)):∃us,H (W.α i)=some (.dK us)/\PKV K W kvs us:=by
 obtain⟨_,o,h2,h3⟩:=G.cs i _ h (by intro z;cases z);cases o<;>first|exact⟨_,h2,h3⟩|exact False.elim h3
theorem Good.dtAt{W:Wd}{i:Nat}{kvs:List (List Key×CD)}(G:Good K W M H)(h:M[i]?=some (.dt kvs)):∃us,H (W.α i)=some (.dT us)/\PKV K W kvs us:=by
 obtain⟨_,o,h2,h3⟩:=G.cs i _ h (by intro z;cases z);cases o<;>first|exact⟨_,h2,h3⟩|exact False.elim h3
theorem JL{W:Wd}{x:CD}{k:KY}{r:Option CD}{v y:V}(G:Good K W M H)(h:atD M x k=some r)(rx:bR K W x v)(ry:MQ W k y):∃a o,v=.ref a/\uG H a y o/\EY K W r o:=by
 unfold atD at h;split at h
 .rename_i i k';split at h
  .rename_i kvs hk;cases h;obtain⟨us,h1,h2⟩:=G.dkAt hk;refine⟨_,_,rx.2,?_,AE h2⟩;rw[show y=kV k' from ry];exact uG.k h1
  .cases h
 .rename_i i ks;split at h
  .rename_i kvs hk;cases h;obtain⟨us,h1,h2⟩:=G.dtAt hk;obtain⟨b,rfl,hb⟩:=ry;exact⟨_,_,rx.2,uG.t h1 (G.fh _ _ hb),AE h2⟩
  .cases h
 .rename_i kvs ks;cases h;obtain⟨a,o,us,rfl,h1,h2⟩:=rx;obtain⟨b,rfl,hb⟩:=ry;exact⟨_,_,rfl,.inr ⟨us,ks,b,.inr ⟨o,G.fh _ _ h1⟩,rfl,G.fh _ _ hb,rfl⟩,CU h2⟩
 .cases h
theorem DL{W:Wd}{M':Sto}{x z:CD}{k:KY}{v y u:V}(G:Good K W M H)(h:uI M x k z=some M')(rx:bR K W x v)(ry:MQ W k y)(rz:bR K W z u):∃a H',v=.ref a/\vH H a y u H'/\Good K W M' H':=by
 unfold uI at h;split at h
 .rename_i z' i k';split at h
  .rename_i kvs hk;by_cases hl:kvs.length<sizeLine
   .rw[B0 hl]at h;cases h;obtain⟨us,h1,h2⟩:=G.dkAt hk;refine⟨_,_,rx.2,?_,G.set hk (by intro q;cases q) (o':=.dK (putK us k' u)) (zN h2 rz)⟩;rw[show y=kV k' from ry];exact vH.k h1 (by rw[<- Paired.len h2];exact hl)
   .rw[B2 hl]at h;cases h
  .cases h
 .rename_i z' i ks;split at h
  .rename_i kvs hk;by_cases hl:kvs.length<sizeLine
   .rw[B0 hl]at h;cases h;obtain⟨us,h1,h2⟩:=G.dtAt hk;obtain⟨b,rfl,hb⟩:=ry;exact⟨_,_,rx.2,vH.t h1 (G.fh _ _ hb) (by rw[<- Paired.len h2];exact hl),G.set hk (by intro q;cases q) (o':=.dT (putK us ks u)) (zN h2 rz)⟩
   .rw[B2 hl]at h;cases h
  .cases h
 .cases h
noncomputable def sZ:EF:=fun _ M=>some (.c M.length,M++[.dt []])
noncomputable def tO(fo:EF)(fk:KF):EF:=fun γ M=>(fo γ M).bind fun o=>(fk γ o.2).bind fun k=>(atD k.2 o.1 k.1).bind fun r=>r.bind fun x=>some (x,k.2)
noncomputable def sM(neg:Bool)(fk:KF)(fo:EF):EF:=fun γ M=>(fk γ M).bind fun k=>(fo γ k.2).bind fun o=>(atD o.2 o.1 k.1).bind fun r=>some (.d (.bool (if neg then !r.isSome else r.isSome)),o.2)
noncomputable def sQ(fo:EF)(fk:KF)(fv:EF):SF:=fun γ M=>(fv γ M).bind fun v=>(fo γ v.2).bind fun o=>(fk γ o.2).bind fun k=>(uI k.2 o.1 k.1 v.1).bind fun M'=>some (.nx γ,M')
theorem QK:SE K OD sZ:=by
 intro γ M x M' hh W H σ Q G R k;cases hh;exact fun p hp=>k _ (W.more p) _ (W.ext_more p) (G.new hp (c:=.dt []) (o:=.dT []) .nil) G.newV
theorem YS(a:SE K td fo)(b:SK K ty fk):SE K (aAf td ty) (tO fo fk):=by
 intro γ M x M' hh W H σ Q G R k;obtain⟨⟨o,M1⟩,h1,hh⟩:=aH hh;obtain⟨⟨ky,M2⟩,h2,hh⟩:=aH hh;obtain⟨r,h3,hh⟩:=aH hh;obtain⟨z,h4,hh⟩:=aH hh;cases hh;subst h4;refine a _ _ _ _ h1 W H σ _ G R fun v W1 H1 e1 G1 r1=>b _ _ _ _ h2 W1 H1 σ _ G1 (R.up e1) fun y W2 H2 e2 G2 r2=>?_;obtain⟨p,ov,ev,g,ro⟩:=JL G2 h3 (r1.up e2) r2;cases ov with
 |none=>exact False.elim ro
 |some u=>exact⟨p,u,ev,g,k u W2 H2 (e1.trans e2) G2 ro⟩
theorem LQ{W:Wd}{r:Option CD}{o:Option V}(h:EY K W r o):o.isSome=r.isSome:=by
 cases r<;>cases o<;>first|rfl|exact False.elim h
theorem NU(b:SK K ty fk)(a:SE K td fo):SE K (aEy ty td) (sM false fk fo):=by
 intro γ M x M' hh W H σ Q G R k;obtain⟨⟨ky,M1⟩,h1,hh⟩:=aH hh;obtain⟨⟨o,M2⟩,h2,hh⟩:=aH hh;obtain⟨r,h3,hh⟩:=aH hh;cases hh;refine b _ _ _ _ h1 W H σ _ G R fun y W1 H1 e1 G1 r1=>a _ _ _ _ h2 W1 H1 σ _ G1 (R.up e1) fun v W2 H2 e2 G2 r2=>?_;obtain⟨p,ov,ev,g,ro⟩:=JL G2 h3 r2 (r1.up e2);refine⟨p,ov,ev,g,k _ W2 H2 (e1.trans e2) G2 ?_⟩;show _=V.bl r.isSome;rw[LQ ro]
theorem WN(a:SE K td fo)(b:SK K ty fk)(c:SE K tv fv):SS K (ZW td ty tv) (sQ fo fk fv):=by
 intro γ M o M' hh W H σ D G R k;obtain⟨⟨z,M1⟩,h1,hh⟩:=aH hh;obtain⟨⟨x,M2⟩,h2,hh⟩:=aH hh;obtain⟨⟨ky,M3⟩,h3,hh⟩:=aH hh;obtain⟨M4,h4,hh⟩:=aH hh;cases hh;refine c _ _ _ _ h1 W H σ _ G R fun u W1 H1 e1 G1 r1=>a _ _ _ _ h2 W1 H1 σ _ G1 (R.up e1) fun v W2 H2 e2 G2 r2=>b _ _ _ _ h3 W2 H2 σ _ G2 (R.up (e1.trans e2)) fun y W3 H3 e3 G3 r3=>?_;obtain⟨p,H4,ev,g,G4⟩:=DL G3 h4 (r2.up e3) r3 ((r1.up e2).up e3);exact⟨p,H4,ev,g,k W3 H4 ((e1.trans e2).trans e3) G4 σ (R.up ((e1.trans e2).trans e3))⟩
end
section
variable{ι:Type}
structure MK(K:Fg)(X:ι->Cx)(e:Expr)(f:KF):Prop where
 ex:∃t,(∀i,PE (X i) e t)/\SK K t f
variable{K:Fg}{X:ι->Cx}{e o i a b:Expr}{es:List Expr}{f g fx:EF}{fk:KF}{fa:AF}{pos:Pos}
theorem mk_one(x:ME K X e f):MK K X e (sV f):=by
 obtain⟨t,x1,x2⟩:=x.ex;exact⟨_,x1,aCt x2⟩
theorem vD{k:Nat}(x:MA K X es fa):MK K X (.Tuple es k pos) (qT fa):=by
 obtain⟨t,x1,x2⟩:=x.ex;exact⟨_,fun i=>HK (x1 i),aBZ x2⟩
theorem DX:ME K X (.Dict [] [] pos) sZ:=⟨_,fun _=>TX,QK⟩
theorem JU(hu:∀j,(X j).A.units+1<cLine)(x:ME K X o f)(y:MK K X i fk)(hs:aDq i:=by intro _ _;rfl):ME K X (.Subscript o i pos) (tO f fk):=by
 obtain⟨t,x1,x2⟩:=x.ex;obtain⟨u,y1,y2⟩:=y.ex;exact⟨_,fun j=>UC (hu j) (x1 j) (y1 j) hs,YS x2 y2⟩
theorem RF(hu:∀j,(X j).A.units+1<cLine)(y:MK K X i fk)(x:ME K X o f)(hm:behindInMarks .In o=false:=by rfl):ME K X (.Compare i [.In] [o] pos) (sM false fk f):=by
 obtain⟨t,x1,x2⟩:=x.ex;obtain⟨u,y1,y2⟩:=y.ex;exact⟨_,fun j=>aBW (TH (hu j) (y1 j) (x1 j)) hm,NU y2 x2⟩
theorem aBJ(hu:∀j,(X j).A.units+1<cLine)(y:MK K X i fk)(x:ME K X o f)(hm:behindInMarks .In o=false:=by rfl):MT K X (.Compare i [.In] [o] pos) (gB (sM false fk f)):=by
 obtain⟨t,x1,x2⟩:=x.ex;obtain⟨u,y1,y2⟩:=y.ex;exact⟨_,fun j=>aCT (TH (hu j) (y1 j) (x1 j)) hm,aBt (NU y2 x2)⟩
theorem JQ{pos':Pos}(hu:∀j,(X j).A.units+1<cLine)(x:ME K X o f)(y:MK K X i fk)(z:ME K X e g)(hs:∀j,swapsWith e (some (.Subscript o i pos')) pos.line (X j).env=pure false:=by intro _;rfl):MS K X (.Assign [.Subscript o i pos'] e pos) (sQ f fk g):=by
 obtain⟨t,x1,x2⟩:=x.ex;obtain⟨u,y1,y2⟩:=y.ex;obtain⟨v,z1,z2⟩:=z.ex;exact⟨_,fun j=>WZ (hu j) (x1 j) (y1 j) (z1 j) (hs j),WN x2 y2 z2⟩
end
end L2
namespace PySem
open Sem (wp)
open AutoSeq1 (wpAny_loadPart')
section
variable{prog:Program}{w:World}{A:Around}{E:Value->Shared->Prop}{s:Shared}
theorem xM{it l:Addr}{i:Nat}{items}{x:Value}{Q:Value->Shared->Prop}(hit:s.heap.IsTupleIter it l i)(hl:s.heap.IsTuple l items)(hx:items[i]?=some x)
 (hQ:∀h',h'.IsTupleIter it l (i+1)->Heap.SameBut it s.heap h'->Q x { s with heap:=h' }):wpAny (model prog w) A (Builtin.SmallTypes.nextOf (.ref it)) Q E s:=by
 obtain⟨o,ho,hc,hd⟩:=id hit;obtain⟨ol,hol,_,nl,hdl⟩:=hl;unfold Builtin.SmallTypes.nextOf;refine A1 (E6 (name:=Str.ofString "__next__") hit.typeIs Y4 (E4 Y4 hit.typeIs F.entry_tuple_iterator_next ?_ (F.args_tuple_iterator_next_1 _)));show wpAny _ _ (field (.ref it) 0 >>= _) _ _ s;refine A1 (F4 ho hd (x:=.ref l) rfl ?_);show wpAny _ _ (if (Value.ref l==Value.none)=true then _ else _) _ _ s;rw[B2 (show ¬((Value.ref l==Value.none)=true)from B4)];show wpAny _ _ (field (.ref it) 1 >>= _) _ _ s;refine A1 (F4 ho hd (x:=.int i 0) rfl ?_);show wpAny _ _ (seqItems? (.ref l) >>= _) _ _ s;refine A1 (S8 hol hdl ?_);simp only[Int.toNat_natCast,hx];refine A1 (S9 ho hd (by simp) (A4 ⟨x,rfl,A4 (hQ _ ?_ (J1 ..))⟩));exact⟨_,F5 _ ho (Y0 (S3 hd _)),(Obj.cls_mapFields ..).trans hc,by rw[S3 hd];simp[rawInt]⟩
theorem tF{it l:Addr}{i:Nat}{items}{Q:Value->Shared->Prop}(hh:A.handled=none)(hit:s.heap.IsTupleIter it l i)(hl:s.heap.IsTuple l items)(hx:items[i]?=none)
 (hE:∀h' e,Heap.ExtBut it s.heap h'->(∃o,h'.get? e=some o/\o.cls=.type "StopIteration")->E (.ref e) { s with heap:=h' }):wpAny (model prog w) A (Builtin.SmallTypes.nextOf (.ref it)) Q E s:=by
 obtain⟨o,ho,hc,hd⟩:=id hit;obtain⟨ol,hol,_,nl,hdl⟩:=hl;unfold Builtin.SmallTypes.nextOf;refine A1 (E6 (name:=Str.ofString "__next__") hit.typeIs Y4 (E4 Y4 hit.typeIs F.entry_tuple_iterator_next ?_ (F.args_tuple_iterator_next_1 _)));show wpAny _ _ (field (.ref it) 0 >>= _) _ _ s;refine A1 (F4 ho hd (x:=.ref l) rfl ?_);show wpAny _ _ (if (Value.ref l==Value.none)=true then _ else _) _ _ s;rw[B2 (show ¬((Value.ref l==Value.none)=true)from B4)];show wpAny _ _ (field (.ref it) 1 >>= _) _ _ s;refine A1 (F4 ho hd (x:=.int i 0) rfl ?_);show wpAny _ _ (seqItems? (.ref l) >>= _) _ _ s;refine A1 (S8 hol hdl ?_);simp only[Int.toNat_natCast,hx];refine A1 (A0c (A1 (S9 ho hd (by simp) ?_)));show wpAny _ _ (newExc (.type "StopIteration") [] >>= _) _ _ _;refine A1 ?_;simp only[newExc,newTuple];refine A1 (C9 ?_ (by size_fits));refine A1 (m:=firstArgMember _ _) (wpAny_of_eq (a:=Value.none) (by first|rfl|(simp only[firstArgMember];rfl)) ?_);refine C9 ?_ (by size_fits);simp only[raiseNew];refine A1 (wpAny_handled ?_)
 first|rw[show A.in1.handled=none from hh]|rw[hh]
 refine A1 (A4 (wpAny_throw ?_));exact hE _ _ (((J1 ..).extBut.push _).push _) ⟨_,B1 _ rfl,rfl⟩
end
theorem kS{prog:Program}{w:World}{A:Around}(hh:A.handled=none)(it l:Addr)(hne:l≠it)(items:Array Value):
 Draws prog w A it [it,l] items.size (fun i v=>items[i]?=some v) (fun i h=>h.IsTupleIter it l i/\h.IsTuple l items) where
 live:=fun _ _ st=>let⟨o,ho,_⟩:=st.1;⟨o,ho⟩
 frame:=fun _ _ _ st hk=>⟨st.1.at fun o e=>hk it (by simp) o e,let⟨o,ho,r⟩:=st.2;⟨o,hk l (by simp) o ho,r⟩⟩
 item:=fun i s Q E hi st hQ=>by
  refine xM st.1 st.2 (x:=items[i]) (by simp[hi]) fun h' hit' hs'=>?_;exact hQ _ h' s.toks (by simp[hi]) ⟨hit',let⟨o,ho,r⟩:=st.2;⟨o,(hs'.2 l hne).trans ho,r⟩⟩ hs'
 done:=fun s Q E st hE=>tF hh st.1 st.2 (by simp) hE
theorem wG(l:Addr)(items:Array Value)(n:Nat)(dct:Option Addr)(sl:Array (Option Value)):
 Meets (Builtin.«enumerate.__new__» ⟨[.type "enumerate",.ref l],[]⟩) (fun _ R s=>s.heap.get? l=some { cls:=.type "tuple",dict:=dct,data:=.seq items n,slots:=sl } /\
  R (.ok (.ret (.ref (s.heap.push { cls:=.type "tuple_iterator",data:=.fields #[.ref l,.int 0 0] }).objs.size)))
   { s with heap:=(s.heap.push { cls:=.type "tuple_iterator",data:=.fields #[.ref l,.int 0 0] }).push { cls:=.type "enumerate",data:=.fields #[.none,.bool false,.ref s.heap.objs.size,rawInt 0,.none,.none] } }):=
 .of_wp fun prog w A R s h=>by
  obtain⟨hp,g,d,tk,os⟩:=s;obtain⟨hl,h⟩:=h;have hsub:=sub_enumerate;have hL:Heap.IsTuple (Shared.heap ⟨hp,g,d,tk,os⟩) l items:=⟨_,hl,rfl,n,rfl⟩
  wp_walk using Z2 hl
  refine wpAny_stack_any fun st=>A4 ?_;split
  .rename_i c _ _ _ _ _;cases (c==Value.type "enumerate")
   .wp_walk using Z2 hl,O9 hL
    exact⟨_,rfl,h⟩
   .wp_walk using Z2 hl,O9 hL
    exact⟨_,rfl,h⟩
  .wp_walk using Z2 hl,O9 hL
   exact⟨_,rfl,h⟩
section
variable{prog:Program}{w:World}{A:Around}{E:Value->Shared->Prop}{s:Shared}
theorem xN{l:Addr}{items:Array Value}{Q:Value->Shared->Prop}(hL:s.heap.IsTuple l items)
 (h:∀h',IsEnum h' (s.heap.objs.size+1) s.heap.objs.size 0 .none->h'.IsTupleIter s.heap.objs.size l 0->h'.objs.size=s.heap.objs.size+2->
  (∀b o,s.heap.get? b=some o->h'.get? b=some o)->Q (.ref (s.heap.objs.size+1)) { s with heap:=h' }):
 wpAny (model prog w) A (call (.type "enumerate") [.ref l]) Q E s:=by
 obtain⟨⟨c,dct,dt,sl⟩,hl,hc,n,hd⟩:=hL
 replace hc:c=.type "tuple":=hc
 replace hd:dt=.seq items n:=hd
 subst hc hd
 refine callType_new F.called_enumerate (by decide) (F.typeCall_enumerate_1 _) (F.newCall_enumerate_1 _) (fun obj=>F.args_object_init_2 obj _) F.entry_enumerate_new
  (wG l items n dct sl) ⟨hl,?_⟩
 have hz:(s.heap.push { cls:=.type "tuple_iterator",data:=.fields #[.ref l,.int 0 0] }).objs.size=s.heap.objs.size+1:=L8 ..;show _/\_;rw[hz]
 have he:IsEnum ((s.heap.push { cls:=.type "tuple_iterator",data:=.fields #[.ref l,.int 0 0] }).push
  { cls:=.type "enumerate",data:=.fields #[.none,.bool false,.ref s.heap.objs.size,rawInt 0,.none,.none] }) (s.heap.objs.size+1) s.heap.objs.size 0 .none:=by
  have:=B1 (s.heap.push { cls:=.type "tuple_iterator",data:=.fields #[.ref l,.int 0 0] })
   (o:={ cls:=.type "enumerate",data:=.fields #[.none,.bool false,.ref s.heap.objs.size,rawInt 0,.none,.none] }) rfl
  rw[hz]at this;exact this
 refine⟨⟨_,he,rfl⟩,h _ he ⟨_,A2 _ (B1 _ rfl),rfl,rfl⟩ (by rw[L8,hz]) fun b o x=>A2 _ (A2 _ x)⟩
end
end PySem
namespace L2
open PySem PySem.Spec PyProof.Rows
section
variable{X:Cx}{pins:List (Addr×Obj)}{σ:St}{H:Hp}{s:Shared}{h':Heap}
theorem Inv.turnLay{fp:List Addr}{a:Addr}{o:HO}{t':Nat}(I:Inv X pins σ H s)(hf:∀b∈fp,mR X pins H b)(k:∀b u,b∉fp->s.heap.get? b=some u->h'.get? b=some u)(hp:s.heap.objs.size<=a)(new:bT X.prog X.w (upd H a o) h' a o):
 Inv X pins σ (upd H a o) { s with heap:=h',toks:=t' }:=by
 have hn:H a=none:=I.hok.fresh hp;have nf:∀b u,H b=some u->b∉fp:=fun b u e z=>by rw[(hf b z).1]at e;cases e
 refine I.step (g':=s.gens) (d':=s.drawn) (ch:=fp) (fun b hb=>?_) (fun b o _ _ hc e _=>k b o hc e) (fun b o _ _ hc e _=>⟨o.slots,k b o hc e⟩) (fun b o _ e n=>?_) (fun b o hc e=>⟨o,k b o hc e⟩)
  (fun b xs e=>?_) (fun b o u e=>?_) (fun b ps e=>⟨#[],?_⟩) (fun m hm=>?_) ?_ I.bare
 .obtain⟨_,f1,_,f3,f4,f5⟩:=hf b hb;exact⟨f3,f1,f4,f5⟩
 .rw[aL (fun z=>by subst z;exact absurd (A6 e) (Nat.not_lt.mpr hp))];exact n
 .rw[aL (aO e hn)];exact e
 .rw[aL (aO e hn)];exact e
 .rw[aL (aO e hn)];simpa using e
 .obtain⟨o,es,ep,ho,r⟩:=hm;exact⟨o,es,ep,k _ o (fun z=>(hf _ z).2.1 rfl) ho,r⟩
 .intro b u e;by_cases hb:b=a
  .subst hb;rw[aP]at e;cases e;exact new
  .rw[aL hb]at e;refine(I.hok b u e).stay (fun c v hc q=>k c v ?_ q) (fun c q=>by rw[aL (aO q hn)];exact q) fun c xs q=>by rw[aL (aO q hn)];exact q
   rcases hc with z|z
   .rw[z];exact nf b _ e
   .exact nf c _ z
theorem Inv.turnF{fp:List Addr}{t':Nat}(I:Inv X pins σ H s)(hf:∀b∈fp,mR X pins H b)(k:∀b u,b∉fp->s.heap.get? b=some u->h'.get? b=some u):Inv X pins σ H { s with heap:=h',toks:=t' }:=by
 have nf:∀b u,H b=some u->b∉fp:=fun b u e z=>by rw[(hf b z).1]at e;cases e
 refine I.step (g':=s.gens) (d':=s.drawn) (ch:=fp) (fun b hb=>?_) (fun b o _ _ hc e _=>k b o hc e) (fun b o _ _ hc e _=>⟨o.slots,k b o hc e⟩) (fun _ _ _ _ n=>n) (fun b o hc e=>⟨o,k b o hc e⟩)
  (fun _ _ e=>e) (fun _ _ _ e=>e) (fun b ps e=>⟨#[],by simpa using e⟩) (fun m hm=>?_) (fun b u e=>?_) I.bare
 .obtain⟨_,f1,_,f3,f4,f5⟩:=hf b hb;exact⟨f3,f1,f4,f5⟩
 .obtain⟨o,es,ep,ho,r⟩:=hm;exact⟨o,es,ep,k _ o (fun z=>(hf _ z).2.1 rfl) ho,r⟩
 .refine(I.hok b u e).stay (fun c v hc q=>k c v ?_ q) (fun _ q=>q) fun _ _ q=>q;rcases hc with z|z
  .rw[z];exact nf b _ e
  .exact nf c _ z
end
noncomputable def Ite(Sq:Hp->List V->Prop):It:=
 ⟨fun i H=>∃xs x,Sq H xs/\xs[i]?=some x,fun i H v H'=>∃p x,H p=none/\v=.ref p/\H'=upd H p (.tup [.int i,x])/\∀xs,Sq H xs->xs[i]?=some x,fun i H=>∃xs,Sq H xs/\xs.length=i⟩
noncomputable def tnE(e it:Addr)(It:Heap->Nat->Prop)(i:Nat)(h:Heap):Prop:=(∃old,IsEnum h e it i old)/\It h i
section
variable{P:Program}{w:World}{K:Fg}{elts:List Expr}{x1:Nat}{tpos:Pos}
theorem zF{e it a:Addr}{Sq:Hp->List V->Prop}{It:Heap->Nat->Prop}(hei:e≠it)
 (hobj:∀h i,It h i->∃o vs,h.get? it=some o/\o.data=.fields vs) (hkeep:∀h h' i,It h i->(∀o,h.get? it=some o->h'.get? it=some o)->It h' i)
 (hinj:∀(X:Cx),X.K=K->∀pins σ H s,Inv X pins σ H s->∀xs ys,Sq H xs->Sq H ys->xs=ys)
 (draw:∀(X:Cx),X.prog=P->X.w=w->X.K=K->X.calm=true->∀pins σ H s,Inv X pins σ H s->∀xs,Sq H xs->(∃o vs,s.heap.get? it=some o/\o.data=.fields vs)->(∃o vs,s.heap.get? e=some o/\o.data=.fields vs)->∃(its:List Value)(fp:List Addr)(S:Nat->Heap->Prop),aU xs its/\e∉fp /\
  Draws P w X.A.in1 it fp its.length (fun i v=>its[i]?=some v) S/\(∀i,It s.heap i->S i s.heap)/\∀i h,S i h->It h i):
 Turn P w K (.Tuple elts x1 tpos) (Ite Sq) [e,it] e (tnE e it It) where
 mem:=by simp
 obj:=fun i h st b hb=>by
  obtain⟨⟨old,h1⟩,h2⟩:=st;rcases List.mem_cons.mp hb with rfl|hb
  .exact⟨_,h1,fun v z=>by cases z⟩
  .obtain⟨o,vs,q1,q2⟩:=hobj _ _ h2;rw[List.mem_singleton.mp hb];exact⟨o,q1,fun v z=>by rw[q2]at z;cases z⟩
 keep:=fun i h h' st k=>by
  obtain⟨⟨old,h1⟩,h2⟩:=st;exact⟨⟨old,k e (by simp) _ h1⟩,hkeep _ _ _ h2 fun o q=>k it (by simp) o q⟩
 item:=by
  intro X hP hw hK hc i pins s σ H E I hf st hg;obtain⟨xs,x,hq,hx⟩:=hg;obtain⟨⟨old,he⟩,hit⟩:=st;obtain⟨its,fp,S,rv,hef,D,s1,s2⟩:=draw X hP hw hK hc pins σ H s I xs hq (hobj _ _ hit) ⟨_,_,he,rfl⟩;subst hP hw hK;obtain⟨u,hu,ru⟩:=rv.get hx;have hlt:i<its.length:=(List.getElem?_eq_some_iff.mp hu).1;refine wpAny_pyNext_enum_itemD D he (s1 _ hit) hlt hei hef fun v h1 tk hv ho st1 ht hsz hk=>⟨_,rfl,?_⟩;rw[hu]at hv;cases hv;refine wpAny_letOwnedTupleGo_enum ho fun h2 he2 sb=>?_;have ne:s.heap.objs.size≠e:=J0 (A6 he);have ht2:h2.get? s.heap.objs.size=some { cls:=.type "tuple",data:=.seq #[.int i tk,u] }:=(sb.2 _ ne).trans ht
  have I2:Inv X pins σ (upd H s.heap.objs.size (.tup [.int i,x])) { s with heap:=h2,toks:=tk+1 }:=by
   refine I.turnLay hf (fun b o hb q=>(sb.2 b fun z=>hb (by simp[z])).trans (hk b o (fun z=>hb (by simp[z])) (fun z=>hb (by simp[z])) q)) (A7 _) ⟨by show 2<=sizeLine;rw[F8];decide,[.int i tk,u],.cons ⟨tk,rfl⟩ (.cons ru .nil),⟨_,ht2,rfl,_,rfl⟩⟩
  refine⟨.ref s.heap.objs.size,_,I2,rfl,⟨_,x,I.hok.fresh (A7 _),rfl,rfl,fun ys hy=>by rw[hinj X rfl _ _ _ _ I ys xs hy hq];exact hx⟩,⟨⟨_,by have:=he2;push_cast;exact this⟩,?_⟩,fun b hb=>?_⟩
  .exact hkeep _ _ _ (s2 _ _ st1) fun o q=>(sb.2 it (O7 hei)).trans q
  .have hb0:=(hf b hb).1;rw[aL (fun z=>?_)]
   .exact hb0
   .subst z;rcases List.mem_cons.mp hb with q|q
    .exact ne q
    .obtain⟨o,vs,q1,_⟩:=hobj _ _ hit;rw[<- List.mem_singleton.mp q]at q1;exact absurd (A6 q1) (J2 _)
 done:=by
  intro X hP hw hK hc i pins s σ H E I hf st hg;obtain⟨xs,hq,hx⟩:=hg;obtain⟨⟨old,he⟩,hit⟩:=st;obtain⟨its,fp,S,rv,hef,D,s1,s2⟩:=draw X hP hw hK hc pins σ H s I xs hq (hobj _ _ hit) ⟨_,_,he,rfl⟩;subst hP hw hK;have hl:=rv.length;rw[hl]at hx;subst hx;exact wpAny_pyNext_enum_endD D he (s1 _ hit) fun h1 hx=>⟨rfl,I.turnF (t':=s.toks) hf fun b o hb q=>hx b o (fun z=>hb (by simp[z])) q⟩
 self:=fun A i s Q E st h=>by
  obtain⟨⟨old,he⟩,_⟩:=st;exact wpAny_pyIter_enum he h
theorem HR{e it a:Addr}(hei:e≠it):Turn P w K (.Tuple elts x1 tpos) (Ite fun H xs=>SqL K H a xs) [e,it] e (tnE e it fun h i=>h.IsListIter it a i):=by
 refine zF (a:=a) hei (fun h i st=>?_) (fun h h' i st k=>st.at k) (fun X hK pins σ H s I xs ys h1 h2=>?_) fun X hP hw hK hc pins σ H s I xs hq hi he=>?_
 .obtain⟨o,q,_,d⟩:=st;exact⟨o,_,q,d⟩
 .subst hK;exact I.list_inj h1 h2
 .subst hP hw hK;obtain⟨its,rv,p,hz⟩:=I.list hq
  have ne:∀b,(∃o vs,s.heap.get? b=some o/\o.data=.fields vs)->a≠b:=fun b ⟨o,vs,q,d⟩ z=>by
   subst z;obtain⟨o',q',_,n,d'⟩:=p.isList;rw[q]at q';cases q';rw[d]at d';cases d'
  refine⟨its,[it,a],fun i h=>h.IsListIter it a i/\h.IsList a its.toArray,rv,?_,?_,fun i st=>⟨st,p.isList⟩,fun i h st=>st.1⟩
  .intro z;rcases List.mem_cons.mp z with z|z
   .exact hei z
   .exact ne e he (List.mem_singleton.mp z).symm
  .have:=Draws.list (prog:=X.prog) (w:=X.w) (A:=X.A.in1) (I.ok.hd hc) it a (ne it hi) its.toArray;simpa using this
theorem FW{e it a:Addr}(hei:e≠it):Turn P w K (.Tuple elts x1 tpos) (Ite fun H xs=>SqT K H a xs) [e,it] e (tnE e it fun h i=>h.IsTupleIter it a i):=by
 refine zF (a:=a) hei (fun h i st=>?_) (fun h h' i st k=>st.at k) (fun X hK pins σ H s I xs ys h1 h2=>?_) fun X hP hw hK hc pins σ H s I xs hq hi he=>?_
 .obtain⟨o,q,_,d⟩:=st;exact⟨o,_,q,d⟩
 .subst hK;exact I.tuple_inj h1 h2
 .subst hP hw hK;obtain⟨its,rv,p,hz⟩:=I.tuple hq;have pt:s.heap.IsTuple a its.toArray:=p
  have ne:∀b,(∃o vs,s.heap.get? b=some o/\o.data=.fields vs)->a≠b:=fun b ⟨o,vs,q,d⟩ z=>by
   subst z;obtain⟨o',q',_,n,d'⟩:=pt;rw[q]at q';cases q';rw[d]at d';cases d'
  refine⟨its,[it,a],fun i h=>h.IsTupleIter it a i/\h.IsTuple a its.toArray,rv,?_,?_,fun i st=>⟨st,pt⟩,fun i h st=>st.1⟩
  .intro z;rcases List.mem_cons.mp z with z|z
   .exact hei z
   .exact ne e he (List.mem_singleton.mp z).symm
  .have:=kS (prog:=X.prog) (w:=X.w) (A:=X.A.in1) (I.ok.hd hc) it a (ne it hi) its.toArray;simpa using this
end
section
variable{X:Cx}{elts:List Expr}{x1:Nat}{tpos:Pos}
noncomputable def aAA(K:Fg)(ta:TA):TI:=fun σ H R=>ta σ H fun vs H1=>∃a,vs=[.ref a]/\((∃xs,SqL K H1 a xs/\R (Ite fun H xs=>SqL K H a xs) H1)\/(∃xs,SqT K H1 a xs/\R (Ite fun H xs=>SqT K H a xs) H1))
theorem VD{a:Expr}{ta:TA}{p pos:Pos}(hg:Gl X "enumerate")(hm:X.mg "enumerate"=none)(ha:PA X [a] ta)(hs:starEach [a] X.env=[(false,eval a X.env)]:=by rfl):PI X (.Tuple elts x1 tpos) (.Call (.Name "enumerate" p) [a] [] pos) (aAA X.K ta):=by
 intro pins s σ H R I h;refine Call_ (kJ I hg hm boot_enumerate (J9 (thn (ha pos pins s σ H _ I h) fun us s1 ⟨vs,H1,I1,r1,q1⟩=>?_) hs rfl));obtain⟨l,e,q⟩:=q1;subst e;cases r1 with
 |cons r rr=>
  cases rr;cases (show _=Value.ref l from r)
  have fp:∀b∈[s1.heap.objs.size+1,s1.heap.objs.size],mR X pins H1 b:=fun b hb=>by
   rcases List.mem_cons.mp hb with rfl|hb
   .exact I1.fpOk (Z6 _) (I1.hok.fresh (Z6 _))
   .rw[List.mem_singleton.mp hb];exact I1.fpOk (A7 _) (I1.hok.fresh (A7 _))
  rcases q with⟨xs,hq,q⟩|⟨xs,hq,q⟩
  .obtain⟨its,rv,p,hz⟩:=I1.list hq;refine call_enumerate_list p.isList fun h' he hit hsz hk=>?_;refine wpAny_pyIter_enum he ?_;exact⟨_,_,_,_,H1,rfl,I1.kept (t':=s1.toks) hk,HR (a:=l) (Nat.succ_ne_self _),⟨⟨_,he⟩,hit⟩,fp,q⟩
  .obtain⟨its,rv,p,hz⟩:=I1.tuple hq;refine xN (show s1.heap.IsTuple l its.toArray from p) fun h' he hit hsz hk=>?_;refine wpAny_pyIter_enum he ?_;exact⟨_,_,_,_,H1,rfl,I1.kept (t':=s1.toks) hk,FW (a:=l) (Nat.succ_ne_self _),⟨⟨_,he⟩,hit⟩,fp,q⟩
end
noncomputable def yZ(ds:List PyData):List CD:=ds.zipIdx.map fun p=>.d (.tuple [.int (p.2:Nat),p.1])
noncomputable def tY(f:AF):AF:=fun γ M=>(f γ M).bind fun r=>match r.1 with
 |[.d x]=>(bF x).bind fun ds=>some (yZ ds,r.2)
 |_=>none
theorem LS{ds:List PyData}{i:Nat}{x:CD}(h:(yZ ds)[i]?=some x):∃d,ds[i]?=some d/\x=.d (.tuple [.int (i:Nat),d]):=by
 unfold yZ at h;rw[C0,List.getElem?_zipIdx]at h;cases e:ds[i]? with
 |none=>rw[e]at h;cases h
 |some d=>
  rw[e]at h;exact⟨d,rfl,by simpa using h.symm⟩
theorem ZH{K:Fg}{tA:TA}{fa:AF}(b:SA K tA fa):SI K (aAA K tA) (tY fa):=by
 intro γ M xs M' hh W H σ R G Rs k;obtain⟨⟨ys,M1⟩,h1,hh⟩:=aH hh;refine b _ _ _ _ h1 W H σ _ G Rs fun vs W1 H1 e1 G1 r1=>?_;revert hh;dsimp only;split
 .rename_i y;intro hh;obtain⟨ds,h2,hh⟩:=aH hh;cases hh;cases r1 with
  |cons r r'=>
   cases r';obtain⟨p,us,rfl,hs,hr⟩:=jI (show Rep K W1.F y _ from r) h2
   have gv:∀Sq:Hp->List V->Prop,(∀W2 M2 H2,W1.Ext W2->Good K W2 M2 H2->Sq H2 us)->GA K (Ite Sq) (yZ ds) W1:=fun Sq hS W2 M2 H2 e2 G2=>by
    have hq:=hS W2 M2 H2 e2 G2;refine⟨fun i x hx=>?_,us,hq,by rw[show(yZ ds).length=ds.length by simp[yZ],hr.length]⟩;obtain⟨d,hd,rfl⟩:=LS hx;obtain⟨u,hu,ru⟩:=Paired.get (eV hr) (show(ds.map CD.d)[i]?=some (.d d)by rw[C0,hd];rfl);refine⟨⟨us,u,hq,hu⟩,fun v H3 hy=>?_⟩;obtain⟨p',x',hn,rfl,rfl,hx'⟩:=hy;have:=hx' us hq;rw[hu]at this;cases this;obtain⟨e3,G3⟩:=G2.lay (o:=.tup [.int i,u]) hn;refine⟨_,e3,G3,⟨p',_,rfl,SqT.of aP,?_⟩⟩;exact⟨_,_,rfl,rfl,_,_,rfl,Rep.same e3.ff _ _ (show Rep K W2.F d u from(ru.up e2)),rfl⟩
   refine⟨p,rfl,?_⟩;rcases hs with hs|hs
   .exact .inl ⟨us,G1.fh.seq hs,k _ W1 H1 e1 G1 (gv _ fun W2 M2 H2 e2 G2=>G2.fh.seq (e2.ff.seq hs))⟩
   .exact .inr ⟨us,G1.fh.seqT hs,k _ W1 H1 e1 G1 (gv _ fun W2 M2 H2 e2 G2=>G2.fh.seqT (e2.ff.seqT hs))⟩
 .intro hh;cases hh
theorem IP{ι:Type}{K:Fg}{X:ι->Cx}{a:Expr}{fa:AF}{pos:Pos}{elts:List Expr}{x1:Nat}{tpos p:Pos}(hK:∀i,(X i).K=K)(hm:∀i,(X i).mg "enumerate"=none)(x:MA K X [a] fa)(hg:∀i,Gl (X i) "enumerate":=by intro _;rfl):MI K X (.Tuple elts x1 tpos) (.Call (.Name "enumerate" p) [a] [] pos) (tY fa):=by
 obtain⟨t,x1',x2⟩:=x.ex;exact⟨_,fun i=>by have:=VD (elts:=elts) (x1:=x1) (tpos:=tpos) (p:=p) (pos:=pos) (hg i) (hm i) (x1' i) (x.st.1 _);rw[hK i]at this;exact this,ZH x2⟩
end L2
namespace PySem
open PySem.Calls PyProof.Rows
noncomputable abbrev qC(x:Value)(f:Bool)(d:Addr)(i n ep:Nat)(p q:Value):Obj:=
 { cls:=.type "dict_itemiterator",dict:=none,data:=.fields #[x,.bool f,.ref d,.int i 0,.int n 0,.int ep 0,p,q],slots:=#[] }
noncomputable abbrev duo(e:DictEntry):Obj:={ cls:=.type "tuple",data:=.seq #[e.key,e.val] }
noncomputable def zB(h:Heap)(it d:Addr)(i n ep:Nat):Prop:=
 ∃x f p q,h.get? it=some (qC x f d i n ep p q)/\(x=.none\/∃a o,x=rawInt (a:Nat)/\h.get? a=some o)
noncomputable def Raw(h:Heap)(d:Addr)(es:Array DictEntry)(ep:Nat):Prop:=∃o,h.get? d=some o/\o.data=.dict es ep
theorem Raw.to{h h':Heap}{d:Addr}{es:Array DictEntry}{ep:Nat}(r:Raw h d es ep)(k:∀o,h.get? d=some o->h'.get? d=some o):Raw h' d es ep:=let⟨o,e,x⟩:=r;⟨o,k o e,x⟩
section
variable{prog:Program}{w:World}{A:Around}{E:Value->Shared->Prop}{s:Shared}{it d v:Addr}{es:Array DictEntry}{i n ep:Nat}
theorem HU(d:Addr)(hd:(d==sysModules)=false):MeetsIn prog w (Builtin.«dict.items» ⟨[.ref d],[]⟩) fun _ R s=>s.TypeIs (.ref d) "dict" /\
 R (.ok (.ret (.ref s.heap.objs.size))) { s with heap:=s.heap.push { cls:=.type "dict_items",data:=.fields #[.ref d] } }:=
 .of_wp fun A R s ⟨ty,h⟩=>by
  have q:Builtin.Dict.showsAll d=pure ():=by unfold Builtin.Dict.showsAll;rw[hd];rfl
  show wpAny _ _ (Builtin.Dict.noArgs _ _ >>= fun _=>_) _ _ s;unfold Builtin.Dict.noArgs;refine A1 (A1 (wpAny_notOrdered_dict ty (A4 (?_:wpAny _ _ (Builtin.Dict.showsAll d >>= _) _ _ s))));rw[q];exact A1 (A4 (A1 (C9 (A4 ⟨_,rfl,h⟩))))
theorem HB{Q:Value->Shared->Prop}(hv:s.heap.IsItemsView v d)(r:Raw s.heap d es ep)
 (h:Q (.ref s.heap.objs.size) { s with heap:=s.heap.push (qC .none false d 0 es.size ep .none .none) }):wpAny (model prog w) A (pyIter (.ref v)) Q E s:=by
 obtain⟨ov,v1,v2,v3⟩:=id hv;obtain⟨o,r1,r2⟩:=r;refine wpAny_pyIter_slot hv.typeIs F.slot_dict_items_iter (E4 F.slot_dict_items_iter hv.typeIs F.entry_dict_items_iter (A1 (A4 (A1 (?_:wpAny _ _ (field (.ref v) 0 >>= _) _ _ s)))) (F.args_dict_items_iter_1 _));refine A1 (F4 v1 v3 (x:=.ref d) rfl (A4 (A1 (?_:wpAny _ _ (Builtin.Dict_items.newIterator _ d) _ _ s))));refine A1 (wpAny_dictEntries r1 r2 (A1 (wpAny_dictEpoch r1 r2 ?_)));rw[show Builtin.Dict_items.ownsTuple "dict_itemiterator"=true from by decide];refine C9 (A4 ⟨_,rfl,_,_,⟨_,B1 _ rfl,rfl⟩,F.slot_dict_itemiterator_next.lookup,?_⟩) (by simp[sizeOk,Builtin.Dict_items.ownedTupleFields,sizeLine_eq]);exact h
theorem QM{e:DictEntry}{Q:Value->Shared->Prop}(st:zB s.heap it d i n ep)
 (h:∀h',zB h' it d i n ep->h'.get? s.heap.objs.size=some (duo e)->(∀b o,b≠it->s.heap.get? b=some o->h'.get? b=some o)->Q (.ref s.heap.objs.size) { s with heap:=h' }):
 wpAny (model prog w) A (Builtin.Dict_items.pairFromOwner (.ref it) 6 e.key e.val) Q E s:=by
 obtain⟨H,g,dr,tk,os⟩:=s;obtain⟨x,f,p,q,w0,hx⟩:=st;have lt:it<H.objs.size:=A6 w0;have new:(H.push (duo e)).get? H.objs.size=some (duo e):=B1 _ rfl;have old:∀b o,H.get? b=some o->(H.push (duo e)).get? b=some o:=fun b o=>A2 _;refine A1 (wpAny_newTuple ?_);show wpAny _ _ (Builtin.Dict_items.ownedTupleIsFree (.ref it) >>= _) _ _ ⟨H.push (duo e),g,dr,tk,os⟩;generalize H.push (duo e)=G at new old ⊢;have w1:=old it _ w0
 have fin:∀h' x' f' p' q',h'.get? it=some (qC x' f' d i n ep p' q')->(x'=.none\/∃a o,x'=rawInt (a:Nat)/\G.get? a=some o)->Heap.SameBut it G h'->Q (.ref H.objs.size) ⟨h',g,dr,tk,os⟩:=by
  intro h' x' f' p' q' k1 k2 k3;refine h h' ⟨x',f',p',q',k1,k2.imp id ?_⟩ (k3.extBut _ _ (J0 lt) new) fun b o nb e=>k3.extBut b o nb (old b o e);rintro⟨a,o,ea,eo⟩;by_cases c:a=it
  .exact⟨a,_,ea,c▸k1⟩
  .exact⟨a,o,ea,k3.extBut a o c eo⟩
 unfold Builtin.Dict_items.ownedTupleIsFree;refine A1 (A1 (F4 w1 rfl (x:=x) rfl ?_));rcases hx with rfl|⟨a,o,rfl,ea⟩
 .refine A4 (A1 (F4 w1 rfl (x:=p) rfl (A1 (F4 w1 rfl (x:=q) rfl (A1 (E8 w1 (by simp) fun h1 w2 k2=>?_))))));refine A1 (E8 w2 (by simp) fun h2 w3 k3=>A1 (E8 w3 (by simp) fun h3 w4 k4=>A1 (E8 w4 (by simp) fun h4 w5 k5=>?_)));exact A1 (wpAny_letGo (A4 (fin h4 _ _ _ _ w5 (.inr ⟨_,_,rfl,new⟩) (((k2.trans k3).trans k4).trans k5))))
 .have al:(loadIfAlive ((a:Int).toNat):Sem (Option Obj))=loadIfAlive a:=by rw[J6]
  show wpAny _ _ (loadIfAlive ((a:Int).toNat) >>= _) _ _ _;rw[al];refine A1 (W.kdx_alive (old a o ea) ?_);show wpAny _ _ (field (.ref it) 1 >>= _) _ _ _;refine A1 (F4 w1 rfl (x:=.bool f) rfl ?_);cases f
  .exact A1 (E8 w1 (by simp) fun h1 w2 k2=>A4 (A4 (fin h1 _ _ _ _ w2 (.inr ⟨a,o,rfl,old a o ea⟩) k2)))
  .exact A4 (A4 (fin G _ _ _ _ w1 (.inr ⟨a,o,rfl,old a o ea⟩) (Heap.SameBut.refl _ _)))
theorem GY{Q:Option Value->Shared->Prop}(hh:A.handled=none)(st:zB s.heap it d i es.size ep)(r:Raw s.heap d es ep)(ne:d≠it)
 (h1:∀e,es[i]?=some e->∀h',zB h' it d (i+1) es.size ep->h'.get? s.heap.objs.size=some (duo e)->(∀b o,b≠it->s.heap.get? b=some o->h'.get? b=some o)->Q (some (.ref s.heap.objs.size)) { s with heap:=h' })
 (h2:es[i]?=none->∀h',Heap.ExtBut it s.heap h'->Q none { s with heap:=h' }):wpAny (model prog w) A (pyNext (.ref it)) Q E s:=by
 obtain⟨H,g,dr,tk,os⟩:=s;obtain⟨x,f,p,q,w0,hx⟩:=st;obtain⟨od,r1,r2⟩:=r;have ty:Shared.TypeIs ⟨H,g,dr,tk,os⟩ (.ref it) "dict_itemiterator":=⟨_,w0,rfl⟩;have own:Builtin.Dict_items.ownsTuple "dict_itemiterator"=true:=by decide
 unfold pyNext;refine A1 (A0g (E6 ty F.slot_dict_itemiterator_next (E4 F.slot_dict_itemiterator_next ty F.entry_dict_itemiterator_next (A1 (A4 (A1 (A1 ?_)))) (F.args_dict_itemiterator_next_1 _))));refine A1 (A0d ty (A4 (A1 (wpAny_fieldsOf w0 rfl ?_))));rw[own];refine A1 (A4 (A1 (wpAny_dictEntries r1 r2 ?_)));rw[B2 (by simp)];refine A1 (A4 (A1 (wpAny_dictEpoch r1 r2 ?_)));rw[B2 (by simp)];refine A4 ?_;have pl:(if (i:Int)<0 then none else es[(i:Int).toNat]?)=es[i]?:=by rw[B2 (by omega),J6]
 simp only[pl];cases c:es[i]? with
 |some e=>
  refine A1 (A1 (A0d ty (A4 (A1 (wpAny_isOneOf_itemiter ty ?_)))));refine A1 (E8 w0 (k:=3) (x:=rawInt ((i:Int)+1)) (by simp) fun h' w1 k1=>A1 (F7 ?_))
  have st1:zB h' it d (i+1) es.size ep:=by
   refine⟨x,f,p,q,w1,hx.imp id fun⟨a,o,ea,eo⟩=>?_⟩;by_cases c:a=it
   .exact⟨a,_,ea,c▸w1⟩
   .exact⟨a,o,ea,k1.extBut a o c eo⟩
  have ty1:Shared.TypeIs ⟨h',g,dr,tk,os⟩ (.ref it) "dict_itemiterator":=⟨_,w1,rfl⟩;refine A1 (wpAny_isOneOf_itemiter ty1 (A1 (wpAny_isOneOf_itemiter ty1 (QM (e:=e) st1 fun h'' st2 t2 k2=>?_))));have sz:h'.objs.size=H.objs.size:=k1.1;refine A4 ⟨_,rfl,A4 ?_⟩;rw[sz]at t2 ⊢;exact h1 e c h'' st2 t2 fun b o nb eb=>k2 b o nb (k1.extBut b o nb eb)
 |none=>
  refine A1 (A1 (A0d ty (A4 (A1 (S9 w0 (i:=2) (x:=.none) rfl (by simp) (A1 ?_))))));simp only[newExc,newTuple];refine A1 (C9 (A1 (m:=firstArgMember _ _) (wpAny_of_eq (a:=Value.none) (by simp only[firstArgMember];rfl) (C9 ?_ (by size_fits)))) (by size_fits));simp only[raiseNew];refine A1 (wpAny_handled ?_);rw[show A.in1.handled=none from hh];refine A1 (A4 (wpAny_throw ?_));refine A1 (U0 (b:=true) (T:="StopIteration") ⟨_,B1 _ rfl,rfl⟩ isSubtype_stop ?_);exact A4 (h2 c _ (((J1 ..).extBut.push _).push _))
end
structure Handed(es:Array DictEntry)(lo:Addr)(h:Heap)(as:List Addr):Prop where
 rise:as.Pairwise (·<·)
 above:∀a∈as,lo<a
 duos:∀(j:Nat)(a:Addr),as[j]?=some a->∃e,es[j]?=some e/\h.get? a=some (duo e)
theorem Handed.to{es:Array DictEntry}{lo lo':Addr}{h h':Heap}{as:List Addr}(g:Handed es lo h as)(l:lo'<=lo)(k:∀a o,lo<a->h.get? a=some o->h'.get? a=some o):Handed es lo' h' as:=
 ⟨g.rise,fun a ha=>Nat.lt_of_le_of_lt l (g.above a ha),fun j a ha=>let⟨e,x,y⟩:=g.duos j a ha;⟨e,x,k a _ (g.above a (L7 ha)) y⟩⟩
theorem Handed.more{es:Array DictEntry}{lo a:Addr}{h:Heap}{as:List Addr}{e:DictEntry}(g:Handed es lo h as)(up:∀b∈as,b<a)(hl:lo<a)(he:es[as.length]?=some e)(ha:h.get? a=some (duo e)):Handed es lo h (as++[a]):=by
 refine⟨List.pairwise_append.mpr ⟨g.rise,List.pairwise_singleton _ _,fun b hb c hc=>by rw[List.mem_singleton.mp hc];exact up b hb⟩,fun b hb=>?_,fun j b hj=>?_⟩
 .exact(List.mem_append.mp hb).elim (g.above b) fun q=>List.mem_singleton.mp q▸hl
 .rw[List.getElem?_append]at hj;split at hj
  .exact g.duos j b hj
  .have z:j-as.length=0:=by
    have:=(List.getElem?_eq_some_iff.mp hj).1;simp at this;omega
   rw[z]at hj;cases hj;exact⟨e,by rw[show j=as.length by omega];exact he,ha⟩
noncomputable abbrev rowOf(acc:Array Value)(c:Nat):Obj:={ cls:=.type "list",dict:=none,data:=.seq acc c,slots:=#[] }
section
variable{prog:Program}{w:World}{A:Around}{E:Value->Shared->Prop}{s:Shared}{S I d v:Addr}{es:Array DictEntry}{ep:Nat}{R:Result->Shared->Prop}{res:Value}
theorem HZ(hh:A.handled=none)(hI:S<I)(dS:d≠S)(dI:d≠I)(hn:es.size<=sizeLine):
 ∀(m i:Nat)(h:Heap)(tk c:Nat)(acc:Array Value)(as:List Addr),i+m=es.size->zB h I d i es.size ep->Raw h d es ep->h.get? S=some (rowOf acc c)->acc.toList=as.map Value.ref->as.length=i->Handed es I h as->I<h.objs.size->
  (∀h' tk acc c as,(∀b o,b≠S->b≠I->h.get? b=some o->h'.get? b=some o)->h'.get? S=some (rowOf acc c)->as.length=es.size->Handed es I h' as->acc.toList=as.map Value.ref->R (.ok (.ret res)) { s with heap:=h',toks:=tk })->
  codeAny (model prog w) A (.builtin "list.extend.loop" ⟨[.ref S,.ref I,res],[]⟩) R { s with heap:=h,toks:=tk }:=by
 intro m
 induction m using Nat.strongRecOn with
 |_ m ih=>
  intro i h tk c acc as em st r hS ea el hG lI fin;have nS:S≠I:=B7 hI;refine U8 PySem.F.entry_extend_loop ?_;rw[S6 Y2 _];refine A1 (GY (A:=A.in1) (s:={ s with heap:=h,toks:=tk }) hh st r dI (fun e he h1 st1 t1 k1=>?_) fun he h1 k1=>?_)
  .have mi:i<es.size:=(Array.getElem?_eq_some_iff.mp he).1;have za:acc.size=i:=by rw[<- C4,ea,A3,el]
   have lS:S<h.objs.size:=A6 hS;have hS1:=k1 S _ nS hS;have sv:∀b o,b≠S->h1.get? b=some o->(h1.update S (Obj.mapSeq (·.push (Value.ref h.objs.size)))).get? b=some o:=fun b o nb e=>(U3 _ _ (O7 nb)).trans e;have hS2:=F5 (Obj.mapSeq (·.push (Value.ref h.objs.size))) hS1 rfl;have tp:=sv _ _ (J0 lS) t1;refine A1 (wpAny_updateSeq (f:=(·.push (Value.ref h.objs.size))) hS1 rfl (A4 ⟨A0h Y2 _,?_⟩) (by rw[za];omega) (by show(acc.push _).size<=_;rw[Array.size_push,za];omega))
   refine ih (m-1) (by omega) (i+1) _ tk _ (acc.push (Value.ref h.objs.size)) (as++[h.objs.size]) (by omega) ?_ (r.to fun o e=>sv d o dS (k1 d o dI e)) hS2 (by rw[Array.toList_push,ea,J8];rfl) (by rw[B9,el];rfl)
    ((hG.to (A7 _) fun a o la e=>sv a o (J0 (O8 hI la)) (k1 a o (J0 la) e)).more (fun b hb=>?_) lI (by rw[el];exact he) tp) (O8 lI (A6 tp))
    fun h' tk' acc' c' as' k=>fin h' tk' acc' c' as' fun b o b1 b2 e=>k b o b1 b2 (sv b o b1 (k1 b o b2 e))
   .obtain⟨x,f,p,q,w1,hx⟩:=st1;refine⟨x,f,p,q,sv _ _ (O7 nS) w1,hx.imp id fun⟨a,o,e1,e2⟩=>?_⟩;by_cases q:a=S
    .subst q;exact⟨a,_,e1,hS2⟩
    .exact⟨a,o,e1,sv a o q e2⟩
   .obtain⟨j,hj⟩:=List.mem_iff_getElem?.mp hb;obtain⟨_,_,y⟩:=hG.duos j b hj;exact A6 y
  .have mi:es.size<=i:=Array.getElem?_eq_none_iff.mp he;exact A4 (fin h1 tk acc c as (fun b o _ b2 e=>k1 b o b2 e) (k1 S _ nS hS) (by omega) (hG.to (A7 _) fun a o la e=>k1 a o (J0 la) e) ea)
theorem LB{Q:List Value->Shared->Prop}(hh:A.handled=none)(hv:s.heap.IsItemsView v d)(r:Raw s.heap d es ep)(hn:es.size<=sizeLine)
 (hQ:∀(h':Heap)(tk:Nat)(as:List Addr),(∀b o,s.heap.get? b=some o->h'.get? b=some o)->as.length=es.size->Handed es s.heap.objs.size h' as->Q (as.map Value.ref) { s with heap:=h',toks:=tk }):
 wpAny (model prog w) A (collect (.ref v)) Q E s:=by
 obtain⟨H,g,dr,tk,os⟩:=s;have lv:v<H.objs.size:=let⟨_,ho,_⟩:=hv;A6 ho;have ld:d<H.objs.size:=let⟨_,ho,_⟩:=r;A6 ho;refine A1 (wpAny_runValue (U8 entry_proto_collect' ?_));rw[S6 PySem.F.plain_proto_collect _];refine A1 (m:=newList []) (C9 (A4 ⟨A0h PySem.F.plain_list_iadd _,U8 entry_list_iadd' ?_⟩));rw[S6 PySem.F.plain_list_iadd _];have p0:∀b o,H.get? b=some o->(H.push (rowOf #[] 0)).get? b=some o:=fun b o e=>A2 _ e;have r0:=(B1 H (o:=rowOf #[] 0) rfl);have z0:(H.push (rowOf #[] 0)).objs.size=H.objs.size+1:=L8 ..;show wpAny _ A.in1 (Builtin.List.listExtendWith (.ref H.objs.size) (.ref v) (.ref H.objs.size)) _ _ ⟨H.push (rowOf #[] 0),g,dr,tk,os⟩;generalize H.push (rowOf #[] 0)=G at p0 r0 z0 ⊢;have lG:H.objs.size<G.objs.size:=by rw[z0];exact L6 _
 have hv1:G.IsItemsView v d:=let⟨o,a,b⟩:=hv;⟨o,p0 _ _ a,b⟩;refine A1 (Z7 (T:="dict_items") (hv1.typeIs (s:=⟨G,g,dr,tk,os⟩)) ?_);rw[show Builtin.List.listSameRef (.ref H.objs.size) (.ref v)=false from by simp[Builtin.List.listSameRef,Nat.ne_of_gt lv]];refine A1 (HB (s:=⟨G,g,dr,tk,os⟩) hv1 (r.to fun o e=>p0 d o e) (A1 (F7 (W.kdx_hint (r:=v) (let⟨o,a,b,_⟩:=hv1;⟨o,A2 _ a,b⟩) ?_))));have p1:∀b o,G.get? b=some o->(G.push (qC .none false d 0 es.size ep .none .none)).get? b=some o:=fun b o e=>A2 _ e;have r1:=B1 G (o:=qC .none false d 0 es.size ep .none .none) rfl;show wpAny _ _ _ _ _ ⟨G.push (qC .none false d 0 es.size ep .none .none),g,dr,tk,os⟩;generalize G.push (qC .none false d 0 es.size ep .none .none)=F at p1 r1 ⊢
 have go:∀h c,(∀b o,b≠H.objs.size->F.get? b=some o->h.get? b=some o)->h.get? H.objs.size=some (rowOf #[] c)->
  codeAny (model prog w) A (.builtin "list.extend.loop" ⟨[.ref H.objs.size,.ref G.objs.size,.ref H.objs.size],[]⟩) (fun r s'=>match r with|.ok (.ret v)=>wpAny (model prog w) A (match v with|.ref a=>load a >>= fun o=>(match o.data with|.seq xs _=>pure xs.toList|_=>unsupported "internal:collect")|_=>unsupported "internal:collect") Q E s'|.ok _=>False|.error e=>E e s') ⟨h,g,dr,tk,os⟩:=fun h c k hS=>
  HZ (s:=⟨H,g,dr,tk,os⟩) (S:=H.objs.size) (I:=G.objs.size) hh lG (B7 ld) (B7 (O8 ld lG)) hn es.size 0 h tk c #[] [] (Nat.zero_add _) ⟨_,_,_,_,k _ _ (J0 lG) r1,.inl rfl⟩ (r.to fun o e=>k _ _ (B7 ld) (p1 _ _ (p0 _ _ e))) hS rfl rfl
   ⟨.nil,(fun _ q=>nomatch q),fun j a q=>by simp at q⟩ (A6 (k _ _ (J0 lG) r1)) fun h' tk' acc c as k' hS' el hG ea=>A1 (wpAny_load hS' (A4 (by
    rw[ea];exact hQ h' tk' as (fun b o e=>k' b o (B7 (A6 e)) (B7 (O8 (A6 e) lG)) (k b o (B7 (A6 e)) (p1 b o (p0 b o e)))) el (hG.to (Y9 lG) fun _ _ _ e=>e))))
 have q0:=p1 _ _ r0;have q1:=F5 (Obj.mapSeq (·.push Value.none)) q0 rfl;refine wpAny_ite_split (fun _=>A1 (A0c (A1 (A1 (wpAny_updateSeq (f:=(·.push Value.none)) q0 rfl (wpAny_updateSeq (hz:=by seq_fits) q1 rfl (A4 ⟨A0h Y2 _,go _ _ (fun b o nb e=>?_) (F5 (Obj.mapSeq (·.pop)) q1 rfl)⟩))))))) fun _=>A4 ⟨A0h Y2 _,go _ _ (fun _ _ _ e=>e) q0⟩;rw[U3 _ _ (O7 nb),U3 _ _ (O7 nb)];exact e
end
end PySem
namespace PySem
open PySem.Calls PyProof.Rows
section
variable{prog:Program}{w:World}{A:Around}{E:Value->Shared->Prop}{s:Shared}{it d:Addr}{es:Array DictEntry}{i ep:Nat}
theorem yM{Q:Value->Shared->Prop}(hd:(d==sysModules)=false)(ty:s.TypeIs (.ref d) "dict")(r:Raw s.heap d es ep)
 (h:Q (.ref s.heap.objs.size) { s with heap:=s.heap.push { cls:=.type "dict_keyiterator",data:=.fields #[.ref d,.int 0 0,.int es.size 0,.int ep 0] } }):wpAny (model prog w) A (pyIter (.ref d)) Q E s:=by
 obtain⟨o,r1,r2⟩:=r;have q:Builtin.Dict.showsAll d=pure ():=by unfold Builtin.Dict.showsAll;rw[hd];rfl
 refine wpAny_pyIter_slot ty F.slot_dict_iter (E4 F.slot_dict_iter ty F.entry_dict_iter (A1 (A1 (wpAny_notOrdered_dict ty (A4 (?_:wpAny _ _ (Builtin.Dict.showsAll d >>= _) _ _ s))))) (F.args_dict_iter_1 _));rw[q];refine A1 (A4 (A1 (wpAny_dictEntries r1 r2 (A1 (wpAny_dictEpoch r1 r2 (A1 (C9 (A4 ⟨_,rfl,_,_,⟨_,B1 _ rfl,rfl⟩,F.slot_dict_keyiterator_next.lookup,?_⟩))))))));exact h
theorem oQ{Q:Option Value->Shared->Prop}(hh:A.handled=none)(st:s.heap.IsKeyIter it d i es.size ep)(r:Raw s.heap d es ep)
 (h1:∀e,es[i]?=some e->∀h',h'.IsKeyIter it d (i+1) es.size ep->Heap.SameBut it s.heap h'->Q (some e.key) { s with heap:=h' })
 (h2:es[i]?=none->∀h',Heap.ExtBut it s.heap h'->Q none { s with heap:=h' }):wpAny (model prog w) A (pyNext (.ref it)) Q E s:=by
 obtain⟨o,w0,c0,f0⟩:=id st;obtain⟨od,r1,r2⟩:=r;have ty:=st.typeIs;have own:Builtin.Dict_items.ownsTuple "dict_keyiterator"=false:=by decide
 unfold pyNext;refine A1 (A0g (E6 ty F.slot_dict_keyiterator_next (E4 F.slot_dict_keyiterator_next ty F.entry_dict_keyiterator_next (A1 (A4 (A1 (A1 ?_)))) (F.args_dict_keyiterator_next_1 _))));refine A1 (A0i ty (A4 (A1 (wpAny_fieldsOf w0 f0 ?_))));rw[own];refine A1 (A4 (A1 (wpAny_dictEntries r1 r2 ?_)));rw[B2 (by simp)];refine A1 (A4 (A1 (wpAny_dictEpoch r1 r2 ?_)));rw[B2 (by simp)];refine A4 ?_;have pl:(if (i:Int)<0 then none else es[(i:Int).toNat]?)=es[i]?:=by rw[B2 (by omega),J6]
 simp only[pl];cases c:es[i]? with
 |some e=>
  refine A1 (A1 (A0i ty (A4 (A1 (wpAny_isOneOf_keyiter ty ?_)))));refine A1 (S9 w0 (i:=1) (x:=rawInt ((i:Int)+1)) f0 (by simp) ?_)
  have st1:(s.heap.update it (Obj.mapFields (·.setIfInBounds 1 (rawInt ((i:Int)+1))))).IsKeyIter it d (i+1) es.size ep:=
   ⟨_,F5 _ w0 (Y0 (S3 f0 _)),(Obj.cls_mapFields ..).trans c0,by rw[S3 f0];simp[rawInt]⟩
  refine A1 (F7 (A1 (wpAny_isOneOf_keyiter (s:={ s with heap:=s.heap.update it (Obj.mapFields (·.setIfInBounds 1 (rawInt ((i:Int)+1)))) }) st1.typeIs ?_)));exact A4 (A4 ⟨_,rfl,A4 (h1 e c _ st1 (J1 ..))⟩)
 |none=>
  refine A1 (A1 (A0i ty (A4 (A1 (S9 w0 (i:=0) (x:=.none) f0 (by simp) (A1 ?_))))));simp only[newExc,newTuple];refine A1 (C9 (A1 (m:=firstArgMember _ _) (wpAny_of_eq (a:=Value.none) (by simp only[firstArgMember];rfl) (C9 ?_ (by size_fits)))) (by size_fits));simp only[raiseNew];refine A1 (wpAny_handled ?_);rw[show A.in1.handled=none from hh];refine A1 (A4 (wpAny_throw ?_));refine A1 (U0 (b:=true) (T:="StopIteration") ⟨_,B1 _ rfl,rfl⟩ isSubtype_stop ?_);exact A4 (h2 c _ (((J1 ..).extBut.push _).push _))
theorem zU{h h':Heap}{it d:Addr}{i n ep:Nat}(x:h.IsKeyIter it d i n ep)(k:∀o,h.get? it=some o->h'.get? it=some o):h'.IsKeyIter it d i n ep:=let⟨o,ho,r⟩:=x;⟨o,k o ho,r⟩
theorem MR(hh:A.handled=none)(ne:d≠it):
 Walks prog w A it [it,d] [it] es.size (fun i v=>(es[i]?).map (·.key)=some v) (fun i h=>h.IsKeyIter it d i es.size ep/\Raw h d es ep) where
 sub:=fun b hb=>by simp at hb;simp[hb]
 frame:=fun _ _ _ st hk=>⟨zU st.1 fun o e=>hk it (by simp) o e,st.2.to fun o e=>hk d (by simp) o e⟩
 item:=fun i s Q E hi st hQ=>by
  have hx:es[i]?=some es[i]:=E3 hi;refine oQ hh st.1 st.2 (fun e he h' st' sb=>?_) fun hn=>by rw[hx]at hn;cases hn
  exact hQ _ h' s.toks (by rw[he];rfl) ⟨st',st.2.to fun o e=>sb.extBut d o ne e⟩ fun b o hb e=>sb.extBut b o (fun h=>hb (by simp[h])) e
 done:=fun s Q E st hQ=>by
  have hx:es[es.size]?=none:=L3 (A7 _);refine oQ hh st.1 st.2 (fun e he=>by rw[hx]at he;cases he) fun _ h' sb=>hQ h' s.toks fun b o hb e=>sb b o (fun h=>hb (by simp[h])) e
 self:=fun _ _ _ _ st hQ=>wpAny_pyIter_keyiter st.1 hQ
theorem TK{o:Obj}(hd:(d==sysModules)=false)(cl:o.cls=.type "dict")(dt:o.data=.dict es ep):PySem.W.KdlSrc prog w "dict" d d es.size (fun i v=>(es[i]?).map (·.key)=some v) (fun h=>h.get? d=some o) where
 type:=fun s ho=>⟨o,ho,cl⟩
 there:=fun h ho=>⟨A6 ho,A6 ho⟩
 keep:=fun h h' ho k=>k d (.inl rfl) o ho
 notList:=by decide
 notTuple:=by decide
 hint:=fun A E s Q ho q=>PySem.W.kdl_hint_dict ⟨o,ho,cl⟩ q
 iter:=fun A s hh ho=>⟨_,fun i h=>h.IsKeyIter s.heap.objs.size d i es.size ep/\Raw h d es ep,(fun E Q q=>yM hd ⟨o,ho,cl⟩ ⟨o,ho,dt⟩ q),MR hh (B7 (A6 ho)),⟨_,B1 _ rfl,rfl,rfl⟩,o,A2 _ ho,dt⟩
end
end PySem
namespace PySem.W
open PySem PySem.Calls PyProof.Rows PyProof.V PySem.Spec
section
variable{prog:Program}{w:World}{A:Around}{E:Value->Shared->Prop}{s:Shared}{h₀:Heap}{L:Addr}{m:Str->Option Value}{news:List (Addr×Obj)}{vs:List Value}
theorem l2_tail{Q:Value->Shared->Prop}(F:Fr h₀ L s.heap m)(N:News h₀ L s.heap news)(h2:2<=vs.length)(h64:vs.length<64)
 (h:∀D e1 h',Fr h₀ L h' m->News h₀ L h' ((D,seqObj "list" #[] e1)::news)->(∀q∈news,q.1<D)->
  wpAny (model prog w) A.in1 (keyKind' vs.toArray) (fun κ s'=>(kas_sort vs.length).kasWp (kas_ask prog w A.in1 κ vs) (fun p s''=>KasFin h₀ L m D e1 (p.toList.map fun i=>vs.getD i Value.none) (fun s3=>Q (.ref D) s3) s'') s') (fun _ _=>False) { s with heap:=h' }):
 wpAny (model prog w) A (do let l <- newList vs;let _ <- holding [l] (call (.builtin "list.sort") [l]);ret l) (fun fin s'=>∃v,fin=.done (.ret v)/\Q v s') E s:=by
 refine A1 (wpAny_newList ?_ (by rw[F8];omega));have hoL:(s.heap.push (seqObj "list" vs.toArray 0)).get? s.heap.objs.size=some (seqObj "list" vs.toArray 0):=B1 _ rfl;have keep:∀b o,s.heap.get? b=some o->(s.heap.push (seqObj "list" vs.toArray 0)).get? b=some o:=fun b o q=>A2 _ q;have hL:L<s.heap.objs.size:=F.ns.lt;show wpAny _ _ _ _ _ { s with heap:=s.heap.push (seqObj "list" vs.toArray 0) };refine A1 (F7 (E4 slot_list_sort ⟨_,hoL,rfl⟩ entry_list_sort ?body (args_list_sort _)))
 case body=>
  refine kat_list_sort (s:={ s with heap:=s.heap.push (seqObj "list" vs.toArray 0) }) (F.kept keep) (N.grown keep) hoL (J0 hL) (Heap.get?_none_of_le (C7 F.above (Y9 hL)))
   (fun p hp=>B7 (A6 (N p hp).1)) h2 h64 fun e1 h' F' N'=>?_
  refine F9 (h _ e1 h' F' N' fun q hq=>A6 (N q hq).1) (fun κ s' hk=>?_) fun _ _ x=>x;rw[kat_ask_eq rfl]at hk ⊢;exact kas_wp_mono hk fun p s'' hk'=>hk'.mono fun s3 hq=>⟨_,rfl,A4 ⟨_,rfl,hq⟩⟩
end
end PySem.W
namespace L2
variable{A:Around}
open PySem PySem.Spec PyProof.Rows
section
variable{X:Cx}{pins:List (Addr×Obj)}{σ:St}{H:Hp}{s:Shared}{E:Value->Shared->Prop}
noncomputable def nY(its:List Value):Sem PySem.Fin:=do let l <- newList its;let _ <- holding [l] (call (.builtin "list.sort") [l]);ret l
noncomputable def GM(K:Fg)(vs:List V)(H:Hp)(Q:VK):Prop:=
 (∃rows:List (List PyData),aJ K H (rows.map .tuple) vs/\2<=rows.length/\rows.length<64/\(∀r∈rows,r.all SeqAt.shaped=true/\iW r=true)/\(jU rows=true\/mJ rows=true)/\(∀i j,i<rows.length->j<rows.length->(jM (rows.getD i []) (rows.getD j [])).isSome=true) /\
  ∀l,H l=none->Q (.ref l) (upd H l (.lst ((fD (lX rows) rows.length).map fun i=>vs.getD i .non))))\/(vs.length<2/\∀l,H l=none->Q (.ref l) (upd H l (.lst vs)))
theorem aDw{rows:List (List PyData)}{vs:List V}{its:List Value}{Q:VK}(hu:A.in1.units+64<cLine)(I:Inv X pins σ H s)(rv:aU vs its)(hrep:aJ X.K H (rows.map .tuple) vs)(h2:2<=rows.length)(h64:rows.length<64)
 (hsh:∀r∈rows,r.all SeqAt.shaped=true/\iW r=true) (hknd:jU rows=true\/mJ rows=true) (hlt:∀i j,i<rows.length->j<rows.length->(jM (rows.getD i []) (rows.getD j [])).isSome=true)
 (q:∀l,H l=none->Q (.ref l) (upd H l (.lst ((fD (lX rows) rows.length).map fun i=>vs.getD i .non)))):
 wpAny (model X.prog X.w) A (nY its) (fun fin s'=>∃v,fin=.done (.ret v)/\∃x H',Inv X pins σ H' s'/\RelV x v/\Q x H') E s:=by
 obtain⟨as,hr⟩:=aJ.reads I _ vs its hrep rv;have hlen:its.length=rows.length:=by rw[ReadsAll.len hr,A3]
 obtain⟨m,F⟩:=I.fr;have N:News X.base X.env.locals s.heap (jS X.base s.heap X.env.locals):=EC;unfold nY;refine PySem.W.l2_tail (Q:=fun v s'=>∃x H',Inv X pins σ H' s'/\RelV x v/\Q x H') F N (by omega) (by omega) fun D e1 h' F' N' hD=>?_
 have kp:∀(h1:Heap),Fr X.base X.env.locals h1 m->(∀q∈jS X.base s.heap X.env.locals,h1.get? q.1=some q.2)->∀b o,b≠X.env.locals->s.heap.get? b=some o->h1.get? b=some o:=fun h1 G1 M1 b o hb e=>by
  cases z:X.base.get? b with
  |some v=>
   have:=I.bk b v z;rw[e]at this;cases this;exact G1.keep b _ z
  |none=>exact M1 (b,o) (jH hb z e)
 have k':=kp h' F' (fun q hq=>(N' q (A8 _ hq)).1)
 have hsz:s.heap.get? D=none:=by
  have hN:=N' _ A9;cases e:s.heap.get? D with
  |none=>rfl
  |some o=>exact absurd (hD (D,o) (jH hN.2.1 hN.2.2 e)) (J2 _)
 have seqL:∀b o vs n,s.heap.get? b=some o->o.data=.seq vs n->b≠X.env.locals:=fun b o vs n e d z=>by
  obtain⟨o',es,ep,x1,x2,_⟩:=F.ns;subst z;rw[e]at x1;cases x1;rw[d]at x2;cases x2
 have onl:iW (rows.map .tuple)=true:=by
  clear hrep hr hlen q hknd hlt h2 h64
  induction rows with
  |nil=>rfl
  |cons x r ih=>
   show(iW x&&iW (r.map .tuple))=true;rw[(hsh x A9).2,ih fun y hy=>hsh y (A8 _ hy)];rfl
 have hr':ReadsAll h' its (rows.map .tuple) as:=NJ (fun b o vs n e d=>k' b o (seqL b o vs n e d) e) _ _ _ onl hr;refine LJ (s:={ s with heap:=h' }) hr' (by omega) hknd ?_;rw[hlen];refine KS.wp (lt:=lX rows) (n:=rows.length) (fun i j C hi hj c=>?_) (fun p hp'=>?_) ((KC (by omega)).ks (lt:=lX rows))
 .have at_:∀i,i<rows.length->∃bs,Reads h' (its.getD i .none) (.tuple (rows.getD i [])) bs:=fun i hi=>by
   obtain⟨bs,x⟩:=ReadsAll.at i hr' (by simpa using hi)
   have:(rows.map PyData.tuple).getD i .none=.tuple (rows.getD i []):=by
    rw[D0,C0,D0,B6 hi];rfl
   rw[this]at x;exact⟨bs,x⟩
  obtain⟨b1,r1⟩:=at_ i hi;obtain⟨b2,r2⟩:=at_ j hj
  have mem:∀i,i<rows.length->rows.getD i []∈rows:=fun i hi=>by
   rw[D0,B6 hi];exact U9 hi
  have hd:jU rows=true->∀r∈rows,r.head?.all isI=true:=fun z r hr=>by
   unfold jU at z;have:=List.all_eq_true.mp z r hr;cases r with
   |nil=>rfl
   |cons d ds=>cases d<;>first|rfl|exact absurd this (by intro z;cases z)
  obtain⟨c0,hc0⟩:=Option.isSome_iff_exists.mp (hlt i j hi hj);have hc:lX rows i j=c0:=by unfold lX;rw[hc0];rfl
  rw[hc]at c;exact aCh (s:={ s with heap:=h' }) hu r1 r2 (hsh _ (mem i hi)).1 (hsh _ (mem j hj)).1 hc0 (fun z=>⟨hd z _ (mem i hi),hd z _ (mem j hj)⟩) c
 .obtain⟨e,_⟩:=hp';subst e;refine PySem.W.KasFin.intro F' N' (.head fun q hq=>B7 (hD q hq)) fun h'' c F'' N''=>?_;have k'':=kp h'' F'' (fun q hq=>(N'' q (A8 _ hq)).1);refine⟨.ref D,upd H D (.lst ((fD (lX rows) rows.length).map fun i=>vs.getD i .non)),?_,rfl,q D (I.hok.none hsz)⟩;refine I.laidL k'' (fun m' hm'=>?_) hsz ⟨?_,_,c,yY rv _,(N'' _ A9).1⟩
  .rw[<- IJ F.ns hm'];exact F''.ns
  .rw[A3,(jR (lX rows) (by omega)).length_eq,Z0];have:64<=sizeLine:=by decide
   omega
theorem aAK{A:Around}{vs:List V}{its:List Value}{Q:VK}(I:Inv X pins σ H s)(rv:aU vs its)(h2:vs.length<2)(q:∀l,H l=none->Q (.ref l) (upd H l (.lst vs))):
 wpAny (model X.prog X.w) A (nY its) (fun fin s'=>∃v,fin=.done (.ret v)/\∃x H',Inv X pins σ H' s'/\RelV x v/\Q x H') E s:=by
 have hl:=rv.length;have hz:its.length<=sizeLine:=by rw[F8];omega
 unfold nY;refine A1 (wpAny_newList ?_ hz);refine A1 (F7 ?_);have gD:(s.heap.push { cls:=.type "list",data:=.seq its.toArray }).get? s.heap.objs.size=some (seqObj "list" its.toArray 0):=B1 _ rfl;refine E4 slot_list_sort ⟨_,gD,rfl⟩ entry_list_sort (uM gD (by omega) ⟨_,rfl,?_⟩) (args_list_sort _)
 obtain⟨c,gg⟩:∃c,(sortedHeap (s.heap.push { cls:=.type "list",data:=.seq its.toArray }) s.heap.objs.size its its.toArray).get? s.heap.objs.size=some (seqObj "list" its.toArray c):=by
  unfold sortedHeap;have g1:=get?_update_seq gD (fun _=>#[]);have g2:=A2 (seqObj "tuple" its.toArray 0) g1;have g3:=A2 (seqObj "list" #[] 0) g2;exact⟨_,get?_update_seq g3 (fun _=>its.toArray)⟩
 refine A4 ⟨_,rfl,.ref s.heap.objs.size,upd H s.heap.objs.size (.lst vs),I.laid (t':=s.toks) (fun b o e=>?_) (A7 _) ⟨by omega,its,c,rv,gg⟩,rfl,q _ (I.hok.fresh (A7 _))⟩
 .have hb:b≠s.heap.objs.size:=B7 (A6 e);unfold sortedHeap;rw[Heap.get?_update_ne _ _ _ _ hb];refine A2 _ (A2 _ ?_);rw[Heap.get?_update_ne _ _ _ _ hb];exact A2 _ e
theorem SJ{vs:List V}{its:List Value}{Q:VK}(hu:A.in1.units+64<cLine)(I:Inv X pins σ H s)(rv:aU vs its)(h:GM X.K vs H Q):
 wpAny (model X.prog X.w) A (nY its) (fun fin s'=>∃v,fin=.done (.ret v)/\∃x H',Inv X pins σ H' s'/\RelV x v/\Q x H') E s:=by
 rcases h with⟨rows,a,b,c,d,e,f,g⟩|⟨a,b⟩
 .exact aDw hu I rv a b c d e f g
 .exact aAK I rv a b
noncomputable def qX:List (V×V)->Hp->(List V->Hp->Prop)->Prop
 |[],H,k=>k [] H
 |(x,y)::r,H,k=>∀p,H p=none->qX r (upd H p (.tup [x,y])) fun vs H2=>k (.ref p::vs) H2
theorem Inv.trackT{e:Addr}{vs:List V}{its:List Value}{n:Nat}(I:Inv X pins σ H s)(he:s.heap.get? e=some { cls:=.type "tuple",data:=.seq its.toArray n })(rv:aU vs its)(hz:vs.length<=sizeLine)(hn:H e=none)(h0:X.s₀.heap.get? e=none)(hp:∀p∈X.pn++pins,p.1≠e):
 Inv X pins σ (upd H e (.tup vs)) s:=by
 have ne:∀b u,H b=some u->b≠e:=fun b u z=>aO z hn
 have nd:∀b (o:Obj),s.heap.get? b=some o->(∀vs n,o.data≠.seq vs n)->b≠e:=fun b o q z w=>by
  subst w;rw[he]at q;cases q;exact z _ _ rfl
 refine⟨I.ok,I.os,I.bare,⟨I.base.keep,I.base.slot,fun b o q n hx=>?_,I.base.there,fun b xs q=>?_,fun b o u q=>?_,fun b ps q=>?_⟩,I.loc,I.cell,?_,fun x c q=>?_,fun p h=>?_,fun b u q=>?_,I.len⟩
 .rw[aL (fun z=>by rw[z,h0]at q;cases q)];exact I.base.free b o q n hx
 .have:=I.base.tups b xs q;rw[aL (ne _ _ this)];exact this
 .have:=I.base.frzs b o u q;rw[aL (ne _ _ this)];exact this
 .obtain⟨more,this⟩:=I.base.tbls b ps q;exact⟨more,by rw[aL (ne _ _ this)];exact this⟩
 .obtain⟨m,⟨o,es,ep,ho,hd,_⟩,_⟩:=I.loc;rw[aL (nd _ o ho fun vs n z=>by rw[hd]at z;cases z)];exact I.free
 .obtain⟨v,o,ho,hd⟩:=I.cell x c q;rw[aL (nd _ o ho fun vs n z=>by rw[hd]at z;cases z)];exact I.freeC x c q
 .obtain⟨q1,q2,q3⟩:=I.pin p h;exact⟨q1,by rw[aL (hp p h)];exact q2,q3⟩
 .by_cases hb:b=e
  .subst hb;rw[aP]at q;cases q;exact⟨hz,its,rv,⟨_,he,rfl,n,rfl⟩⟩
  .rw[aL hb]at q;exact(I.hok b u q).stay (fun _ _ _ z=>z) (fun c z=>by rw[aL (ne _ _ z)];exact z) fun c xs z=>by rw[aL (ne _ _ z)];exact z
theorem JX:∀{ps:List (V×V)}{us:List (Value×Value)}{as:List Addr}{H:Hp}{k:List V->Hp->Prop},Inv X pins σ H s->Paired (fun p q=>RelV p.1 q.1/\RelV p.2 q.2) ps us->as.length=us.length->as.Pairwise (·<·)->(∀a∈as,H a=none)->
 (∀(j:Nat)(a:Addr),as[j]?=some a->∃p,us[j]?=some p/\s.heap.get? a=some { cls:=.type "tuple",data:=.seq #[p.1,p.2] })->(∀a∈as,X.s₀.heap.get? a=none/\∀p∈X.pn++pins,p.1≠a)->qX ps H k->∃H2,Inv X pins σ H2 s/\k (as.map .ref) H2
 |[],us,as,H,k=>fun I r hl _ _ _ _ h=>by
  cases r;have:as=[]:=List.eq_nil_of_length_eq_zero hl;subst this;exact⟨H,I,h⟩
 |(x,y)::ps,us,as,H,k=>fun I r hl hp hn hg h0 h=>by
  cases r with
  |@cons _ q _ us' r1 r2=>
   match as,hl,hp,hn,hg,h0 with
   |a::as',hl,hp,hn,hg,h0=>
    obtain⟨p,e1,e2⟩:=hg 0 a rfl;have e1:some q=some p:=e1;cases e1;obtain⟨p1,p2⟩:=List.pairwise_cons.mp hp;have I1:=I.trackT (e:=a) (vs:=[x,y]) (its:=[q.1,q.2]) e2 (.cons r1.1 (.cons r1.2 .nil)) (by show 2<=sizeLine;rw[F8];decide) (hn a A9) (h0 a A9).1 (h0 a A9).2;have hl':as'.length=us'.length:=Nat.succ.inj hl;obtain⟨H2,I2,hk⟩:=JX (as:=as') (k:=fun vs H2=>k (.ref a::vs) H2) I1 r2 hl' p2 (fun b hb=>by rw[aL (J0 (p1 b hb))];exact hn b (A8 _ hb)) (fun j b hb=>hg (j+1) b hb) (fun b hb=>h0 b (A8 _ hb)) (h a (hn a A9));exact⟨H2,I2,hk⟩
noncomputable def QR(K:Fg)(td:TE):TE:=fun σ H Q=>td σ H fun x H1=>∃a kvs,x=.ref a/\H1 a=some (.dT kvs) /\
 ∀bs:List Addr,Paired (fun(b:Addr)(kv:List Key×V)=>H1 b=some (.tup (kv.1.map kV))) bs kvs->qX ((bs.zip kvs).map fun p=>(.ref p.1,p.2.2)) H1 fun vs H2=>GM K vs H2 Q
end
section
variable{X:Cx}{o:Expr}{td:TE}{pos apos cpos p:Pos}
theorem KT.addrs{H:Hp}:∀{kvs:List (List Key×V)}{xs:List (List Key×Addr×Value)},KT H kvs xs->Paired (fun(b:Addr)(kv:List Key×V)=>H b=some (.tup (kv.1.map kV))) (xs.map fun x=>x.2.1) kvs /\
 Paired (fun(p:V×V)(q:Value×Value)=>RelV p.1 q.1/\RelV p.2 q.2) (((xs.map fun x=>x.2.1).zip kvs).map fun p=>(V.ref p.1,p.2.2)) (xs.map fun x=>(Value.ref x.2.1,x.2.2))
 |_,_,.nil=>⟨.nil,.nil⟩
 |_,_,.cons r1 r2=>⟨.cons r1.2.1 (KT.addrs r2).1,.cons ⟨rfl,r1.2.2⟩ (KT.addrs r2).2⟩
theorem SM(hu:X.A.in1.in1.units+64<cLine)(hc:X.calm=true)(hg:Gl X "sorted")(hm:X.mg "sorted"=none)(ho:PE X o td)(hb:attributeBase o "items" X.env (eval o X.env)=eval o X.env)(hline:(apos.endLine==cpos.line)=true):
 PE X (.Call (.Name "sorted" p) [.Call (.Attribute o "items" apos) [] [] cpos] [] pos) (QR X.K td):=by
 intro pins s σ H Q I h;refine U2 (kJ I hg hm boot_sorted ?_ (by decide) (by decide));refine Z4 ?_ rfl rfl;show wpAny _ _ (spliced ((false,eval (.Call (.Attribute o "items" apos) [] [] cpos) X.env)::[])) _ _ s;refine Calls.spliced_cons ?_;refine wpAny_Call_method (T:="dict") (id:="dict.items") hb rfl hline PySem.F.plainAttrs_dict PySem.F.slot_dict_items PySem.F.type_dict_items (thn (ho pins s σ H _ I h) fun u s1 ⟨x,H1,I1,rx,a,kvs,ex,ea,q⟩=>?_);subst ex;obtain rfl:u=Value.ref a:=rx;obtain⟨z,hs,xs,r,od,es,ep,h1,h2,h3,h4,h5⟩:=(show bT X.prog X.w H1 s1.heap a (.dT kvs)from I1.hok a _ ea);have hT:s1.TypeIs (.ref a) "dict":=⟨od,h1,h2.1⟩;refine⟨hT,fun b e=>by cases e;exact⟨od,h1,h2.2.1⟩,?_⟩;show wpAny _ _ (callWith cpos (.builtin "dict.items") [.ref a] [] []) _ _ s1;refine method_meetsIn PySem.F.slot_dict_items PySem.F.entry_dict_items rfl (PySem.evalArgs_none ⟨rfl,hT,PySem.F.args_dict_items_1 _,_,HU a hs,hT,?_⟩);refine Calls.spliced_nil ?_;have I2:Inv X pins σ H1 { s1 with heap:=s1.heap.push { cls:=.type "dict_items",data:=.fields #[.ref a] } }:=I1.kept (t':=s1.toks) fun b o e=>A2 _ e;have hv:(s1.heap.push { cls:=.type "dict_items",data:=.fields #[.ref a] }).IsItemsView s1.heap.objs.size a:=⟨_,B1 _ rfl,rfl,rfl⟩;have hat:Raw (s1.heap.push { cls:=.type "dict_items",data:=.fields #[.ref a] }) a es ep:=⟨od,A2 _ h1,h3⟩;have hzs:es.size=xs.length:=by rw[<- C4,h4,A3]
 have hl:kvs.length=xs.length:=Paired.len r;refine Calls.call_function_entry kind_sorted plain_sorted entry_sorted (args_sorted1 _) ?_;unfold Builtin.«sorted»;refine A1 (m:=checkCount "sorted" 1 1 _) (A4 ?_);refine A1 (LB (A:=X.A.in1) (I.ok.hd hc) hv hat (by rw[hzs,<- hl];exact z) fun h' tk as hk hal hG=>?_);have I3:Inv X pins σ H1 { s1 with heap:=h',toks:=tk }:=I2.kept hk;obtain⟨pk1,pk2⟩:=KT.addrs r;have hge:∀b∈as,s1.heap.objs.size<b:=fun b hb=>O8 (show s1.heap.objs.size<(s1.heap.push { cls:=.type "dict_items",data:=.fields #[.ref a] }).objs.size by rw[L8];exact L6 _) (hG.above b hb)
 obtain⟨H2,I4,hk2⟩:=JX (as:=as) (s:={ s1 with heap:=h',toks:=tk }) I3 pk2 (by rw[hal,hzs,A3]) hG.rise (fun b hb=>I1.hok.fresh (Y9 (hge b hb))) (fun j b hj=>by
  obtain⟨e,e1,e2⟩:=hG.duos j b hj;refine⟨(e.key,e.val),?_,e2⟩;rw[<- E1,h4,C0]at e1;rw[C0];cases c:xs[j]?<;>rw[c]at e1<;>cases e1;rfl) (fun b hb=>⟨Heap.get?_none_of_le (C7 I1.sz (Y9 (hge b hb))),fun p hp=>B7 (O8 (A6 (I1.pin p hp).1) (hge b hb))⟩) (q _ pk1)
 exact SJ (A:=X.A.in1) hu I4 (its:=as.map Value.ref) (by
  clear hk2 hG hal hge
  induction as with
  |nil=>exact .nil
  |cons b as ih=>exact .cons rfl ih) hk2
end
section
variable{K:Fg}{td:TE}{fo:EF}
theorem Good.adopt{W:Wd}{M:Sto}{H:Hp}{b:Addr}{us:List V}(G:Good K W M H)(hb:H b=some (.tup us)):W.Ext { W with F:=upd W.F b (.tup us) }/\Good K { W with F:=upd W.F b (.tup us) } M H:=by
 have ff:gV W.F (upd W.F b (.tup us)):=fun c o hc=>by
  by_cases q:c=b
  .subst q;have:=G.fh _ _ hc;rw[hb]at this;cases this;exact aP
  .rw[aL q];exact hc
 have e:W.Ext { W with F:=upd W.F b (.tup us) }:=⟨ff,A7 _,fun _ _=>rfl⟩;refine⟨e,fun c o hc=>?_,G.n,fun i c hi hc=>?_,G.inj⟩
 .have hc:upd W.F b (.tup us) c=some o:=hc;by_cases q:c=b
  .subst q;rw[aP]at hc;cases hc;exact hb
  .rw[aL q]at hc;exact G.fh c o hc
 .obtain⟨h1,o,h2,h3⟩:=G.cs i c hi hc
  have ne:W.α i≠b:=fun q=>by
   rw[q,hb]at h2;cases h2;cases c<;>exact False.elim h3
  exact⟨by show upd W.F b (.tup us) (W.α i)=none;rw[aL ne];exact h1,o,h2,h3.up e⟩
noncomputable def DR(kv:List Key×PyData):List PyData:=[.tuple (kv.1.map rG),kv.2]
noncomputable def rS:List (List Key×CD)->Option (List (List Key×PyData))
 |[]=>some []
 |(k,.d x)::r=>(rS r).bind fun q=>some ((k,x)::q)
 |_=>none
noncomputable def eU(rows:List (List PyData)):Option (List PyData):=if sortable rows=true then some (BY rows)else if rows.length<2 then some (rows.map .tuple)else none
noncomputable def sN(fo:EF):EF:=fun γ M=>(fo γ M).bind fun o=>match o.1 with
 |.c i=>match o.2[i]? with
  |some (.dt kvs)=>(rS kvs).bind fun ds=>(eU (ds.map DR)).bind fun r=>some (.d (.list r),o.2)
  |_=>none
 |_=>none
theorem AL{H:Hp}:∀ks:List Key,aJ K H (ks.map rG) (ks.map kV)
 |[]=>rfl
 |k::ks=>⟨_,_,rfl,by cases k<;>rfl,AL ks⟩
theorem tE{M:Sto}{H:Hp}:∀{bs:List Addr}{kvs:List (List Key×V)}{W:Wd},Good K W M H->Paired (fun(b:Addr)(kv:List Key×V)=>H b=some (.tup (kv.1.map kV))) bs kvs->∃W',W.Ext W'/\Good K W' M H/\Paired (fun(b:Addr)(kv:List Key×V)=>W'.F b=some (.tup (kv.1.map kV))) bs kvs
 |_,_,W,G,.nil=>⟨W,.refl _,G,.nil⟩
 |_,_,W,G,.cons h1 h2=>by
  obtain⟨e1,G1⟩:=G.adopt h1;obtain⟨W2,e2,G2,p2⟩:=tE G1 h2;exact⟨W2,e1.trans e2,G2,.cons (e2.ff _ _ aP) p2⟩
theorem EL{M:Sto}:∀{bs:List Addr}{ds:List (List Key×PyData)}{kvs:List (List Key×V)}{W:Wd}{H:Hp}{k:List V->Hp->Prop},Good K W M H->Paired (fun(b:Addr)(kv:List Key×V)=>W.F b=some (.tup (kv.1.map kV))) bs kvs->Paired (fun(p:List Key×PyData)(q:List Key×V)=>p.1=q.1/\Rep K W.F p.2 q.2) ds kvs->
 (∀vs W' H',W.Ext W'->Good K W' M H'->aJ K W'.F ((ds.map DR).map .tuple) vs->k vs H')->qX ((bs.zip kvs).map fun p=>(.ref p.1,p.2.2)) H k
 |_,_,_,W,H,k,G,.nil,.nil=>fun c=>c [] W H (.refl _) G rfl
 |b::bs,(ks,d)::ds,(ks',v)::kvs,W,H,k,G,.cons h1 h2,.cons q1 q2=>fun c=>by
  obtain⟨rfl,rd⟩:=(show ks=ks'/\Rep K W.F d v from q1);intro p hp;obtain⟨e1,G1⟩:=G.lay (o:=.tup [.ref b,v]) hp;refine EL G1 (Paired.mapP h2 fun _ _ r=>e1.ff _ _ r) (Paired.mapP q2 fun _ _ r=>⟨r.1,Rep.same e1.ff _ _ r.2⟩) fun vs W2 H2 e2 G2 r2=>?_;refine c _ W2 H2 (e1.trans e2) G2 ⟨_,_,rfl,⟨p,_,rfl,SqT.of (e2.ff _ _ aP),?_⟩,r2⟩;exact⟨_,_,rfl,⟨b,_,rfl,SqT.of ((e1.trans e2).ff _ _ h1),AL ks⟩,_,_,rfl,Rep.same (e1.trans e2).ff _ _ rd,rfl⟩
theorem tD{W:Wd}:∀{kvs:List (List Key×CD)}{ds:List (List Key×PyData)}{us:List (List Key×V)},rS kvs=some ds->PKV K W kvs us->Paired (fun(p:List Key×PyData)(q:List Key×V)=>p.1=q.1/\Rep K W.F p.2 q.2) ds us
 |[],_,_,h,.nil=>by cases h;exact .nil
 |(k,.d x)::r,_,_,h,.cons r1 r2=>by
  obtain⟨q,h1,h⟩:=aH (show(rS r).bind _=_ from h);cases h;exact .cons r1 (tD h1 r2)
 |(k,.c _)::r,_,_,h,_=>by cases h
theorem PX(a:SE K td fo):SE K (QR K td) (sN fo):=by
 intro γ M x M' hh W H σ Q G R k;obtain⟨⟨o,M1⟩,h1,hh⟩:=aH hh;revert hh;dsimp only;split
 .rename_i i;split
  .rename_i kvs hk;intro hh;obtain⟨ds,h2,hh⟩:=aH hh;obtain⟨r,h3,hh⟩:=aH hh;cases hh;refine a _ _ _ _ h1 W H σ _ G R fun v W1 H1 e1 G1 r1=>?_;obtain⟨us,hu,pu⟩:=G1.dtAt hk;refine⟨_,us,r1.2,hu,fun bs pb=>?_⟩;obtain⟨W2,e2,G2,p2⟩:=tE G1 pb;refine EL G2 p2 (Paired.mapP (tD h2 pu) fun _ _ r=>⟨r.1,Rep.same e2.ff _ _ r.2⟩) fun vs W3 H3 e3 G3 r3=>?_;have e13:=(e1.trans e2).trans e3;unfold eU at h3;by_cases hs:sortable (ds.map DR)=true
   .rw[B0 hs]at h3;cases h3;obtain⟨s1,s2,s3,s4,s5⟩:=tT hs;refine .inl ⟨ds.map DR,aJ.same G3.fh _ _ r3,s1,s2,s3,s4,s5,fun l hl=>?_⟩;obtain⟨e4,G4⟩:=G3.lay (o:=.lst ((fD (lX (ds.map DR)) (ds.map DR).length).map fun i=>vs.getD i .non)) hl;exact k _ _ _ (e13.trans e4) G4 ⟨l,_,rfl,SqL.of aP,aJ.same e4.ff _ _ (wL r3 _ (aAr (by omega)))⟩
   .rw[B2 hs]at h3;by_cases hl2:(ds.map DR).length<2
    .rw[B0 hl2]at h3;cases h3;refine .inr ⟨by rw[<- r3.length,A3];exact hl2,fun l hl=>?_⟩;obtain⟨e4,G4⟩:=G3.lay (o:=.lst vs) hl;exact k _ _ _ (e13.trans e4) G4 ⟨l,_,rfl,SqL.of aP,aJ.same e4.ff _ _ r3⟩
    .rw[B2 hl2]at h3;cases h3
  .intro hh;cases hh
 .intro hh;cases hh
theorem PH{ι:Type}{X:ι->Cx}{o:Expr}{f:EF}{pos apos cpos p:Pos}(hK:∀i,(X i).K=K)(hu:∀i,(X i).A.in1.in1.units+64<cLine)(hc:∀i,(X i).calm=true)(hm:∀i,(X i).mg "sorted"=none)(x:ME K X o f)(hg:∀i,Gl (X i) "sorted":=by intro _;rfl)
 (hb:∀env:Env,attributeBase o "items" env (eval o env)=eval o env:=by intro _;rfl) (hline:(apos.endLine==cpos.line)=true:=by rfl):ME K X (.Call (.Name "sorted" p) [.Call (.Attribute o "items" apos) [] [] cpos] [] pos) (sN f):=by
 obtain⟨t,x1,x2⟩:=x.ex;exact⟨_,fun i=>by have:=SM (p:=p) (pos:=pos) (apos:=apos) (cpos:=cpos) (hu i) (hc i) (hg i) (hm i) (x1 i) (hb _) hline;rw[hK i]at this;exact this,PX x2⟩
end
section
variable{K:Fg}
theorem Good.freezeL{W:Wd}{M:Sto}{H:Hp}{i:Nat}{xs:List CD}{ds:List PyData}(G:Good K W M H)(hi:M[i]?=some (.lst xs))(hd:lV xs=some ds):
 ∃W',W.Ext W'/\Good K W' (M.set i .dead) H/\W'.α i=W.α i/\bR K W' (.d (.list ds)) (.ref (W.α i)):=by
 obtain⟨vs,hv,rv⟩:=G.lstAt hi;obtain⟨hn,_⟩:=G.cs i _ hi (by intro q;cases q);have lt:i<M.length:=(List.getElem?_eq_some_iff.mp hi).1;have e:W.Ext { W with F:=upd W.F (W.α i) (.lst vs) }:=⟨gV.upd hn,A7 _,fun _ _=>rfl⟩
 have at_:∀j d,(M.set i .dead)[j]?=some d->d≠.dead->j≠i/\M[j]?=some d:=fun j d h hd=>by
  by_cases q:i=j
  .subst q;rw[J3 lt]at h;exact absurd (D9 h).symm hd
  .rw[F6 q]at h;exact⟨fun z=>q z.symm,h⟩
 refine⟨_,e,⟨fun c o hc=>?_,by show W.n=_;rw[G.n,O6],fun j d hj hd=>?_,fun j k d1 d2 hj hk e1 e2 he=>?_⟩,rfl,⟨_,vs,rfl,SqL.of aP,aJ.same e.ff _ _ (eF hd rv)⟩⟩
 .have hc:upd W.F (W.α i) (.lst vs) c=some o:=hc;by_cases q:c=W.α i
  .subst q;rw[aP]at hc;cases hc;exact hv
  .rw[aL q]at hc;exact G.fh c o hc
 .obtain⟨q,h⟩:=at_ j d hj hd;obtain⟨k1,u,k2,k3⟩:=G.cs j d h hd;have ne:W.α j≠W.α i:=fun z=>q (G.inj j i d _ h hi hd (by intro z;cases z) z);exact⟨by show upd W.F (W.α i) (.lst vs) (W.α j)=none;rw[aL ne];exact k1,u,k2,k3.up e⟩
 .exact G.inj j k d1 d2 (at_ j d1 hj e1).2 (at_ k d2 hk e2).2 e1 e2 he
noncomputable def jK(f:EF):EF:=fun γ M=>(f γ M).bind fun r=>match r.1 with
 |.c i=>match r.2[i]? with
  |some (.lst xs)=>(lV xs).bind fun ds=>some (.d (.list ds),r.2.set i .dead)
  |_=>none
 |.d x=>some (.d x,r.2)
 |_=>none
theorem MB{t:TE}{f:EF}(a:SE K t f):SE K t (jK f):=by
 intro γ M x M' hh W H σ Q G R k;obtain⟨⟨o,M1⟩,h1,hh⟩:=aH hh;revert hh;dsimp only;split
 .rename_i i;split
  .rename_i xs hx;intro hh;obtain⟨ds,h2,hh⟩:=aH hh;cases hh;refine a _ _ _ _ h1 W H σ _ G R fun v W1 H1 e1 G1 r1=>?_;obtain⟨W2,e2,G2,_,r2⟩:=G1.freezeL hx h2;rw[r1.2];exact k _ W2 H1 (e1.trans e2) G2 r2
  .intro hh;cases hh
 .intro hh;cases hh;exact a _ _ _ _ h1 W H σ _ G R k
 .intro hh;cases hh
theorem zJ{ι:Type}{X:ι->Cx}{e:Expr}{f:EF}(x:ME K X e f):ME K X e (jK f):=by
 obtain⟨t,x1,x2⟩:=x.ex;exact⟨t,x1,MB x2⟩
noncomputable def xY:FN:=fun xs M=>match xs with
 |[.d a]=>(bF a).bind fun ds=>some (.c M.length,M++[.lst (ds.map .d)])
 |[.c i]=>match M[i]? with
  |some (.lst ys)=>some (.c M.length,M++[.lst ys])
  |_=>none
 |_=>none
theorem PV:PN K (HG K) xY:=by
 intro xs M z M' h W H vs Q G r k;unfold xY at h;split at h
 .rename_i a;obtain⟨ds,h1,h⟩:=aH h;cases h;rcases r with _|⟨r1,_|_⟩;obtain⟨p,us,rfl,hs,hr⟩:=jI (show Rep K W.F a _ from r1) h1;refine⟨p,us,rfl,hs.elim (fun q=>.inl (G.fh.seq q)) (fun q=>.inr (G.fh.seqT q)),fun l hl=>?_⟩;exact k _ (W.more l) _ (W.ext_more l) (G.new hl (c:=.lst (ds.map .d)) (o:=.lst us) (eV hr)) G.newV
 .rename_i i;split at h
  .rename_i ys hy;cases h;rcases r with _|⟨r1,_|_⟩;obtain⟨us,hv,hr⟩:=G.lstAt hy;refine⟨_,us,by rw[r1.2],.inl (SqL.of hv),fun l hl=>?_⟩;exact k _ (W.more l) _ (W.ext_more l) (G.new hl (c:=.lst ys) (o:=.lst us) hr) G.newV
  .cases h
 .cases h
theorem YG{ι:Type}{X:ι->Cx}(hK:∀i,(X i).K=K):QN K X (.type "list") xY:=⟨_,fun i=>aAF (hK i),PV⟩
noncomputable def eqC(neg:Bool):F2:=fun x y M=>(snap 5 M x).bind fun a=>(snap 5 M y).bind fun b=>if (SeqAt.shaped a&&SeqAt.shaped b)=true then some (.d (.bool (if neg then !PyData.eqv a b else PyData.eqv a b)),M)else none
theorem aBV{neg:Bool}:P2 K (GI K neg) (eqC neg):=by
 intro x y M z M' h W H v u Q G rx ry k;obtain⟨a,h1,h⟩:=aH h;obtain⟨b,h2,h⟩:=aH h;by_cases hs:(SeqAt.shaped a&&SeqAt.shaped b)=true
 .rw[B0 hs]at h;cases h;rw[B5]at hs;exact⟨a,b,qY G 5 x a v h1 rx,qY G 5 y b u h2 ry,hs.1,hs.2,k _ W H (.refl _) G rfl⟩
 .rw[B2 hs]at h;cases h
noncomputable def eqY(neg:Bool):F2:=HC (eqX neg) (eqC neg)
theorem aEX{ι:Type}{X:ι->Cx}(hK:∀i,(X i).K=K)(hu:∀i,(X i).A.units+64<cLine):Q2 K X (compareOp .Eq) (eqY false):=⟨_,fun i=>(kEq (hK i) (hu i)).or (show OpR (X i) (compareOp .Eq) (GI K false)by have:=TL (X:=X i) (hu i);rw[hK i]at this;exact this),P2.or TV aBV⟩
end
section
variable{X:Cx}{pins:List (Addr×Obj)}{σ:St}{H:Hp}{s:Shared}{a:Addr}{y v:V}{u r:Value}{A:Around}{E:Value->Shared->Prop}
theorem LD{H':Hp}{Q:Unit->Shared->Prop}(hu:A.units<cLine)(I:Inv X pins σ H s)(g:vH H a y v H')(ry:RelV y u)(rv:RelV v r)(h:∀s',Inv X pins σ H' s'->Q () s'):
 wpAny (model X.prog X.w) A (dictSet a u r) Q E s:=by
 rcases g with⟨kvs,k,e,ey,l,eH⟩|⟨kvs,k,b,e,ey,eb,l,eH⟩
 .subst ey eH;obtain⟨z,hd,vs,rel,dd⟩:=aAE I.hok e;have hz:vs.length<=sizeLine:=by rw[<- rel.length];exact z
  have hl:(putK kvs k v).length<=sizeLine:=by have:=jO kvs k v;omega
  refine wpAny_dictSet_pairs (hsz:=hz) (EA ry) dd fun h' dd' hs=>h _ ?_;have he:∃q,h'.get? a=some q:=let⟨q,_,_,hq,_⟩:=dd';⟨q,hq⟩;exact qL I (by rw[e];exact True.intro) hs he (QC hl hd (rel.put k rv) dd')
 .subst ey eH;cases (show u=Value.ref b from ry);obtain⟨z,hd,xs,rel,dd⟩:=aAa I.hok e;have hz:xs.length<=sizeLine:=by rw[<- A0e rel];exact z
  have hl:(putK kvs k v).length<=sizeLine:=by have:=jO kvs k v;omega
  refine wpAny_dictSet_heap (hsz:=hz) hu (vJ I.hok eb) dd fun h' dd' hs=>h _ ?_;obtain⟨q,es,ep,hq,h2,h3,h4,_,h5⟩:=dd';refine qL I (by rw[e];exact True.intro) hs ⟨q,hq⟩ ⟨hl,hd,_,(rel.put k eb rv).keeps fun c ys ec=>?_,q,es,ep,hq,h2,h3,h4,h5⟩;rw[aL (aAs ec e (fun z=>nomatch z))];exact ec
end
section
variable{prog:Program}{w:World}{A:Around}{R:Result->Shared->Prop}{s:Shared}
theorem XN{kx vx target iter:Expr}{ifs:List Expr}{scope:Scope}{pos:Pos}{it:Value}{D:Addr}{env:Env}(I:Nat->Shared->Prop)
 (turn:∀n s,I n s->wpAny (model prog w) A (pyNext it) (fun r s1=>(r=none/\R (.ok .next) s1)\/∃v,r=some v /\
  wpAny (model prog w) A (letOwnedTupleGo target it v) (fun _ s2=>wpAny (model prog w) A (assign target env v) (fun _ s3=>
   wpAny (model prog w) A (forIn ifs true fun c r=>if r=true then(do
    let ok <- isTrue c env (eval c env)
    pure (ForInStep.yield ok))else pure (ForInStep.yield r)) (fun ok s4=>
     (ok=true/\wpAny (model prog w) A (eval kx env) (fun kv s5=>wpAny (model prog w) A (eval vx env) (fun vv s6=>wpAny (model prog w) A (dictSet D kv vv) (fun _ s7=>∃m,m<n/\I m s7) (fun _ _=>False) s6) (fun _ _=>False) s5) (fun _ _=>False) s4) \/
     (ok=false/\∃m,m<n/\I m s4)) (fun _ _=>False) s3) (fun _ _=>False) s2) (fun _ _=>False) s1) (fun _ _=>False) s)
 (n:Nat) (h:I n s):codeAny (model prog w) A (.compLoop (.DictComp kx vx [⟨target,iter,ifs,0⟩] scope pos) 0 it (.ref D) env) R s:=by
 refine codeAny_loop rfl I (fun n s hI=>?_) n h
 show wpAny _ A ((compTurn (.DictComp kx vx [⟨target,iter,ifs,0⟩] scope pos) 0 it (.ref D) env).onRaise fun x=>do
  noteFrame x env
  theTreesLotGoes x) _ _ s
 refine wpAny_noted ?_;rw[compTurn_dict];refine A1 (A0f (A1 (F9 (turn n s hI) (fun r s1 h1=>?_) fun _ _ f=>f.elim)));rcases h1 with⟨rfl,h1⟩|⟨v,rfl,h1⟩
 .exact A4 h1
 .refine A1 (F9 h1 (fun _ s2 h2=>?_) fun _ _ f=>f.elim);refine A1 (F9 h2 (fun _ s3 h3=>?_) fun _ _ f=>f.elim);refine A1 (F9 h3 (fun ok s4 h4=>?_) fun _ _ f=>f.elim);rcases h4 with⟨rfl,h4⟩|⟨rfl,h4⟩
  .refine A1 (A1 (F9 h4 (fun kv s5 h5=>?_) fun _ _ f=>f.elim));refine A1 (F7 (F9 h5 (fun vv s6 h6=>?_) fun _ _ f=>f.elim));refine A1 (A0f (F7 (F9 h6 (fun _ s7 h7=>A4 ⟨rfl,h7⟩) fun _ _ f=>f.elim)))
  .exact A4 ⟨rfl,h4⟩
end
noncomputable def tDc(o0:HO)(cap:List (Option Nat))(wi:TI)(g:TG)(tc:TT)(tk tv:TE):TE:=fun σ H Q=>wi σ H fun J H1=>∀D,H1 D=none->∃W:Nat->Nat->St->Hp->Prop,(∃m,W 0 m (uJ cap σ) (upd H1 D o0))/\∀i m σ' H',W i m σ' H'->
 (J.stop i H'/\Q (.ref D) H') \/
 (J.go i H'/\∃N:St->Hp->Prop,(∀σ2 H2,N σ2 H2->∃m',m'<m/\W (i+1) m' σ2 H2)/\∀x H2,J.yld i H' x H2->g x σ' H2 fun σ2 H3=>tc σ2 H3 fun b H4=>(b=true/\tk σ2 H4 fun y H5=>tv σ2 H5 fun v H6=>∃H7,vH H6 D y v H7/\N σ2 H7)\/(b=false/\N σ2 H4))
section
variable{X:Cx}{N':List Str}{cap:List (Option Nat)}{scope:Scope}
theorem aBA{o0:HO}(ho:o0=.dT []\/o0=.dK []){kx vx tg iter:Expr}{ifs:List Expr}{pos:Pos}{wi:TI}{g:TG}{tc:TT}{tk tv:TE}(hu:X.A.units<cLine)(hc:X.calm=true)(S:nR X N' cap scope)(hi:PI X tg iter wi)
 (hg:∀C s H fp pn,PG (dR X N' scope C s H fp pn) tg g) (hif:∀C s H fp pn,EH (dR X N' scope C s H fp pn) ifs tc) (hk:∀C s H fp pn,PE (dR X N' scope C s H fp pn) kx tk) (hv:∀C s H fp pn,PE (dR X N' scope C s H fp pn) vx tv)
 (hs:∀x,foldedSetIterable iter X.env x=pure x) {pins:List (Addr×Obj)} {s:Shared} {σ:St} {H:Hp} {Q:VK} (I:Inv X pins σ H s) (h:tDc o0 cap wi g tc tk tv σ H Q) {use:Option (Value->Sem Unit)} {QQ:Value->Shared->Prop}
 (post:∀(D C:Addr)(H':Hp)(s':Shared),(∃m,s'.heap.Ns C m)->(∀h',Heap.SameBut C s'.heap h'->Inv X pins σ H' { s' with heap:=h' })->mR X pins H' C->Q (.ref D) H'->compPost (model X.prog X.w) X.A X.xe use QQ (.ref D) C (.ok .next) s'):
 wpAny (model X.prog X.w) X.A (comprehension (.DictComp kx vx [⟨tg,iter,ifs,0⟩] scope pos) scope X.env (firstIterPos [⟨tg,iter,ifs,0⟩] pos) newDict false (firstIter [⟨tg,iter,ifs,0⟩] X.env) use) QQ X.xe s:=by
 refine wpAny_comprehension_free (e:=.DictComp kx vx [⟨tg,iter,ifs,0⟩] scope pos) (g:=⟨tg,iter,ifs,0⟩) (gs:=[]) rfl hs (wU (S.cells I.ok)) S.kind S.names ?_;refine thn (hi pins s σ H _ I h) fun v s1 h1=>thn h1 fun itv s2 h2=>?_;obtain⟨it,fp,tn,J,H2,e,I2,T,st2,f2,hD⟩:=h2;subst e
 have fplt2:∀b∈fp,b<s2.heap.objs.size:=fun b hb=>by
  obtain⟨o,e,_⟩:=T.obj _ _ st2 b hb;exact A6 e
 refine C9 ?_;obtain⟨W,⟨m0,w0⟩,turn⟩:=hD s2.heap.objs.size (I2.hok.fresh (A7 _));generalize hDn:s2.heap.objs.size=D at *
 have I3:Inv X pins σ (upd H2 D o0) { s2 with heap:=s2.heap.push { cls:=.type "dict",data:=.dict #[] } }:=by
  refine I2.laid (t':=s2.toks) (fun _ _ q=>A2 _ q) (Nat.le_of_eq hDn) ?_;rcases ho with rfl|rfl
  .rw[<- hDn];exact BX _ I2.big
  .rw[<- hDn];exact SU _ I2.big
 have st3:tn 0 (s2.heap.push { cls:=.type "dict",data:=.dict #[] }):=T.keep _ _ _ st2 fun b _ o e=>A2 _ e
 have f3:∀b∈fp,mR X pins (upd H2 D o0) b:=fun b hb=>by
  obtain⟨q0,q1⟩:=f2 b hb;exact⟨by rw[aL (B7 (fplt2 b hb))];exact q0,q1⟩
 generalize hs3:({ s2 with heap:=s2.heap.push { cls:=.type "dict",data:=.dict #[] } }:Shared)=s3 at I3 ⊢;have st3:tn 0 s3.heap:=by rw[<- hs3];exact st3
 have fplt:∀b∈fp,b<s3.heap.objs.size:=fun b hb=>by
  obtain⟨o,e,_⟩:=T.obj _ _ st3 b hb;exact A6 e
 refine wpAny_newFunctionEnv S.nocell (fun y hy=>by simp at hy) (fun h1' hns hsb=>?_) S.kind;have old:∀b o,s3.heap.get? b=some o->h1'.get? b=some o:=fun b o e=>hsb.extBut b o (B7 (A6 e)) (A2 _ e)
 have I4:Inv (dR X N' scope s3.heap.objs.size s3 (upd H2 D o0) fp pins) [] (uJ cap σ) (upd H2 D o0) { s3 with heap:=h1',toks:=s3.toks+([]:List (Str×Value)).length }:=
  ED S I3 f3 fplt (A7 _) (by simpa using hns) old
 have loop:∀s4:Shared,s4={ s3 with heap:=h1',toks:=s3.toks+([]:List (Str×Value)).length }->
  codeAny (model X.prog X.w) X.A (.compLoop (.DictComp kx vx [⟨tg,iter,ifs,0⟩] scope pos) 0 (.ref it) (.ref D) (compEnvC scope (dH X.env scope.names []) s3.heap.objs.size X.env)) (compPost (model X.prog X.w) X.A X.xe use QQ (.ref D) s3.heap.objs.size) s4:=by
  rintro s4 rfl
  have stat:∀{Hx:Hp},(∀b∈fp,Hx b=none)->∀b∈fp,mR (dR X N' scope s3.heap.objs.size s3 (upd H2 D o0) fp pins) [] Hx b:=fun{Hx} hn b hb=>by
   refine⟨hn b hb,B7 (fplt b hb),I3.stkAll (f3 b hb).2.1 (f3 b hb).2.2.1,.inl hb,fun x c e=>(f3 b hb).2.2.2.2.1 x c (S.sub I3.ok x c e),fun p hp=>?_⟩;rcases List.mem_append.mp hp with z|z
   .exact(f3 b hb).2.2.2.2.2 p z
   .exact absurd z (by simp)
  refine XN (fun n s'=>∃(i:Nat)(σ':St)(H':Hp),Inv (dR X N' scope s3.heap.objs.size s3 (upd H2 D o0) fp pins) [] σ' H' s'/\tn i s'.heap/\(∀b∈fp,H' b=none)/\W i n σ' H') ?_ m0
   ⟨0,uJ cap σ,_,I4,T.keep _ _ _ st3 fun b _ o e=>old b o e,fun b hb=>(f3 b hb).1,w0⟩
  rintro n s5 ⟨i,σ',H',I5,t5,fr5,w5⟩;rcases turn i n σ' H' w5 with⟨stop,q⟩|⟨go,N,hN,step⟩
  .refine thn (T.done (dR X N' scope s3.heap.objs.size s3 (upd H2 D o0) fp pins) rfl rfl rfl hc i _ s5 σ' H' _ I5 (stat fr5) t5 stop) fun r s6 ⟨hr,I6⟩=>.inl ⟨hr,?_⟩;have nC:H' s3.heap.objs.size=none:=I6.free;refine post D _ H' s6 (let⟨m,hn,_⟩:=I6.loc;⟨m,hn⟩) (fun h' hs'=>?_) (I3.fpOk (A7 _) nC) q;have up:∀b o,b≠s3.heap.objs.size->s6.heap.get? b=some o->h'.get? b=some o:=fun b o hb e=>hs'.extBut b o hb e;have ltC:∀b o,s3.heap.get? b=some o->b≠s3.heap.objs.size:=fun b o e=>B7 (A6 e);have u6:Un (frs X.stack) fp (upd H2 D o0) H' s3.heap s6.heap:=I6.base
   have u7:Un (frs X.stack) fp (upd H2 D o0) H' s3.heap h':=by
    refine⟨fun b o e n hb hx=>up b o (ltC b o e) (u6.keep b o e n hb hx),fun b o e n hb hx=>?_,u6.free,fun b o e hx=>?_,u6.tups,u6.frzs,u6.tbls⟩
    .obtain⟨sl,q⟩:=u6.slot b o e n hb hx;exact⟨sl,up b _ (ltC b o e) q⟩
    .obtain⟨o',q⟩:=u6.there b o e hx;exact⟨o',up b o' (ltC b o e) q⟩
   have ok7:HOk X.prog X.w H' h':=fun b u e=>by
    refine(I6.hok b u e).stay (fun c v hc' z=>up c v ?_ z) (fun c z=>z) fun c xs z=>z;rcases hc' with rfl|z
    .exact aO e nC
    .exact aO z nC
   have os6:s6.os=s3.os:=I6.os;have ba6:=I6.bare;obtain⟨hh,gg,dd,tt,oo⟩:=s6;subst os6;have z7:=I3.call (s:=s3) (h':=h') (g':=gg) (d':=dd) (t':=tt) (ch:=fp) u7 ok7 ba6 fun b hb=>⟨(f3 b hb).2.2.2.1,(f3 b hb).2.1,(f3 b hb).2.2.2.2.1,(f3 b hb).2.2.2.2.2⟩;exact z7
  .refine thn (T.item (dR X N' scope s3.heap.objs.size s3 (upd H2 D o0) fp pins) rfl rfl rfl hc i _ s5 σ' H' _ I5 (stat fr5) t5 go) fun r s6 ⟨u,hr,h6⟩=>.inr ⟨u,hr,?_⟩;refine thn h6 fun _ s7 ⟨x,H7,I7,r7,y7,t7,fr7⟩=>?_;have I7':=I7.pinned (stat fr7) (T.obj _ _ t7)
   have back:∀{σx:St}{Hx:Hp}{sx:Shared},Inv (dR X N' scope s3.heap.objs.size s3 (upd H2 D o0) fp pins) ([]++tG fp s7.heap) σx Hx sx->(∀b∈fp,∀o,s7.heap.get? b=some o->sx.heap.get? b=some o)/\(∀b∈fp,Hx b=none):=fun{σx Hx sx} Ix=>by
    refine⟨fun b hb o e=>(Ix.pin (b,o) (C8 _ (C8 _ (gO hb e)))).1,fun b hb=>?_⟩;obtain⟨o,e,_⟩:=T.obj _ _ t7 b hb;exact(Ix.pin (b,o) (C8 _ (C8 _ (gO hb e)))).2.1
   refine thn (hg _ _ _ _ _ _ s7 σ' H7 x u _ I7' r7 (step x H7 y7)) fun _ s8 ⟨σ8,H8,I8,q8⟩=>?_;refine thn (hif _ _ _ _ _ _ s8 σ8 H8 _ I8 q8) fun b s9 ⟨H9,I9,q9⟩=>?_;rcases q9 with⟨rfl,q9⟩|⟨rfl,n9⟩
   .refine .inl ⟨rfl,thn (hk _ _ _ _ _ _ s9 σ8 H9 _ I9 q9) fun uk s10 ⟨y,H10,I10,ry,q10⟩=>thn (hv _ _ _ _ _ _ s10 σ8 H10 _ I10 q10) fun uv s11 ⟨v,H11,I11,rv,H12,g12,n12⟩=>?_⟩;obtain⟨m',hm,w12⟩:=hN _ _ n12;refine LD (X:=dR X N' scope s3.heap.objs.size s3 (upd H2 D o0) fp pins) hu I11 g12 ry rv fun s12 I12=>?_;obtain⟨b1,b2⟩:=back I12;exact⟨m',hm,i+1,σ8,H12,I12.pins_of fun p hp=>absurd hp (by simp),T.keep _ _ _ t7 b1,b2,w12⟩
   .obtain⟨m',hm,w9⟩:=hN _ _ n9;obtain⟨b1,b2⟩:=back I9;exact .inr ⟨rfl,m',hm,i+1,σ8,H9,I9.pins_of fun p hp=>absurd hp (by simp),T.keep _ _ _ t7 b1,b2,w9⟩
 exact codeAny_compStart_dict (loop _ rfl) (T.self _ 0 _ _ _ (T.keep _ _ _ st3 fun b _ o e=>old b o e) (loop _ rfl))
theorem aAg{o0:HO}(ho:o0=.dT []\/o0=.dK []){kx vx tg iter:Expr}{ifs:List Expr}{pos:Pos}{wi:TI}{g:TG}{tc:TT}{tk tv:TE}(hu:X.A.units<cLine)(hc:X.calm=true)(S:nR X N' cap scope)(hi:PI X tg iter wi)
 (hg:∀C s H fp pn,PG (dR X N' scope C s H fp pn) tg g) (hif:∀C s H fp pn,EH (dR X N' scope C s H fp pn) ifs tc) (hk:∀C s H fp pn,PE (dR X N' scope C s H fp pn) kx tk) (hv:∀C s H fp pn,PE (dR X N' scope C s H fp pn) vx tv)
 (hs:∀x,foldedSetIterable iter X.env x=pure x:=by intro _;rfl):PE X (.DictComp kx vx [⟨tg,iter,ifs,0⟩] scope pos) (tDc o0 cap wi g tc tk tv):=fun pins s σ H Q I h=>
 aBA (use:=none) ho hu hc S hi hg hif hk hv hs I h fun D _ H' _ ⟨m,hn⟩ hI _ q=>⟨m,hn,fun h' hs'=>⟨.ref D,H',hI h' hs',rfl,q⟩⟩
end
noncomputable def dcF(d:Nat)(g:GF)(c:TF)(fk:KF)(e:EF):List CD->Ga->Sto->Option Sto
 |[],_,M=>some M
 |x::xs,γ,M=>(g x γ M).bind fun a=>(c a.1 a.2).bind fun b=>if b.1=true then(fk a.1 b.2).bind fun k=>(e a.1 k.2).bind fun v=>(uI v.2 (.c d) k.1 v.1).bind fun M'=>dcF d g c fk e xs a.1 M' else dcF d g c fk e xs a.1 b.2
noncomputable def fDc(c0:Cell)(cap:List (Option Nat))(f:AF)(g:GF)(c:TF)(fk:KF)(e:EF):EF:=fun γ M=>(f γ M).bind fun r=>(dcF r.2.length g c fk e r.1 (iR cap γ) (r.2++[c0])).bind fun M'=>some (.c r.2.length,M')
section
variable{K:Fg}{tg:TG}{tt:TT}{hg:GF}{ft:TF}{fa:AF}
theorem aAG{o0:HO}{c0:Cell}(h0:(o0=.dT []/\c0=.dt [])\/(o0=.dK []/\c0=.dk [])){wi:TI}{cap:List (Option Nat)}{tk tv:TE}{fk:KF}{fe:EF}(i:SI K wi fa)(a:SG K tg hg)(c:STt K tt ft)(b:SK K tk fk)(e:SE K tv fe):
 SE K (tDc o0 cap wi tg tt tk tv) (fDc c0 cap fa hg ft fk fe):=by
 intro γ M x M' hh W H σ Q G R k;obtain⟨⟨ys,M1⟩,h1,hh⟩:=aH hh;obtain⟨M9,h9,hh⟩:=aH hh;cases hh;refine i _ _ _ _ h1 W H σ _ G R fun J W1 H1 e1 G1 gv=>fun D hD=>?_;have G2:Good K (W1.more D) (M1++[c0]) (upd H1 D o0):=G1.new hD (by rcases h0 with⟨rfl,rfl⟩|⟨rfl,rfl⟩<;>exact .nil);have e2:=W1.ext_more D;have rD:bR K (W1.more D) (.c M1.length) (.ref D):=G1.newV;refine⟨fun j m σ' H'=>∃γ' M3 W3,j<=ys.length/\m=ys.length-j/\(W1.more D).Ext W3/\Good K W3 M3 H'/\cT K W3 γ' σ'/\dcF M1.length hg ft fk fe (ys.drop j) γ' M3=some M',⟨_,iR cap γ,_,_,J5 _,rfl,.refl _,G2,zZ ((R.up e1).up e2) cap,h9⟩,?_⟩;rintro j m σ' H' ⟨γ',M3,W3,hj,rfl,e3,G3,R3,h3⟩;obtain⟨gv1,gv2⟩:=gv W3 M3 H' (e2.trans e3) G3;by_cases hlt:j<ys.length
 .obtain⟨go,yl⟩:=gv1 j ys[j] (B6 hlt);rw[Y1 hlt]at h3;refine .inr ⟨go,fun σ4 H4=>∃γ4 M4 W4,W3.Ext W4/\Good K W4 M4 H4/\cT K W4 γ4 σ4/\dcF M1.length hg ft fk fe (ys.drop (j+1)) γ4 M4=some M',?_,fun y H4 hy=>?_⟩
  .rintro σ4 H4 ⟨γ4,M4,W4,e4,G4,R4,h4⟩;exact⟨_,by omega,γ4,M4,W4,hlt,rfl,e3.trans e4,G4,R4,h4⟩
  .obtain⟨W8,e8,G8,ry⟩:=yl y H4 hy;obtain⟨⟨γ5,M5⟩,h5,h3⟩:=aH (show(hg ys[j] γ' M3).bind _=_ from h3);obtain⟨⟨b6,M6⟩,h6,h3⟩:=aH h3;refine a _ _ _ _ _ h5 W8 _ σ' y _ G8 (R3.up e8) ry fun σ5 W5 H5 e5 G5 R5=>?_;refine c _ _ _ _ h6 W5 H5 σ5 _ G5 R5 fun W6 H6 e6 G6=>?_;have e36:=(e8.trans e5).trans e6;cases b6 with
   |true=>
    rw[B0 rfl]at h3;obtain⟨⟨ky,M7⟩,h7,h3⟩:=aH h3;obtain⟨⟨z,M10⟩,h10,h3⟩:=aH h3;obtain⟨M11,h11,h3⟩:=aH h3;refine .inl ⟨rfl,b _ _ _ _ h7 W6 H6 σ5 _ G6 (R5.up e6) fun yv W7 H7 e7 G7 r7=>e _ _ _ _ h10 W7 H7 σ5 _ G7 (R5.up (e6.trans e7)) fun v W10 H10 e10 G10 r10=>?_⟩;have e310:=(e36.trans e7).trans e10;obtain⟨p,H11,ep,g11,G11⟩:=DL G10 h11 (rD.up (e3.trans e310)) (r7.up e10) r10;cases ep;exact⟨H11,g11,γ5,M11,W10,e310,G11,R5.up ((e6.trans e7).trans e10),h3⟩
   |false=>
    rw[B2 B4]at h3;exact .inr ⟨rfl,γ5,M6,W6,e36,G6,R5.up e6,h3⟩
 .have ej:j=ys.length:=by omega
  subst ej;rw[List.drop_length]at h3;cases h3;exact .inl ⟨gv2,k _ W3 H' ((e1.trans e2).trans e3) G3 (rD.up e3)⟩
variable{ι:Type}{X:ι->Cx}{N':List Str}{cap:List (Option Nat)}{scope:Scope}{tg' iter kx vx:Expr}{ifs:List Expr}{gf:GF}{fk:KF}{f:EF}{pos:Pos}
theorem aAN(hu:∀i,(X i).A.units<cLine)(hc:∀i,(X i).calm=true)(S:∀i,nR (X i) N' cap scope)(x:MI K X tg' iter fa)(y:MG K (jX X N' scope) tg' gf)(z:MF K (jX X N' scope) ifs ft)(w:MK K (jX X N' scope) kx fk)(q:ME K (jX X N' scope) vx f)(hs:∀(env:Env)(x:Value),foldedSetIterable iter env x=pure x:=by intro _ _;rfl):
 ME K X (.DictComp kx vx [⟨tg',iter,ifs,0⟩] scope pos) (fDc (.dt []) cap fa gf ft fk f):=by
 obtain⟨t,x1,x2⟩:=x.ex;obtain⟨u,y1,y2⟩:=y.ex;obtain⟨v,z1,z2⟩:=z.ex;obtain⟨o,w1,w2⟩:=w.ex;obtain⟨p,q1,q2⟩:=q.ex;exact⟨_,fun i=>aAg (.inl rfl) (hu i) (hc i) (S i) (x1 i) (fun C s H fp pn=>y1 (i,C,s,H,fp,pn)) (fun C s H fp pn=>z1 (i,C,s,H,fp,pn)) (fun C s H fp pn=>w1 (i,C,s,H,fp,pn)) (fun C s H fp pn=>q1 (i,C,s,H,fp,pn)) (hs _),aAG (.inl ⟨rfl,rfl⟩) x2 y2 z2 w2 q2⟩
theorem aBb(hu:∀i,(X i).A.units<cLine)(hc:∀i,(X i).calm=true)(S:∀i,nR (X i) N' cap scope)(x:MI K X tg' iter fa)(y:MG K (jX X N' scope) tg' gf)(z:MF K (jX X N' scope) ifs ft)(w:MK K (jX X N' scope) kx fk)(q:ME K (jX X N' scope) vx f)(hs:∀(env:Env)(x:Value),foldedSetIterable iter env x=pure x:=by intro _ _;rfl):
 ME K X (.DictComp kx vx [⟨tg',iter,ifs,0⟩] scope pos) (fDc (.dk []) cap fa gf ft fk f):=by
 obtain⟨t,x1,x2⟩:=x.ex;obtain⟨u,y1,y2⟩:=y.ex;obtain⟨v,z1,z2⟩:=z.ex;obtain⟨o,w1,w2⟩:=w.ex;obtain⟨p,q1,q2⟩:=q.ex;exact⟨_,fun i=>aAg (.inr rfl) (hu i) (hc i) (S i) (x1 i) (fun C s H fp pn=>y1 (i,C,s,H,fp,pn)) (fun C s H fp pn=>z1 (i,C,s,H,fp,pn)) (fun C s H fp pn=>w1 (i,C,s,H,fp,pn)) (fun C s H fp pn=>q1 (i,C,s,H,fp,pn)) (hs _),aAG (.inr ⟨rfl,rfl⟩) x2 y2 z2 w2 q2⟩
end
noncomputable def RZ(K:Fg):List V->Hp->VK->Prop:=fun xs H Q=>∃a kvs,xs=[.ref a]/\H a=some (.dT kvs)/\∀bs:List Addr,Paired (fun(b:Addr)(kv:List Key×V)=>H b=some (.tup (kv.1.map kV))) bs kvs->GM K (bs.map .ref) H Q
theorem yK:∀bs:List Addr,aU (bs.map V.ref) (bs.map Value.ref)
 |[]=>.nil
 |_::bs=>.cons rfl (yK bs)
theorem zW{X:Cx}(hu:X.A.in1.in1.units+64<cLine)(hc:X.calm=true):eT X (.builtin "sorted") (RZ X.K):=by
 intro pins s σ H xs us Q I r h;obtain⟨a,kvs,rfl,ea,q⟩:=h;obtain⟨u,rfl,ru⟩:=vals1 r;cases ru;obtain⟨z,hs,ks,rk,od,es,ep,h1,h2,h3,h4,h5⟩:=(show bT X.prog X.w H s.heap a (.dT kvs)from I.hok a _ ea);have hl:kvs.length=ks.length:=Paired.len rk;have el:es.size=ks.length:=by rw[<- C4,h4,A3]
 refine Calls.call_function_entry kind_sorted plain_sorted entry_sorted (args_sorted1 _) ?_;unfold Builtin.«sorted»;refine A1 (m:=checkCount "sorted" 1 1 _) (A4 ?_);refine A1 (PySem.W.kdu_collect (A:=X.A.in1) (TK (ep:=ep) hs h2.1 h3) (I.ok.hd hc) h1 (by rw[el,<- hl];exact z) fun h' tk acc hk hacc=>?_);have I3:Inv X pins σ H { s with heap:=h',toks:=tk }:=I.kept hk
 have ev:acc.toList=(ks.map fun x=>x.2.1).map Value.ref:=by
  refine Z1 fun j=>?_;rw[E1];cases e:acc[j]? with
  |none=>
   have:(ks.map fun x=>x.2.1).length<=j:=by
    have hz:=hacc.1;have:=Array.getElem?_eq_none_iff.mp e;rw[A3];omega
   rw[J7 (by rw[A3];exact this)]
  |some v=>
   have e1:(es[j]?).map (·.key)=some v:=hacc.2 j v e;rw[<- E1,h4,C0]at e1;rw[C0,C0];cases e3:ks[j]? with
   |none=>rw[e3]at e1;cases e1
   |some w=>rw[e3]at e1;cases e1;rfl
 rw[ev];exact SJ (A:=X.A.in1) hu I3 (yK _) (q _ (KT.addrs rk).1)
section
variable{K:Fg}
noncomputable def qG:FN:=fun xs M=>match xs with
 |[.c i]=>match M[i]? with
  |some (.dt kvs)=>(eU (kvs.map fun kv=>kv.1.map rG)).bind fun r=>some (.d (.list r),M)
  |_=>none
 |_=>none
theorem EZ{W:Wd}:∀{bs:List Addr}{kvs:List (List Key×V)},Paired (fun(b:Addr)(kv:List Key×V)=>W.F b=some (.tup (kv.1.map kV))) bs kvs->aJ K W.F ((kvs.map fun kv=>kv.1.map rG).map .tuple) (bs.map .ref)
 |_,_,.nil=>rfl
 |_,_,.cons h1 h2=>⟨_,_,rfl,⟨_,_,rfl,SqT.of h1,AL _⟩,EZ h2⟩
theorem FK{W:Wd}:∀{kvs:List (List Key×CD)}{us:List (List Key×V)},PKV K W kvs us->(us.map fun kv=>kv.1.map rG)=kvs.map fun kv=>kv.1.map rG
 |_,_,.nil=>rfl
 |_,_,.cons h1 h2=>by rw[C6,C6,FK h2,h1.1]
theorem OX:PN K (RZ K) qG:=by
 intro xs M z M' h W H vs Q G r k;unfold qG at h;split at h
 .rename_i i;split at h
  .rename_i kvs hk;obtain⟨ds,h3,h⟩:=aH h;cases h;rcases r with _|⟨r1,_|_⟩;obtain⟨us,hu,pu⟩:=G.dtAt hk;refine⟨_,us,by rw[r1.2],hu,fun bs pb=>?_⟩;obtain⟨W2,e2,G2,p2⟩:=tE G pb;have r3:=EZ (K:=K) p2;rw[FK pu]at r3;unfold eU at h3;by_cases hs:sortable (kvs.map fun kv=>kv.1.map rG)=true
   .rw[B0 hs]at h3;cases h3;obtain⟨s1,s2,s3,s4,s5⟩:=tT hs;refine .inl ⟨_,aJ.same G2.fh _ _ r3,s1,s2,s3,s4,s5,fun l hl=>?_⟩;obtain⟨e4,G4⟩:=G2.lay (o:=.lst ((fD (lX (kvs.map fun kv=>kv.1.map rG)) (kvs.map fun kv=>kv.1.map rG).length).map fun i=>(bs.map V.ref).getD i .non)) hl;exact k _ _ _ (e2.trans e4) G4 ⟨l,_,rfl,SqL.of aP,aJ.same e4.ff _ _ (wL r3 _ (aAr (by omega)))⟩
   .rw[B2 hs]at h3;by_cases hl2:(kvs.map fun kv=>kv.1.map rG).length<2
    .rw[B0 hl2]at h3;cases h3;refine .inr ⟨by rw[<- r3.length,A3];exact hl2,fun l hl=>?_⟩;obtain⟨e4,G4⟩:=G2.lay (o:=.lst (bs.map V.ref)) hl;exact k _ _ _ (e2.trans e4) G4 ⟨l,_,rfl,SqL.of aP,aJ.same e4.ff _ _ r3⟩
    .rw[B2 hl2]at h3;cases h3
  .cases h
 .cases h
theorem ZJ{ι:Type}{X:ι->Cx}(hK:∀i,(X i).K=K)(hu:∀i,(X i).A.in1.in1.units+64<cLine)(hc:∀i,(X i).calm=true):QN K X (.builtin "sorted") qG:=
 ⟨_,fun i=>by have:=zW (X:=X i) (hu i) (hc i);rw[hK i]at this;exact this,OX⟩
end
theorem cJ.u1{k:Nat}(r:cJ k A):A.units+1<cLine:=by have:=r.un;omega
theorem cJ.u0{k:Nat}(r:cJ k A):A.units<cLine:=by have:=r.un;omega
noncomputable abbrev IPF:=Ga->Sto->Option ((List CD×(Sto->Prop))×Sto)
noncomputable def Itz(K:Fg)(l1 l2:Addr):It:=
 ⟨fun i H=>∃xs ys x y,SqL K H l1 xs/\SqL K H l2 ys/\xs[i]?=some x/\ys[i]?=some y,
  fun i H v H'=>∃p x y,H p=none/\v=.ref p/\H'=upd H p (.tup [x,y])/\(∀xs,SqL K H l1 xs->xs[i]?=some x)/\∀ys,SqL K H l2 ys->ys[i]?=some y,
  fun i H=>∃xs ys,SqL K H l1 xs/\SqL K H l2 ys/\(xs[i]?=none\/ys[i]?=none)⟩
noncomputable def tnZ(z TI TO i1 i2 l1 l2:Addr)(i:Nat)(h:Heap):Prop:=IsZip h z TI TO .none/\IsPair h TI (.ref i1) (.ref i2)/\(∃a b,IsPair h TO a b)/\h.IsListIter i1 l1 i/\h.IsListIter i2 l2 i
structure Apart5(z TI TO i1 i2:Addr):Prop where
 TIz:TI≠z
 TOz:TO≠z
 i1z:i1≠z
 i2z:i2≠z
 TITO:TI≠TO
 TIi1:TI≠i1
 TIi2:TI≠i2
 TOi1:TO≠i1
 TOi2:TO≠i2
 i12:i1≠i2
theorem zG(n:Nat):Apart5 (n+4) (n+2) (n+3) n (n+1):=by
 have key:∀a b:Nat,¬a=b->(a:Addr)≠b:=fun _ _ h=>h;exact⟨key _ _ (by omega),key _ _ (by omega),key _ _ (by omega),key _ _ (by omega),key _ _ (by omega),key _ _ (by omega),key _ _ (by omega),key _ _ (by omega),key _ _ (by omega),key _ _ (by omega)⟩
section
variable{P:Program}{w:World}{K:Fg}{elts:List Expr}{x1:Nat}{tpos:Pos}{z TI TO i1 i2 l1 l2:Addr}
theorem yQ{h:Heap}{i:Nat}{xs ys:Array Value}(A5:Apart5 z TI TO i1 i2)(st:tnZ z TI TO i1 i2 l1 l2 i h)(h1:h.IsList l1 xs)(h2:h.IsList l2 ys):ZipApart z TI TO i1 i2 l1 l2:=by
 obtain⟨hz,hTI,⟨a,b,hTO⟩,⟨o1,e1,c1,d1⟩,⟨o2,e2,c2,d2⟩⟩:=st
 have nl:∀(l:Addr)(ws:Array Value),h.IsList l ws->∀(b:Addr)(o:Obj),h.get? b=some o->o.cls≠.type "list"->l≠b:=fun l ws hl b o e n q=>by
  subst q;obtain⟨o',e',c',_⟩:=hl;rw[e]at e';cases e';exact n c'
 have nz:(Value.type "zip")≠.type "list":=by intro q;injection q with q;exact absurd q (by decide)
 have nt:(Value.type "tuple")≠.type "list":=by intro q;injection q with q;exact absurd q (by decide)
 have ni:(Value.type "list_iterator")≠.type "list":=by intro q;injection q with q;exact absurd q (by decide)
 exact⟨A5.TIz,A5.TOz,A5.i1z,A5.i2z,A5.TITO,A5.TIi1,A5.TIi2,A5.TOi1,A5.TOi2,A5.i12,
  nl l1 xs h1 z _ hz nz,nl l1 xs h1 TO _ hTO nt,nl l1 xs h1 i1 _ e1 (by rw[c1];exact ni),nl l1 xs h1 i2 _ e2 (by rw[c2];exact ni),
  nl l2 ys h2 z _ hz nz,nl l2 ys h2 TO _ hTO nt,nl l2 ys h2 i1 _ e1 (by rw[c1];exact ni),nl l2 ys h2 i2 _ e2 (by rw[c2];exact ni)⟩
theorem RT(A5:Apart5 z TI TO i1 i2):Turn P w K (.Tuple elts x1 tpos) (Itz K l1 l2) [z,TI,TO,i1,i2] z (tnZ z TI TO i1 i2 l1 l2) where
 mem:=by simp
 obj:=fun i h st b hb=>by
  obtain⟨hz,hTI,⟨a,c,hTO⟩,⟨o1,e1,_,d1⟩,⟨o2,e2,_,d2⟩⟩:=st;simp only[List.mem_cons,List.not_mem_nil,or_false]at hb;rcases hb with rfl|rfl|rfl|rfl|rfl
  .exact⟨_,hz,fun v q=>by cases q⟩
  .exact⟨_,hTI,fun v q=>by cases q⟩
  .exact⟨_,hTO,fun v q=>by cases q⟩
  .exact⟨_,e1,fun v q=>by rw[d1]at q;cases q⟩
  .exact⟨_,e2,fun v q=>by rw[d2]at q;cases q⟩
 keep:=fun i h h' st k=>by
  obtain⟨hz,hTI,⟨a,c,hTO⟩,h1,h2⟩:=st;exact⟨k z (by simp) _ hz,k TI (by simp) _ hTI,⟨a,c,k TO (by simp) _ hTO⟩,h1.at fun o e=>k i1 (by simp) o e,h2.at fun o e=>k i2 (by simp) o e⟩
 item:=by
  intro X hP hw hK hc i pins s σ H E I hf st hg;subst hP hw hK;obtain⟨xs,ys,x,y,hq1,hq2,hx,hy⟩:=hg;obtain⟨its,rv,p,_⟩:=I.list hq1;obtain⟨jts,rw',p',_⟩:=I.list hq2;obtain⟨u,hu,ru⟩:=rv.get hx;obtain⟨v,hv,rv'⟩:=rw'.get hy;have D:=yQ A5 st p.isList p'.isList;obtain⟨hz,hTI,⟨a,c,hTO⟩,h1,h2⟩:=id st;refine wpAny_pyNext_zip_item D hz hTI hTO h1 h2 p.isList p'.isList (x:=u) (y:=v) (by simpa using hu) (by simpa using hv) fun h' a1 a2 a3 a4 a5 a6 hk=>⟨_,rfl,?_⟩;refine wpAny_letOwnedTupleGo_zip a1 fun h2' hz2 sb=>?_
  have lt:∀b∈[z,TI,TO,i1,i2],s.heap.objs.size≠b:=fun b hb q=>by
   obtain⟨o1,e1,_⟩:=id h1;obtain⟨o2,e2,_⟩:=id h2;simp only[List.mem_cons,List.not_mem_nil,or_false]at hb
   have:∃o,s.heap.get? b=some o:=by
    rcases hb with rfl|rfl|rfl|rfl|rfl
    .exact⟨_,hz⟩
    .exact⟨_,hTI⟩
    .exact⟨_,hTO⟩
    .exact⟨_,e1⟩
    .exact⟨_,e2⟩
   obtain⟨o,e⟩:=this;rw[<- q]at e;exact absurd (A6 e) (J2 _)
  have kk:∀b o,b∉[z,TI,TO,i1,i2]->s.heap.get? b=some o->h2'.get? b=some o:=fun b o hb q=>by
   simp only[List.mem_cons,List.not_mem_nil,or_false,not_or]at hb;exact(sb.2 b hb.1).trans (hk b o hb.1 hb.2.2.1 hb.2.2.2.1 hb.2.2.2.2 q)
  have ht2:h2'.get? s.heap.objs.size=some { cls:=.type "tuple",data:=.seq #[u,v] }:=(sb.2 _ (lt z (by simp))).trans a5
  have I2:Inv X pins σ (upd H s.heap.objs.size (.tup [x,y])) { s with heap:=h2',toks:=s.toks }:=
   I.turnLay hf kk (A7 _) ⟨by show 2<=sizeLine;rw[F8];decide,[u,v],.cons ru (.cons rv' .nil),⟨_,ht2,rfl,_,rfl⟩⟩
  refine⟨.ref s.heap.objs.size,_,I2,rfl,⟨_,x,y,I.hok.fresh (A7 _),rfl,rfl,fun ws hw=>by rw[I.list_inj hw hq1];exact hx,fun ws hw=>by rw[I.list_inj hw hq2];exact hy⟩,⟨hz2,?_,⟨_,_,(sb.2 TO A5.TOz).trans a2⟩,a3.at fun o e=>(sb.2 i1 A5.i1z).trans e,a4.at fun o e=>(sb.2 i2 A5.i2z).trans e⟩,fun b hb=>?_⟩
  .exact(sb.2 TI A5.TIz).trans (hk TI _ A5.TIz A5.TITO A5.TIi1 A5.TIi2 hTI)
  .rw[aL (fun q=>lt b hb q.symm)];exact(hf b hb).1
 done:=by
  intro X hP hw hK hc i pins s σ H E I hf st hg;subst hP hw hK;obtain⟨xs,ys,hq1,hq2,hend⟩:=hg;obtain⟨its,rv,p,_⟩:=I.list hq1;obtain⟨jts,rw',p',_⟩:=I.list hq2;have D:=yQ A5 st p.isList p'.isList;obtain⟨hz,hTI,⟨a,c,hTO⟩,h1,h2⟩:=id st;have l1':=rv.length;have l2':=rw'.length;refine wpAny_pyNext_zip_end (I.ok.hd hc) D hz hTI hTO h1 h2 p.isList p'.isList ?_ fun h' hk=>⟨rfl,I.turnF (t':=s.toks) hf fun b o hb q=>?_⟩
  .rcases hend with e|e
   .refine .inl ?_;have:=List.getElem?_eq_none_iff.mp e;exact L3 (by rw[C1];omega)
   .refine .inr ?_;have:=List.getElem?_eq_none_iff.mp e;exact L3 (by rw[C1];omega)
  .simp only[List.mem_cons,List.not_mem_nil,or_false,not_or]at hb;exact hk b o hb.1 hb.2.2.1 hb.2.2.2.1 hb.2.2.2.2 q
 self:=fun A i s Q E st h=>wpAny_pyIter_zip st.1 h
end
section
variable{X:Cx}{elts:List Expr}{x1:Nat}{tpos:Pos}
theorem boot_zip:bootBuiltins "zip"=some (.type "zip"):=by decide +kernel
end
noncomputable def lC:List PyData->List PyData->List CD
 |x::xs,y::ys=>.d (.tuple [x,y])::lC xs ys
 |_,_=>[]
theorem wZ:∀{xs ys:List PyData}{i:Nat}{x:CD},(lC xs ys)[i]?=some x->∃a b,xs[i]?=some a/\ys[i]?=some b/\x=.d (.tuple [a,b])
 |[],_,i,x=>fun h=>by unfold lC at h;cases i<;>cases h
 |_::_,[],i,x=>fun h=>by unfold lC at h;cases i<;>cases h
 |a::xs,b::ys,0,x=>fun h=>⟨a,b,rfl,rfl,by unfold lC at h;exact(D9 h).symm⟩
 |a::xs,b::ys,i+1,x=>fun h=>by
  obtain⟨c,d,h1,h2,h3⟩:=wZ (xs:=xs) (ys:=ys) (i:=i) (by unfold lC at h;exact h);exact⟨c,d,h1,h2,h3⟩
theorem CS:∀{xs ys:List PyData},xs[(lC xs ys).length]?=none\/ys[(lC xs ys).length]?=none
 |[],_=>.inl rfl
 |_::_,[]=>.inr rfl
 |a::xs,b::ys=>by
  show(a::xs)[(lC xs ys).length+1]?=none\/(b::ys)[(lC xs ys).length+1]?=none;exact CS (xs:=xs) (ys:=ys)
end L2
namespace PySem
open Sem (wp)
namespace F
end F
end PySem
namespace L2
open PySem PySem.Spec PyProof.Rows
theorem cJ.le{ι:Type}{j k:Nat}{A:Around}{q:Bool}(r:cJ k A q)(h:j<=k:=by decide):ι->cJ j A q:=fun _=>r.mono h
section
variable{X:Cx}
theorem zR:∀{vs:List Value}{ns:List Int},IntsAre vs ns->aU (ns.map V.int) vs
 |_,_,.nil=>.nil
 |_,_,.cons _ t h=>.cons ⟨t,rfl⟩ (zR h)
theorem JB:∀{ws:List Value}{ns:List Int},ws.length=ns.length->(∀(j:Nat) v i,ws[j]?=some v->ns[j]?=some i->∃t,v=Value.int i t)->IntsAre ws ns
 |[],[],_,_=>.nil
 |v::ws,n::ns,hl,h=>by
  obtain⟨t,rfl⟩:=h 0 v n rfl rfl;exact .cons n t (JB (Nat.succ.inj hl) fun j=>h (j+1))
end
theorem rZ:∀{xs ys:List Int},xs.Pairwise (·<=·)->ys.Pairwise (·<=·)->xs.Perm ys->xs=ys
 |[],ys=>fun _ _ p=>(List.nil_perm.mp p).symm
 |x::xs,[]=>fun _ _ p=>by have:=p.length_eq;simp at this
 |x::xs,y::ys=>fun hx hy p=>by
  have h1:=List.pairwise_cons.mp hx;have h2:=List.pairwise_cons.mp hy
  have e:x=y:=by
   have a:y<=x:=by
    rcases List.mem_cons.mp (p.mem_iff.mp A9)with q|q
    .exact Int.le_of_eq q.symm
    .exact h2.1 x q
   have b:x<=y:=by
    rcases List.mem_cons.mp (p.mem_iff.mpr A9)with q|q
    .exact Int.le_of_eq q.symm
    .exact h1.1 y q
   omega
  subst e;rw[rZ h1.2 h2.2 (List.perm_cons x |>.mp p)]
noncomputable def iD(ns:List Int):List Int:=ns.mergeSort fun a b=>decide (a<=b)
theorem iT(ns:List Int):(iD ns).Perm ns:=List.mergeSort_perm _ _
theorem rR(ns:List Int):(iD ns).Pairwise (·<=·):=by
 have:=List.pairwise_mergeSort (le:=fun a b:Int=>decide (a<=b)) (fun a b c h1 h2=>C5 (Int.le_trans (C3 h1) (C3 h2))) (fun a b=>by simp;omega) ns;exact this.imp fun h=>C3 h
section
variable{K:Fg}
theorem PK{H:Hp}:∀ns:List Int,aJ K H (ns.map .int) (ns.map .int)
 |[]=>rfl
 |n::ns=>⟨_,_,rfl,rfl,PK ns⟩
end
section
variable{K:Fg}
noncomputable def aFM(k:Nat)(γ:Ga)(M:Sto):Option (Ga×Sto):=match γ[k]? with
 |some (some (.c i))=>match M[i]? with
  |some (.lst xs)=>(lV xs).bind fun ds=>some (γ.set k (some (.d (.list ds))),M.set i .dead)
  |_=>none
 |_=>none
noncomputable def sFrz(k:Nat)(f:SF):SF:=fun γ M=>(f γ M).bind fun r=>match r.1 with
 |.nx γ'=>(aFM k γ' r.2).bind fun q=>some (.nx q.1,q.2)
 |o=>some (o,r.2)
theorem wN{α β:Type}{R:α->β->Prop}:∀{xs:List α}{ys:List β}{k:Nat}{x:α}{y:β},Paired R xs ys->ys[k]?=some y->R x y->Paired R (xs.set k x) ys
 |_,_,0,x,y,.cons r t=>fun e h=>by cases e;exact .cons h t
 |_,_,k+1,x,y,.cons r t=>fun e h=>.cons r (wN t (by simpa using e) h)
 |_,_,0,x,y,.nil=>fun e h=>by cases e
 |_,_,k+1,x,y,.nil=>fun e h=>by cases e
noncomputable def KB:List (PyData ⊕ Nat)->Option (List Key)
 |[]=>some []
 |x::r=>(keyOf (cdA x)).bind fun k=>(KB r).bind fun q=>some (k::q)
noncomputable def kT(f:EF):KF:=fun γ M=>(f γ M).bind fun r=>match r.1 with
 |.t xs=>(KB xs).bind fun ks=>some (.inr ks,r.2)
 |_=>none
theorem yG{W:Wd}:∀{xs:List (PyData ⊕ Nat)}{ks:List Key}{vs:List V},KB xs=some ks->Paired (DM K W) xs vs->vs=ks.map kV
 |[],ks,vs=>fun h r=>by cases h;cases r;rfl
 |x::xs,ks,vs=>fun h r=>by
  obtain⟨k,h1,h⟩:=aH h;obtain⟨ks',h2,h⟩:=aH h;cases h;cases r with
  |@cons _ v _ _ r1 r2=>rw[sD (K:=K) (W:=W) (v:=v) h1 (by cases x<;>exact r1),yG h2 r2];rfl
theorem aFy{t:TE}{f:EF}(a:SE K t f):SK K t (kT f):=by
 intro γ M k M' hh W H σ Q G R c;obtain⟨⟨x,M1⟩,h1,hh⟩:=aH hh;cases x with
 |d x=>cases hh
 |c x=>cases hh
 |f x=>cases hh
 |t xs=>
  obtain⟨ks,h2,hh⟩:=aH (show(KB xs).bind _=_ from hh);cases hh;refine a _ _ _ _ h1 W H σ _ G R fun v W1 H1 e1 G1 r1=>?_;obtain⟨p,vs,rfl,h3,h4⟩:=r1;exact c _ W1 H1 e1 G1 ⟨p,rfl,by rw[h3,yG h2 h4]⟩
noncomputable def Itk(a:Addr)(o:Obj)(kvs:List (List Key×V)):It:=
 ⟨fun i H=>H a=some (.frz o (.dT kvs))/\i<kvs.length,fun i H x H'=>H'=H/\∃kv b,kvs[i]?=some kv/\x=.ref b/\H b=some (.tup (kv.1.map kV)),fun i H=>H a=some (.frz o (.dT kvs))/\kvs.length<=i⟩
noncomputable def aAu(td:TE):TI:=fun σ H R=>td σ H fun x H1=>∃a o kvs,x=.ref a/\H1 a=some (.frz o (.dT kvs))/\R (Itk a o kvs) H1
theorem JI{X:Cx}{pins:List (Addr×Obj)}{σ:St}{H:Hp}{s:Shared}{a:Addr}{o:Obj}{kvs:List (List Key×V)}{es:Array DictEntry}{ep:Nat}(I:Inv X pins σ H s)(e:H a=some (.frz o (.dT kvs)))(hd:o.data=.dict es ep):
 Raw s.heap a es ep/\es.size=kvs.length/\∀(i:Nat) en,es[i]?=some en->∃kv b,kvs[i]?=some kv/\en.key=.ref b/\H b=some (.tup (kv.1.map kV)):=by
 obtain⟨h0,z,hs,xs,r,od,es',ep',h1,h2,h3,h4,h5⟩:=(show bT X.prog X.w H s.heap a (.frz o (.dT kvs))from I.hok a _ e);rw[h0]at h1;cases h1;rw[hd]at h3;cases h3;have hl:es.toList.length=kvs.length:=by rw[h4,A3];exact(Paired.len r).symm
 refine⟨⟨o,h0,hd⟩,by rw[<- C4];exact hl,fun i en he=>?_⟩;rw[<- E1,h4,C0]at he;cases c:xs[i]? with
 |none=>rw[c]at he;cases he
 |some x=>
  rw[c]at he;cases he;have hi:i<kvs.length:=by rw[Paired.len r];exact(List.getElem?_eq_some_iff.mp c).1
  obtain⟨y,hy,q1,q2,q3⟩:=Paired.get r (B6 hi);rw[c]at hy;cases hy;exact⟨_,_,B6 hi,rfl,q2⟩
theorem KN{P:Program}{w:World}{tg:Expr}(a it:Addr)(o:Obj)(kvs:List (List Key×V))(es:Array DictEntry)(ep:Nat)(hd:o.data=.dict es ep):Turn P w K tg (Itk a o kvs) [it] it (fun i h=>h.IsKeyIter it a i es.size ep) where
 mem:=by simp
 obj:=fun i h st b hb=>by
  have e:b=it:=by simpa using hb
  subst e;obtain⟨o,e,c,d⟩:=st;exact⟨o,e,fun v z=>by rw[d]at z;cases z⟩
 keep:=fun i h h' st k=>st.at fun o e=>k it (by simp) o e
 item:=by
  intro X hP hw hK hc i pins s σ H E I hf st hg;subst hP hw hK;obtain⟨f0,f1,f2,f3,f4,f5⟩:=hf it (by simp);obtain⟨raw,hl,hk⟩:=JI I hg.1 hd;refine oQ (I.ok.hd hc) st raw (fun en he h' st' sb=>?_) fun he=>?_
  .have I1:Inv X pins σ H { s with heap:=h' }:=I.turned (t':=s.toks) (fun b o hb e=>(sb.2 b hb).trans e) f0 f1 f3 f4 f5;obtain⟨kv,b,q1,q2,q3⟩:=hk i en he;obtain⟨o,e,c,d⟩:=id st';rw[q2];exact⟨_,rfl,IB (s:={ s with heap:=h' }) e c d (by decide) ⟨.ref b,H,I1,rfl,⟨rfl,kv,b,q1,rfl,q3⟩,st',fun b hb=>(hf b hb).1⟩⟩
  .have:=Array.getElem?_eq_none_iff.mp he;have:=hg.2;omega
 done:=by
  intro X hP hw hK hc i pins s σ H E I hf st hg;subst hP hw hK;obtain⟨f0,f1,f2,f3,f4,f5⟩:=hf it (by simp);obtain⟨raw,hl,hk⟩:=JI I hg.1 hd;refine oQ (I.ok.hd hc) st raw (fun en he=>?_) fun he h' eb=>⟨rfl,I.turned (t':=s.toks) (fun b o hb e=>eb b o hb e) f0 f1 f3 f4 f5⟩;have:=(Array.getElem?_eq_some_iff.mp he).1;have:=hg.2;omega
 self:=fun _ _ _ _ _ st h=>wpAny_pyIter_keyiter st h
theorem XQ{X:Cx}{tg l:Expr}{tl:TE}(hl:PE X l tl):PI X tg l (aAu tl):=by
 intro pins s σ H R I h;refine thn (hl pins s σ H _ I h) fun v s1 hz=>?_;obtain⟨x,H1,I1,r1,a,o,kvs,e,ha,q⟩:=hz;subst e;cases r1;obtain⟨h0,z,hs,xs,r,od,es,ep,h1,h2,h3,h4,h5⟩:=(show bT X.prog X.w H1 s1.heap a (.frz o (.dT kvs))from I1.hok a _ ha);rw[h0]at h1;cases h1;refine yM hs ⟨o,h0,h2.1⟩ ⟨o,h0,h3⟩ ?_
 have fp:∀b∈[s1.heap.objs.size],mR X pins H1 b:=fun b hb=>by
  have e:b=s1.heap.objs.size:=List.mem_singleton.mp hb;subst e;exact I1.fpOk (A7 _) (I1.hok.fresh (A7 _))
 exact⟨s1.heap.objs.size,[s1.heap.objs.size],_,_,_,rfl,I1.kept (t':=s1.toks) fun b o e=>A2 _ e,KN a _ o kvs es ep h3,⟨_,B1 _ rfl,rfl,rfl⟩,fp,q⟩
noncomputable def uH(ks:List Key):CD:=.t (ks.map fun k=>.inl (rG k))
noncomputable def KL(f:EF):AF:=fun γ M=>(f γ M).bind fun r=>match r.1 with
 |.f kvs=>some (kvs.map fun kv=>uH kv.1,r.2)
 |_=>none
theorem CN{W:Wd}:∀ks:List Key,Paired (DM K W) (ks.map fun k=>.inl (rG k)) (ks.map kV)
 |[]=>.nil
 |k::ks=>.cons (by cases k<;>rfl) (CN ks)
theorem UY{td:TE}{f:EF}(a:SE K td f):SI K (aAu td) (KL f):=by
 intro γ M xs M' hh W H σ R G Rs k;obtain⟨⟨y,M1⟩,h1,hh⟩:=aH hh;revert hh;dsimp only;split
 .rename_i kvs;intro hh;cases hh;refine a _ _ _ _ h1 W H σ _ G Rs fun v W1 H1 e1 G1 r1=>?_;obtain⟨p,o,us,rfl,hF,hp⟩:=r1;refine⟨p,o,us,rfl,G1.fh _ _ hF,k _ W1 H1 e1 G1 fun W2 M2 H2 e2 G2=>?_⟩;have hH:=G2.fh _ _ (e2.ff _ _ hF);refine⟨fun i x hx=>⟨⟨hH,?_⟩,fun y H3 hy=>?_⟩,hH,by rw[A3,Paired.len hp];exact A7 _⟩
  .have:=(List.getElem?_eq_some_iff.mp hx).1;rw[A3,Paired.len hp]at this;exact this
  .obtain⟨rfl,kv,b,q1,rfl,q3⟩:=hy;obtain⟨e3,G3⟩:=G2.adopt q3;refine⟨_,e3,G3,?_⟩;rw[C0]at hx;cases c:kvs[i]? with
   |none=>rw[c]at hx;cases hx
   |some kw=>
    rw[c]at hx;cases hx;obtain⟨q,hq,e,_⟩:=Paired.get hp c;rw[q1]at hq;cases hq;exact⟨b,_,rfl,aP,e▸CN _⟩
 .intro hh;cases hh
noncomputable def aAo(t:TS):TS:=fun D σ H=>t { D with nx:=fun σ1 H1=>∃a kvs,H1 a=some (.dT kvs)/\∀o,D.nx σ1 (upd H1 a (.frz o (.dT kvs))) } σ H
theorem WJ{X:Cx}{st:Stmt}{t:TS}(h:PS X st t):PS X st (aAo t):=by
 intro pins s σ H D I q;refine thn (h pins s σ H _ I q) fun f s1 z=>?_;cases f with
 |next=>
  obtain⟨σ1,H1,I1,a,kvs,ha,q⟩:=z;obtain⟨z,hs,xs,r,od,es,ep,h1,h2,h3,h4,h5⟩:=(show bT X.prog X.w H1 s1.heap a (.dT kvs)from I1.hok a _ ha)
  have up:∀b xs,H1 b=some (.tup xs)->upd H1 a (.frz od (.dT kvs)) b=some (.tup xs):=fun b xs e=>by
   rw[aL (fun z=>by rw[z,ha]at e;cases e)];exact e
  exact⟨σ1,_,qL (ob:=.frz od (.dT kvs)) (t':=s1.toks) I1 (by rw[ha];exact True.intro) (Heap.SameBut.refl _ _) ⟨od,h1⟩ ⟨h1,z,hs,xs,KT.keeps r up,od,es,ep,h1,h2,h3,h4,h5⟩,q od⟩
 |brk=>exact z
 |cont=>exact z
 |ret v=>exact z
noncomputable def CV(k:Nat)(γ:Ga)(M:Sto):Option (Ga×Sto):=match γ[k]? with
 |some (some (.c i))=>match M[i]? with
  |some (.dt kvs)=>(rS kvs).bind fun ds=>some (γ.set k (some (.f ds)),M.set i .dead)
  |_=>none
 |_=>none
noncomputable def DU(k:Nat)(f:SF):SF:=fun γ M=>(f γ M).bind fun r=>match r.1 with
 |.nx γ'=>(CV k γ' r.2).bind fun q=>some (.nx q.1,q.2)
 |o=>some (o,r.2)
theorem WK{t:TS}{f:SF}{k:Nat}(a:SS K t f):SS K (aAo t) (DU k f):=by
 intro γ M o M' hh W H σ D G R c;obtain⟨⟨o1,M1⟩,h1,hh⟩:=aH hh;refine a _ _ _ _ h1 W H σ _ G R fun W1 H1 e1 G1=>?_;cases o1 with
 |nx γ1=>
  obtain⟨⟨γ2,M2⟩,h2,hh⟩:=aH (show(CV k γ1 M1).bind _=_ from hh);cases hh;unfold CV at h2;split at h2
  .rename_i i hi;split at h2
   .rename_i kvs hx;obtain⟨ds,h3,h2⟩:=aH h2;cases h2;intro σ1 R1;obtain⟨us,hu,pu⟩:=G1.dtAt hx;refine⟨_,us,hu,fun o=>?_⟩;obtain⟨e2,G2⟩:=G1.freeze hx (by intro z;cases z) (o':=.frz o (.dT us));obtain⟨y,hy,ry⟩:=Paired.get R1 hi;refine c _ _ (e1.trans e2) G2 σ1 ?_;cases y with
    |none=>exact False.elim ry
    |some v=>
     refine wN (R1.up e2) hy ?_;exact⟨W1.α i,o,us,ry.2,aP,Paired.mapP (tD h3 pu) fun _ _ r=>⟨r.1,Rep.same e2.ff _ _ r.2⟩⟩
   .cases h2
  .cases h2
 |bk γ1=>cases hh;exact c W1 H1 e1 G1
 |ct γ1=>cases hh;exact c W1 H1 e1 G1
 |rt x=>cases hh;exact c W1 H1 e1 G1
end
section
variable{ι:Type}{K:Fg}{X:ι->Cx}{e a:Expr}{es:List Expr}{f:EF}{fa:AF}{sf:SF}{st:Stmt}{pos:Pos}
theorem WT(k:Nat)(x:MS K X st sf):MS K X st (DU k sf):=by
 obtain⟨t,x1,x2⟩:=x.ex;exact⟨_,fun i=>WJ (x1 i),WK x2⟩
theorem aFL(x:ME K X e f):MK K X e (kT f):=by
 obtain⟨t,x1,x2⟩:=x.ex;exact⟨_,x1,aFy x2⟩
theorem VQ{tg:Expr}(x:ME K X a f):MI K X tg a (KL f):=by
 obtain⟨t,x1,x2⟩:=x.ex;exact⟨_,fun i=>XQ (x1 i),UY x2⟩
end
section
variable{ι:Type}{K:Fg}{X:ι->Cx}{N':List Str}{cap:List (Option Nat)}{scope:Scope}{tg iter elt:Expr}{ifs:List Expr}{f fi:EF}{gf:GF}{ft:TF}{pos:Pos}
theorem wO(hK:∀i,(X i).K=K):Q2 K X (binaryOp .Add) sT:=⟨_,fun i=>(show OpR (X i) (binaryOp .Add) (DY K)by have:=op_catS (X:=X i);rw[hK i]at this;exact this),YL⟩
end
end L2
namespace HT
open PySem  PySem.Spec PyProof.Rows
end HT
namespace L2
variable{K:Fg}
open PySem PySem.Spec PyProof.Rows
theorem vK:∀{ds:List PyData}{ns:List Int},mM ds=some ns->ds=ns.map .int
 |[],_=>fun h=>by cases h;rfl
 |d::ds,ns=>fun h=>by
  cases d with
  |int n=>
   obtain⟨ms,h1,h2⟩:=Option.bind_eq_some_iff.mp (show(mM ds).bind (fun ns=>some (n::ns))=some ns from h);cases h2;rw[vK h1];rfl
  |_=>cases h
theorem nE{K:Fg}{H:Hp}:∀{ns:List Int}{us:List V},aJ K H (ns.map .int) us->us=ns.map .int
 |[],_=>fun h=>h
 |n::ns,_=>fun h=>by
  obtain⟨v,r,rfl,h1,h2⟩:=(show ∃v r,_=v::r/\Rep K H (.int n) v/\aJ K H (ns.map .int) r from h);rw[nE h2,show v=V.int n from h1];rfl
noncomputable def TJ(K:Fg):List V->Hp->VK->Prop:=fun xs H Q=>∃(p:Addr)(ns:List Int),xs=[.ref p]/\SqL K H p (ns.map .int)/\Q (.int ns.sum) H
theorem MD{X:Cx}(hc:X.calm=true):eT X (.builtin "sum") (TJ X.K):=by
 intro pins s σ H xs us Q I r h;obtain⟨p,ns,rfl,hp,q⟩:=h;obtain⟨u,rfl,ru⟩:=vals1 r;cases ru;obtain⟨its,rv,pl,hz⟩:=I.list hp;have hi:=intsAre_of rv;obtain⟨zs,e⟩:=hi.allInts.items;have pl':=pl.isList;have e1:=hi.numsOf;rw[show its=its.toArray.toList from rfl,e,nums_intItems]at e1;rw[e]at pl';refine sum_intListG (I.ok.hd hc) pl' fun h' tk t' hk=>?_;refine⟨.int _,H,I.kept (h':=h') (t':=tk) hk,⟨t',rfl⟩,?_⟩;rw[preSum_eq,List.take_of_length_le (by simp),e1];exact q
theorem aEN{X:Cx}(h:X.K=K)(hc:X.calm=true):eT X (.builtin "sum") (TJ K):=by subst h;exact MD hc
noncomputable def sumF:FN:=fun xs M=>match xs with
 |[.d (.list ds)]=>(mM ds).bind fun ns=>some (.d (.int ns.sum),M)
 |_=>none
theorem VI:PN K (TJ K) sumF:=by
 intro xs M z M' h W H vs Q G r k;unfold sumF at h;split at h
 .rename_i ds;obtain⟨ns,h1,h⟩:=aH h;cases h;rcases r with _|⟨r1,_|_⟩;obtain⟨p,us,rfl,hq,hr⟩:=(show ∃a us,_=V.ref a/\SqL K W.F a us/\aJ K W.F ds us from r1);rw[vK h1]at hr;have e:=nE hr;subst e;exact⟨p,ns,rfl,G.fh.seq hq,k _ W H (.refl _) G rfl⟩
 .cases h
theorem PU{ι:Type}{X:ι->Cx}(hK:∀i,(X i).K=K)(hc:∀i,(X i).calm=true):QN K X (.builtin "sum") sumF:=⟨_,fun i=>aEN (hK i) (hc i),VI⟩
section
variable{K:Fg}{ι:Type}{X:ι->Cx}
noncomputable def xK:F2:=pI fun i j=>ifS (zO i j) (.int (i*2 ^ j.toNat))
noncomputable def YU:F2:=pI fun i j=>ifS (decide (0<=j)) (.int (i / 2 ^ j.toNat))
noncomputable def QO:F2:=pI fun i j=>some (.int (Builtin.bitAnd i j))
theorem RR{i j:Int}(h:zO i j=true):VR i j:=by
 unfold zO at h;simp only[Bool.and_eq_true,decide_eq_true_eq]at h;exact⟨h.1.1,h.1.2,h.2⟩
theorem aFv:Q2 K X (binaryOp .LShift) xK:=⟨_,fun _=>aCl,LH fun _ _ h=>RR h⟩
theorem aEo:Q2 K X (binaryOp .RShift) YU:=⟨_,fun _=>aBB,LH fun _ _ h=>C3 h⟩
theorem aCp:Q2 K X (binaryOp .BitAnd) QO:=⟨_,fun _=>aCf,QX⟩
end
noncomputable def Rsg(xs:Array Nat):Prop:=∀i k:Nat,i<k->k<xs.size->xs.getD i 0<xs.getD k 0
structure Cut(xs:Array Nat)(j r:Nat):Prop where
 le:r<=xs.size
 lo:∀i,i<r->xs.getD i 0<j
 hi:∀i,r<=i->i<xs.size->j<=xs.getD i 0
theorem TN{xs:Array Nat}{i a b:Nat}(h:i<xs.size):xs.getD i a=xs.getD i b:=by
 rw[C2,C2,E3 h];rfl
theorem vL{xs:Array Nat}{j:Nat}(R:Rsg xs):∀(fuel lo hi:Nat),hi<=lo+fuel->lo<=hi->hi<=xs.size->(∀i,i<lo->xs.getD i 0<j)->(∀i,hi<=i->i<xs.size->j<=xs.getD i 0)->Cut xs j (SetTable.below.go xs j fuel lo hi)
 |0=>fun lo hi h1 h2 h3 h4 h5=>by
  have:lo=hi:=by omega
  subst this;exact⟨h3,h4,h5⟩
 |fuel+1=>fun lo hi h1 h2 h3 h4 h5=>by
  unfold SetTable.below.go;by_cases h:lo<hi
  .rw[B0 h];dsimp only;have ml:(lo+hi) / 2<hi:=by omega
   have mg:lo<=(lo+hi) / 2:=by omega
   generalize (lo+hi) / 2=m at ml mg;rw[TN (b:=0) (by omega)];by_cases c:xs.getD m 0<j
   .rw[B0 c];refine vL R fuel (m+1) hi (by omega) (by omega) h3 (fun i hi'=>?_) h5;by_cases e:i=m
    .rw[e];exact c
    .have:=R i m (by omega) (by omega);omega
   .rw[B2 c];refine vL R fuel lo m (by omega) mg (by omega) h4 (fun i h6 h7=>?_);by_cases e:i=m
    .rw[e];omega
    .have:=R m i (by omega) h7;omega
  .rw[B2 h];have:lo=hi:=by omega
   subst this;exact⟨h3,h4,h5⟩
theorem lD{xs:Array Nat}(j:Nat)(R:Rsg xs):Cut xs j (SetTable.below xs j):=
 vL R xs.size 0 xs.size (by omega) (J5 _) (A7 _) (fun i h=>absurd h (Nat.not_lt_zero _)) fun i h h'=>by omega
theorem GX{xs:Array Nat}{i:Nat}(R:Rsg xs)(h:i<xs.size):SetTable.below xs (xs.getD i 0+1)=i+1:=by
 have c:=lD (xs.getD i 0+1) R;by_cases h1:SetTable.below xs (xs.getD i 0+1)<=i
 .have:=c.hi i h1 h;omega
 .by_cases h2:i+1<SetTable.below xs (xs.getD i 0+1)
  .have a:=c.lo (i+1) h2;have b:=R i (i+1) (by omega) (by have:=c.le;omega);omega
  .omega
theorem FR{xs:Array Nat}(R:Rsg xs):SetTable.below xs 0=0:=by
 have c:=lD 0 R;by_cases h:SetTable.below xs 0=0
 .exact h
 .have:=c.lo 0 (by omega);omega
theorem vW{xs:Array Nat}{p x:Nat}(h:p<=xs.size):(SetTable.insertAt xs p x).size=xs.size+1:=by
 unfold SetTable.insertAt;simp;omega
theorem GQ{xs:Array Nat}{p x i:Nat}(h:p<=xs.size):(SetTable.insertAt xs p x).getD i 0=if i<p then xs.getD i 0 else if i=p then x else xs.getD (i-1) 0:=by
 unfold SetTable.insertAt;rw[C2,Array.getElem?_append];have sz:((xs.extract 0 p).push x).size=p+1:=by simp;omega
 rw[sz];by_cases h1:i<p
 .rw[B0 (by omega),B0 h1,Array.getElem?_push,B2 (by simp;omega),Array.getElem?_extract,C2];simp;rw[B0 (by omega)]
 .rw[B2 h1];by_cases h2:i=p
  .rw[B0 (by omega),B0 h2,Array.getElem?_push,B0 (by simp;omega)];rfl
  .rw[B2 (by omega),B2 h2,Array.getElem?_extract,C2];by_cases h3:i-1<xs.size
   .rw[B0 (by omega),show p+(i-(p+1))=i-1 by omega]
   .rw[B2 (by omega),L3 (by omega)]
theorem IE{xs:Array Nat}{j:Nat}(R:Rsg xs)(nh:SetTable.has xs j=false):Rsg (SetTable.insertAt xs (SetTable.below xs j) j):=by
 have c:=lD j R
 have nh:∀i,i<xs.size->i=SetTable.below xs j->xs.getD i 0≠j:=fun i hi e q=>by
  unfold SetTable.has at nh;rw[<- e,E3 hi]at nh;rw[C2,E3 hi]at q;have q:xs[i]=j:=q;rw[q]at nh;simp at nh
 generalize SetTable.below xs j=p at c nh;have cl:=c.le;intro i k hik hk;rw[vW c.le]at hk;rw[GQ c.le,GQ c.le]
 have gt:∀i,p<=i->i<xs.size->j<xs.getD i 0:=fun i h1 h2=>by
  have a:=c.hi i h1 h2;by_cases e:i=p
  .have:=nh i h2 e;omega
  .have b:=c.hi p (A7 _) (by omega);have d:=R p i (by omega) h2;omega
 by_cases h1:i<p
 .rw[B0 h1];have:=c.lo i h1;by_cases h2:k<p
  .rw[B0 h2];exact R i k hik (by omega)
  .rw[B2 h2];by_cases h3:k=p
   .rw[B0 h3];exact this
   .rw[B2 h3];have:=gt (k-1) (by omega) (by omega);omega
 .rw[B2 h1,B2 (by omega:¬k<p),B2 (by omega:¬k=p)];by_cases h3:i=p
  .rw[B0 h3];exact gt (k-1) (by omega) (by omega)
  .rw[B2 h3];exact R (i-1) (k-1) (by omega) (by omega)
theorem pX{t:SetTable}{f:Nat->Int}{h:Int}:∀(fuel:Nat)(p:SetTable.Probe)(j:Nat)(d:Option Nat),(∀x,p.dummy=some x->SetTable.has t.place x=false)->SetTable.probe.go t f h fuel p=some (.empty j d)->SetTable.has t.place j=false/\∀x,d=some x->SetTable.has t.place x=false
 |0=>fun p j d hp e=>by cases e
 |fuel+1=>fun p j d hp e=>by
  unfold SetTable.probe.go at e
  have nl:∀x,(∀i,t.slot x≠.live i)->SetTable.has t.place x=false:=fun x hx=>by
   unfold SetTable.slot at hx;unfold SetTable.has;dsimp only at hx;cases q:(t.place[SetTable.below t.place x]?==some x)with
   |false=>rfl
   |true=>rw[q]at hx;exact absurd rfl (hx _)
  cases sl:t.slot p.j with
  |empty=>
   rw[sl]at e;cases e;exact⟨nl _ (fun i=>by rw[sl];exact nofun),hp⟩
  |dummy=>
   rw[sl]at e;refine pX fuel _ j d (fun x hx=>?_) e
   have:(t.advance { p with dummy:=some p.j }).dummy=some p.j:=by
    unfold SetTable.advance;split<;>rfl
   rw[this]at hx;cases hx;exact nl _ (fun i=>by rw[sl];exact nofun)
  |live i=>
   rw[sl]at e;dsimp only at e;split at e
   .cases e
   .refine pX fuel _ j d (fun x hx=>hp x ?_) e;rw[<- hx];unfold SetTable.advance;split<;>rfl
theorem NH{t:SetTable}{h:Int}{j:Nat}{b:Bool}(e:t.freeSlot h=some (j,b)):SetTable.has t.place j=false:=by
 unfold SetTable.freeSlot at e;split at e
 .rename_i k d he;cases e;unfold SetTable.probe at he;obtain⟨h1,h2⟩:=pX _ _ _ _ (fun x hx=>by cases hx) he;cases d with
  |none=>exact h1
  |some x=>exact h2 x rfl
 .cases e
theorem QV{l:List (Nat×Nat)}(h:(l.map (·.1)).Pairwise (·<·)):Rsg (l.map (·.1)).toArray:=by
 intro i k hik hk;rw[C1]at hk;have:=List.pairwise_iff_getElem.mp h i k (by omega) hk hik;rw[C2,C2,U1,U1,B6 (by omega),B6 hk];exact this
theorem IS{f:Nat->Option Nat}:∀(l:List Nat),l.Pairwise (·<·)->((l.filterMap fun j=>(f j).map (j,·)).map (·.1)).Pairwise (·<·)
 |[]=>fun _=>List.Pairwise.nil
 |a::l=>fun h=>by
  obtain⟨h1,h2⟩:=List.pairwise_cons.mp h;have ih:=IS (f:=f) l h2;rw[Y3];cases e:f a with
  |none=>exact ih
  |some b=>
   show(a::_).Pairwise (·<·);refine List.pairwise_cons.mpr ⟨fun x hx=>?_,ih⟩;obtain⟨y,hy,rfl⟩:=List.mem_map.mp hx;obtain⟨j,hj,hy⟩:=List.mem_filterMap.mp hy;obtain⟨z,_,rfl⟩:=Option.map_eq_some_iff.mp hy;exact h1 j hj
noncomputable abbrev t7(b:Bool)(p:Array Nat):SetTable:=⟨7,p,#[],0,b,0,true⟩
noncomputable abbrev t31(b:Bool)(p:Array Nat):SetTable:=⟨31,p,#[],0,b,1,true⟩
noncomputable def okF(p:Array Nat):Bool:=[true,false].all fun b=>(List.range 9).all fun v=>match SetTable.freeSlot (t7 b p) ((v:Nat):Int)with
 |some (j,false)=>decide (j<=7)
 |_=>false
noncomputable def ZT:Bool:=okF #[]&&(List.range 8).all fun a=>okF #[a]&&(List.range 8).all fun b=>!(decide (a<b)) || (okF #[a,b]&&(List.range 8).all fun c=>!(decide (b<c)) || (okF #[a,b,c]&&(List.range 8).all fun d=>!(decide (c<d)) || okF #[a,b,c,d]))
theorem GR:ZT=true:=by decide +kernel
theorem xX{f:Nat->Bool}(h:(List.range 8).all f=true){a:Nat}(ha:a<=7):f a=true:=List.all_eq_true.mp h a (List.mem_range.mpr (by omega))
theorem aBw{p:Array Nat}(R:Rsg p)(le:∀i,i<p.size->p.getD i 0<=7)(h4:p.size<=4):okF p=true:=by
 have A:=GR;unfold ZT at A;obtain⟨A0,A⟩:=Bool.and_eq_true_iff.mp A;obtain⟨l⟩:=p
 match l,R,le,h4 with
 |[],_,_,_=>exact A0
 |[a],R,le,_=>exact(Bool.and_eq_true_iff.mp (xX A (le 0 (by simp)))).1
 |[a,b],R,le,_=>
  have A:=xX (Bool.and_eq_true_iff.mp (xX A (le 0 (by simp)))).2 (le 1 (by simp));have ab:a<b:=R 0 1 (by omega) (by simp);rcases Bool.or_eq_true_iff.mp A with A|A
  .exact absurd ab (by simpa using A)
  .exact(Bool.and_eq_true_iff.mp A).1
 |[a,b,c],R,le,_=>
  have A:=xX (Bool.and_eq_true_iff.mp (xX A (le 0 (by simp)))).2 (le 1 (by simp));have ab:a<b:=R 0 1 (by omega) (by simp);have bc:b<c:=R 1 2 (by omega) (by simp);rcases Bool.or_eq_true_iff.mp A with A|A
  .exact absurd ab (by simpa using A)
  .have A:=xX (Bool.and_eq_true_iff.mp A).2 (le 2 (by simp));rcases Bool.or_eq_true_iff.mp A with A|A
   .exact absurd bc (by simpa using A)
   .exact(Bool.and_eq_true_iff.mp A).1
 |[a,b,c,d],R,le,_=>
  have A:=xX (Bool.and_eq_true_iff.mp (xX A (le 0 (by simp)))).2 (le 1 (by simp));have ab:a<b:=R 0 1 (by omega) (by simp);have bc:b<c:=R 1 2 (by omega) (by simp);have cd:c<d:=R 2 3 (by omega) (by simp);rcases Bool.or_eq_true_iff.mp A with A|A
  .exact absurd ab (by simpa using A)
  .have A:=xX (Bool.and_eq_true_iff.mp A).2 (le 2 (by simp));rcases Bool.or_eq_true_iff.mp A with A|A
   .exact absurd bc (by simpa using A)
   .have A:=xX (Bool.and_eq_true_iff.mp A).2 (le 3 (by simp));rcases Bool.or_eq_true_iff.mp A with A|A
    .exact absurd cd (by simpa using A)
    .exact A
 |_::_::_::_::_::_,_,_,h4=>simp at h4
theorem aDF{b:Bool}{p:Array Nat}{h:Int}(h0:0<=h)(h9:h<9)(R:Rsg p)(le:∀i,i<p.size->p.getD i 0<=7)(h4:p.size<=4):∃j,SetTable.freeSlot (t7 b p) h=some (j,false)/\j<=7:=by
 have A:=aBw R le h4;unfold okF at A;have A:=List.all_eq_true.mp (List.all_eq_true.mp A b (by cases b<;>simp)) h.toNat (List.mem_range.mpr (by omega));rw[show((h.toNat:Nat):Int)=h by omega]at A;revert A;split
 .rename_i j e;intro A;exact⟨j,e,by simpa using A⟩
 .intro A;cases A
theorem JT{h:Int}(h0:0<=h)(h9:h<9):SetTable.bits h=h.toNat:=by
 unfold SetTable.bits;rw[Int.emod_eq_of_lt h0 (by omega)]
theorem VZ{xs:Array Nat}{j:Nat}(h:SetTable.has xs j=true):∃i:Nat,xs[i]?=some j:=by
 unfold SetTable.has at h;exact⟨_,by simpa using h⟩
theorem aBF{b:Bool}{p:Array Nat}{h:Int}(h0:0<=h)(h9:h<9)(nh:SetTable.has p h.toNat=false):SetTable.freeSlot (t31 b p) h=some (h.toNat,false):=by
 have hm:h.toNat % (31+1)=h.toNat:=Nat.mod_eq_of_lt (by omega)
 have sl:(t31 b p).slot h.toNat=.empty:=by
  unfold SetTable.slot;unfold SetTable.has at nh;dsimp only;rw[nh];rfl
 have e:(t31 b p).probe (fun _=>h+1) h ((t31 b p).probeStart h)=some (.empty h.toNat none):=by
  unfold SetTable.probe SetTable.probeStart;show SetTable.probe.go (t31 b p) _ h (459+1) _=_;unfold SetTable.probe.go;dsimp only;rw[JT h0 h9,hm,sl]
 unfold SetTable.freeSlot;rw[e];rfl
noncomputable def aDk(acc:Option (Array (Option Nat)×Nat))(h:Int):Option (Array (Option Nat)×Nat):=acc.bind fun x=>(SetTable.layClean.free 31 x.1 (SetTable.turns 31) (SetTable.bits h % (31+1)) (SetTable.bits h)).bind fun j=>some (x.1.setIfInBounds j (some x.2),x.2+1)
theorem VC{ow:Array (Option Nat)}{i f pt:Nat}(hi:i<9)(hn:ow.getD i (some 0)=none):SetTable.layClean.free 31 ow (f+1) i pt=some i:=by
 unfold SetTable.layClean.free
 have e:SetTable.runEnd 31 i+1-i=9+1:=by
  unfold SetTable.runEnd;rw[B0 (by omega)];omega
 rw[e,List.range_succ_eq_map,List.find?_cons_of_pos (by rw[Nat.add_zero,hn];rfl)];rfl
theorem FE:∀(hs:List Int)(ow:Array (Option Nat))(k:Nat),ow.size=32->(∀h∈hs,0<=h/\h<9/\ow.getD h.toNat (some 0)=none)->hs.Nodup->
 ∃ow',hs.foldl aDk (some (ow,k))=some (ow',k+hs.length)/\∀j i:Nat,ow'.getD j none=some i↔(ow.getD j none=some i\/(k<=i/\hs[i-k]?=some (j:Int)))
 |[]=>fun ow k sz H nd=>⟨ow,rfl,fun j i=>by simp⟩
 |h::hs=>fun ow k sz H nd=>by
  obtain⟨h0,h9,hn⟩:=H h A9;obtain⟨nd1,nd2⟩:=List.nodup_cons.mp nd
  have st:aDk (some (ow,k)) h=some (ow.setIfInBounds h.toNat (some k),k+1):=by
   show(SetTable.layClean.free 31 ow (45+1) (SetTable.bits h % (31+1)) (SetTable.bits h)).bind _=_;rw[JT h0 h9,Nat.mod_eq_of_lt (by omega),VC (by omega) hn];rfl
  have ga:∀(j:Nat)(d:Option Nat),j<32->(ow.setIfInBounds h.toNat (some k)).getD j d=if j=h.toNat then some k else ow.getD j d:=fun j d hj=>by
   rw[C2,Array.getElem?_setIfInBounds,C2];by_cases e:h.toNat=j
   .rw[B0 e,B0 e.symm,B0 (by omega)];rfl
   .rw[B2 e,B2 (fun q=>e q.symm)]
  obtain⟨ow',e1,e2⟩:=FE hs (ow.setIfInBounds h.toNat (some k)) (k+1) (by rw[Array.size_setIfInBounds];exact sz) (fun g hg=>by
   obtain⟨g0,g9,gn⟩:=H g (A8 _ hg);refine⟨g0,g9,?_⟩;rw[ga _ _ (by omega),B2 fun q=>nd1 (by rw[show h=g by omega];exact hg)];exact gn) nd2
  refine⟨ow',by rw[List.foldl_cons,st,e1,E9];congr 2;omega,fun j i=>?_⟩;rw[e2];by_cases hj:j<32
  .rw[ga _ _ hj];by_cases e:j=h.toNat
   .rw[B0 e]
    have jn:ow.getD j none=none:=by
     rw[C2]at hn ⊢;rw[e];cases q:ow[h.toNat]? with
     |none=>rfl
     |some v=>rw[q]at hn;exact hn
    rw[jn];constructor
    .rintro(q|⟨q1,q2⟩)
     .cases q;exact .inr ⟨A7 _,by rw[S4];simp;omega⟩
     .refine absurd (L7 q2) ?_;rw[show((j:Nat):Int)=h by omega];exact nd1
    .rintro(q|⟨q1,q2⟩)
     .cases q
     .by_cases ek:i=k
      .exact .inl (by rw[ek])
      .refine .inr ⟨by omega,?_⟩;rw[show i-k=(i-(k+1))+1 by omega,List.getElem?_cons_succ]at q2;exact q2
   .rw[B2 e];constructor
    .rintro(q|⟨q1,q2⟩)
     .exact .inl q
     .refine .inr ⟨by omega,?_⟩;rw[show i-k=(i-(k+1))+1 by omega,List.getElem?_cons_succ];exact q2
    .rintro(q|⟨q1,q2⟩)
     .exact .inl q
     .refine .inr ?_;by_cases ek:i=k
      .rw[ek,S4,List.getElem?_cons_zero]at q2;cases q2;exact absurd (J6 j).symm e
      .refine⟨by omega,?_⟩;rw[show i-k=(i-(k+1))+1 by omega,List.getElem?_cons_succ]at q2;exact q2
  .have n1:∀o:Array (Option Nat),o.size=32->o.getD j none=none:=fun o ho=>by
    rw[C2,L3 (by omega)];rfl
   rw[n1 _ sz,n1 _ (by rw[Array.size_setIfInBounds];exact sz)]
   have no:∀(l:List Int)(x:Nat),(∀g∈l,g<9)->l[x]?≠some (j:Int):=fun l x hl q=>by
    have:=hl _ (L7 q);omega
   constructor
   .rintro(q|⟨q1,q2⟩)
    .cases q
    .exact absurd q2 (no _ _ fun g hg=>(H g (A8 _ hg)).2.1)
   .rintro(q|⟨q1,q2⟩)
    .cases q
    .exact absurd q2 (no _ _ fun g hg=>(H g hg).2.1)
theorem aFm{hs:Array Int}(H:∀h∈hs.toList,0<=h/\h<9)(nd:hs.toList.Nodup):∃ow,SetTable.layClean 31 hs=some ow/\∀j i:Nat,ow.getD j none=some i↔hs.toList[i]?=some (j:Int):=by
 have g0:∀(j:Nat)(d:Option Nat),(Array.replicate (31+1) (none:Option Nat)).getD j d=if j<32 then none else d:=fun j d=>by
  rw[C2,Array.getElem?_replicate];by_cases h:j<32
  .rw[B0 h,B0 h];rfl
  .rw[B2 h,B2 h];rfl
 obtain⟨ow,e1,e2⟩:=FE hs.toList (Array.replicate (31+1) none) 0 (by rw[Array.size_replicate]) (fun h hh=>⟨(H h hh).1,(H h hh).2,by rw[g0,B0 (by have:=H h hh;omega)]⟩) nd;refine⟨ow,?_,fun j i=>?_⟩
 .unfold SetTable.layClean;rw[<- Array.foldl_toList];show Option.map (fun x=>x.1) (List.foldl aDk (some (Array.replicate (31+1) none,0)) hs.toList)=some ow;rw[e1];rfl
 .rw[e2,g0];have:(if j<32 then(none:Option Nat)else none)=none:=by split<;>rfl
  rw[this];simp
theorem SD{es:Array (Int×Value)}:∀(l:List (Nat×Nat)),(∀q∈l,∃e,es[q.2]?=some e/\e.1.toNat=q.1)->((l.map (·.2)).filterMap (es[·]?)).map (fun e=>e.1.toNat)=l.map (·.1)
 |[]=>fun _=>rfl
 |q::l=>fun H=>by
  obtain⟨e,h1,h2⟩:=H q A9;have ih:=SD l fun p hp=>H p (A8 _ hp);rw[C6,Y3,h1,C6,ih,h2];rfl
theorem YO{b:Bool}{p:Array Nat}{es:Array (Int×Value)}{w:Nat}(hw:SetTable.sizeAbove w=32)(H:∀h∈(es.map (·.1)).toList,0<=h/\h<9)(nd:(es.map (·.1)).toList.Nodup)(n9:es.size<=31):
 ∃q,(relayAll (t7 b p) es w).2.1=t31 b q/\Rsg q/\q.toList=(relayAll (t7 b p) es w).1.toList.map fun e=>e.1.toNat:=by
 obtain⟨ow,e1,e2⟩:=aFm H nd;have sz:(es.map (·.1)).toList.length=es.size:=by simp
 have live:∀q∈(List.range (31+1)).filterMap (fun j=>(ow.getD j none).map (j,·)),(es.map (·.1)).toList[q.2]?=some (q.1:Int)/\q.1<32:=fun q hq=>by
  obtain⟨j,hj,h⟩:=List.mem_filterMap.mp hq;obtain⟨i,hi,rfl⟩:=Option.map_eq_some_iff.mp h;exact⟨(e2 j i).mp hi,List.mem_range.mp hj⟩
 have rl:(t7 b p).relaid (es.map (·.1)) w=some (t31 b (((List.range (31+1)).filterMap fun j=>(ow.getD j none).map (j,·)).map (·.1)).toArray,(((List.range (31+1)).filterMap fun j=>(ow.getD j none).map (j,·)).map (·.2)).toArray):=by
  unfold SetTable.relaid SetTable.laid;rw[hw,show 32-1=31 from rfl,e1];rfl
 have pm:((((List.range (31+1)).filterMap fun j=>(ow.getD j none).map (j,·)).map (·.2))).Perm (List.range es.size):=by
  refine(List.perm_ext_iff_of_nodup ?_ List.nodup_range).mpr fun i=>?_
  .rw[List.map_filterMap];refine List.Pairwise.filterMap (R:=(·≠·)) _ (fun j j' hne i hi i' hi' q=>?_) List.nodup_range;subst q;rw[Option.map_map]at hi hi';obtain⟨x,hx,e⟩:=Option.map_eq_some_iff.mp hi;obtain⟨x',hx',e'⟩:=Option.map_eq_some_iff.mp hi';have e:x=i:=e;have e':x'=i:=e';subst e;subst e';have a1:=(e2 _ _).mp hx;have a2:=(e2 _ _).mp hx';rw[a1]at a2;have:(j:Int)=j':=by simpa using a2
   exact hne (by omega)
  .rw[List.mem_range];constructor
   .intro h;obtain⟨q,hq,rfl⟩:=List.mem_map.mp h;have:=(live q hq).1;have:=(List.getElem?_eq_some_iff.mp this).1;omega
   .intro h;have hi:i<(es.map (·.1)).toList.length:=by omega
    obtain⟨x,hx⟩:∃x,(es.map (·.1)).toList[i]?=some x:=⟨_,B6 hi⟩;have bx:0<=x/\x<9:=H _ (L7 hx);refine List.mem_map.mpr ⟨(x.toNat,i),List.mem_filterMap.mpr ⟨x.toNat,List.mem_range.mpr (by omega),?_⟩,rfl⟩;rw[(e2 _ i).mpr (by rw[hx];congr 1;omega)];rfl
 have rr:Rsg (((List.range (31+1)).filterMap fun j=>(ow.getD j none).map (j,·)).map (·.1)).toArray:=QV (IS _ List.pairwise_lt_range);generalize (List.range (31+1)).filterMap (fun j=>(ow.getD j none).map (j,·))=L at live rl pm rr
 have fs:=SD (es:=es) L fun q hq=>by
  obtain⟨h1,h2⟩:=live q hq;have hl:=(List.getElem?_eq_some_iff.mp h1).1;rw[sz]at hl;refine⟨es[q.2],E3 hl,?_⟩
  have:(es.map (·.1)).toList[q.2]?=some es[q.2].1:=by
   rw[E1,Array.getElem?_map,E3 hl];rfl
  rw[this]at h1;have:es[q.2].1=(q.1:Int):=by simpa using h1
  omega
 have ln:L.length=es.size:=by
  have:=pm.length_eq
  rwa [A3,Z0]at this
 have cv:(coversAll (L.map (·.2)).toArray es.size&&(t31 b (L.map (·.1)).toArray).fits ((L.map (·.2)).toArray.filterMap (es[·]?)).size)=true:=by
  rw[B5];refine⟨List.isPerm_iff.mpr pm,?_⟩;unfold SetTable.fits SetTable.fill
  have s1:((L.map (·.2)).toArray.filterMap (es[·]?)).size=L.length:=by
   have:=U6 List.length fs;rw[A3,A3]at this;rw[List.filterMap_toArray,C1];exact this
  rw[s1];simp;omega
 refine⟨(L.map (·.1)).toArray,?_,rr,?_⟩
 .unfold relayAll;rw[rl];dsimp only;rw[B0 cv]
 .unfold relayAll;rw[rl];dsimp only;rw[B0 cv];rw[List.filterMap_toArray];exact fs.symm
noncomputable def vI:Value->Int
 |.int i _=>i
 |_=>0
structure Tp(b:Bool)(t:SetTable)(es:Array (Int×Value)):Prop where
 bd:∀e∈es.toList,0<=e.1/\e.1<9
 vl:∀e∈es.toList,vI e.2=e.1
 nd:(es.toList.map (·.1)).Nodup
 fm:∃p,Rsg p/\((t=t7 b p/\(∀i,i<p.size->p.getD i 0<=7)/\p.size<=4/\p.size=es.size)\/(t=t31 b p/\p.toList=es.toList.map fun e=>e.1.toNat))
theorem Tp.fresh(b:Bool):Tp b (.fresh 0 0 b) #[]:=⟨fun e h=>by simp at h,fun e h=>by simp at h,List.nodup_nil,#[],fun i k _ h=>absurd h (Nat.not_lt_zero _),.inl ⟨rfl,fun i h=>absurd h (Nat.not_lt_zero _),J5 _,rfl⟩⟩
theorem Tp.plain{b:Bool}{t:SetTable}{es:Array (Int×Value)}(T:Tp b t es):t.plain=true/\t.led=b/\Rsg t.place:=by
 obtain⟨p,R,⟨rfl,_⟩|⟨rfl,_⟩⟩:=T.fm<;>exact⟨rfl,rfl,R⟩
theorem SH{p:Array Nat}(R:Rsg p):∀i,i<p.size->i<=p.getD i 0
 |0=>fun _=>J5 _
 |i+1=>fun h=>by
  have a:=SH R i (by omega);have b:=R i (i+1) (by omega) h;omega
theorem nP{α:Type}{xs:Array α}{p:Nat}{x:α}:(SetTable.insertAt xs p x).toList=xs.toList.take p++x::xs.toList.drop p:=by
 unfold SetTable.insertAt;simp;rw[List.take_of_length_le (by simp)]
theorem Tp.lay{b:Bool}{t:SetTable}{es:Array (Int×Value)}(T:Tp b t es){h:Int}{x:Value}(h0:0<=h)(h9:h<9)(hv:vI x=h)(out:h∉es.toList.map (·.1)):
 (layNew t es h x).2.2.1=false/\(layNew t es h x).2.1.plain=true /\
 (((layNew t es h x).2.1.tooFull=false/\Tp b (layNew t es h x).2.1 (layNew t es h x).1)\/((layNew t es h x).2.1.tooFull=true/\Tp b (relayAll (layNew t es h x).2.1 (layNew t es h x).1 (SetTable.grown (layNew t es h x).1.size)).2.1 (relayAll (layNew t es h x).2.1 (layNew t es h x).1 (SetTable.grown (layNew t es h x).1.size)).1)):=by
 have bd':∀k,∀e∈(SetTable.insertAt es k (h,x)).toList,0<=e.1/\e.1<9:=fun k e he=>by
  rw[nP]at he;rcases List.mem_append.mp he with he|he
  .exact T.bd e (List.mem_of_mem_take he)
  .rcases List.mem_cons.mp he with rfl|he
   .exact⟨h0,h9⟩
   .exact T.bd e (List.mem_of_mem_drop he)
 have vl':∀k,∀e∈(SetTable.insertAt es k (h,x)).toList,vI e.2=e.1:=fun k e he=>by
  rw[nP]at he;rcases List.mem_append.mp he with he|he
  .exact T.vl e (List.mem_of_mem_take he)
  .rcases List.mem_cons.mp he with rfl|he
   .exact hv
   .exact T.vl e (List.mem_of_mem_drop he)
 have pmk:∀k,(SetTable.insertAt es k (h,x)).toList.Perm ((h,x)::es.toList):=fun k=>by
  rw[nP];refine List.perm_middle.trans ?_;rw[List.take_append_drop]
 have nd':∀k,((SetTable.insertAt es k (h,x)).toList.map (·.1)).Nodup:=fun k=>((pmk k).map (·.1)).symm.nodup (List.nodup_cons.mpr ⟨out,T.nd⟩)
 have sz':∀k,(SetTable.insertAt es k (h,x)).size=es.size+1:=fun k=>by
  have:=(pmk k).length_eq;rw[C4,E9,C4]at this;exact this
 obtain⟨p,R,⟨rfl,le,h4,sz⟩|⟨rfl,hp⟩⟩:=T.fm
 .obtain⟨j,fj,j7⟩:=aDF (b:=b) h0 h9 R le h4;have nh:=NH fj;have R':=IE R nh;have cb:=(lD j R).le;have pz:(SetTable.insertAt p (SetTable.below p j) j).size=p.size+1:=vW cb
  have L:layNew (t7 b p) es h x=(SetTable.insertAt es (SetTable.below p j) (h,x),t7 b (SetTable.insertAt p (SetTable.below p j) j),false,false):=by
   unfold layNew;rw[fj]
   have ft:(t7 b (SetTable.insertAt p (SetTable.below p j) j)).fits (SetTable.insertAt es (SetTable.below p j) (h,x)).size=true:=by
    unfold SetTable.fits SetTable.fill;rw[sz',B5];exact⟨by simp[pz,sz],by simp[pz];omega⟩
   have pt:(t7 b p).put j=(t7 b (SetTable.insertAt p (SetTable.below p j) j),SetTable.below p j):=rfl;dsimp only;rw[pt];dsimp only;unfold SetTable.orStandIn;rw[ft];rfl
  have le':∀i,i<(SetTable.insertAt p (SetTable.below p j) j).size->(SetTable.insertAt p (SetTable.below p j) j).getD i 0<=7:=fun i hi=>by
   rw[GQ cb];rw[pz]at hi;split
   .exact le i (by omega)
   .split
    .exact j7
    .exact le (i-1) (by omega)
  rw[L];dsimp only;refine⟨rfl,rfl,?_⟩;by_cases c:p.size+1<=4
  .refine .inl ⟨?_,bd' _,vl' _,nd' _,_,R',.inl ⟨rfl,le',by omega,by rw[pz,sz',sz]⟩⟩;unfold SetTable.tooFull SetTable.fill;simp[pz];omega
  .have p4:p.size=4:=by omega
   have gs:SetTable.sizeAbove (SetTable.grown (SetTable.insertAt es (SetTable.below p j) (h,x)).size)=32:=by
    rw[sz',<- sz,p4];rfl
   obtain⟨q,e1,e2,e3⟩:=YO (b:=b) (p:=SetTable.insertAt p (SetTable.below p j) j) (es:=SetTable.insertAt es (SetTable.below p j) (h,x)) gs (fun g hg=>by
    rw[Array.toList_map]at hg;obtain⟨e,he,rfl⟩:=List.mem_map.mp hg;exact bd' _ e he) (by rw[Array.toList_map];exact nd' _) (by rw[sz',<- sz];omega)
   refine .inr ⟨?_,fun e he=>?_,fun e he=>?_,?_,q,e2,.inr ⟨e1,e3⟩⟩
   .unfold SetTable.tooFull SetTable.fill;simp[pz];omega
   .exact bd' _ e ((relayAll_perm ..).mem_iff.mp he)
   .exact vl' _ e ((relayAll_perm ..).mem_iff.mp he)
   .exact((relayAll_perm ..).map (·.1)).symm.nodup (nd' _)
 .have nh:SetTable.has p h.toNat=false:=by
   cases c:SetTable.has p h.toNat with
   |false=>rfl
   |true=>
    obtain⟨i,hi⟩:=VZ c;have hi:=L7 (show p.toList[i]?=some h.toNat by rw[E1];exact hi);rw[hp]at hi;obtain⟨e,he,q⟩:=List.mem_map.mp hi;have:=T.bd e he;exact absurd (List.mem_map.mpr ⟨e,he,(by omega:e.1=h)⟩) out
  have fj:=aBF (b:=b) h0 h9 nh;have R':=IE R nh;have cb:=(lD h.toNat R).le;have pz:(SetTable.insertAt p (SetTable.below p h.toNat) h.toNat).size=p.size+1:=vW cb
  have sz:p.size=es.size:=by
   have:=U6 List.length hp;rw[A3,C4,C4]at this;exact this
  have p9:p.size<=9:=by
   by_cases c:p.size=0
   .omega
   .have a:=SH R (p.size-1) (by omega)
    have m:p.getD (p.size-1) 0∈p.toList:=by
     rw[C2,E3 (by omega)];exact Array.getElem_mem_toList _
    rw[hp]at m;obtain⟨e,he,q⟩:=List.mem_map.mp m;have:=T.bd e he;omega
  have L:layNew (t31 b p) es h x=(SetTable.insertAt es (SetTable.below p h.toNat) (h,x),t31 b (SetTable.insertAt p (SetTable.below p h.toNat) h.toNat),false,false):=by
   unfold layNew;rw[fj]
   have ft:(t31 b (SetTable.insertAt p (SetTable.below p h.toNat) h.toNat)).fits (SetTable.insertAt es (SetTable.below p h.toNat) (h,x)).size=true:=by
    unfold SetTable.fits SetTable.fill;rw[sz',B5];exact⟨by simp[pz,sz],by simp[pz];omega⟩
   have pt:(t31 b p).put h.toNat=(t31 b (SetTable.insertAt p (SetTable.below p h.toNat) h.toNat),SetTable.below p h.toNat):=rfl;dsimp only;rw[pt];dsimp only;unfold SetTable.orStandIn;rw[ft];rfl
  rw[L];dsimp only;refine⟨rfl,rfl,.inl ⟨?_,bd' _,vl' _,nd' _,_,R',.inr ⟨rfl,?_⟩⟩⟩
  .unfold SetTable.tooFull SetTable.fill;simp[pz];omega
  .rw[nP,nP,J8,C6,List.map_take,List.map_drop,hp]
structure aDK(prog:Program)(w:World)(b:Bool)(h:Heap)(a:Addr)(es:Array (Int×Value))(σ:List Int):Prop where
 ob:∃o ep t,h.get? a=some o/\o.ExactSet/\o.data=.set es ep t/\t.fits es.size=true/\Tp b t es
 el:ElemsOf (intKind prog w) es.toList
 sm:es.size<scanBound
 pm:(es.toList.map fun e=>vI e.2).Perm σ
noncomputable def vO(prog:Program)(w:World)(b:Bool)(h:Heap)(a:Addr)(σ:List Int):Prop:=∃es,aDK prog w b h a es σ
section
variable{prog:Program}{w:World}{A:Around}{E:Value->Shared->Prop}{s:Shared}
theorem OC{es:List (Int×Value)}(h:ElemsOf (intKind prog w) es){e:Int×Value}(he:e∈es):∃t,e.2=.int (vI e.2) t:=by
 obtain⟨⟨k,hk,_⟩,_⟩:=h e he;obtain⟨t,ht⟩:=Value.isInt_shape (show Value.isInt k e.2=true from hk);exact⟨t,by rw[ht];rfl⟩
theorem aEn{k:Int}{v:Value}(h:(intKind prog w).is k v=true):vI v=k:=by
 obtain⟨t,ht⟩:=Value.isInt_shape (show Value.isInt k v=true from h);rw[ht];rfl
theorem PY{h:Heap}{a:Addr}{o:Obj}{es es':Array (Int×Value)}{ep:Nat}{t t':SetTable}(ho:h.get? a=some o)(hd:o.data=.set es ep t):(h.update a (Obj.putSet es' t')).get? a=some { o with data:=.set es' (ep+1) t' }:=by
 have:=F5 (Obj.putSet es' t') ho (by rw[putSet_of es' t' hd];rfl);rw[putSet_of es' t' hd]at this;exact this
theorem FO{k:Int}(h0:0<=k)(h9:k<9):(intKind prog w).hash k=k:=by
 show hashInt k=k;obtain rfl|rfl|rfl|rfl|rfl|rfl|rfl|rfl|rfl:k=0\/k=1\/k=2\/k=3\/k=4\/k=5\/k=6\/k=7\/k=8:=by omega
 all_goals decide
theorem stored{b:Bool}{h:Heap}{a:Addr}{o:Obj}{es es':Array (Int×Value)}{ep:Nat}{t t':SetTable}{σ:List Int}(ho:h.get? a=some o)(hex:o.ExactSet)(hd:o.data=.set es ep t)(el:ElemsOf (intKind prog w) es'.toList)(sm:es'.size<scanBound)(hf:t'.fits es'.size=true)(T:Tp b t' es')(pm:(es'.toList.map fun e=>vI e.2).Perm σ):
 (h.update a (Obj.putSet es' t')).get? a=some { o with data:=.set es' (ep+1) t' }/\aDK prog w b (h.update a (Obj.putSet es' t')) a es' σ:=by
 have hg:=PY (es':=es') (t':=t') ho hd;exact⟨hg,⟨_,_,_,hg,hex,rfl,hf,T⟩,el,sm,pm⟩
theorem VH{b:Bool}{g:Bool->Sem Unit}(hg:∀(c:Bool)(s1:Shared)(Q':Unit->Shared->Prop),Q' () s1->wpAny (model prog w) A (g c) Q' E s1)
 {a:Addr} {o:Obj} {es es1:Array (Int×Value)} {ep:Nat} {t t2:SetTable} {σ:List Int} {R:Option Bool->Shared->Prop} (ho:s.heap.get? a=some o) (hex:o.ExactSet) (hd:o.data=.set es ep t) (el:ElemsOf (intKind prog w) es1.toList) (sm:es1.size<scanBound) (hf:t2.fits es1.size=true) (pm:(es1.toList.map fun e=>vI e.2).Perm σ)
 (T:(t2.tooFull=false/\Tp b t2 es1)\/(t2.tooFull=true/\Tp b (relayAll t2 es1 (SetTable.grown es1.size)).2.1 (relayAll t2 es1 (SetTable.grown es1.size)).1))
 (h:∀h',Heap.SameBut a s.heap h'->vO prog w b h' a σ->R (some true) { s with heap:=h' }):
 wpAny (model prog w) A (do
  storeSet a es1 t2
  if (!false&&t2.tooFull)=true then do
      g (relayAll t2 es1 (SetTable.grown es1.size)).2.2
      storeSet a (relayAll t2 es1 (SetTable.grown es1.size)).1 (relayAll t2 es1 (SetTable.grown es1.size)).2.1
      pure (some true)
   else pure (some true)) R E s:=by
 have b1:=J1 s.heap a (Obj.putSet es1 t2);refine A1 (wpAny_storeSet_of ho hd ?_ (fits_of_scanBound sm));rcases T with⟨tf,T⟩|⟨tf,T⟩
 .obtain⟨g1,D1⟩:=stored (prog:=prog) (w:=w) ho hex hd el sm hf T pm;rw[tf,B2 (by decide)];exact A4 (h _ b1 ⟨_,D1⟩)
 .rw[tf,B0 (by decide)];have g1:=PY (es':=es1) (t':=t2) ho hd;have rp:=relayAll_perm t2 es1 (SetTable.grown es1.size);have rf:=relayAll_fits t2 es1 (SetTable.grown es1.size);generalize relayAll t2 es1 (SetTable.grown es1.size)=L at rp rf T ⊢;obtain⟨es2,t3,gv⟩:=L;dsimp only at rp rf T ⊢
  have sz:es2.size<scanBound:=by
   rw[<- C4,rp.length_eq,C4];exact sm
  refine A1 (hg _ _ _ (A1 (wpAny_storeSet_of g1 rfl ?_ (fits_of_scanBound sz))));obtain⟨_,D2⟩:=stored (prog:=prog) (w:=w) g1 hex rfl (el.perm rp) sz rf T ((rp.map _).trans pm);exact A4 (h _ (b1.trans (J1 _ a _)) ⟨_,D2⟩)
theorem aCe{b:Bool}{a:Addr}{σ:List Int}{k:Int}{u:Tok}{Q:Bool->Shared->Prop}(k0:0<=k)(k9:k<9)(hS:vO prog w b s.heap a σ)(room:σ.length+1<scanBound)
 (h:∀h' r,Heap.SameBut a s.heap h'->vO prog w b h' a (step_dedup σ k)->Q r { s with heap:=h' }):
 wpAny (model prog w) A (setAddHashed a (.int k u) ((intKind prog w).hash k)) Q E s:=by
 obtain⟨es,⟨o,ep,t,ho,hex,hd,hf,T⟩,el,sm,pm⟩:=hS;have hkey:=intKind_is prog w k u;have hsc:(Value.int k u).scannable=true:=rfl;have len:es.size=σ.length:=by rw[<- C4,<- pm.length_eq,A3]
 unfold setAddHashed setAddHashedIn;refine F7 (A1 (Z8 ho hd hf ?_));dsimp only;rw[byScan_of hsc sm el];simp only[↓reduceIte];unfold setAddByScan;refine A1 (A1 (A0c (A1 (wpAny_setScan_of hkey ho hd hf el ?_))));have es0:s={ s with heap:=s.heap }:=by cases s;rfl
 cases hr:List.findIdx? (fun e=>(intKind prog w).is k e.2) es.toList with
 |some j=>
  obtain⟨hj,hp,_⟩:=List.findIdx?_eq_some_iff_getElem.mp hr;have inn:k∈σ:=pm.mem_iff.mp (List.mem_map.mpr ⟨_,U9 hj,aEn hp⟩)
  have sd:step_dedup σ k=σ:=by
   unfold step_dedup;rw[B0 (List.any_eq_true.mpr ⟨k,inn,by simp⟩)]
  rw[sd]at h;refine A4 (A4 ?_);rw[es0];exact h s.heap _ (Heap.SameBut.refl a s.heap) ⟨es,⟨o,ep,t,ho,hex,hd,hf,T⟩,el,sm,pm⟩
 |none=>
  have out:k∉σ:=fun hk=>by
   obtain⟨e,he,q⟩:=List.mem_map.mp (pm.mem_iff.mpr hk);have:=List.findIdx?_eq_none_iff.mp hr e he;obtain⟨t',ht'⟩:=OC el he;rw[ht',q]at this;rw[intKind_is]at this;cases this
  have sd:step_dedup σ k=σ++[k]:=by
   unfold step_dedup
   rw[B2 fun h=>by
    obtain⟨x,hx,e⟩:=List.any_eq_true.mp h;have:x=k:=by simpa using e
    exact out (this▸hx)]
  rw[sd]at h
  have gw:∀(c:Bool)(s1:Shared)(Q':Unit->Shared->Prop),Q' () s1->wpAny (model prog w) A (match c with|true=>rule "set.scan.the-table-gave-way"|false=>pure ()) Q' E s1:=fun c s1 Q' q=>by
   cases c
   .exact A4 q
   .exact A0c q
  dsimp only;have lp:=layNew_perm t es ((intKind prog w).hash k) (.int k u);have lf:=layNew_fits t es ((intKind prog w).hash k) (.int k u);have hk:=FO (prog:=prog) (w:=w) k0 k9
  have nk:k∉es.toList.map (·.1):=fun hm=>by
   obtain⟨e,he,q⟩:=List.mem_map.mp hm;exact out (pm.mem_iff.mp (List.mem_map.mpr ⟨e,he,(T.vl e he).trans q⟩))
  have lt:=T.lay (x:=.int k u) (h:=(intKind prog w).hash k) (by rw[hk];exact k0) (by rw[hk];exact k9) hk.symm (by rw[hk];exact nk);generalize layNew t es ((intKind prog w).hash k) (.int k u)=L at lp lf lt ⊢;obtain⟨es1,t1,wd,gv⟩:=L;dsimp only at lp lf lt ⊢;obtain⟨rfl,pl,lt⟩:=lt;rw[Array.toList_push]at lp;have el1:=(el.push hkey hsc).perm lp
  have sm1:es1.size<scanBound:=by
   rw[<- C4,lp.length_eq,B9,C4,len];exact room
  have pm1:(es1.toList.map fun e=>vI e.2).Perm (σ++[k]):=by
   refine(lp.map _).trans ?_;rw[J8];exact pm.append_right _
  refine A1 (gw _ _ _ ?_);rw[B0 pl];refine A1 ?_;rw[hashByValue_scannable 8 hsc];refine A4 ?_;exact VH gw ho hex hd el1 sm1 lf pm1 lt fun h' hb hS'=>A4 (h h' _ hb hS')
end
noncomputable abbrev gY(w:World):Bool:=w.params.followText "set-order"
theorem vO.same{prog:Program}{w:World}{b:Bool}{h h':Heap}{a:Addr}{σ:List Int}(S:vO prog w b h a σ)(k:∀o,h.get? a=some o->h'.get? a=some o):vO prog w b h' a σ:=by
 obtain⟨es,⟨o,ep,t,ho,r⟩,el,sm,pm⟩:=S;exact⟨es,⟨o,ep,t,k o ho,r⟩,el,sm,pm⟩
section
variable{prog:Program}{w:World}{A:Around}{E:Value->Shared->Prop}{s:Shared}
theorem yX{R:Result->Shared->Prop}{I:Addr}{fp wr:List Addr}{G:Array GenState->Array GenState->Prop}{n:Nat}{P:Nat->Value->Prop}{St:Nat->Shared->Prop}{b:Bool}(W:WalksS prog w A.in1 I fp wr G n P St)(S:Addr)(hSf:S∉fp)(val:Nat->Int)(hval:∀i v,P i v->(∃t,v=.int (val i) t)/\0<=val i/\val i<9)(hb:n+1<scanBound):
 ∀(k i:Nat)(s:Shared),n-i=k->i<=n->St i s->vO prog w b s.heap S (firstMet val i)->
  (∀s',Moved (S::wr) G s s'->vO prog w b s'.heap S (firstMet val n)->R (.ok (.ret .none)) s')->
  codeAny (model prog w) A (.builtin "set.update.loop" ⟨[.ref S,.ref I],[]⟩) R s
 |0=>fun i s hk hi st hS hR=>by
  have hin:i=n:=by omega
  subst hin;have hw:S∉wr:=fun h=>hSf (W.sub _ h);refine U8 F.entry_set_update_loop ?_;rw[S6 F.plain_set_update_loop _];show wpAny _ A.in1 (pyNext (.ref I) >>= _) _ _ s;refine A1 (W.done s _ _ st fun s' hm=>?_);show wpAny _ A.in1 (ret Value.none) _ _ s';exact A4 (hR s' (hm.mono fun b hb=>A8 _ hb) (hS.same fun o e=>hm.heap S _ hw e))
 |k+1=>fun i s hk hi st hS hR=>by
  have hlt:i<n:=by omega
  have hw:S∉wr:=fun h=>hSf (W.sub _ h);have sub:∀b∈wr,b∈S::wr:=fun b hb=>A8 _ hb;refine U8 F.entry_set_update_loop ?_;rw[S6 F.plain_set_update_loop _];show wpAny _ A.in1 (pyNext (.ref I) >>= _) _ _ s;refine A1 (W.item i s _ _ hlt st fun v s' hP st' hm=>?_);obtain⟨⟨t,rfl⟩,v0,v9⟩:=hval i v hP;have hS':=hS.same fun o e=>hm.heap S _ hw e;show wpAny _ A.in1 (holding [Value.int (val i) t] (setAdd S (.int (val i) t)) >>= _) _ _ s';refine A1 (F7 ?_);unfold setAdd;refine F7 (A1 ((intKind prog w).pyHash (k:=val i) (intKind_is _ _ _ _) ?_));have room:(firstMet val i).length+1<scanBound:=by have:=firstMet_length_le val i;omega
  refine aCe (s:={ s' with toks:=s'.toks+1 }) v0 v9 hS' room fun h' r hsb hS2=>?_;rw[<- firstMet_succ]at hS2;refine A4 ⟨A0h F.plain_set_update_loop _,yX W S hSf val hval hb k (i+1) _ (by omega) hlt (W.frame _ s' _ _ st' (Z6 _) fun b hb o e=>?_) hS2 fun s'' hm'' hS''=>?_⟩
  .rw[hsb.2 b (fun h:b=S=>hSf (by rw[<- h];exact hb))];exact e
  .refine hR s'' (Moved.trans W.gtrans ((hm.mono sub).then_heap (Z6 _) fun b o hb e=>?_) hm'') hS'';rw[hsb.2 b (fun h:b=S=>hb (by rw[h];exact A9))];exact e
theorem TB(a:Value){Q1:Value->Shared->Prop}
 (h:Q1 (.ref s.heap.objs.size) { s with heap:=s.heap.push { cls:=.type "set",dict:=none,data:=.set #[] 0 (.fresh 0 0 (!gY w)) } }):
 codeAny (model prog w) A (.call (.builtin "set.__new__") ⟨[.type "set",a],[]⟩) (wants Q1 E) s:=by
 refine codeAny_of_tree ?_;show wpAny _ A.in1 (do checkBuiltinCall "set.__new__" ⟨[.type "set",a],[]⟩;again (.builtin "set.__new__" ⟨[.type "set",a],[]⟩)) _ _ s;refine A1 (wpAny_of_eq (F.newCall_set_1 a) (A4 ⟨A0h F.plain_set_new _,U8 F.entry_set_new ?_⟩));rw[S6 F.plain_set_new _];unfold Builtin.«set.__new__» Builtin.Frozenset.newClass;have hsub:=sub_set_self;obtain⟨hp,g,d,tk,os⟩:=s;dsimp only at h
 wp_walk
 refine wpAny_askSetting (A4 ?_);dsimp only;simp only[newObj];refine A1 (wpAny_alloc (A4 ?_));exact A4 h
end
theorem slot_si_next:Slot "set_iterator" "__next__" "set_iterator.__next__":=
 .of (owner:="set_iterator") (n:="__next__") (by rw[typeLookup_type,builtinLookup_eq_fast];kernel_rfl) (by decide +kernel) (by decide +kernel) (by decide +kernel)
  (by first|exact .inl (by decide +kernel)|exact .inr (by decide +kernel)) (by rw[isSubtype_type];kernel_rfl)
theorem pF:entryFor table "set_iterator.__next__"=some Builtin.«set_iterator.__next__»:=entryFor_of_tree (by kernel_rfl)
theorem AO:entryFor table "set.__iter__"=some Builtin.«frozenset.__iter__»:=
 entryFor_alias (id':="frozenset.__iter__") (by kernel_rfl) rfl (by decide +kernel) (by kernel_rfl)
theorem rL(a:Value):argsOk "set_iterator.__next__" ⟨[a],[]⟩:=by unfold argsOk;kernel_rfl
noncomputable def pV(h:Heap)(it a:Addr)(q i n ep:Nat):Prop:=∃o,h.get? it=some o/\o.cls=.type "set_iterator"/\o.data=.fields #[.int q 0,.int i 0,.ref a,.int n 0,.int ep 0]
theorem pV.typeIs{s:Shared}{it a:Addr}{q i n ep:Nat}(h:pV s.heap it a q i n ep):s.TypeIs (.ref it) "set_iterator":=let⟨o,ho,hc,_⟩:=h;⟨o,ho,hc⟩
section
variable{prog:Program}{w:World}{A:Around}{E:Value->Shared->Prop}{s:Shared}
theorem qZ{Q:Bool->Shared->Prop}(h:Q (gY w) s):wpAny (model prog w) A setsByText Q E s:=by
 unfold setsByText;exact A1 (wpAny_askSetting (A4 h))
theorem pN{a:Addr}{o:Obj}{es:Array (Int×Value)}{ep ep':Nat}{t:SetTable}{q g i:Nat}{Q:Option (Value×Nat)->Shared->Prop}(nt:gY w=false)(ho:s.heap.get? a=some o)(hd:o.data=.set es ep t)(hf:t.fits es.size=true)(led:t.led=true)(pl:t.plain=true)(bl:SetTable.below t.place q=i)(h:Q (match es[i]?,t.place[i]? with|some (_,x),some j=>some (x,j+1)|_,_=>none) s):wpAny (model prog w) A (setNext a q g ep') Q E s:=by
 unfold setNext;refine A1 (Z8 ho hd hf ?_);dsimp only;refine A1 (qZ ?_);rw[nt,B2 (by decide)];split
 .rename_i c;have c:(!t.plain&&decide (es.size > 1))=true:=c;rw[pl]at c;cases c
 .refine A1 ?_;show wpAny _ _ (if (!t.led&&!es.isEmpty)=true then unsupported "set:maker-not-led" else pure ()) _ _ _;rw[led,B2 (by rw[Bool.not_true,Bool.false_and];decide)];refine A4 ?_;rw[bl];exact A4 h
theorem DE{a:Addr}{o:Obj}{es:Array (Int×Value)}{ep:Nat}{t:SetTable}{Q:Array (Int×Value)->Shared->Prop}(nt:gY w=true)(ho:s.heap.get? a=some o)(hd:o.data=.set es ep t)(hf:t.fits es.size=true)(h:Q (pickOrder (w.params.setOrder a ep) es) s):wpAny (model prog w) A (setWalk a) Q E s:=by
 unfold setWalk;refine A1 (Z8 ho hd hf ?_);dsimp only;refine A1 (qZ ?_);rw[nt];simp only[if_true];exact A1 (wpAny_askSetting (A4 h))
theorem JO{α:Type}{next:Nat->Nat}:∀(fuel k:Nat)(left:List α)(out:Array α),left.length=fuel->(pickOrder.go next fuel k left out).toList.Perm (out.toList++left)
 |0=>fun k left out h=>by
  have:left=[]:=List.length_eq_zero_iff.mp h;subst this;rw[L4];exact List.Perm.refl _
 |fuel+1=>fun k left out h=>by
  have hl:next k % left.length<left.length:=Nat.mod_lt _ (by omega);unfold pickOrder.go;rw[B6 hl];dsimp only;refine(JO fuel (k+1) _ _ (by rw[List.length_eraseIdx,B0 hl];omega)).trans ?_;rw[Array.toList_push,S0];refine List.Perm.append_left _ ?_;rw[List.eraseIdx_eq_take_drop_succ];have pm:=(List.perm_middle (a:=left[next k % left.length]) (l₁:=left.take (next k % left.length)) (l₂:=left.drop (next k % left.length+1))).symm;rw[<- Y1 hl,List.take_append_drop]at pm;exact pm
theorem sH{α:Type}(next:Nat->Nat)(xs:Array α):(pickOrder next xs).toList.Perm xs.toList:=by
 have:=JO (next:=next) xs.size 0 xs.toList #[] (by rw[C4]);simpa[pickOrder]using this
end
section
variable{prog:Program}{w:World}{A:Around}{E:Value->Shared->Prop}{s:Shared}
theorem aCN{h:Heap}{it a:Addr}{q i n ep q':Nat}(hit:pV h it a q i n ep):pV ((h.update it (Obj.mapFields (·.setIfInBounds 0 (rawInt q')))).update it (Obj.mapFields (·.setIfInBounds 1 (rawInt ((i:Int)+1))))) it a q' (i+1) n ep:=by
 obtain⟨o,ho,hc,hd⟩:=hit;have d1:=S3 hd (·.setIfInBounds 0 (rawInt q'));have g1:=F5 (Obj.mapFields (·.setIfInBounds 0 (rawInt q'))) ho (Y0 d1);have d2:=S3 d1 (·.setIfInBounds 1 (rawInt ((i:Int)+1)));have g2:=F5 (Obj.mapFields (·.setIfInBounds 1 (rawInt ((i:Int)+1)))) g1 (Y0 d2);refine⟨_,g2,(Obj.cls_mapFields ..).trans ((Obj.cls_mapFields ..).trans hc),?_⟩;rw[d2];simp[rawInt]
theorem KH{it a:Addr}{q i n ep q':Nat}{o:Obj}{es:Array (Int×Value)}{ep0:Nat}{t:SetTable}{x:Value}{Q:Option Value->Shared->Prop}(hit:pV s.heap it a q i n ep)(ho:s.heap.get? a=some o)(hd:o.data=.set es ep0 t)(hf:t.fits es.size=true)(hn:es.size=n)
 (nx:∀(A:Around)(E:Value->Shared->Prop)(Q:Option (Value×Nat)->Shared->Prop),Q (some (x,q')) s->wpAny (model prog w) A (setNext a q i ep) Q E s)
 (hQ:∀h',pV h' it a q' (i+1) n ep->Heap.SameBut it s.heap h'->Q (some x) { s with heap:=h' }):wpAny (model prog w) A (pyNext (.ref it)) Q E s:=by
 obtain⟨oi,hoi,hci,hdi⟩:=id hit;have d1:=S3 hdi (·.setIfInBounds 0 (rawInt q'));have g1:=F5 (Obj.mapFields (·.setIfInBounds 0 (rawInt q'))) hoi (Y0 d1);unfold pyNext;refine A1 (A0g (E6 (name:=Str.ofString "__next__") hit.typeIs slot_si_next (E4 slot_si_next hit.typeIs pF ?_ (rL _))));unfold Builtin.«set_iterator.__next__»;refine A1 (m:=slotArgs "__next__" 0 _) (A4 ?_);refine A1 (wpAny_fieldsOf hoi hdi ?_);dsimp only;refine A1 (wpAny_setEntries_of ho hd hf ?_);have ne:(((es.size:Nat):Int) != (n:Int))=false:=by rw[hn];simp
 rw[ne,B2 (by decide)];dsimp only[Int.toNat_natCast];refine A1 (nx _ _ _ ?_);dsimp only;refine A1 (S9 hoi hdi (by simp) ?_);refine A1 (S9 g1 d1 (by simp) ?_);exact A4 ⟨x,rfl,A4 (hQ _ (aCN hit) ((J1 ..).trans (J1 ..)))⟩
theorem RK{it a:Addr}{q i n ep:Nat}{o:Obj}{es:Array (Int×Value)}{ep0:Nat}{t:SetTable}{Q:Option Value->Shared->Prop}(hh:A.handled=none)(hit:pV s.heap it a q i n ep)(ho:s.heap.get? a=some o)(hd:o.data=.set es ep0 t)(hf:t.fits es.size=true)(hn:es.size=n)
 (nx:∀(A:Around)(E:Value->Shared->Prop)(Q:Option (Value×Nat)->Shared->Prop),Q none s->wpAny (model prog w) A (setNext a q i ep) Q E s)
 (hQ:∀h',Heap.ExtBut it s.heap h'->Q none { s with heap:=h' }):wpAny (model prog w) A (pyNext (.ref it)) Q E s:=by
 obtain⟨oi,hoi,hci,hdi⟩:=id hit;unfold pyNext;refine A1 (A0g (E6 (name:=Str.ofString "__next__") hit.typeIs slot_si_next (E4 slot_si_next hit.typeIs pF ?_ (rL _))));unfold Builtin.«set_iterator.__next__»;refine A1 (m:=slotArgs "__next__" 0 _) (A4 ?_);refine A1 (wpAny_fieldsOf hoi hdi ?_);dsimp only;refine A1 (wpAny_setEntries_of ho hd hf ?_);have ne:(((es.size:Nat):Int) != (n:Int))=false:=by rw[hn];simp
 rw[ne,B2 (by decide)];dsimp only[Int.toNat_natCast];refine A1 (nx _ _ _ ?_);dsimp only;refine A1 (S9 hoi hdi (by simp) (A1 ?_));simp only[newExc,newTuple];refine A1 (C9 (A1 (m:=firstArgMember _ _) (wpAny_of_eq (a:=Value.none) (by simp only[firstArgMember];rfl) (C9 ?_ (by size_fits)))) (by size_fits));simp only[raiseNew];refine A1 (wpAny_handled ?_);rw[show A.in1.handled=none from hh];refine A1 (A4 (wpAny_throw ?_));refine A1 (U0 (b:=true) (T:="StopIteration") ⟨_,B1 _ rfl,rfl⟩ isSubtype_stop ?_);exact A4 (hQ _ (((J1 ..).extBut.push _).push _))
theorem HW{a:Addr}{o:Obj}{es:Array (Int×Value)}{ep:Nat}{t:SetTable}{Q:Bool->Shared->Prop}(ho:s.heap.get? a=some o)(hd:o.data=.set es ep t)(hf:t.fits es.size=true)(dr:gY w=true\/t.plain=true)(h:Q false s):wpAny (model prog w) A (setDrawn a) Q E s:=by
 unfold setDrawn;refine A1 (Z8 ho hd hf ?_);dsimp only;refine A1 (qZ (A4 ?_));show Q (!gY w&&(!t.plain&&decide (es.size > 1))) s;rcases dr with e|e
 .rw[e];exact h
 .rw[e,Bool.not_true,Bool.false_and,Bool.and_false];exact h
theorem IK{a:Addr}{o:Obj}{es:Array (Int×Value)}{ep:Nat}{t:SetTable}{Q:Value->Shared->Prop}(ho:s.heap.get? a=some o)(hx:o.ExactSet)(hd:o.data=.set es ep t)(hf:t.fits es.size=true)(dr:gY w=true\/t.plain=true)
 (h:Q (.ref s.heap.objs.size) { s with heap:=s.heap.push { cls:=.type "set_iterator",data:=.fields #[.int 0 0,.int 0 0,.ref a,.int es.size 0,.int ep 0] } }):wpAny (model prog w) A (pyIter (.ref a)) Q E s:=by
 have ty:s.TypeIs (.ref a) "set":=⟨o,ho,hx.1⟩;refine wpAny_pyIter_slot ty F.slot_set_iter (E4 F.slot_set_iter ty AO ?_ (F.args_set_iter_1 _));unfold Builtin.«frozenset.__iter__» Builtin.Frozenset.slot0 Builtin.Frozenset.sizeOf;refine A1 (A1 (m:=slotArgs "__iter__" 0 _) (A4 ?_));refine A4 ?_;refine A1 (A1 (wpAny_setEntries_of ho hd hf (A4 ?_)));refine A1 (HW ho hd hf dr ?_);rw[B2 (by decide)];refine A1 (A4 ?_);refine A1 (wpAny_setEpoch_of ho hd hf ?_);refine A1 (C9 (A4 ⟨_,rfl,_,_,⟨_,B1 _ rfl,rfl⟩,slot_si_next.lookup,?_⟩));exact h
end
theorem qP:Slot "set_iterator" "__iter__" "set_iterator.__iter__":=
 .of (owner:="set_iterator") (n:="__iter__") (by rw[typeLookup_type,builtinLookup_eq_fast];kernel_rfl) (by decide +kernel) (by decide +kernel) (by decide +kernel)
  (by first|exact .inl (by decide +kernel)|exact .inr (by decide +kernel)) (by rw[isSubtype_type];kernel_rfl)
theorem xJ:entryFor table "set_iterator.__iter__"=some Builtin.«dict_keyiterator.__iter__»:=
 entryFor_alias (id':="dict_keyiterator.__iter__") (by kernel_rfl) rfl (by decide +kernel) (by kernel_rfl)
theorem AR(a:Value):argsOk "set_iterator.__iter__" ⟨[a],[]⟩:=by unfold argsOk;kernel_rfl
section
variable{prog:Program}{w:World}{A:Around}{E:Value->Shared->Prop}{s:Shared}
theorem KM{it a:Addr}{q i n ep:Nat}{Q:Value->Shared->Prop}(hit:pV s.heap it a q i n ep)(h:Q (.ref it) s):wpAny (model prog w) A (pyIter (.ref it)) Q E s:=by
 refine wpAny_pyIter_slot hit.typeIs qP (E4 qP hit.typeIs xJ ?_ (AR _));show wpAny _ _ (ret (.ref it)) _ _ s;exact A4 ⟨_,rfl,"set_iterator",_,hit.typeIs,slot_si_next.lookup,h⟩
theorem pV.at{h h':Heap}{it a:Addr}{q i n ep:Nat}(x:pV h it a q i n ep)(k:∀o,h.get? it=some o->h'.get? it=some o):pV h' it a q i n ep:=let⟨o,ho,r⟩:=x;⟨o,k o ho,r⟩
theorem tN{a:Addr}{o:Obj}{es:Array (Int×Value)}{ep:Nat}{t:SetTable}{q g:Nat}{Q:Option (Value×Nat)->Shared->Prop}(nt:gY w=true)(ho:s.heap.get? a=some o)(hd:o.data=.set es ep t)(hf:t.fits es.size=true)(h:Q (((pickOrder (w.params.setOrder a ep) es)[g]?).map fun e=>(e.2,q)) s):wpAny (model prog w) A (setNext a q g ep) Q E s:=by
 unfold setNext;refine A1 (Z8 ho hd hf ?_);dsimp only;refine A1 (qZ ?_);rw[nt,B0 rfl,B2 (by simp)];exact A1 (DE nt ho hd hf (A4 h))
theorem PB(hh:A.handled=none){I a:Addr}{o:Obj}{es:Array (Int×Value)}{ep:Nat}{t:SetTable}(ne:a≠I)(nt:gY w=true)(hd:o.data=.set es ep t)(hf:t.fits es.size=true):
 Walks prog w A I [I,a] [I] es.size (fun i v=>((pickOrder (w.params.setOrder a ep) es)[i]?).map (·.2)=some v) (fun i h=>pV h I a 0 i es.size ep/\h.get? a=some o) where
 sub:=fun b hb=>by simp at hb;simp[hb]
 frame:=fun _ _ _ st hk=>⟨st.1.at fun o e=>hk I (by simp) o e,hk a (by simp) o st.2⟩
 item:=fun i s Q E hi st hQ=>by
  have sz:(pickOrder (w.params.setOrder a ep) es).size=es.size:=by rw[<- C4,(sH _ _).length_eq,C4]
  have hx:(pickOrder (w.params.setOrder a ep) es)[i]?=some (pickOrder (w.params.setOrder a ep) es)[i]:=E3 (by omega);refine KH st.1 st.2 hd hf rfl (fun A E Q h=>tN nt st.2 hd hf (by rw[hx];exact h)) fun h' x sb=>?_;exact hQ _ h' s.toks (by rw[hx];rfl) ⟨x,sb.extBut a o ne st.2⟩ fun b o hb e=>sb.extBut b o (fun h=>hb (by simp[h])) e
 done:=fun s Q E st hQ=>by
  have sz:(pickOrder (w.params.setOrder a ep) es).size=es.size:=by rw[<- C4,(sH _ _).length_eq,C4]
  have hx:(pickOrder (w.params.setOrder a ep) es)[es.size]?=none:=L3 (by omega);exact RK hh st.1 st.2 hd hf rfl (fun A E Q h=>tN nt st.2 hd hf (by rw[hx];exact h)) fun h' he=>hQ h' s.toks fun b o hb e=>he b o (fun h=>hb (by simp[h])) e
 self:=fun _ _ _ _ st hQ=>KM st.1 hQ
theorem FU(hh:A.handled=none){I a:Addr}{o:Obj}{es:Array (Int×Value)}{ep:Nat}{t:SetTable}(ne:a≠I)(nt:gY w=false)(hd:o.data=.set es ep t)(hf:t.fits es.size=true)(led:t.led=true)(pl:t.plain=true)(R:Rsg t.place):
 Walks prog w A I [I,a] [I] es.size (fun i v=>(es[i]?).map (·.2)=some v) (fun i h=>∃q,SetTable.below t.place q=i/\pV h I a q i es.size ep/\h.get? a=some o) where
 sub:=fun b hb=>by simp at hb;simp[hb]
 frame:=fun _ _ _ st hk=>let⟨q,e,x,y⟩:=st;⟨q,e,x.at fun o e=>hk I (by simp) o e,hk a (by simp) o y⟩
 item:=fun i s Q E hi st hQ=>by
  obtain⟨q,bl,x,y⟩:=st
  have ps:t.place.size=es.size:=by
   unfold SetTable.fits at hf;rw[B5]at hf;exact C3 (by simpa using hf.1)
  have hx:es[i]?=some es[i]:=E3 hi;have hp:t.place[i]?=some t.place[i]:=E3 (by omega);refine KH (x:=es[i].2) (q':=t.place[i]+1) x y hd hf rfl (fun A E Q h=>pN nt y hd hf led pl bl (by rw[hx,hp];exact h)) fun h' x' sb=>?_
  have nb:SetTable.below t.place (t.place[i]+1)=i+1:=by
   have:=GX R (i:=i) (by omega);rw[C2,hp]at this;exact this
  exact hQ _ h' s.toks (by rw[hx];rfl) ⟨_,nb,x',sb.extBut a o ne y⟩ fun b o hb e=>sb.extBut b o (fun h=>hb (by simp[h])) e
 done:=fun s Q E st hQ=>by
  obtain⟨q,bl,x,y⟩:=st;have hx:es[es.size]?=none:=L3 (A7 _);exact RK hh x y hd hf rfl (fun A E Q h=>pN nt y hd hf led pl bl (by rw[hx];exact h)) fun h' he=>hQ h' s.toks fun b o hb e=>he b o (fun h=>hb (by simp[h])) e
 self:=fun _ _ _ _ st hQ=>let⟨_,_,x,_⟩:=st;KM x hQ
end
noncomputable abbrev dP(w:World):Obj:={ cls:=.type "set",dict:=none,data:=.set #[] 0 (.fresh 0 0 (!gY w)) }
section
variable{prog:Program}{w:World}{A:Around}{E:Value->Shared->Prop}{s:Shared}
theorem SC{x:Value}{Q:Value->Shared->Prop}
 (hi:wpAny (model prog w) A.in1.in1 (Builtin.«set.__init__» ⟨[.ref s.heap.objs.size,x],[]⟩) (fun fin s'=>fin=.done (.ret .none)/\Q (.ref s.heap.objs.size) s') (fun _ _=>False) { s with heap:=s.heap.push (dP w) }):
 wpAny (model prog w) A (call (.type "set") [x]) Q E s:=by
 have TC:=PySem.F.called_set;obtain⟨c0,tl0,m0⟩:=TC.mro;have m1:=TC.made;have m2:=TC.sub;have m3:=TC.notType;have m4:=TC.canCreate;have m5:=PySem.F.typeCall_set_1 x;refine wpAny_call (codeAny_of_tree (?_:wpAny _ _ (callAny (.type "set") _) _ _ _));refine A4 ⟨Code.quiet_builtin _ (by decide +kernel),U8 PySem.F.entry_type_call ?_⟩;rw[Around.under_plain (weight_type_call_type "set" [x] []) rfl]
 repeat any_goals first|assumption|wp_step
 refine A0j (TB (A:=A.in1) (E:=E) x (Q1:=fun v s1=>v=.ref s.heap.objs.size/\s1={ s with heap:=s.heap.push (dP w) }) ⟨rfl,rfl⟩) fun r s1 hr=>?_;rcases r with e|fl
 .exact hr
 rcases fl with _|_|_|v
 all_goals first|(exact False.elim hr)|skip
 obtain⟨rfl,rfl⟩:=hr;have ty:Shared.TypeIs { s with heap:=s.heap.push (dP w) } (.ref s.heap.objs.size) "set":=⟨_,B1 _ rfl,rfl⟩;have n1:=TC.init.lookup;have n2:=TC.init.bind (.ref s.heap.objs.size)
 repeat any_goals first|assumption|wp_step
 refine A0j (codeAny_call_builtin (R:=wants (fun r s'=>r=.none/\Q (.ref s.heap.objs.size) s') fun _ _=>False) TC.init.plain PySem.F.entry_set_init (check_set_init_1 ty ?_)) fun r2 s2 h2=>?_
 .refine F9 hi (fun fin s' h=>?_) fun _ _ h=>h;obtain⟨rfl,h⟩:=h;exact⟨rfl,h⟩
 .rcases r2 with e|fl
  .exact False.elim h2
  rcases fl with _|_|_|v
  all_goals first|(exact False.elim h2)|skip
  obtain⟨rfl,h2⟩:=h2
  repeat any_goals first|assumption|wp_step
end
section
variable{prog:Program}{w:World}{A:Around}{E:Value->Shared->Prop}{s:Shared}
theorem EV{T:String}{S l:Addr}{items:Array Value}{val:Nat->Int}{oI:Obj}{St:Nat->Heap->Prop}{Q:Shared->Prop}
 (hS:s.heap.get? S=some (dP w)) (nSl:S≠l) (ty:s.TypeIs (.ref l) T) (f1:isSubtype (.type T) (.type "set")=pure false) (f2:isSubtype (.type T) (.type "frozenset")=pure false) (f3:(Value.type T==Value.type "dict")=false)
 (it:∀(A:Around)(E:Value->Shared->Prop)(Q:Value->Shared->Prop),Q (.ref s.heap.objs.size) { s with heap:=s.heap.push oI }->wpAny (model prog w) A (pyIter (.ref l)) Q E s)
 (W:Walks prog w A.in1 s.heap.objs.size [s.heap.objs.size,l] [s.heap.objs.size] items.size (fun i v=>items[i]?=some v) St) (st:St 0 (s.heap.push oI))
 (hval:∀(i:Nat)(v:Value),items[i]?=some v->(∃t,v=.int (val i) t)/\0<=val i/\val i<9) (hb:items.size+1<scanBound)
 (h:∀(h':Heap)(tk:Nat),vO prog w (!gY w) h' S (firstMet val items.size)->(∀b o,b≠S->s.heap.get? b=some o->h'.get? b=some o)->Q { s with heap:=h',toks:=tk }):
 wpAny (model prog w) A (Builtin.«set.__init__» ⟨[.ref S,.ref l],[]⟩) (fun fin s'=>fin=.done (.ret .none)/\Q s') (fun _ _=>False) s:=by
 have sS:S<s.heap.objs.size:=A6 hS;have tyS:s.TypeIs (.ref S) "set":=⟨_,hS,rfl⟩;unfold Builtin.«set.__init__» noKeywords Builtin.Frozenset.updateFrom;generalize hp:@pyIter=PI
 wp_walk using Z7 ty,U0 ty f1,U0 ty f2
 subst hp;refine it _ _ _ (A1 (wpAny_runValue ?_))
 have ne:S∉[s.heap.objs.size,l]:=fun hm=>by
  rcases List.mem_cons.mp hm with e|hm
  .exact B7 sS e
  .exact nSl (List.mem_singleton.mp hm)
 refine yX (b:=!gY w) W.toS S ne val hval hb items.size 0 _ rfl (J5 _) st ⟨#[],⟨_,0,_,A2 _ hS,⟨rfl,rfl,rfl⟩,rfl,by rfl,Tp.fresh _⟩,(fun e he=>by simp at he),by decide,List.Perm.refl _⟩ fun s' hm hS'=>?_;have es:=Moved.eq_with hm;rw[es];refine A4 (A4 ⟨rfl,h _ _ hS' fun b o hb e=>hm.heap b o (fun hc=>?_) (A2 _ e)⟩);rcases List.mem_cons.mp hc with q|q
 .exact hb q
 .have:=A6 e;rw[List.mem_singleton.mp q]at this;exact J2 _ this
noncomputable def IC(h:Heap)(l:Addr)(items:Array Value)(ns:List Int):Prop:=(h.IsList l items\/h.IsTuple l items)/\IntsAre items.toList ns/\(∀n∈ns,0<=n/\n<9)/\ns.length<1000
theorem TM{l:Addr}{items:Array Value}{ns:List Int}{Q:Value->Shared->Prop}(hh:A.handled=none)(hq:IC s.heap l items ns)
 (h:∀(h':Heap)(tk:Nat),vO prog w (!gY w) h' s.heap.objs.size (firstMet (fun i=>ns.getD i 0) ns.length)->(∀b o,s.heap.get? b=some o->h'.get? b=some o)->Q (.ref s.heap.objs.size) { s with heap:=h',toks:=tk }):
 wpAny (model prog w) A (call (.type "set") [.ref l]) Q E s:=by
 obtain⟨hk,hi,hn,h1⟩:=hq;have sz:items.size=ns.length:=by rw[<- C4];exact hi.length
 have hh3:A.in1.in1.in1.handled=none:=hh
 have hval:∀(i:Nat)(v:Value),items[i]?=some v->(∃t,v=.int (ns.getD i 0) t)/\0<=ns.getD i 0/\ns.getD i 0<9:=fun i v hv=>by
  have lt:i<ns.length:=by
   rw[<- sz];exact(Array.getElem?_eq_some_iff.mp hv).1
  refine⟨IntsAre.int_at hi i v (by rw[E1];exact hv),hn _ ?_⟩;rw[D0,B6 lt];exact U9 lt
 have new:(s.heap.push (dP w)).get? s.heap.objs.size=some (dP w):=B1 _ rfl;have kp:∀b o,s.heap.get? b=some o->(s.heap.push (dP w)).get? b=some o:=fun b o e=>A2 _ e;have bd:items.size+1<scanBound:=by unfold scanBound;omega
 rw[<- sz]at h;refine SC ?_;rcases hk with hl|hl
 .have lt:l<s.heap.objs.size:=by obtain⟨o,ho,_⟩:=hl;exact A6 ho
  have hl1:(s.heap.push (dP w)).IsList l items:=hl.push _;exact EV (s:={ s with heap:=s.heap.push (dP w) }) new (J0 lt) hl1.typeIs F.sub_list_set F.sub_list_frozenset (by decide) (fun A E Q h=>wpAny_pyIter_list hl1 h) (Walks.list hh3 _ l (by rw[L8];exact B7 (Nat.lt_succ_of_lt lt)) items) ⟨⟨_,B1 _ rfl,rfl,rfl⟩,hl1.push _⟩ hval bd fun h' tk S' k'=>h h' tk S' fun b o e=>k' b o (B7 (A6 e)) (kp b o e)
 .have lt:l<s.heap.objs.size:=by obtain⟨o,ho,_⟩:=hl;exact A6 ho
  have hl1:(s.heap.push (dP w)).IsTuple l items:=hl.at fun o e=>kp _ o e;exact EV (s:={ s with heap:=s.heap.push (dP w) }) new (J0 lt) hl1.typeIs F.sub_tuple_set F.sub_tuple_frozenset (by decide) (fun A E Q h=>O9 hl1 h) (Walks.tuple hh3 _ l (by rw[L8];exact B7 (Nat.lt_succ_of_lt lt)) items) ⟨⟨_,B1 _ rfl,rfl,rfl⟩,hl1.at fun o e=>A2 _ e⟩ hval bd fun h' tk S' k'=>h h' tk S' fun b o e=>k' b o (B7 (A6 e)) (kp b o e)
theorem SQ{r:Addr}{Q:Bool->Shared->Prop}(ty:s.TypeIs (.ref r) "set")(h:Q false s):wpAny (model prog w) A (Builtin.List.listLengthHint (.ref r)) Q E s:=by
 unfold Builtin.List.listLengthHint;refine A1 (wpAny_specialOf ty PySem.F.slot_set_len.lookup ?_);generalize ei:("set.__len__":String)=sl
 wp_delta
 have sp:splitId sl=some ("set","__len__"):=by subst ei;decide +kernel
 rw[sp];subst ei;refine A1 (U0 (T:="set") (b:=true) ty (by rw[isSubtype_type];kernel_rfl) (wpAny_ite_split (fun c=>absurd c (by decide)) fun _=>wpAny_ite_split (fun _=>?_) fun c=>absurd (by decide +kernel) c));exact A1 (Z7 ty (A4 h))
theorem UQ{a:Addr}{o:Obj}{es:Array (Int×Value)}{ep:Nat}{t:SetTable}(hx:o.ExactSet)(hd:o.data=.set es ep t)(hf:t.fits es.size=true)(T:Tp (!gY w) t es):
 ∃us:List Value,us.Perm (es.toList.map (·.2))/\PySem.W.KdlSrc prog w "set" a a es.size (fun i v=>us[i]?=some v) (fun h=>h.get? a=some o):=by
 obtain⟨pl,led,R⟩:=T.plain
 have base:∀us:List Value,(∀(A:Around)(s:Shared),A.handled=none->s.heap.get? a=some o->∃(oI:Obj)(St:Nat->Heap->Prop),(∀(E:Value->Shared->Prop)(Q:Value->Shared->Prop),Q (.ref s.heap.objs.size) { s with heap:=s.heap.push oI }->wpAny (model prog w) A (pyIter (.ref a)) Q E s)/\Walks prog w A s.heap.objs.size [s.heap.objs.size,a] [s.heap.objs.size] es.size (fun i v=>us[i]?=some v) St/\St 0 (s.heap.push oI))->PySem.W.KdlSrc prog w "set" a a es.size (fun i v=>us[i]?=some v) (fun h=>h.get? a=some o):=fun us it=>
  ⟨fun s ho=>⟨o,ho,hx.1⟩,fun h ho=>⟨A6 ho,A6 ho⟩,fun h h' ho k=>k a (.inl rfl) o ho,by decide,by decide,fun A E s Q ho q=>SQ ⟨o,ho,hx.1⟩ q,it⟩
 cases nt:gY w with
 |true=>
  refine⟨((pickOrder (w.params.setOrder a ep) es).toList.map (·.2)),(sH _ _).map _,base _ fun A s hh ho=>?_⟩;have W:=PB (prog:=prog) hh (a:=a) (I:=s.heap.objs.size) (B7 (A6 ho)) nt hd hf;refine⟨_,fun i h=>pV h s.heap.objs.size a 0 i es.size ep/\h.get? a=some o,fun E Q q=>IK ho hx hd hf (.inl nt) q,?_,⟨_,B1 _ rfl,rfl,rfl⟩,A2 _ ho⟩
  have e:(fun(i:Nat)(v:Value)=>((pickOrder (w.params.setOrder a ep) es).toList.map (·.2))[i]?=some v)=fun i v=>((pickOrder (w.params.setOrder a ep) es)[i]?).map (·.2)=some v:=by
   funext i v;rw[C0,E1]
  rw[e];exact W
 |false=>
  refine⟨es.toList.map (·.2),.refl _,base _ fun A s hh ho=>?_⟩;have W:=FU (prog:=prog) hh (a:=a) (I:=s.heap.objs.size) (B7 (A6 ho)) nt hd hf (by rw[led,nt];rfl) pl R;refine⟨_,fun i h=>∃q,SetTable.below t.place q=i/\pV h s.heap.objs.size a q i es.size ep/\h.get? a=some o,fun E Q q=>IK ho hx hd hf (.inr pl) q,?_,0,FR R,⟨_,B1 _ rfl,rfl,rfl⟩,A2 _ ho⟩
  have e:(fun(i:Nat)(v:Value)=>(es.toList.map (·.2))[i]?=some v)=fun i v=>(es[i]?).map (·.2)=some v:=by
   funext i v;rw[C0,E1]
  rw[e];exact W
end
noncomputable def pD(ns:List Int):List Int:=ns.foldl step_dedup []
theorem mG(ns:List Int):firstMet (fun i=>ns.getD i 0) ns.length=pD ns:=by
 unfold firstMet pD;congr 1;refine Z1 fun i=>?_;rw[C0];by_cases h:i<ns.length
 .rw[A0b h,B6 h];simp[h]
 .rw[J7 (by simp;omega),J7 (by omega)];rfl
section
variable{X:Cx}{a:Expr}{ta:TA}{p p' pos pos':Pos}
theorem NQ{pins:List (Addr×Obj)}{σ:St}{H:Hp}{s:Shared}{Q:VK}{c:Addr}{ms:List Int}(hc:X.calm=true)(I:Inv X pins σ H s)(hS:vO X.prog X.w (!gY X.w) s.heap c ms)(h64:ms.length<64)
 (q:∀l,H l=none->Q (.ref l) (upd H l (.lst ((iD ms).map .int)))):wpAny (model X.prog X.w) X.A (call (.builtin "sorted") [.ref c]) (fun v s'=>∃x H',Inv X pins σ H' s'/\RelV x v/\Q x H') X.xe s:=by
 obtain⟨es,⟨o,ep,t,ho,hx,hd,hf,T⟩,el,sm,pm⟩:=hS;obtain⟨us,pu,src⟩:=UQ (prog:=X.prog) (a:=c) hx hd hf T;obtain⟨m,F⟩:=I.fr;have N:News X.base X.env.locals s.heap (jS X.base s.heap X.env.locals):=EC;have len:es.size=ms.length:=by rw[<- C4,<- pm.length_eq,A3]
 have ul:us.length=es.size:=by rw[pu.length_eq,A3,C4]
 refine PySem.W.kdu_sorted src (I.ok.hd hc) F N ho (by rw[len,F8];omega) fun D h' tk ws F' N' hD hlen hw=>?_
 have wu:ws=us:=by
  refine Z1 fun i=>?_;cases e:ws[i]? with
  |some v=>exact(hw i v e).symm
  |none=>
   have:=List.getElem?_eq_none_iff.mp e;rw[J7 (by omega)]
 subst wu
 have hi:IntsAre ws (ws.map vI):=JB (by rw[A3]) fun j v i e1 e2=>by
  rw[C0,e1]at e2;cases e2;obtain⟨e,he,rfl⟩:=List.mem_map.mp (pu.mem_iff.mp (L7 e1));exact OC el he
 have pmw:(ws.map vI).Perm ms:=by
  refine(pu.map vI).trans ?_;rw[E5];exact pm
 refine PySem.W.ksk_lsort (its:=ws.toArray) (n:=0) (news':=fun o=>(D,o)::jS X.base s.heap X.env.locals) F' N' (fun o=>.head fun p hp=>B7 (hD p hp)) (by simp) hi (by rw[pmw.length_eq];exact h64) fun ws' ns' c' h'' F'' N'' hi' _ pm' pw _=>?_
 have hsz:s.heap.get? D=none:=by
  have hN:=N'' _ A9;cases e:s.heap.get? D with
  |none=>rfl
  |some o=>exact absurd (hD (D,o) (jH hN.2.1 hN.2.2 e)) (J2 _)
 have kp:∀b o,b≠X.env.locals->s.heap.get? b=some o->h''.get? b=some o:=fun b o hb e=>by
  cases z:X.base.get? b with
  |some v=>
   have:=I.bk b v z;rw[e]at this;cases this;exact F''.keep b _ z
  |none=>exact(N'' (b,o) (A8 _ (jH hb z e))).1
 have eq:ns'=iD ms:=rZ pw (rR ms) ((pm'.trans pmw).trans (iT ms).symm);subst eq;have hz:((iD ms).map V.int).length<=sizeLine:=by rw[A3,(iT ms).length_eq,F8];omega
 have I2:Inv X pins σ (upd H D (.lst ((iD ms).map .int))) { s with heap:=h'' }:=I.laidL kp (fun m' hm'=>by rw[<- IJ F.ns hm'];exact F''.ns) hsz ⟨hz,ws',c',zR hi',(N'' _ A9).1⟩;exact⟨.ref D,_,I2.tok tk,rfl,q D (I.hok.none hsz)⟩
noncomputable def SV(K:Fg)(ta:TA):TE:=fun σ H Q=>ta σ H fun vs H1=>∃(p:Addr)(ns:List Int),vs=[.ref p]/\(SqL K H1 p (ns.map .int)\/SqT K H1 p (ns.map .int))/\(∀n∈ns,0<=n/\n<9)/\ns.length<64/\∀l,H1 l=none->Q (.ref l) (upd H1 l (.lst ((iD (pD ns)).map .int)))
theorem WD(ns:List Int):(pD ns).length<=ns.length:=by
 rw[<- mG];exact firstMet_length_le _ _
theorem YY(hc:X.calm=true)(hg:Gl X "set")(hm:X.mg "set"=none)(hgl:Gl X "sorted")(hml:X.mg "sorted"=none)(ha:PA X [a] ta)(hs:starEach [a] X.env=[(false,eval a X.env)]):
 PE X (.Call (.Name "sorted" p) [.Call (.Name "set" p') [a] [] pos'] [] pos) (SV X.K ta):=by
 intro pins s σ H Q I h;refine U2 (kJ I hgl hml (u:=.builtin "sorted") (by decide +kernel) ?_ (by decide) (by decide));refine Z4 ?_ yA rfl;rw[yA];show wpAny _ _ (spliced ((false,eval (.Call (.Name "set" p') [a] [] pos') X.env)::[])) _ _ s;refine Calls.spliced_cons ?_;refine Call_ (kJ I hg hm (u:=.type "set") (by decide +kernel) (J9 (thn (ha pos' pins s σ H _ I h) fun us s1 ⟨vs,H1,I1,r1,q1⟩=>?_) hs rfl));obtain⟨j,ns,e,sq,hn,h64,q⟩:=q1;subst e;cases r1 with
 |cons r rr=>
  cases rr;cases r
  have sm:∃items,IC s1.heap j items ns:=by
   rcases sq with sq|sq
   .obtain⟨its,rv,pl,hz⟩:=I1.list sq;exact⟨its.toArray,.inl pl.isList,by simpa using intsAre_of rv,hn,by omega⟩
   .obtain⟨its,rv,pl,hz⟩:=I1.tuple sq;exact⟨its.toArray,.inr pl,by simpa using intsAre_of rv,hn,by omega⟩
  obtain⟨items,sm⟩:=sm;refine TM (I1.ok.hd hc) sm fun h' tk S' k'=>Calls.spliced_nil ?_;rw[mG]at S';exact NQ hc (I1.kept (t':=tk) k') S' (by have:=WD ns;omega) q
end
noncomputable def BG(ns:List Int):Bool:=ns.all fun n=>decide (0<=n)&&decide (n<9)
theorem LW{ns:List Int}(h:BG ns=true):∀n∈ns,0<=n/\n<9:=fun n hn=>by
 have:=List.all_eq_true.mp h n hn;simpa using this
section
variable{K:Fg}{tA:TA}{fa:AF}
noncomputable def FG(ds:List PyData)(M:Sto):Option (CD×Sto):=(mM ds).bind fun ns=>if BG ns=true/\ns.length<64 then some (.d (.list ((iD (pD ns)).map .int)),M)else none
noncomputable def yR(f:AF):EF:=fun γ M=>(f γ M).bind fun r=>match r.1 with
 |[.d (.list ds)]=>FG ds r.2
 |[.d (.tuple ds)]=>FG ds r.2
 |_=>none
theorem YX(b:SA K tA fa):SE K (SV K tA) (yR fa):=by
 intro γ M x M' hh W H σ Q G R k;obtain⟨⟨ys,M1⟩,h1,hh⟩:=aH hh;refine b _ _ _ _ h1 W H σ _ G R fun vs W1 H1 e1 G1 r1=>?_
 have fin:∀(ds:List PyData)(p:Addr)(us:List V),FG ds M1=some (x,M')->aJ K W1.F ds us->vs=[.ref p]->(SqL K W1.F p us\/SqT K W1.F p us)->∃(p:Addr)(ns:List Int),vs=[.ref p]/\(SqL K H1 p (ns.map .int)\/SqT K H1 p (ns.map .int))/\(∀n∈ns,0<=n/\n<9)/\ns.length<64/\∀l,H1 l=none->Q (.ref l) (upd H1 l (.lst ((iD (pD ns)).map .int))):=fun ds p us hs hr hv hq=>by
  obtain⟨ns,h2,hs⟩:=aH hs;by_cases hc:BG ns=true/\ns.length<64
  .rw[B0 hc]at hs;cases hs;rw[vK h2]at hr;rw[nE hr]at hq;refine⟨p,ns,hv,hq.imp (fun h=>G1.fh.seq h) (fun h=>G1.fh.seqT h),LW hc.1,hc.2,fun l hl=>?_⟩;obtain⟨e2,G2⟩:=G1.lay (o:=.lst ((iD (pD ns)).map .int)) hl;exact k _ _ _ (e1.trans e2) G2 ⟨l,_,rfl,SqL.of aP,PK _⟩
  .rw[B2 hc]at hs;cases hs
 revert hh;dsimp only;split
 .rename_i ds;intro hh;rcases r1 with _|⟨r1,_|_⟩;obtain⟨p,us,rfl,hq,hr⟩:=(show ∃a us,_=V.ref a/\SqL K W1.F a us/\aJ K W1.F ds us from r1);exact fin ds p us hh hr rfl (.inl hq)
 .rename_i ds;intro hh;rcases r1 with _|⟨r1,_|_⟩;obtain⟨p,us,rfl,hq,hr⟩:=(show ∃a us,_=V.ref a/\SqT K W1.F a us/\aJ K W1.F ds us from r1);exact fin ds p us hh hr rfl (.inr hq)
 .intro hh;cases hh
theorem ZM{ι:Type}{X:ι->Cx}{a:Expr}{p p' pos pos':Pos}(hK:∀i,(X i).K=K)(hc:∀i,(X i).calm=true)(hm:∀i,(X i).mg "set"=none)(hml:∀i,(X i).mg "sorted"=none)(x:MA K X [a] fa)(hg:∀i,Gl (X i) "set":=by intro _;rfl)(hgl:∀i,Gl (X i) "sorted":=by intro _;rfl):
 ME K X (.Call (.Name "sorted" p) [.Call (.Name "set" p') [a] [] pos'] [] pos) (yR fa):=by
 obtain⟨t,x1,x2⟩:=x.ex
 exact⟨SV K t,fun i=>by
  have:=YY (p:=p) (p':=p') (pos:=pos) (pos':=pos') (hc i) (hg i) (hm i) (hgl i) (hml i) (x1 i) (x.st.1 _);rw[hK i]at this;exact this,YX x2⟩
end
end L2
namespace PySem
section
variable{prog:Program}{w:World}{A:Around}{E:Value->Shared->Prop}{s:Shared}
structure AC(z TO i1 i2 l:Addr):Prop where
 z:l≠z
 o:l≠TO
 a:l≠i1
 b:l≠i2
section
variable{z TI TO i1 i2 l1 l2:Addr}{k n1 n2:Nat}{P1 P2:Nat->Value->Prop}{S1 S2:Nat->Heap->Prop}{a b:Value}
theorem XC{Q:Value->Shared->Prop}(D:L2.Apart5 z TI TO i1 i2)(f1:AC z TO i1 i2 l1)(f2:AC z TO i1 i2 l2)(D1:Draws prog w A i1 [i1,l1] n1 P1 S1)(D2:Draws prog w A i2 [i2,l2] n2 P2 S2)
 (hz:IsZip s.heap z TI TO .none) (hI:IsPair s.heap TI (.ref i1) (.ref i2)) (hO:IsPair s.heap TO a b) (t1:S1 k s.heap) (t2:S2 k s.heap) (k1:k<n1) (k2:k<n2)
 (hQ:∀h' tk x y,P1 k x->P2 k y->IsZip h' z TI TO (rawInt s.heap.objs.size)->IsPair h' TO x y->S1 (k+1) h'->S2 (k+1) h'->IsPair h' s.heap.objs.size x y->
  (∀c o,c≠z->c≠TO->c≠i1->c≠i2->s.heap.get? c=some o->h'.get? c=some o)->Q (.ref s.heap.objs.size) { s with heap:=h',toks:=tk }):
 wpAny (model prog w) A (Builtin.«zip.__next__» ⟨[.ref z],[]⟩) (fun r s'=>∃v,r=.done (.ret v)/\Q v s') E s:=by
 have y1:∀{h h':Heap}{c:Addr}{j:Nat},Heap.SameBut c h h'->i1≠c->l1≠c->S1 j h->S1 j h':=fun sb q r st=>D1.frame _ _ _ st fun b hb o e=>sb.extBut b o (by
  rcases List.mem_cons.mp hb with rfl|hb
  .exact q
  .rw[List.mem_singleton.mp hb];exact r) e
 have y2:∀{h h':Heap}{c:Addr}{j:Nat},Heap.SameBut c h h'->i2≠c->l2≠c->S2 j h->S2 j h':=fun sb q r st=>D2.frame _ _ _ st fun b hb o e=>sb.extBut b o (by
  rcases List.mem_cons.mp hb with rfl|hb
  .exact q
  .rw[List.mem_singleton.mp hb];exact r) e
 refine(?_:wpAny _ _ (field (.ref z) 2 >>= fun v=>_) _ _ _);refine A1 (F4 hz rfl (x:=Value.bool false) rfl (?_:wpAny _ _ (field (.ref z) 3 >>= fun v=>_) _ _ _));refine A1 (F4 hz rfl (x:=Value.ref TI) rfl (A1 (S8 hI rfl (?_:wpAny _ _ (Builtin.SmallTypes.ownedTupleIsFree (.ref z) >>= fun v=>_) _ _ _))));refine A1 (A1 (m:=field (.ref z) 0) (F4 hz rfl (x:=Value.none) rfl (A4 ?_)));rw[B0 rfl];refine A1 (A0c (A1 (F4 hz rfl (x:=Value.ref TO) rfl (A1 (E8 hz (by simp) fun g1 z1 b1=>A1 ?_)))));have z1:IsZip g1 z TI TO .ellipsis:=z1;simp only[List.zipIdx_cons,List.zipIdx_nil,List.forIn_cons,List.forIn_nil];refine A1 (A1 (wpAny_onRaise (?_:wpAny _ _ (Builtin.SmallTypes.nextOf (.ref i1) >>= fun v=>_) _ _ _)));refine A1 (D1.item k { s with heap:=g1 } _ _ k1 (y1 b1 D.i1z f1.z t1) fun x g2 tk2 p1 u1 b2=>A4 ?_);have O2:IsPair g2 TO a b:=b2.extBut _ _ D.TOi1 (b1.extBut _ _ D.TOz hO);refine A1 (S8 O2 rfl (A1 (wpAny_updateSeq_pair O2 fun g3 O3 b3=>A1 (wpAny_letGo (A4 ?_)))));have O3:IsPair g3 TO x b:=O3;refine A1 (A1 (wpAny_onRaise (?_:wpAny _ _ (Builtin.SmallTypes.nextOf (.ref i2) >>= fun v=>_) _ _ _)));refine A1 (D2.item k { s with heap:=g3,toks:=tk2 } _ _ k2 (y2 b3 D.TOi2.symm f2.o (y2 b2 D.i12.symm f2.a (y2 b1 D.i2z f2.z t2))) fun y g4 tk4 p2 u2 b4=>A4 ?_);have O4:IsPair g4 TO x b:=b4.extBut _ _ D.TOi2 O3;refine A1 (S8 O4 rfl (A1 (wpAny_updateSeq_pair O4 fun g5 O5 b5=>A1 (wpAny_letGo (A4 (A4 ?_))))));have O5:IsPair g5 TO x y:=O5;have sz:g5.objs.size=s.heap.objs.size:=by rw[b5.1,b4.1,b3.1,b2.1,b1.1]
 have z5:IsZip g5 z TI TO .ellipsis:=b5.extBut _ _ D.TOz.symm (b4.extBut _ _ D.i2z.symm (b3.extBut _ _ D.TOz.symm (b2.extBut _ _ D.i1z.symm z1)));have s1:S1 (k+1) g5:=y1 b5 D.TOi1.symm f1.o (y1 b4 D.i12 f1.b (y1 b3 D.TOi1.symm f1.o u1));have s2:S2 (k+1) g5:=y2 b5 D.TOi2.symm f2.o u2;have zl:z<g5.objs.size:=A6 z5;refine A1 (S8 O5 rfl (A1 (wpAny_newTuple (?_:wpAny _ _ (Builtin.SmallTypes.ownedTupleHandOut (.ref z) (.ref g5.objs.size) >>= fun v=>_) _ _ _))));have z6:IsZip (g5.push { cls:=.type "tuple",data:=.seq #[x,y] }) z TI TO .ellipsis:=A2 _ z5;refine A1 (A1 (m:=setField (.ref z) 0 _) (E8 z6 (by simp) fun g7 z7 b7=>E8 z7 (by simp) fun g8 z8 b8=>A4 ⟨_,rfl,?_⟩));have up:∀c o,c≠z->g5.get? c=some o->g8.get? c=some o:=fun c o q e=>b8.extBut _ _ q (b7.extBut _ _ q (A2 _ e));have nw:IsPair g8 g5.objs.size x y:=b8.extBut _ _ (J0 zl) (b7.extBut _ _ (J0 zl) (B1 _ rfl));have z8:IsZip g8 z TI TO (rawInt g5.objs.size):=z8;rw[sz]at nw z8;show Q (.ref g5.objs.size) _;rw[sz];refine hQ g8 tk4 x y p1 p2 z8 (up _ _ D.TOz O5) (D1.frame _ _ _ s1 fun c hc o e=>up c o ?_ e) (D2.frame _ _ _ s2 fun c hc o e=>up c o ?_ e) nw fun c o c1 c2 c3 c4 e=>up c o c1 (b5.extBut _ _ c2 (b4.extBut _ _ c4 (b3.extBut _ _ c2 (b2.extBut _ _ c3 (b1.extBut _ _ c1 e)))))
 .rcases List.mem_cons.mp hc with rfl|hc
  .exact D.i1z
  .rw[List.mem_singleton.mp hc];exact f1.z
 .rcases List.mem_cons.mp hc with rfl|hc
  .exact D.i2z
  .rw[List.mem_singleton.mp hc];exact f2.z
theorem aCg{Q:Fin->Shared->Prop}(D:L2.Apart5 z TI TO i1 i2)(f1:AC z TO i1 i2 l1)(f2:AC z TO i1 i2 l2)(D1:Draws prog w A i1 [i1,l1] n1 P1 S1)(D2:Draws prog w A i2 [i2,l2] n2 P2 S2)
 (hz:IsZip s.heap z TI TO .none) (hI:IsPair s.heap TI (.ref i1) (.ref i2)) (hO:IsPair s.heap TO a b) (t1:S1 k s.heap) (t2:S2 k s.heap) (ke:k=n1\/(k<n1/\k=n2))
 (hE:∀h' tk e,(∀c o,c≠z->c≠TO->c≠i1->c≠i2->s.heap.get? c=some o->h'.get? c=some o)->(∃o,h'.get? e=some o/\o.cls=.type "StopIteration")->E (.ref e) { s with heap:=h',toks:=tk }):
 wpAny (model prog w) A (Builtin.«zip.__next__» ⟨[.ref z],[]⟩) Q E s:=by
 have y1:∀{h h':Heap}{c:Addr}{j:Nat},Heap.SameBut c h h'->i1≠c->l1≠c->S1 j h->S1 j h':=fun sb q r st=>D1.frame _ _ _ st fun b hb o e=>sb.extBut b o (by
  rcases List.mem_cons.mp hb with rfl|hb
  .exact q
  .rw[List.mem_singleton.mp hb];exact r) e
 have y2:∀{h h':Heap}{c:Addr}{j:Nat},Heap.SameBut c h h'->i2≠c->l2≠c->S2 j h->S2 j h':=fun sb q r st=>D2.frame _ _ _ st fun b hb o e=>sb.extBut b o (by
  rcases List.mem_cons.mp hb with rfl|hb
  .exact q
  .rw[List.mem_singleton.mp hb];exact r) e
 have apz:∀{g:Heap}{v:Value}{e:Addr}{o:Obj},IsZip g z TI TO v->g.get? e=some o->o.cls=.type "StopIteration"->e≠z:=fun hz he hc q=>by
  subst q;rw[hz]at he;cases he;simp at hc
 refine(?_:wpAny _ _ (field (.ref z) 2 >>= fun v=>_) _ _ _);refine A1 (F4 hz rfl (x:=Value.bool false) rfl (?_:wpAny _ _ (field (.ref z) 3 >>= fun v=>_) _ _ _));refine A1 (F4 hz rfl (x:=Value.ref TI) rfl (A1 (S8 hI rfl (?_:wpAny _ _ (Builtin.SmallTypes.ownedTupleIsFree (.ref z) >>= fun v=>_) _ _ _))));refine A1 (A1 (m:=field (.ref z) 0) (F4 hz rfl (x:=Value.none) rfl (A4 ?_)));rw[B0 rfl];refine A1 (A0c (A1 (F4 hz rfl (x:=Value.ref TO) rfl (A1 (E8 hz (by simp) fun g1 z1 b1=>A1 ?_)))));have z1:IsZip g1 z TI TO .ellipsis:=z1;simp only[List.zipIdx_cons,List.zipIdx_nil,List.forIn_cons,List.forIn_nil];refine A1 (A1 (wpAny_onRaise (?_:wpAny _ _ (Builtin.SmallTypes.nextOf (.ref i1) >>= fun v=>_) _ _ _)));rcases ke with rfl|⟨k1,rfl⟩
 .refine A1 (D1.done { s with heap:=g1 } _ _ (y1 b1 D.i1z f1.z t1) fun g2 e b2 ⟨oe,he,hc⟩=>?_);have z2:IsZip g2 z TI TO .ellipsis:=b2 _ _ D.i1z.symm z1;exact E8 z2 (by simp) fun g3 _ b3=>hE g3 s.toks e (fun c o c1 _ c3 _ q=>b3.extBut _ _ c1 (b2 _ _ c3 (b1.extBut _ _ c1 q))) ⟨oe,b3.extBut _ _ (apz z2 he hc) he,hc⟩
 .refine A1 (D1.item k { s with heap:=g1 } _ _ k1 (y1 b1 D.i1z f1.z t1) fun x g2 tk2 p1 u1 b2=>A4 ?_);have O2:IsPair g2 TO a b:=b2.extBut _ _ D.TOi1 (b1.extBut _ _ D.TOz hO);refine A1 (S8 O2 rfl (A1 (wpAny_updateSeq_pair O2 fun g3 O3 b3=>A1 (wpAny_letGo (A4 ?_)))));refine A1 (A1 (wpAny_onRaise (?_:wpAny _ _ (Builtin.SmallTypes.nextOf (.ref i2) >>= fun v=>_) _ _ _)));refine A1 (D2.done { s with heap:=g3,toks:=tk2 } _ _ (y2 b3 D.TOi2.symm f2.o (y2 b2 D.i12.symm f2.a (y2 b1 D.i2z f2.z t2))) fun g4 e b4 ⟨oe,he,hc⟩=>?_);have z4:IsZip g4 z TI TO .ellipsis:=b4 _ _ D.i2z.symm (b3.extBut _ _ D.TOz.symm (b2.extBut _ _ D.i1z.symm z1));exact E8 z4 (by simp) fun g5 _ b5=>hE g5 tk2 e (fun c o c1 c2 c3 c4 q=>b5.extBut _ _ c1 (b4 _ _ c4 (b3.extBut _ _ c2 (b2.extBut _ _ c3 (b1.extBut _ _ c1 q))))) ⟨oe,b5.extBut _ _ (apz z4 he hc) he,hc⟩
end
theorem uS{h:Heap}{o:Obj}{n:Nat}(e:h.objs.size=n)(f:o.isFreed=false:=by rfl):(h.push o).get? n=some o:=by subst e;exact B1 _ f
theorem aCr{l1 l2:Addr}{xs ys:Array Value}:Meets (Builtin.«zip.__new__» ⟨[.type "zip",.ref l1,.ref l2],[]⟩) (fun _ R s=>s.heap.IsTuple l1 xs/\s.heap.IsTuple l2 ys /\
 ∀h',(∀c o,s.heap.get? c=some o->h'.get? c=some o)->h'.get? s.heap.objs.size=some { cls:=.type "tuple_iterator",data:=.fields #[.ref l1,.int 0 0] }->h'.get? (s.heap.objs.size+1)=some { cls:=.type "tuple_iterator",data:=.fields #[.ref l2,.int 0 0] }->
  IsPair h' (s.heap.objs.size+2) (.ref s.heap.objs.size) (.ref (s.heap.objs.size+1))->IsPair h' (s.heap.objs.size+3) .none .none->IsZip h' (s.heap.objs.size+4) (s.heap.objs.size+2) (s.heap.objs.size+3) .none->R (.ok (.ret (.ref (s.heap.objs.size+4)))) { s with heap:=h' }):=
 .of_wp fun prog w A R s h=>by
  obtain⟨hp,g,d,tk,os⟩:=s;obtain⟨q1,q2,h⟩:=h;have sub:=sub_zip;have L1:Heap.IsTuple (Shared.heap ⟨hp,g,d,tk,os⟩) l1 xs:=q1;have L2:Heap.IsTuple (Shared.heap ⟨hp.push { cls:=.type "tuple_iterator",data:=.fields #[.ref l1,.int 0 0] },g,d,tk,os⟩) l2 ys:=Heap.IsTuple.at q2 fun o e=>A2 _ e
  wp_walk using O9 L1,O9 L2
  refine⟨_,rfl,?_⟩;simp only[Heap.size_push]at h ⊢;refine h _ (fun c o e=>?_) ?_ ?_ ?_ ?_ ?_
  .exact A2 _ (A2 _ (A2 _ (A2 _ (A2 _ e))))
  .exact A2 _ (A2 _ (A2 _ (A2 _ (B1 _ rfl))))
  .exact A2 _ (A2 _ (A2 _ (uS (L8 ..))))
  .exact A2 _ (A2 _ (uS (by simp only[Heap.size_push])))
  .exact A2 _ (uS (by simp only[Heap.size_push]))
  .exact uS (by simp only[Heap.size_push])
end
end PySem
namespace L2
open PySem PySem.Spec PyProof.Rows
noncomputable def aEA(K:Fg)(l1 l2:Addr):It:=
 ⟨fun i H=>∃xs ys x y,SqT K H l1 xs/\SqT K H l2 ys/\xs[i]?=some x/\ys[i]?=some y,
  fun i H v H'=>∃p x y,H p=none/\v=.ref p/\H'=upd H p (.tup [x,y])/\(∀xs,SqT K H l1 xs->xs[i]?=some x)/\∀ys,SqT K H l2 ys->ys[i]?=some y,
  fun i H=>∃xs ys,SqT K H l1 xs/\SqT K H l2 ys/\((i=xs.length)\/(i<xs.length/\i=ys.length))⟩
noncomputable def aFR(z TI TO i1 i2 l1 l2:Addr)(i:Nat)(h:Heap):Prop:=IsZip h z TI TO .none/\IsPair h TI (.ref i1) (.ref i2)/\(∃a b,IsPair h TO a b)/\h.IsTupleIter i1 l1 i/\h.IsTupleIter i2 l2 i
section
variable{prog:Program}{w:World}{A:Around}{E:Value->Shared->Prop}{s:Shared}
variable{z TI TO i1 i2 l1 l2:Addr}{k n1 n2:Nat}{P1 P2:Nat->Value->Prop}{S1 S2:Nat->Heap->Prop}{a b:Value}
theorem ZN{Q:Option Value->Shared->Prop}(D:Apart5 z TI TO i1 i2)(f1:AC z TO i1 i2 l1)(f2:AC z TO i1 i2 l2)(D1:Draws prog w A.in1 i1 [i1,l1] n1 P1 S1)(D2:Draws prog w A.in1 i2 [i2,l2] n2 P2 S2)
 (hz:IsZip s.heap z TI TO .none) (hI:IsPair s.heap TI (.ref i1) (.ref i2)) (hO:IsPair s.heap TO a b) (t1:S1 k s.heap) (t2:S2 k s.heap) (k1:k<n1) (k2:k<n2)
 (hQ:∀h' tk x y,P1 k x->P2 k y->IsZip h' z TI TO (rawInt s.heap.objs.size)->IsPair h' TO x y->S1 (k+1) h'->S2 (k+1) h'->IsPair h' s.heap.objs.size x y->
  (∀c o,c≠z->c≠TO->c≠i1->c≠i2->s.heap.get? c=some o->h'.get? c=some o)->Q (some (.ref s.heap.objs.size)) { s with heap:=h',toks:=tk }):
 wpAny (model prog w) A (pyNext (.ref z)) Q E s:=by
 have ty:s.TypeIs (.ref z) "zip":=⟨_,hz,rfl⟩;unfold pyNext;exact A1 (A0g (E6 ty Z3 (E4 Z3 ty PySem.F.entry_zip_next (XC D f1 f2 D1 D2 hz hI hO t1 t2 k1 k2 fun h' tk x y p1 p2 q1 q2 q3 q4 q5 q6=>A4 (hQ h' tk x y p1 p2 q1 q2 q3 q4 q5 q6)) (PySem.F.args_zip_next_1 _))))
theorem YM{Q:Option Value->Shared->Prop}(D:Apart5 z TI TO i1 i2)(f1:AC z TO i1 i2 l1)(f2:AC z TO i1 i2 l2)(D1:Draws prog w A.in1 i1 [i1,l1] n1 P1 S1)(D2:Draws prog w A.in1 i2 [i2,l2] n2 P2 S2)
 (hz:IsZip s.heap z TI TO .none) (hI:IsPair s.heap TI (.ref i1) (.ref i2)) (hO:IsPair s.heap TO a b) (t1:S1 k s.heap) (t2:S2 k s.heap) (ke:k=n1\/(k<n1/\k=n2))
 (hQ:∀h' tk,(∀c o,c≠z->c≠TO->c≠i1->c≠i2->s.heap.get? c=some o->h'.get? c=some o)->Q none { s with heap:=h',toks:=tk }):wpAny (model prog w) A (pyNext (.ref z)) Q E s:=by
 have ty:s.TypeIs (.ref z) "zip":=⟨_,hz,rfl⟩;unfold pyNext;exact A1 (A0g (E6 ty Z3 (E4 Z3 ty PySem.F.entry_zip_next (aCg D f1 f2 D1 D2 hz hI hO t1 t2 ke fun h' tk e hk he=>A1 (let⟨o,ho,hc⟩:=he;U0 (T:="StopIteration") (b:=true) ⟨o,ho,hc⟩ isSubtype_stop (A4 (hQ h' tk hk)))) (PySem.F.args_zip_next_1 _))))
end
section
variable{P:Program}{w:World}{K:Fg}{elts:List Expr}{x1:Nat}{tpos:Pos}{z TI TO i1 i2 l1 l2:Addr}
theorem AW{h:Heap}{l:Addr}{xs:Array Value}{i j:Nat}(T:h.IsTuple l xs)(hz:IsZip h z TI TO .none)(a1:h.IsTupleIter i1 l1 i)(a2:h.IsTupleIter i2 l2 j)(no:l≠TO):AC z TO i1 i2 l:=by
 obtain⟨o,e,c,_⟩:=T;obtain⟨o1,e1,c1,_⟩:=a1;obtain⟨o2,e2,c2,_⟩:=a2
 have dif:∀(b:Addr)(u:Obj),h.get? b=some u->u.cls≠.type "tuple"->l≠b:=fun b u q n r=>by
  subst r;rw[e]at q;cases q;exact n c
 have ni:(Value.type "tuple_iterator")≠.type "tuple":=by intro q;injection q with q;exact absurd q (by decide)
 exact⟨dif z _ hz (by intro q;injection q with q;exact absurd q (by decide)),no,dif i1 _ e1 (by rw[c1];exact ni),dif i2 _ e2 (by rw[c2];exact ni)⟩
theorem NG(A5:Apart5 z TI TO i1 i2)(n1:l1≠TO)(n2:l2≠TO):Turn P w K (.Tuple elts x1 tpos) (aEA K l1 l2) [z,TI,TO,i1,i2] z (aFR z TI TO i1 i2 l1 l2) where
 mem:=by simp
 obj:=fun i h st b hb=>by
  obtain⟨hz,hTI,⟨a,c,hTO⟩,⟨o1,e1,_,d1⟩,⟨o2,e2,_,d2⟩⟩:=st;simp only[List.mem_cons,List.not_mem_nil,or_false]at hb;rcases hb with rfl|rfl|rfl|rfl|rfl
  .exact⟨_,hz,fun v q=>by cases q⟩
  .exact⟨_,hTI,fun v q=>by cases q⟩
  .exact⟨_,hTO,fun v q=>by cases q⟩
  .exact⟨_,e1,fun v q=>by rw[d1]at q;cases q⟩
  .exact⟨_,e2,fun v q=>by rw[d2]at q;cases q⟩
 keep:=fun i h h' st k=>by
  obtain⟨hz,hTI,⟨a,c,hTO⟩,h1,h2⟩:=st;exact⟨k z (by simp) _ hz,k TI (by simp) _ hTI,⟨a,c,k TO (by simp) _ hTO⟩,h1.at fun o e=>k i1 (by simp) o e,h2.at fun o e=>k i2 (by simp) o e⟩
 item:=by
  intro X hP hw hK hc i pins s σ H E I hf st hg;subst hP hw hK;obtain⟨xs,ys,x,y,hq1,hq2,hx,hy⟩:=hg;obtain⟨its,rv,p,_⟩:=I.tuple hq1;obtain⟨jts,rw',p',_⟩:=I.tuple hq2;obtain⟨u,hu,ru⟩:=rv.get hx;obtain⟨v,hv,rv'⟩:=rw'.get hy;obtain⟨hz,hTI,⟨a,c,hTO⟩,h1,h2⟩:=id st;have F1:=AW p hz h1 h2 n1;have F2:=AW p' hz h1 h2 n2;have hh:X.A.in1.handled=none:=I.ok.hd hc;have li:=(List.getElem?_eq_some_iff.mp hu).1;have lj:=(List.getElem?_eq_some_iff.mp hv).1;refine ZN (k:=i) A5 F1 F2 (kS hh i1 l1 F1.a its.toArray) (kS hh i2 l2 F2.b jts.toArray) hz hTI hTO ⟨h1,p⟩ ⟨h2,p'⟩ (by simpa using li) (by simpa using lj) fun h' tk u' v' e1 e2 a1 a2 a3 a4 a5 hk=>⟨_,rfl,?_⟩
  have e1:u=u':=by
   have:its.toArray[i]?=some u:=by rw[U1];exact hu
   rw[this]at e1;cases e1;rfl
  have e2:v=v':=by
   have:jts.toArray[i]?=some v:=by rw[U1];exact hv
   rw[this]at e2;cases e2;rfl
  subst e1 e2;refine wpAny_letOwnedTupleGo_zip a1 fun h2' hz2 sb=>?_
  have lt:∀b∈[z,TI,TO,i1,i2],s.heap.objs.size≠b:=fun b hb q=>by
   obtain⟨o1,e1,_⟩:=id h1;obtain⟨o2,e2,_⟩:=id h2;simp only[List.mem_cons,List.not_mem_nil,or_false]at hb
   have:∃o,s.heap.get? b=some o:=by
    rcases hb with rfl|rfl|rfl|rfl|rfl
    .exact⟨_,hz⟩
    .exact⟨_,hTI⟩
    .exact⟨_,hTO⟩
    .exact⟨_,e1⟩
    .exact⟨_,e2⟩
   obtain⟨o,e⟩:=this;rw[<- q]at e;exact absurd (A6 e) (J2 _)
  have kk:∀b o,b∉[z,TI,TO,i1,i2]->s.heap.get? b=some o->h2'.get? b=some o:=fun b o hb q=>by
   simp only[List.mem_cons,List.not_mem_nil,or_false,not_or]at hb;exact(sb.2 b hb.1).trans (hk b o hb.1 hb.2.2.1 hb.2.2.2.1 hb.2.2.2.2 q)
  have ht2:h2'.get? s.heap.objs.size=some { cls:=.type "tuple",data:=.seq #[u,v] }:=(sb.2 _ (lt z (by simp))).trans a5
  have I2:Inv X pins σ (upd H s.heap.objs.size (.tup [x,y])) { s with heap:=h2',toks:=tk }:=
   I.turnLay hf kk (A7 _) ⟨by show 2<=sizeLine;rw[F8];decide,[u,v],.cons ru (.cons rv' .nil),⟨_,ht2,rfl,_,rfl⟩⟩
  refine⟨.ref s.heap.objs.size,_,I2,rfl,⟨_,x,y,I.hok.fresh (A7 _),rfl,rfl,fun ws hw=>by rw[I.tuple_inj hw hq1];exact hx,fun ws hw=>by rw[I.tuple_inj hw hq2];exact hy⟩,⟨hz2,?_,⟨_,_,(sb.2 TO A5.TOz).trans a2⟩,a3.1.at fun o e=>(sb.2 i1 A5.i1z).trans e,a4.1.at fun o e=>(sb.2 i2 A5.i2z).trans e⟩,fun b hb=>?_⟩
  .exact(sb.2 TI A5.TIz).trans (hk TI _ A5.TIz A5.TITO A5.TIi1 A5.TIi2 hTI)
  .rw[aL (fun q=>lt b hb q.symm)];exact(hf b hb).1
 done:=by
  intro X hP hw hK hc i pins s σ H E I hf st hg;subst hP hw hK;obtain⟨xs,ys,hq1,hq2,hend⟩:=hg;obtain⟨its,rv,p,_⟩:=I.tuple hq1;obtain⟨jts,rw',p',_⟩:=I.tuple hq2;obtain⟨hz,hTI,⟨a,c,hTO⟩,h1,h2⟩:=id st;have l1':=rv.length;have l2':=rw'.length;have F1:=AW p hz h1 h2 n1;have F2:=AW p' hz h1 h2 n2;have hh:X.A.in1.handled=none:=I.ok.hd hc;refine YM (k:=i) A5 F1 F2 (kS hh i1 l1 F1.a its.toArray) (kS hh i2 l2 F2.b jts.toArray) hz hTI hTO ⟨h1,p⟩ ⟨h2,p'⟩ (by simpa[<- l1',<- l2']using hend) fun h' tk hk=>⟨rfl,I.turnF (t':=tk) hf fun b o hb q=>?_⟩;simp only[List.mem_cons,List.not_mem_nil,or_false,not_or]at hb;exact hk b o hb.1 hb.2.2.1 hb.2.2.2.1 hb.2.2.2.2 q
 self:=fun A i s Q E st h=>wpAny_pyIter_zip st.1 h
end
section
variable{X:Cx}{elts:List Expr}{x1:Nat}{tpos:Pos}
noncomputable def ZP(K:Fg)(ta:TA):TI:=fun σ H R=>ta σ H fun vs H1=>∃a b xs ys,vs=[.ref a,.ref b]/\((SqL K H1 a xs/\SqL K H1 b ys/\R (Itz K a b) H1)\/(SqT K H1 a xs/\SqT K H1 b ys/\R (aEA K a b) H1))
theorem YQ{a b:Expr}{ta:TA}{p pos:Pos}(hg:Gl X "zip")(hm:X.mg "zip"=none)(ha:PA X [a,b] ta)(hs:starEach [a,b] X.env=[(false,eval a X.env),(false,eval b X.env)])(hs2:starEach [b] X.env=[(false,eval b X.env)]):PI X (.Tuple elts x1 tpos) (.Call (.Name "zip" p) [a,b] [] pos) (ZP X.K ta):=by
 intro pins s σ H R I h;refine Call_ (kJ I hg hm boot_zip (J9 (thn (ha pos pins s σ H _ I h) fun us s1 ⟨vs,H1,I1,r1,q1⟩=>?_) (by rw[hs,hs2]) (by rw[hs2];rfl)));obtain⟨l,l',xs,ys,e,q1⟩:=q1;subst e;cases r1 with
 |cons r rr=>
  cases rr with
  |cons r' rr=>
   cases rr;cases (show _=Value.ref l from r);cases (show _=Value.ref l' from r')
   have fp:∀b∈[s1.heap.objs.size+4,s1.heap.objs.size+2,s1.heap.objs.size+3,s1.heap.objs.size,s1.heap.objs.size+1],mR X pins H1 b:=fun b hb=>by
    have hb':s1.heap.objs.size<=b:=by
     simp only[List.mem_cons,List.not_mem_nil,or_false]at hb;omega
    exact I1.fpOk hb' (I1.hok.fresh hb')
   rcases q1 with⟨hq1,hq2,q⟩|⟨hq1,hq2,q⟩
   .obtain⟨its,rv,p1,_⟩:=I1.list hq1;obtain⟨jts,rw',p2,_⟩:=I1.list hq2;refine call_zip_2 p1.isList p2.isList fun h' hz hTI hTO h1 h2 hsz hk=>?_;refine wpAny_pyIter_zip hz ?_;exact⟨_,_,_,_,H1,rfl,I1.kept (t':=s1.toks) hk,RT (z:=s1.heap.objs.size+4) (TI:=s1.heap.objs.size+2) (TO:=s1.heap.objs.size+3) (i1:=s1.heap.objs.size) (i2:=s1.heap.objs.size+1) (l1:=l) (l2:=l') (zG _),⟨hz,hTI,⟨_,_,hTO⟩,h1,h2⟩,fp,q⟩
   .obtain⟨its,rv,p1,_⟩:=I1.tuple hq1;obtain⟨jts,rw',p2,_⟩:=I1.tuple hq2;have z1:l<s1.heap.objs.size:=by obtain⟨o,e,_⟩:=p1;exact A6 e
    have z2:l'<s1.heap.objs.size:=by obtain⟨o,e,_⟩:=p2;exact A6 e
    refine callType_new PySem.F.called_zip (by decide) (PySem.F.typeCall_zip_2 _ _) (PySem.F.newCall_zip_2 _ _) (fun obj=>PySem.F.args_object_init_3 obj _ _) PySem.F.entry_zip_new aCr ⟨p1,p2,fun h' hk h1 h2 hTI hTO hz=>⟨⟨_,hz,rfl⟩,wpAny_pyIter_zip hz ?_⟩⟩;exact⟨_,_,_,_,H1,rfl,I1.kept (t':=s1.toks) hk,NG (z:=s1.heap.objs.size+4) (TI:=s1.heap.objs.size+2) (TO:=s1.heap.objs.size+3) (i1:=s1.heap.objs.size) (i2:=s1.heap.objs.size+1) (l1:=l) (l2:=l') (zG _) (B7 (Nat.lt_add_right 3 z1)) (B7 (Nat.lt_add_right 3 z2)),⟨hz,hTI,⟨_,_,hTO⟩,⟨_,h1,rfl,rfl⟩,⟨_,h2,rfl,rfl⟩⟩,fp,q⟩
end
noncomputable def BZ(f:AF):AF:=fun γ M=>(f γ M).bind fun r=>match r.1 with
 |[.d (.list xs),.d (.list ys)]=>some (lC xs ys,r.2)
 |[.d (.tuple xs),.d (.tuple ys)]=>some (lC xs ys,r.2)
 |_=>none
theorem AB:∀(xs ys:List PyData),(lC xs ys).length=xs.length\/((lC xs ys).length<xs.length/\(lC xs ys).length=ys.length)
 |[],_=>.inl rfl
 |_::_,[]=>.inr ⟨Nat.succ_pos _,rfl⟩
 |x::xs,y::ys=>by
  have:=AB xs ys;simp only[lC,List.length_cons];omega
theorem WB{K:Fg}{tA:TA}{fa:AF}(b:SA K tA fa):SI K (ZP K tA) (BZ fa):=by
 intro γ M xs M' hh W H σ R G Rs k;obtain⟨⟨ys,M1⟩,h1,hh⟩:=aH hh;refine b _ _ _ _ h1 W H σ _ G Rs fun vs W1 H1 e1 G1 r1=>?_;revert hh;dsimp only;split
 .rename_i as bs;intro hh;cases hh;cases r1 with
  |cons r r'=>
   cases r' with
   |cons r2 r''=>
    cases r'';obtain⟨p,us,rfl,hs,hr⟩:=(show ∃a us,_=V.ref a/\SqL K W1.F a us/\aJ K W1.F as us from r);obtain⟨p',us',rfl,hs',hr'⟩:=(show ∃a us,_=V.ref a/\SqL K W1.F a us/\aJ K W1.F bs us from r2);refine⟨p,p',us,us',rfl,.inl ⟨G1.fh.seq hs,G1.fh.seq hs',k _ W1 H1 e1 G1 fun W2 M2 H2 e2 G2=>?_⟩⟩;have q1:SqL K H2 p us:=G2.fh.seq (e2.ff.seq hs);have q2:SqL K H2 p' us':=G2.fh.seq (e2.ff.seq hs');refine⟨fun i x hx=>?_,us,us',q1,q2,?_⟩
    .obtain⟨c,d,hc,hd,rfl⟩:=wZ hx;obtain⟨u,hu,ru⟩:=Paired.get (eV hr) (show(as.map CD.d)[i]?=some (.d c)by rw[C0,hc];rfl);obtain⟨v,hv,rv⟩:=Paired.get (eV hr') (show(bs.map CD.d)[i]?=some (.d d)by rw[C0,hd];rfl);refine⟨⟨us,us',u,v,q1,q2,hu,hv⟩,fun y H3 hy=>?_⟩;obtain⟨p3,x',y',hn,rfl,rfl,hx',hy'⟩:=hy;have:=hx' us q1;rw[hu]at this;cases this;have:=hy' us' q2;rw[hv]at this;cases this;obtain⟨e3,G3⟩:=G2.lay (o:=.tup [u,v]) hn;refine⟨_,e3,G3,⟨p3,_,rfl,SqT.of aP,?_⟩⟩;exact⟨_,_,rfl,Rep.same e3.ff _ _ (show Rep K W2.F c u from ru.up e2),_,_,rfl,Rep.same e3.ff _ _ (show Rep K W2.F d v from rv.up e2),rfl⟩
    .rcases CS (xs:=as) (ys:=bs)with e|e
     .exact .inl (by have:=List.getElem?_eq_none_iff.mp e;rw[hr.length]at this;exact List.getElem?_eq_none_iff.mpr this)
     .exact .inr (by have:=List.getElem?_eq_none_iff.mp e;rw[hr'.length]at this;exact List.getElem?_eq_none_iff.mpr this)
 .rename_i as bs;intro hh;cases hh;cases r1 with
  |cons r r'=>
   cases r' with
   |cons r2 r''=>
    cases r'';obtain⟨p,us,rfl,hs,hr⟩:=(show ∃a us,_=V.ref a/\SqT K W1.F a us/\aJ K W1.F as us from r);obtain⟨p',us',rfl,hs',hr'⟩:=(show ∃a us,_=V.ref a/\SqT K W1.F a us/\aJ K W1.F bs us from r2);refine⟨p,p',us,us',rfl,.inr ⟨G1.fh.seqT hs,G1.fh.seqT hs',k _ W1 H1 e1 G1 fun W2 M2 H2 e2 G2=>?_⟩⟩;have q1:SqT K H2 p us:=G2.fh.seqT (e2.ff.seqT hs);have q2:SqT K H2 p' us':=G2.fh.seqT (e2.ff.seqT hs');refine⟨fun i x hx=>?_,us,us',q1,q2,?_⟩
    .obtain⟨c,d,hc,hd,rfl⟩:=wZ hx;obtain⟨u,hu,ru⟩:=Paired.get (eV hr) (show(as.map CD.d)[i]?=some (.d c)by rw[C0,hc];rfl);obtain⟨v,hv,rv⟩:=Paired.get (eV hr') (show(bs.map CD.d)[i]?=some (.d d)by rw[C0,hd];rfl);refine⟨⟨us,us',u,v,q1,q2,hu,hv⟩,fun y H3 hy=>?_⟩;obtain⟨p3,x',y',hn,rfl,rfl,hx',hy'⟩:=hy;have:=hx' us q1;rw[hu]at this;cases this;have:=hy' us' q2;rw[hv]at this;cases this;obtain⟨e3,G3⟩:=G2.lay (o:=.tup [u,v]) hn;refine⟨_,e3,G3,⟨p3,_,rfl,SqT.of aP,?_⟩⟩;exact⟨_,_,rfl,Rep.same e3.ff _ _ (show Rep K W2.F c u from ru.up e2),_,_,rfl,Rep.same e3.ff _ _ (show Rep K W2.F d v from rv.up e2),rfl⟩
    .have:=AB as bs;rw[<- hr.length,<- hr'.length];exact this
 .intro hh;cases hh
theorem WL{ι:Type}{K:Fg}{X:ι->Cx}{a b:Expr}{fa:AF}{pos:Pos}{elts:List Expr}{x1:Nat}{tpos p:Pos}(hK:∀i,(X i).K=K)(hm:∀i,(X i).mg "zip"=none)(x:MA K X [a,b] fa)(hg:∀i,Gl (X i) "zip":=by intro _;rfl):MI K X (.Tuple elts x1 tpos) (.Call (.Name "zip" p) [a,b] [] pos) (BZ fa):=by
 obtain⟨t,x1',x2⟩:=x.ex;exact⟨_,fun i=>by have:=YQ (elts:=elts) (x1:=x1) (tpos:=tpos) (p:=p) (pos:=pos) (hg i) (hm i) (x1' i) (by rw[x.st.1,x.st.2.1];rfl) (by rw[x.st.2.1];rfl);rw[hK i]at this;exact this,WB x2⟩
end L2
section
noncomputable section
namespace Q10
open PySem PySem.Spec PyProof.Rows L2
noncomputable def top(i:Nat):Stmt:=PySem.Challenge.pw_cutstree_k10_side_weight.main.body.getD i (.Pass ⟨0,0,0,0⟩)
theorem ar1{α:Type}{P:List α->Prop}{us:List α}(hl:us.length=1)(h:∀a0,P [a0]):P us:=by
 rcases us with _|⟨a0,_|⟨c,r⟩⟩<;>first|exact h _|cases hl
theorem ar2{α:Type}{P:List α->Prop}{us:List α}(hl:us.length=2)(h:∀a0 a1,P [a0,a1]):P us:=by
 rcases us with _|⟨a0,_|⟨a1,_|⟨c,r⟩⟩⟩<;>first|exact h _ _|cases hl
theorem ar3{α:Type}{P:List α->Prop}{us:List α}(hl:us.length=3)(h:∀a0 a1 a2,P [a0,a1,a2]):P us:=by
 rcases us with _|⟨a0,_|⟨a1,_|⟨a2,_|⟨c,r⟩⟩⟩⟩<;>first|exact h _ _ _|cases hl
theorem ar4{α:Type}{P:List α->Prop}{us:List α}(hl:us.length=4)(h:∀a0 a1 a2 a3,P [a0,a1,a2,a3]):P us:=by
 rcases us with _|⟨a0,_|⟨a1,_|⟨a2,_|⟨a3,_|⟨c,r⟩⟩⟩⟩⟩<;>first|exact h _ _ _ _|cases hl
set_option hygiene false
local macro_rules | `(tactic| sleep 990) => `(tactic| exact ⟨rfl, rfl, rfl, by decide +kernel, rfl, by decide +kernel, by decide +kernel⟩)
local macro_rules | `(tactic| sleep 991) => `(tactic| (intro _ _ _ _ _ _ _ hl; apply ar1 hl; intros; rfl))
local macro_rules | `(tactic| sleep 992) => `(tactic| (intro _ _ _ _ _ _ _ hl; apply ar2 hl; intros; rfl))
local macro_rules | `(tactic| sleep 993) => `(tactic| (intro _ _ _ _ _ _ _ hl; apply ar3 hl; intros; rfl))
local macro_rules | `(tactic| sleep 994) => `(tactic| (intro _ _ _ _ _ _ _ hl; apply ar4 hl; intros; rfl))
set_option hygiene true
noncomputable abbrev lH:Stmt:=top 35
noncomputable abbrev tU:List Str:=["_law_script","_law_many","_law_row","_law_odd","_law_deck_here","_law_k","_law_at","_law_one"]
noncomputable abbrev nZ:List Str:=["_law_script","_law_many"]
theorem sc__law_deck:aR tU nZ (aE lH):=by sleep 990
noncomputable def pH:EF:=(pE (aC (fC (.int 48271)) (aC (fC (.int 69621)) (aC (fC (.int 39373)) (aC (fC (.int 40692)) aG)))))
theorem uZ(γ:Ga)(M:Sto):pH γ M=some (.d (.list [(.int 48271),(.int 69621),(.int 39373),(.int 40692)]),M):=rfl
noncomputable def cZ:SF:=(aX (aV (fOp bY (aD 5) (aK lB (aC (aD 2) aG))) (hName 6))
 (aX (aV (fOp bY (fOp ixF (aD 2) (aD 6)) (fC (.int 1000000))) (hName 7))
 (aX (sIf (gB (fOp (eqX false) (aD 3) (fC (.int 0))))
  (aX (aV (fOp bY (fOp fU (fOp fU (fOp ixF (aD 2) (aD 6)) (fOp wQ (fOp wQ (aD 5) (aD 5)) (fC (.int 16807)))) (fOp wQ (fC (.int 3)) (aD 5))) (fC (.int 2147483629))) (hName 7))
 (aX (aV (fOp bY (fOp fU (fOp wQ (aD 7) (fOp ixF pH (fOp bY (aD 5) (fC (.int 4))))) (fC (.int 7))) (fC (.int 2147483647))) (hName 7))
 (aV (fOp bY (fOp wQ (aD 7) (aD 7)) (fC (.int 2147483629))) (hName 7))))
  (aV (fOp dF (fOp ixF (aD 2) (aD 6)) (fC (.int 1000000))) (hSub (aD 2) (aD 6) BP)))
 (lA (bQ "list" eE (aD 4) (aC (aD 7) aG))))))
noncomputable def jV:SF:=(aX (aV (aK xY (aC (aD 0) aG)) (hName 2))
 (aX (sIf (gB (fOp (eqY false) (aD 2) (pE aG)))
  (aV (pY (aC (fC (.int 4)) aG)) (hName 2))
  dM)
 (aX (aV (fOp bY (fOp ixF (aD 2) (fC (.int 0))) (fC (.int 2))) (hName 3))
 (aX (aV (fOp dF (fOp ixF (aD 2) (fC (.int 0))) (fC (.int 2))) (hSub (aD 2) (fC (.int 0)) BP))
 (aX (aV (pY aG) (hName 4))
 (aX (nN (cU (aC (aD 1) aG)) (hName 5) cZ)
 (aX (lA (bQ "list" iV (aD 4) aG))
 (cO (aD 4)))))))))
noncomputable def jW:FN:=fnF 2 8 jV
noncomputable abbrev bJ:Stmt:=top 38
noncomputable abbrev cD:List Str:=["_law_deck_here","_law_many","_law_kind","_law_found","_law_draw","_law_middle","_law_j"]
noncomputable abbrev lK:List Str:=["_law_deck_here","_law_many"]
theorem sc__law_pairs:aR cD lK (aE bJ):=by sleep 990
noncomputable def dZ:EF:=(FD [some 1,none] (cU (aC (aD 1) aG)) (hName 1) gE (dJ (aC (aD 1) (aC (fOp bY (fOp fU (aD 1) (fC (.int 1))) (aD 0)) aG))))
noncomputable def fO:EF:=(FD [none] (qV (aC (fC (.int 1)) (aC (aD 1) aG))) (hName 0) gE (dJ (aC (fC (.int 0)) (aC (aD 0) aG))))
noncomputable def fS:EF:=(FD [some 0,none] (qV (aC (fC (.int 1)) (aC (aD 1) aG))) (hName 1) gE (dJ (aC (fOp bY (bQ "list" gH (aD 0) aG) (aD 1)) (aC (aD 1) aG))))
noncomputable def iY:EF:=(fLc [some 6,some 5,none] (cU (aC (aD 6) aG)) (hName 2) (gB (fOp (eqX false) (fOp ltI (aD 2) (aD 1)) (fOp ltI (aD 0) (aD 1)))) (dJ (aC (aD 2) (aC (aD 0) aG))))
noncomputable def cQ:SF:=(aV (fOp sT (aD 3) iY) (hName 3))
noncomputable def dN:EF:=(FD [some 5,none] (cU (aC (fOp fU (aD 5) (fC (.int 1))) aG)) (hName 1) gE (dJ (aC (aD 1) (aC (fOp bY (fOp fU (aD 1) (fC (.int 1))) (fOp fU (aD 0) (fC (.int 1)))) aG))))
noncomputable def fN:EF:=(fLc [none] (qV (aC (aD 5) (aC (fOp xE (aD 1) (fC (.int 1))) aG))) (hName 0) gE (dJ (aC (aD 0) (aC (fOp fU (aD 0) (fC (.int 1))) aG))))
noncomputable def iU:EF:=(fLc [some 6,some 0,none] (cU (aC (aD 6) aG)) (hName 2) (gB (fOp gtI (fOp bY (bQ "list" gH (aD 1) aG) (fC (.int 3))) (fC (.int 0)))) (dJ (aC (aD 2) (aC (aD 0) aG))))
noncomputable def cS:SF:=(aV (fOp sT (aD 3) iU) (hName 3))
noncomputable def lZ:SF:=(aX (aV (fOp bY (bQ "list" gH (aD 0) aG) (fC (.int 9))) (hName 2))
 (aX (aV (pY aG) (hName 3))
 (aX (sIf (gB (fOp ltI (aD 2) (fC (.int 2))))
  (aX (aV dZ (hName 3))
 (sIf (gB (fOp (eqX false) (aD 2) (fC (.int 1))))
  (aX (aV (bQ "list" gH (aD 0) aG) (hName 4))
 (aV (fOp sT (aD 3) (pE (aC (dJ (aC (fOp bY (aD 4) (aD 1)) (aC (fOp bY (fOp dF (aD 4) (fC (.int 11))) (aD 1)) aG))) (aC (dJ (aC (fOp bY (fOp dF (aD 4) (fC (.int 97))) (aD 1)) (aC (fOp bY (fOp dF (aD 4) (fC (.int 7))) (aD 1)) aG))) aG)))) (hName 3)))
  dM))
  (sIf (gB (fOp (eqX false) (aD 2) (fC (.int 2))))
  (aV fO (hName 3))
  (sIf (gB (fOp (eqX false) (aD 2) (fC (.int 3))))
  (aV fS (hName 3))
  (sIf (gB (fOp (eqX false) (aD 2) (fC (.int 4))))
  (aX (aV (fOp dF (aD 1) (fC (.int 2))) (hName 5))
 (aX (nN (cU (aC (aD 1) aG)) (hName 6) cQ)
 (lA (bQ "list" eE (aD 3) (aC (dJ (aC (fC (.int 0)) (aC (fOp xE (aD 1) (fC (.int 1))) aG))) aG)))))
  (sIf (gB (fOp (eqX false) (aD 2) (fC (.int 5))))
  (aX (aV (fOp dF (aD 1) (fC (.int 2))) (hName 5))
 (aX (aV dN (hName 3))
 (aV (fOp sT (fOp sT (aD 3) fN) (pE (aC (dJ (aC (aD 5) (aC (fOp xE (aD 1) (fC (.int 1))) aG))) aG))) (hName 3))))
  (sIf (gB (fOp ltI (aD 2) (fC (.int 8))))
  (nN (cU (aC (aD 1) aG)) (hName 6) cS)
  dM))))))
 (cO (aD 3)))))
noncomputable def iN:FN:=fnF 2 7 lZ
noncomputable abbrev jB:Stmt:=top 37
noncomputable abbrev pM:List Str:=["_law_draw","_law_some"]
noncomputable abbrev kL:List Str:=["_law_draw"]
theorem sc__law_weight:aR pM kL (aE jB):=by sleep 990
noncomputable def mI:EF:=(pE (aC (fC (.int 55440)) (aC (fC (.int 55440)) (aC (fC (.int 110880)) (aC (fC (.int 27720)) (aC (fC (.int 41580)) (aC (fC (.int 0)) (aC (fC (.int 23100)) (aC (fC (.int 166320)) (aC (fOp wQ (fC (.int 55440)) (fOp XF (fC (.int 10)) (fC (.int 9)))) (aC (fC (.int 1)) (aC (fC (.int 55440)) (aC (fC (.int 27720)) aG)))))))))))))
theorem sO(γ:Ga)(M:Sto):mI γ M=some (.d (.list [(.int 55440),(.int 55440),(.int 110880),(.int 27720),(.int 41580),(.int 0),(.int 23100),(.int 166320),(.int 55440000000000),(.int 1),(.int 55440),(.int 27720)]),M):=rfl
noncomputable def kR:SF:=(aX (aV mI (hName 1))
 (cO (fOp ixF (aD 1) (fOp bY (aD 0) (fC (.int 12))))))
noncomputable def eW:FN:=fnF 1 2 kR
noncomputable abbrev nB:Stmt:=top 39
noncomputable abbrev wR:List Str:=["_law_deck_here","_law_many","_law_alike","_law_found","_law_i","_law_j","_law_weight_here"]
noncomputable abbrev qH:List Str:=["_law_deck_here","_law_many"]
theorem sc__law_web:aR wR qH (aE nB):=by sleep 990
noncomputable def iK:SF:=(aX (aV (fC (.int 55440)) (hName 6))
 (aX (sIf (gB (fOp (eqX false) (fOp bY (aD 2) (fC (.int 2))) (fC (.int 1))))
  (aV (aK eW (aC (bQ "list" gH (aD 0) aG) aG)) (hName 6))
  dM)
 (sIf (OB (gB (fOp (eqX true) (aD 4) (aD 5))) (gB (fOp gtI (aD 6) (fC (.int 0)))))
  (sQ (aD 3) (qT (aC (aK DV (aC (aD 4) (aC (aD 5) aG))) (aC (aK CI (aC (aD 4) (aC (aD 5) aG))) aG))) (aD 6))
  dM)))
noncomputable def qF:SF:=(aX (aV (bQ "list" gH (aD 0) aG) (hName 2))
 (aX (aV sZ (hName 3))
 (aX (nN (cC (jK (aK iN (aC (aD 0) (aC (aD 1) aG))))) (gX 2 (aZ (hName 4) (aZ (hName 5) gT))) iK)
 (cO (aD 3)))))
noncomputable def lM:FN:=fnF 2 7 qF
noncomputable abbrev oP:Stmt:=top 6
noncomputable abbrev wK:List Str:=["thing"]
noncomputable abbrev pU:List Str:=["thing"]
theorem CO:aR wK pU (aE oP):=by sleep 990
noncomputable def vB:SF:=(cO (lQ (QF "int" (aD 0)) (VV (QF "bool" (aD 0)))))
noncomputable def fF:FN:=fnF 1 1 vB
noncomputable abbrev rX:Stmt:=top 7
noncomputable abbrev CY:List Str:=["thing"]
noncomputable abbrev vZ:List Str:=["thing"]
theorem MN:aR CY vZ (aE rX):=by sleep 990
noncomputable def DJ:SF:=(cO (IA "list" "tuple" (aD 0)))
noncomputable def oG:FN:=fnF 1 1 DJ
noncomputable abbrev tJ:Stmt:=top 20
noncomputable abbrev CF:List Str:=["one","other"]
noncomputable abbrev wH:List Str:=["one","other"]
theorem sc_common:aR CF wH (aE tJ):=by sleep 990
noncomputable def qA:SF:=(qE (HS (aD 1)) (xQ 0 1 (aC (aD 1) (aC (fOp bY (aD 0) (aD 1)) aG))))
noncomputable def CK:SF:=(aX qA
 (cO (aD 0)))
noncomputable def rT:FN:=fnF 2 2 CK
noncomputable abbrev mB:Stmt:=top 8
noncomputable abbrev uC:List Str:=["thing","length"]
noncomputable abbrev mU:List Str:=["thing","length"]
theorem BH:aR uC mU (aE mB):=by sleep 990
noncomputable def uB:SF:=(cO (lQ (aK oG (aC (aD 0) aG)) (fOp (eqX false) (aK lB (aC (aD 0) aG)) (aD 1))))
noncomputable def jJ:FN:=fnF 2 2 uB
noncomputable abbrev dC:Stmt:=top 19
noncomputable abbrev hV:List Str:=["thing"]
noncomputable abbrev dU:List Str:=["thing"]
theorem mS:aR hV dU (aE dC):=by sleep 990
noncomputable def bS:SF:=(aX (sIf (gOr (rJ (gB (aK jJ (aC (aD 0) (aC (fC (.int 2)) aG))))) (gOr (rJ (gB (aK fF (aC (fOp ixF (aD 0) (fC (.int 0))) aG)))) (rJ (gB (aK fF (aC (fOp ixF (aD 0) (fC (.int 1))) aG))))))
 (cO (fC (.bool false)))
 dM)
 (cO (lQ (fOp geI (fOp ixF (aD 0) (fC (.int 0))) (fC (.int 0))) (fOp geI (fOp ixF (aD 0) (fC (.int 1))) (fC (.int 1))))))
noncomputable def bG:FN:=fnF 1 1 bS
noncomputable abbrev jE:Stmt:=top 18
noncomputable abbrev pO:List Str:=["thing"]
noncomputable abbrev kM:List Str:=["thing"]
theorem vP:aR pO kM (aE jE):=by sleep 990
noncomputable def dA:SF:=(cO (lQ (aK bG (aC (aD 0) aG)) (lQ (fOp (eqX false) (fOp bY (fC (.int 55440)) (fOp ixF (aD 0) (fC (.int 1)))) (fC (.int 0))) (fOp (eqX false) (aK rT (aC (fOp ixF (aD 0) (fC (.int 0))) (aC (fOp ixF (aD 0) (fC (.int 1))) aG))) (fC (.int 1))))))
noncomputable def cF:FN:=fnF 1 1 dA
noncomputable abbrev mE:Stmt:=top 17
noncomputable abbrev uD:List Str:=["thing"]
noncomputable abbrev nL:List Str:=["thing"]
theorem zS:aR uD nL (aE mE):=by sleep 990
noncomputable def gZ:SF:=(cO (lQ (aK cF (aC (aD 0) aG)) (fOp leI (fOp ixF (aD 0) (fC (.int 0))) (fC (.int 1000000000000)))))
noncomputable def eA:FN:=fnF 1 1 gZ
noncomputable abbrev nJ:Stmt:=top 9
noncomputable abbrev xF:List Str:=["many","thing"]
noncomputable abbrev pS:List Str:=["many","thing"]
theorem ER:aR xF pS (aE nJ):=by sleep 990
noncomputable def lP:SF:=(cO (lQ (aK fF (aC (aD 1) aG)) (vU leI ltI (fC (.int 0)) (aD 1) (aD 0))))
noncomputable def dQ:FN:=fnF 2 2 lP
noncomputable abbrev dO:Stmt:=top 10
noncomputable abbrev iE:List Str:=["many","i","j"]
noncomputable abbrev eP:List Str:=["many","i","j"]
theorem nU:aR iE eP (aE dO):=by sleep 990
noncomputable def cA:SF:=(cO (lQ (aK dQ (aC (aD 0) (aC (aD 1) aG))) (lQ (aK dQ (aC (aD 0) (aC (aD 2) aG))) (fOp (eqX true) (aD 1) (aD 2)))))
noncomputable def bK:FN:=fnF 3 3 cA
noncomputable abbrev dX:Stmt:=top 11
noncomputable abbrev iC:List Str:=["many","thing"]
noncomputable abbrev eO:List Str:=["many","thing"]
theorem oA:aR iC eO (aE dX):=by sleep 990
noncomputable def cB:SF:=(cO (lQ (aK jJ (aC (aD 1) (aC (fC (.int 3)) aG))) (lQ (aK bK (aC (aD 0) (aC (fOp ixF (aD 1) (fC (.int 0))) (aC (fOp ixF (aD 1) (fC (.int 1))) aG)))) (fOp ltI (fOp ixF (aD 1) (fC (.int 0))) (fOp ixF (aD 1) (fC (.int 1)))))))
noncomputable def bC:FN:=fnF 2 2 cB
noncomputable abbrev rY:Stmt:=top 33
noncomputable abbrev EW:List Str:=["many","thing"]
noncomputable abbrev vC:List Str:=["many","thing"]
theorem MZ:aR EW vC (aE rY):=by sleep 990
noncomputable def kX:SF:=(cO (lQ (aK bC (aC (aD 0) (aC (aD 1) aG))) (aK eA (aC (fOp ixF (aD 1) (fC (.int 2))) aG))))
noncomputable def jC:FN:=fnF 2 2 kX
noncomputable abbrev iL:Stmt:=top 32
noncomputable abbrev oN:List Str:=["many","ties","weights","at","row"]
noncomputable abbrev nT:List Str:=["many","ties"]
theorem sc_kept_ties:aR oN nT (aE iL):=by sleep 990
noncomputable def eX:SF:=(aX (sIf (gOr (rJ (gB (aK jC (aC (aD 0) (aC (aD 4) aG))))) (gB (sM false (qT (aC (fOp ixF (aD 4) (fC (.int 0))) (aC (fOp ixF (aD 4) (fC (.int 1))) aG))) (aD 2))))
 vG
 dM)
 (sQ (aD 2) (qT (aC (fOp ixF (aD 4) (fC (.int 0))) (aC (fOp ixF (aD 4) (fC (.int 1))) aG))) (aK eQ (aC (fOp ixF (aD 4) (fC (.int 2))) aG))))
noncomputable def kH:EF:=(fLc [none,none,none] (cC (sN (aD 2))) (gX 2 (aZ (gX 2 (aZ (hName 0) (aZ (hName 1) gT))) (aZ (hName 2) gT))) (gB (fOp gtI (fOp ixF (aD 2) (fC (.int 0))) (fC (.int 0)))) (dJ (aC (aD 0) (aC (aD 1) (aC (aD 2) aG)))))
noncomputable def nK:SF:=(aX (sIf (rJ (gB (aK oG (aC (aD 1) aG))))
 vG
 dM)
 (aX (aV sZ (hName 2))
 (aX (nN (tY (aC (aD 1) aG)) (gX 2 (aZ (hName 3) (aZ (hName 4) gT))) eX)
 (cO (aK eQ (aC kH aG))))))
noncomputable def gW:FN:=fnF 2 5 nK
noncomputable abbrev eG:Stmt:=inClass (top 31) 0
noncomputable abbrev oB:List Str:=["self","many","ties"]
noncomputable abbrev mX:List Str:=["self","many","ties"]
theorem AU:aR oB mX (aE eG):=by sleep 990
noncomputable def kO:EF:=(fDc (.dt []) [none,none,none] (cC (kB "Web" "ties" (aD 0))) (gX 3 (aZ (hName 0) (aZ (hName 1) (aZ (hName 2) gT)))) gE (qT (aC (aD 0) (aC (aD 1) aG))) (aD 2))
noncomputable def oO:SF:=(aX (sIf (gOr (rJ (gB (aK fF (aC (aD 1) aG)))) (gOr (gB (fOp ltI (aD 1) (fC (.int 1)))) (gB (fOp gtI (aD 1) (fC (.int 40))))))
 vG
 dM)
 (aX (yO "Web" "many" (aD 0) (aD 1))
 (aX (yO "Web" "ties" (aD 0) (aK gW (aC (aD 1) (aC (aD 2) aG))))
 (yO "Web" "weights" (aD 0) kO))))
noncomputable def fK:FN:=fnF 3 3 oO
noncomputable abbrev iZ:Stmt:=top 36
noncomputable abbrev pJ:List Str:=["_law_above","_law_below","_law_one","_law_other"]
noncomputable abbrev kN:List Str:=["_law_above","_law_below"]
theorem sc__law_lowest:aR pJ kN (aE iZ):=by sleep 990
noncomputable def mN:SF:=(qE (gB (fOp gtI (aD 3) (fC (.int 0)))) (xQ 2 3 (aC (aD 3) (aC (fOp bY (aD 2) (aD 3)) aG))))
noncomputable def kI:SF:=(aX (xQ 2 3 (aC (aD 0) (aC (aD 1) aG)))
 (aX mN
 (cO (dJ (aC (fOp dF (aD 0) (aD 2)) (aC (fOp dF (aD 1) (aD 2)) aG))))))
noncomputable def cH:FN:=fnF 2 4 kI
noncomputable abbrev iM:Stmt:=top 40
noncomputable abbrev mW:List Str:=["_law_ties"]
noncomputable abbrev nD:List Str:=["_law_ties"]
theorem AA:aR mW nD (aE iM):=by sleep 990
noncomputable def kD:EF:=(fLc [some 0,none,none] (cC (aK qG (aC (aD 0) aG))) (gX 2 (aZ (hName 1) (aZ (hName 2) gT))) gE (dJ (aC (aD 1) (aC (aD 2) (aC (aK cH (aC (tO (aD 0) (qT (aC (aD 1) (aC (aD 2) aG)))) (aC (fC (.int 55440)) aG))) aG)))))
noncomputable def nW:SF:=(cO kD)
noncomputable def fL:FN:=fnF 1 1 nW
noncomputable abbrev dE:Stmt:=top 42
noncomputable abbrev gP:List Str:=["_law_many","_law_found","_law_mask"]
noncomputable abbrev gJ:List Str:=["_law_many"]
theorem sc__law_all_sides:aR gP gJ (aE dE):=by sleep 990
noncomputable def fH:EF:=(fLc [some 2,none] (cU (aC (aD 0) aG)) (hName 1) (gB (fOp (eqX false) (fOp QO (fOp YU (aD 0) (aD 1)) (fC (.int 1))) (fC (.int 1)))) (aD 1))
noncomputable def cV:SF:=(lA (bQ "list" eE (aD 1) (aC (aK eQ (aC fH aG)) aG)))
noncomputable def gM:SF:=(aX (aV (pY aG) (hName 1))
 (aX (nN (qV (aC (fC (.int 1)) (aC (fOp xE (fOp xK (fC (.int 1)) (aD 0)) (fC (.int 1))) aG))) (hName 2) cV)
 (cO (aD 1))))
noncomputable def eI:FN:=fnF 1 3 gM
noncomputable abbrev dG:Stmt:=top 41
noncomputable abbrev gN:List Str:=["_law_ties","_law_side"]
noncomputable abbrev gC:List Str:=["_law_ties","_law_side"]
theorem qW:aR gN gC (aE dG):=by sleep 990
noncomputable def fI:EF:=(fLc [some 0,some 1,none] (KL (aD 0)) (hName 2) (gB (fOp (eqX true) (fOp (inD false) (fOp ixF (aD 2) (fC (.int 0))) (aD 1)) (fOp (inD false) (fOp ixF (aD 2) (fC (.int 1))) (aD 1)))) (tO (aD 0) (kT (aD 2))))
noncomputable def gG:SF:=(cO (aK sumF (aC fI aG)))
noncomputable def cP:FN:=fnF 2 2 gG
noncomputable abbrev iI:Stmt:=top 12
noncomputable abbrev oK:List Str:=["row"]
noncomputable abbrev oF:List Str:=["row"]
theorem BF:aR oK oF (aE iI):=by sleep 990
noncomputable def kA:EF:=(fLc [none,none] (BZ (aC (aD 0) (aC (fSl (aD 0) (DK (fC (.int 1))) rM) aG))) (gX 2 (aZ (hName 0) (aZ (hName 1) gT))) gE (fOp ltI (aD 0) (aD 1)))
noncomputable def nF:SF:=(cO (aK CW (aC kA aG)))
noncomputable def jQ:FN:=fnF 1 1 nF
noncomputable abbrev cN:Stmt:=top 13
noncomputable abbrev eN:List Str:=["many","thing"]
noncomputable abbrev eS:List Str:=["many","thing"]
theorem nO:aR eN eS (aE cN):=by sleep 990
noncomputable def dB:EF:=(fLc [some 0,none] (cC (aD 1)) (hName 1) gE (aK dQ (aC (aD 0) (aC (aD 1) aG))))
noncomputable def bZ:SF:=(cO (lQ (aK oG (aC (aD 1) aG)) (lQ (aK CW (aC dB aG)) (aK jQ (aC (aD 1) aG)))))
noncomputable def bM:FN:=fnF 2 2 bZ
noncomputable abbrev pW:Stmt:=top 25
noncomputable abbrev zQ:List Str:=["web","side"]
noncomputable abbrev sI:List Str:=["web","side"]
theorem HL:aR zQ sI (aE pW):=by sleep 990
noncomputable def sC:SF:=(cO (lQ (aK bM (aC (kB "Web" "many" (aD 0)) (aC (aD 1) aG))) (vU ltI ltI (fC (.int 0)) (aK lB (aC (aD 1) aG)) (kB "Web" "many" (aD 0)))))
noncomputable def oY:FN:=fnF 2 2 sC
noncomputable abbrev fM:Stmt:=top 28
noncomputable abbrev kZ:List Str:=["web","side"]
noncomputable abbrev gQ:List Str:=["web","side"]
theorem rQ:aR kZ gQ (aE fM):=by sleep 990
noncomputable def fW:SF:=(sIf (rJ (gB (aK oY (aC (aD 0) (aC (aD 1) aG)))))
 vG
 dM)
noncomputable def bP:FN:=fnF 2 2 fW
noncomputable abbrev fP:Stmt:=top 21
noncomputable abbrev kW:List Str:=["above","below","divisor"]
noncomputable abbrev gK:List Str:=["above","below"]
theorem sc_in_least_terms:aR kW gK (aE fP):=by sleep 990
noncomputable def fX:SF:=(aX (aV (aK rT (aC (aD 0) (aC (aD 1) aG))) (hName 2))
 (cO (dJ (aC (fOp dF (aD 0) (aD 2)) (aC (fOp dF (aD 1) (aD 2)) aG)))))
noncomputable def eD:FN:=fnF 2 3 fX
noncomputable abbrev jZ:Stmt:=top 23
noncomputable abbrev qO:List Str:=["many"]
noncomputable abbrev lR:List Str:=["many"]
theorem xP:aR qO lR (aE jZ):=by sleep 990
noncomputable def lN:SF:=(cO (aK eD (aC (aD 0) (aC (fC (.int 55440)) aG))))
noncomputable def iH:FN:=fnF 1 1 lN
noncomputable abbrev vF:Stmt:=top 22
noncomputable abbrev IT:List Str:=["amount"]
noncomputable abbrev BE:List Str:=["amount"]
theorem OQ:aR IT BE (aE vF):=by sleep 990
noncomputable def BO:SF:=(cO (fOp wQ (fOp ixF (aD 0) (fC (.int 0))) (fOp dF (fC (.int 55440)) (fOp ixF (aD 0) (fC (.int 1))))))
noncomputable def oW:FN:=fnF 1 1 BO
noncomputable abbrev dW:Stmt:=top 26
noncomputable abbrev gS:List Str:=["web","side","inside"]
noncomputable abbrev kQ:List Str:=["web","side"]
theorem sc_side_weight:aR gS kQ (aE dW):=by sleep 990
noncomputable def eZ:EF:=(fDc (.dk []) [none] (cC (aD 1)) (hName 0) gE (sV (aD 0)) (fC (.bool true)))
noncomputable def hZ:EF:=(fLc [some 2,none,none,none] (cC (kB "Web" "ties" (aD 0))) (gX 3 (aZ (hName 1) (aZ (hName 2) (aZ (hName 3) gT)))) (gB (fOp (eqX true) (sM false (sV (aD 1)) (aD 0)) (sM false (sV (aD 2)) (aD 0)))) (aK oW (aC (aD 3) aG)))
noncomputable def kP:SF:=(aX (lA (aK bP (aC (aD 0) (aC (aD 1) aG))))
 (aX (aV eZ (hName 2))
 (cO (aK iH (aC (aK sumF (aC hZ aG)) aG)))))
noncomputable def aY:FN:=fnF 2 3 kP
noncomputable abbrev oU:Stmt:=top 27
noncomputable abbrev wB:List Str:=["web","side"]
noncomputable abbrev uX:List Str:=["web","side"]
theorem LC:aR wB uX (aE oU):=by sleep 990
noncomputable def qB:EF:=(fLc [some 1,none] (cU (aC (kB "Web" "many" (aD 0)) aG)) (hName 1) (gB (fOp (inD true) (aD 1) (aD 0))) (aD 1))
noncomputable def wA:SF:=(aX (lA (aK bP (aC (aD 0) (aC (aD 1) aG))))
 (cO (aK eQ (aC qB aG))))
noncomputable def uY:FN:=fnF 2 2 wA
noncomputable abbrev kK:Stmt:=top 43
noncomputable abbrev rA:List Str:=["_law_world","_law_ties","_law_side","_law_handed","_law_due"]
noncomputable abbrev lL:List Str:=["_law_world","_law_ties","_law_side","_law_handed"]
theorem sc__law_right:aR rA lL (aE kK):=by sleep 990
noncomputable def lU:SF:=(aX (aV (aK pK (aC (aK cH (aC (aK cP (aC (aD 1) (aC (aD 2) aG))) (aC (fC (.int 55440)) aG))) aG)) (hName 4))
 (cO (lQ (fOp (eqX false) (aK pK (aC (aK aY (aC (aD 0) (aC (aD 3) aG))) aG)) (aD 4)) (fOp (eqX false) (aK pK (aC (aK aY (aC (aD 0) (aC (aK uY (aC (aD 0) (aC (aD 3) aG))) aG))) aG)) (aD 4)))))
noncomputable def lE:FN:=fnF 4 5 lU
noncomputable abbrev gL:Stmt:=top 44
noncomputable abbrev mP:List Str:=["_law_amount"]
noncomputable abbrev hX:List Str:=["_law_amount"]
theorem sE:aR mP hX (aE gL):=by sleep 990
noncomputable def hW:SF:=(cO (fOp dF (fOp wQ (fOp ixF (aD 0) (fC (.int 0))) (fC (.int 55440))) (fOp ixF (aD 0) (fC (.int 1)))))
noncomputable def aW:FN:=fnF 1 1 hW
noncomputable abbrev fB:Stmt:=top 45
noncomputable abbrev jD:List Str:=["_law_world","_law_one","_law_other","_law_both","_law_common","_law_inner"]
noncomputable abbrev jA:List Str:=["_law_world","_law_one","_law_other"]
theorem sc__law_no_more:aR jD jA (aE fB):=by sleep 990
noncomputable def eB:EF:=(fLc [some 2,none] (cC (aD 1)) (hName 1) (gB (fOp (inD false) (aD 1) (aD 0))) (aD 1))
noncomputable def iX:SF:=(aX (aV (aK eQ (aC (yR (aC (fOp fU (aD 1) (aD 2)) aG)) aG)) (hName 3))
 (aX (aV (aK eQ (aC eB aG)) (hName 4))
 (aX (sIf (gOr (gB (fOp (eqX false) (aK lB (aC (aD 3) aG)) (kB "Web" "many" (aD 0)))) (gB (fOp (eqX false) (aD 4) (dJ aG))))
  (cO (fC (.bool true)))
  dM)
 (aX (aV (fOp fU (aK aW (aC (aK aY (aC (aD 0) (aC (aD 3) aG))) aG)) (aK aW (aC (aK aY (aC (aD 0) (aC (aD 4) aG))) aG))) (hName 5))
 (cO (fOp leI (aD 5) (fOp fU (aK aW (aC (aK aY (aC (aD 0) (aC (aD 1) aG))) aG)) (aK aW (aC (aK aY (aC (aD 0) (aC (aD 2) aG))) aG)))))))))
noncomputable def fT:FN:=fnF 3 6 iX
noncomputable abbrev GL:Stmt:=top 46
noncomputable abbrev aAk:List Str:=["_law_script","_law_deck_here","_law_k","_law_many","_law_ties","_law_world","_law_sides","_law_at","_law_side","_law_turn","_law_one"]
noncomputable abbrev ZQ:List Str:=["_law_script"]
theorem sc_law:aR aAk ZQ (aE GL):=by sleep 990
noncomputable def uT:SF:=(sIf (rJ (gB (aK lE (aC (aD 5) (aC (aD 4) (aC (aD 8) (aC (fOp ixF (pE (aC (aD 8) (aC (aK uA (aC (aD 8) aG)) aG))) (fOp bY (aD 7) (fC (.int 2)))) aG)))))))
 (cO (fC (.bool false)))
 dM)
noncomputable def uQ:SF:=(aX (aV (fOp ixF (aD 6) (fOp bY (bQ "list" gH (aD 1) aG) (aK lB (aC (aD 6) aG)))) (hName 10))
 (sIf (rJ (gB (aK fT (aC (aD 5) (aC (aD 10) (aC (fOp ixF (aD 6) (fOp bY (bQ "list" gH (aD 1) aG) (aK lB (aC (aD 6) aG)))) aG))))))
  (cO (fC (.bool false)))
  dM))
noncomputable def uO:SF:=(aX (aV (fOp fU (fC (.int 2)) (fOp bY (bQ "list" gH (aD 1) aG) (fC (.int 7)))) (hName 3))
 (aX (aV (aK lM (aC (aD 1) (aC (aD 3) aG))) (hName 4))
 (aX (DU 4 (aV (yW "Web" fK (aC (aD 3) (aC (aK fL (aC (aD 4) aG)) aG))) (hName 5)))
 (aX (aV (jK (aK eI (aC (aD 3) aG))) (hName 6))
 (aX (nN (tY (aC (aD 6) aG)) (gX 2 (aZ (hName 7) (aZ (hName 8) gT))) uT)
 (nN (cU (aC (fC (.int 4)) aG)) (hName 9) uQ))))))
noncomputable def NO:SF:=(aX (aV (aK jW (aC (aD 0) (aC (fC (.int 260)) aG))) (hName 1))
 (aX (nN (cU (aC (fC (.int 3)) aG)) (hName 2) uO)
 (cO (fC (.bool true)))))
noncomputable def F_law:FN:=fnF 1 11 NO
structure Txt(K:Fg)(mg:Str->Option Value):Prop where
 hB:MC mg ["all","bool","enumerate","int","isinstance","len","list","max","min","range","repr","set","sorted","sum","tuple","zip"]
 v70:∃t:Tok,mg "MOST_ABOVE"=some (.int 1000000000000 t)
 v71:∃t:Tok,mg "BELOW"=some (.int 55440 t)
 v72:∃t:Tok,mg "MOST_PLACES"=some (.int 40 t)
 v67:mg "Web"=some (.ref (fG K "Web"))
 v68:Cls K (fG K "Web")
 v24:gF K (fG K "Web") "many"
 v25:gF K (fG K "Web") "ties"
 v26:gF K (fG K "Web") "weights"
 v69:XB K "Web" "__init__" "Web.__init__" eG
 v32:PySem.W.makesIn K (fG K "Web")=true
 v33:PySem.W.keepIn K (.ref (fG K "Web"))=true
 v34:Def K mg "_law_deck" lH
 v35:Def K mg "_law_pairs" bJ
 v36:Def K mg "_law_weight" jB
 v37:Def K mg "_law_web" nB
 v38:Def K mg "is_whole" oP
 v39:Def K mg "is_row" rX
 v40:Def K mg "common" tJ
 v41:Def K mg "is_row_of" mB
 v42:Def K mg "has_amount_numbers" dC
 v43:Def K mg "is_in_parts" jE
 v44:Def K mg "is_weight" mE
 v45:Def K mg "is_place" nJ
 v46:Def K mg "are_unlike_places" dO
 v47:Def K mg "is_between_places" dX
 v48:Def K mg "is_tie" rY
 v49:Def K mg "kept_ties" iL
 v50:Def K mg "_law_lowest" iZ
 v51:Def K mg "_law_rows" iM
 v52:Def K mg "_law_all_sides" dE
 v53:Def K mg "_law_weight_of" dG
 v54:Def K mg "is_rising" iI
 v55:Def K mg "are_rising_places" cN
 v56:Def K mg "is_side" pW
 v57:Def K mg "refuse_no_side" fM
 v58:Def K mg "in_least_terms" fP
 v59:Def K mg "from_parts" jZ
 v60:Def K mg "parts" vF
 v61:Def K mg "side_weight" dW
 v62:Def K mg "others" oU
 v63:Def K mg "_law_right" kK
 v64:Def K mg "_law_reckoned" gL
 v65:Def K mg "_law_no_more" fB
 v66:Def K mg "law" GL
section
variable{P:Program}{w:World}{K:Fg}{mg:Str->Option Value}{base:Heap}
theorem BS(T:Txt K mg):Callee P w K mg base 1 "_law_deck" nZ (spM K jW):=
 T.v34.okG (N:=tU) (ps:=nZ) (k:=0) (b:=jV) sc__law_deck (by sleep 992) fun f cdv A outer s H E hr=>
  (aM (bD 2 (fun _=>sc__law_deck.nd) (gU (YG (fun _=>rfl)) (fun _=>T.hB.of "list") boot_list (aB (aA 0) aF)))
   (aM (fQ (bW (aEX (fun _=>rfl) (fun _=>hr.units)) (aA 2) (tI aF))
    (aN (bD 2 (fun _=>sc__law_deck.nd) (BM (aB aI aF))))
    gI)
   (aM (bD 3 (fun _=>sc__law_deck.nd) (aS cY (bU dY (aA 2) aI) aI))
   (aM (OK (aS gA (bU dY (aA 2) aI) aI) (RP aAi (aA 2) aI))
   (aM (bD 4 (fun _=>sc__law_deck.nd) (BM aF))
   (aM (mD (fun _=>L0) (fun _=>rfl) (fR (fun _=>T.hB.of "range") (aB (aA 1) aF)) (aT 5 (fun _=>sc__law_deck.nd))
    (aM (bD 6 (fun _=>sc__law_deck.nd) (aS cY (aA 5) (bX zK (fun _=>T.hB.of "len") boot_len (aB (aA 2) aF))))
   (aM (bD 7 (fun _=>sc__law_deck.nd) (aS cY (bU dY (aA 2) (aA 6)) aI))
   (aM (fQ (bW (pA (fun _=>rfl) (fun _=>hr.units)) (aA 3) aI)
    (aM (bD 7 (fun _=>sc__law_deck.nd) (aS cY (aS mQ (aS mQ (bU dY (aA 2) (aA 6)) (aS tM (aS tM (aA 5) (aA 5)) aI)) (aS tM aI (aA 5))) aI))
   (aM (bD 7 (fun _=>sc__law_deck.nd) (aS cY (aS mQ (aS tM (aA 7) (bU dY (tI (aB aI (aB aI (aB aI (aB aI aF))))) (aS cY (aA 5) aI))) aI) aI))
   (aN (bD 7 (fun _=>sc__law_deck.nd) (aS cY (aS tM (aA 7) (aA 7)) aI)))))
    (aN (OK (aS gA (bU dY (aA 2) (aA 6)) aI) (RP aAi (aA 2) (aA 6)))))
   (aN (oZ (sX (fun _=>rfl) (aA 4) (aB (aA 7) aF))))))))
   (aM (oZ (HI (fun _=>rfl) (aA 4)))
   (aN (bE (aA 4))))))))))
theorem xG(T:Txt K mg):Callee P w K mg base 1 "_law_pairs" lK (spM K iN):=
 T.v35.okG (N:=cD) (ps:=lK) (k:=0) (b:=lZ) sc__law_pairs (by sleep 992) fun f cdv A outer s H E hr=>
  (aM (bD 2 (fun _=>sc__law_pairs.nd) (aS cY (mH (fun _=>rfl) (aA 0)) aI))
   (aM (bD 3 (fun _=>sc__law_pairs.nd) (BM aF))
   (aM (fQ (bW xU (aA 2) aI)
    (aM (oT 3 (fun _=>sc__law_pairs.nd) (N':=(["_law_many","_law_k"]:List Str)) (cap:=[some 1,none]) (fun _=>rfl) (fun _=>cK (sc0:=aE bJ) (N:=cD) rfl rfl (by decide +kernel)) (fR (fun _=>T.hB.of "range") (aB (aA 1) aF)) (aT 1 (fun _=>(show(["_law_many","_law_k"]:List Str).Nodup by decide +kernel))) kF (eL (aB (aA 1) (aB (aS cY (aS mQ (aA 1) aI) (aA 0)) aF))))
   (aN (fQ (bW (pA (fun _=>rfl) (fun _=>hr.units)) (aA 2) aI)
    (aM (bD 4 (fun _=>sc__law_pairs.nd) (mH (fun _=>rfl) (aA 0)))
   (aN (bD 3 (fun _=>sc__law_pairs.nd) (aS (wO (fun _=>rfl)) (aA 3) (tI (aB (eL (aB (aS cY (aA 4) (aA 1)) (aB (aS cY (aS gA (aA 4) aI) (aA 1)) aF))) (aB (eL (aB (aS cY (aS gA (aA 4) aI) (aA 1)) (aB (aS cY (aS gA (aA 4) aI) (aA 1)) aF))) aF)))))))
    gI)))
    (aN (fQ (bW (pA (fun _=>rfl) (fun _=>hr.units)) (aA 2) aI)
    (aN (oT 3 (fun _=>sc__law_pairs.nd) (N':=(["_law_k"]:List Str)) (cap:=[none]) (fun _=>rfl) (fun _=>cK (sc0:=aE bJ) (N:=cD) rfl rfl (by decide +kernel)) (uP (fun _=>T.hB.of "range") (aB aI (aB (aA 1) aF))) (aT 0 (fun _=>(show(["_law_k"]:List Str).Nodup by decide +kernel))) kF (eL (aB aI (aB (aA 0) aF)))))
    (aN (fQ (bW (pA (fun _=>rfl) (fun _=>hr.units)) (aA 2) aI)
    (aN (oT 3 (fun _=>sc__law_pairs.nd) (N':=(["_law_deck_here","_law_k"]:List Str)) (cap:=[some 0,none]) (fun _=>rfl) (fun _=>cK (sc0:=aE bJ) (N:=cD) rfl rfl (by decide +kernel)) (uP (fun _=>T.hB.of "range") (aB aI (aB (aA 1) aF))) (aT 1 (fun _=>(show(["_law_deck_here","_law_k"]:List Str).Nodup by decide +kernel))) kF (eL (aB (aS cY (mH (fun _=>rfl) (aA 0)) (aA 1)) (aB (aA 1) aF)))))
    (aN (fQ (bW (pA (fun _=>rfl) (fun _=>hr.units)) (aA 2) aI)
    (aM (bD 5 (fun _=>sc__law_pairs.nd) (aS gA (aA 1) aI))
   (aM (mD (fun _=>L0) (fun _=>rfl) (fR (fun _=>T.hB.of "range") (aB (aA 1) aF)) (aT 6 (fun _=>sc__law_pairs.nd))
    (aN (bD 3 (fun _=>sc__law_pairs.nd) (aS (wO (fun _=>rfl)) (aA 3) (mK (N':=(["_law_j","_law_middle","_law_i"]:List Str)) (cap:=[some 6,some 5,none]) (fun _=>rfl) (fun _=>cK (sc0:=aE bJ) (N:=cD) rfl rfl (by decide +kernel)) (fR (fun _=>T.hB.of "range") (aB (aA 6) aF)) (aT 2 (fun _=>(show(["_law_j","_law_middle","_law_i"]:List Str).Nodup by decide +kernel))) (nA (bW (pA (fun _=>rfl) (fun _=>hr.units)) (eK xU (aA 2) (aA 1)) (eK xU (aA 0) (aA 1)))) (eL (aB (aA 2) (aB (aA 0) aF))))))))
   (aN (oZ (sX (fun _=>rfl) (aA 3) (aB (eL (aB aI (aB (aS JA (aA 1) aI) aF))) aF))))))
    (aN (fQ (bW (pA (fun _=>rfl) (fun _=>hr.units)) (aA 2) aI)
    (aM (bD 5 (fun _=>sc__law_pairs.nd) (aS gA (aA 1) aI))
   (aM (oT 3 (fun _=>sc__law_pairs.nd) (N':=(["_law_middle","_law_k"]:List Str)) (cap:=[some 5,none]) (fun _=>rfl) (fun _=>cK (sc0:=aE bJ) (N:=cD) rfl rfl (by decide +kernel)) (fR (fun _=>T.hB.of "range") (aB (aS mQ (aA 5) aI) aF)) (aT 1 (fun _=>(show(["_law_middle","_law_k"]:List Str).Nodup by decide +kernel))) kF (eL (aB (aA 1) (aB (aS cY (aS mQ (aA 1) aI) (aS mQ (aA 0) aI)) aF))))
   (aN (bD 3 (fun _=>sc__law_pairs.nd) (aS (wO (fun _=>rfl)) (aS (wO (fun _=>rfl)) (aA 3) (mK (N':=(["_law_k"]:List Str)) (cap:=[none]) (fun _=>rfl) (fun _=>cK (sc0:=aE bJ) (N:=cD) rfl rfl (by decide +kernel)) (uP (fun _=>T.hB.of "range") (aB (aA 5) (aB (aS JA (aA 1) aI) aF))) (aT 0 (fun _=>(show(["_law_k"]:List Str).Nodup by decide +kernel))) kF (eL (aB (aA 0) (aB (aS mQ (aA 0) aI) aF))))) (tI (aB (eL (aB (aA 5) (aB (aS JA (aA 1) aI) aF))) aF)))))))
    (aN (fQ (bW xU (aA 2) aI)
    (aN (mD (fun _=>L0) (fun _=>rfl) (fR (fun _=>T.hB.of "range") (aB (aA 1) aF)) (aT 6 (fun _=>sc__law_pairs.nd))
    (aN (bD 3 (fun _=>sc__law_pairs.nd) (aS (wO (fun _=>rfl)) (aA 3) (mK (N':=(["_law_j","_law_deck_here","_law_i"]:List Str)) (cap:=[some 6,some 0,none]) (fun _=>rfl) (fun _=>cK (sc0:=aE bJ) (N:=cD) rfl rfl (by decide +kernel)) (fR (fun _=>T.hB.of "range") (aB (aA 6) aF)) (aT 2 (fun _=>(show(["_law_j","_law_deck_here","_law_i"]:List Str).Nodup by decide +kernel))) (nA (bW RX (aS cY (mH (fun _=>rfl) (aA 1)) aI) aI)) (eL (aB (aA 2) (aB (aA 0) aF)))))))))
    gI)))))))))))
   (aN (bE (aA 3))))))
theorem vN(T:Txt K mg):Callee P w K mg base 1 "_law_weight" kL (spM K eW):=
 T.v36.okG (N:=pM) (ps:=kL) (k:=0) (b:=kR) sc__law_weight (by sleep 991) fun f cdv A outer s H E hr=>
  (aM (bD 1 (fun _=>sc__law_weight.nd) (tI (aB aI (aB aI (aB aI (aB aI (aB aI (aB aI (aB aI (aB aI (aB (aS tM aI (aS aFt aI aI)) (aB aI (aB aI (aB aI aF))))))))))))))
   (aN (bE (bU dY (aA 1) (aS cY (aA 0) aI)))))
theorem EU(T:Txt K mg):Callee P w K mg base 2 "_law_web" qH (spM K lM):=
 T.v37.okG (N:=wR) (ps:=qH) (k:=1) (b:=qF) sc__law_web (by sleep 992) fun f cdv A outer s H E hr=>
  (aM (bD 2 (fun _=>sc__law_web.nd) (mH (fun _=>rfl) (aA 0)))
   (aM (bD 3 (fun _=>sc__law_web.nd) DX)
   (aM (mD (fun _=>L0) (fun _=>rfl) (mY (fun _=>rfl) (zJ (aQ (fun _=>xG T) hr.le (aB (aA 0) (aB (aA 1) aF))))) (lJ (fun _=>rfl) (fun _=>rfl) (bH (aT 4 (fun _=>sc__law_web.nd)) (bH (aT 5 (fun _=>sc__law_web.nd)) iJ)))
    (aM (bD 6 (fun _=>sc__law_web.nd) aI)
   (aM (fQ (bW (pA (fun _=>rfl) (fun _=>hr.units)) (aS cY (aA 2) aI) aI)
    (aN (bD 6 (fun _=>sc__law_web.nd) (aQ (fun _=>vN T) hr.le (aB (mH (fun _=>rfl) (aA 0)) aF))))
    gI)
   (aN (fQ (OS (aAW (bW (XY (fun _=>rfl) (fun _=>hr.units)) (aA 4) (aA 5)) (UX (bW RX (aA 6) aI))))
    (aN (JQ (fun _=>hr.u1) (aA 3) (vD (aB (bX (aDm (fun _=>rfl)) (fun _=>T.hB.of "min") boot_min (aB (aA 4) (aB (aA 5) aF))) (aB (bX (aAV (fun _=>rfl)) (fun _=>T.hB.of "max") boot_max (aB (aA 4) (aB (aA 5) aF))) aF))) (aA 6)))
    gI)))))
   (aN (bE (aA 3))))))
theorem jP(T:Txt K mg):Callee P w K mg base 1 "is_whole" pU (spM K fF):=
 T.v38.okG (N:=wK) (ps:=pU) (k:=0) (b:=vB) CO (by sleep 991) fun f cdv A outer s H E hr=>
  (aN (bE (eR (NL (T:="int") (fun _=>rfl) (by decide) (aA 0) (fun _=>fY) (fun _=>T.hB.of "isinstance") (fun _=>T.hB.of "int") boot_int) (iA (aAX (NL (T:="bool") (fun _=>rfl) (by decide) (aA 0) (fun _=>fY) (fun _=>T.hB.of "isinstance") (fun _=>T.hB.of "bool") boot_bool))))))
theorem sF(T:Txt K mg):Callee P w K mg base 1 "is_row" vZ (spM K oG):=
 T.v39.okG (N:=CY) (ps:=vZ) (k:=0) (b:=DJ) MN (by sleep 991) fun f cdv A outer s H E hr=>
  (aN (bE (XR (T:="list") (U:="tuple") (fun _=>rfl) (by decide) (by decide) (aA 0) (fun _=>fY) (fun _=>T.hB.of "isinstance") (fun _=>T.hB.of "list") (fun _=>T.hB.of "tuple") boot_list A0k)))
theorem xZ(T:Txt K mg):Callee P w K mg base 1 "common" wH (spM K rT):=
 T.v40.okG (N:=CF) (ps:=wH) (k:=0) (b:=CK) sc_common (by sleep 992) fun f cdv A outer s H E hr=>
  (aM (DT (fun _=>L0) (aBn (fun _=>rfl) (aA 1)) (aN (HX 0 1 (fun _=>rfl) (fun _=>sc_common.nd) (aB (aA 1) (aB (aS cY (aA 0) (aA 1)) aF)))))
   (aN (bE (aA 0))))
theorem rF(T:Txt K mg):Callee P w K mg base 2 "is_row_of" mU (spM K jJ):=
 T.v41.okG (N:=uC) (ps:=mU) (k:=1) (b:=uB) BH (by sleep 992) fun f cdv A outer s H E hr=>
  (aN (bE (eR (aQ (fun _=>sF T) hr.le (aB (aA 0) aF)) (iA (eK (pA (fun _=>rfl) (fun _=>hr.units)) (bX zK (fun _=>T.hB.of "len") boot_len (aB (aA 0) aF)) (aA 1))))))
theorem mT(T:Txt K mg):Callee P w K mg base 3 "has_amount_numbers" dU (spM K bG):=
 T.v42.okG (N:=hV) (ps:=dU) (k:=2) (b:=bS) mS (by sleep 991) fun f cdv A outer s H E hr=>
  (aM (fQ (OS (yV (lT (lO (aQ (fun _=>rF T) hr.le (aB (aA 0) (aB aI aF))))) (yV (lT (lO (aQ (fun _=>jP T) hr.le (aB (bU dY (aA 0) aI) aF)))) (BB (lT (lO (aQ (fun _=>jP T) hr.le (aB (bU dY (aA 0) aI) aF))))))))
   (aN (bE zM))
   gI)
   (aN (bE (eR (eK aEz (bU dY (aA 0) aI) aI) (iA (eK aEz (bU dY (aA 0) aI) aI))))))
theorem vM(T:Txt K mg):Callee P w K mg base 4 "is_in_parts" kM (spM K cF):=
 T.v43.okG (N:=pO) (ps:=kM) (k:=3) (b:=dA) vP (by sleep 991) fun f cdv A outer s H E hr=>
  (aN (bE (eR (aQ (fun _=>mT T) hr.le (aB (aA 0) aF)) (eR (eK (pA (fun _=>rfl) (fun _=>hr.units)) (aS cY (oH (fun _=>T.v71)) (bU dY (aA 0) aI)) aI) (iA (eK (pA (fun _=>rfl) (fun _=>hr.units)) (aQ (fun _=>xZ T) hr.le (aB (bU dY (aA 0) aI) (aB (bU dY (aA 0) aI) aF))) aI))))))
theorem AV(T:Txt K mg):Callee P w K mg base 5 "is_weight" nL (spM K eA):=
 T.v44.okG (N:=uD) (ps:=nL) (k:=4) (b:=gZ) zS (by sleep 991) fun f cdv A outer s H E hr=>
  (aN (bE (eR (aQ (fun _=>vM T) hr.le (aB (aA 0) aF)) (iA (eK aCJ (bU dY (aA 0) aI) (oH (fun _=>T.v70)))))))
theorem oE(T:Txt K mg):Callee P w K mg base 2 "is_place" pS (spM K dQ):=
 T.v45.okG (N:=xF) (ps:=pS) (k:=1) (b:=lP) ER (by sleep 992) fun f cdv A outer s H E hr=>
  (aN (bE (eR (aQ (fun _=>jP T) hr.le (aB (aA 1) aF)) (iA (ES aCJ xU aI (aA 1) (aA 0))))))
theorem nH(T:Txt K mg):Callee P w K mg base 3 "are_unlike_places" eP (spM K bK):=
 T.v46.okG (N:=iE) (ps:=eP) (k:=2) (b:=cA) nU (by sleep 993) fun f cdv A outer s H E hr=>
  (aN (bE (eR (aQ (fun _=>oE T) hr.le (aB (aA 0) (aB (aA 1) aF))) (eR (aQ (fun _=>oE T) hr.le (aB (aA 0) (aB (aA 2) aF))) (iA (eK (XY (fun _=>rfl) (fun _=>hr.units)) (aA 1) (aA 2)))))))
theorem oM(T:Txt K mg):Callee P w K mg base 4 "is_between_places" eO (spM K bC):=
 T.v47.okG (N:=iC) (ps:=eO) (k:=3) (b:=cB) oA (by sleep 992) fun f cdv A outer s H E hr=>
  (aN (bE (eR (aQ (fun _=>rF T) hr.le (aB (aA 1) (aB aI aF))) (eR (aQ (fun _=>nH T) hr.le (aB (aA 0) (aB (bU dY (aA 1) aI) (aB (bU dY (aA 1) aI) aF)))) (iA (eK xU (bU dY (aA 1) aI) (bU dY (aA 1) aI)))))))
theorem LN(T:Txt K mg):Callee P w K mg base 6 "is_tie" vC (spM K jC):=
 T.v48.okG (N:=EW) (ps:=vC) (k:=5) (b:=kX) MZ (by sleep 992) fun f cdv A outer s H E hr=>
  (aN (bE (eR (aQ (fun _=>oM T) hr.le (aB (aA 0) (aB (aA 1) aF))) (iA (aQ (fun _=>AV T) hr.le (aB (bU dY (aA 1) aI) aF))))))
theorem AJ(T:Txt K mg):Callee P w K mg base 7 "kept_ties" nT (spM K gW):=
 T.v49.okG (N:=oN) (ps:=nT) (k:=6) (b:=nK) sc_kept_ties (by sleep 992) fun f cdv A outer s H E hr=>
  (aM (fQ (lT (lO (aQ (fun _=>sF T) hr.le (aB (aA 1) aF))))
   (aN rN)
   gI)
   (aM (bD 2 (fun _=>sc_kept_ties.nd) DX)
   (aM (mD (fun _=>L0) (fun _=>rfl) (IP (fun _=>rfl) (fun _=>T.hB.of "enumerate") (aB (aA 1) aF)) (lJ (fun _=>rfl) (fun _=>rfl) (bH (aT 3 (fun _=>sc_kept_ties.nd)) (bH (aT 4 (fun _=>sc_kept_ties.nd)) iJ)))
    (aM (fQ (OS (yV (lT (lO (aQ (fun _=>LN T) hr.le (aB (aA 0) (aB (aA 4) aF))))) (BB (aBJ (fun _=>hr.u1) (vD (aB (bU dY (aA 4) aI) (aB (bU dY (aA 4) aI) aF))) (aA 2)))))
    (aN rN)
    gI)
   (aN (JQ (fun _=>hr.u1) (aA 2) (vD (aB (bU dY (aA 4) aI) (aB (bU dY (aA 4) aI) aF))) (gU (oV (fun _=>rfl)) (fun _=>T.hB.of "tuple") A0k (aB (bU dY (aA 4) aI) aF))))))
   (aN (bE (gU (oV (fun _=>rfl)) (fun _=>T.hB.of "tuple") A0k (aB (mK (N':=(["i","j","weight"]:List Str)) (cap:=[none,none,none]) (fun _=>rfl) (fun _=>cK (sc0:=aE iL) (N:=oN) rfl rfl (by decide +kernel)) (mY (fun _=>rfl) (PH (fun _=>rfl) (fun _=>hr.units2) (fun _=>rfl) (fun _=>T.hB.of "sorted") (aA 2))) (lJ (fun _=>rfl) (fun _=>rfl) (bH (lJ (fun _=>rfl) (fun _=>rfl) (bH (aT 0 (fun _=>(show(["i","j","weight"]:List Str).Nodup by decide +kernel))) (bH (aT 1 (fun _=>(show(["i","j","weight"]:List Str).Nodup by decide +kernel))) iJ))) (bH (aT 2 (fun _=>(show(["i","j","weight"]:List Str).Nodup by decide +kernel))) iJ))) (nA (bW RX (bU dY (aA 2) aI) aI)) (eL (aB (aA 0) (aB (aA 1) (aB (aA 2) aF))))) aF)))))))
theorem zT(T:Txt K mg):BI P w K mg base 8 "Web" mX (spM K fK):=
 T.v69.okI (N:=oB) (ps:=mX) (k:=7) (b:=oO) T.v32 T.v33 T.v67 AU (by sleep 993) fun f cdv A outer s H E hr=>
  (aM (fQ (OS (yV (lT (lO (aQ (fun _=>jP T) hr.le (aB (aA 1) aF)))) (yV (bW xU (aA 1) aI) (BB (bW RX (aA 1) (oH (fun _=>T.v72)))))))
   (aN rN)
   gI)
   (aM (FQ (nm:="Web") (fun _=>rfl) T.v68 T.v24 (aA 0) (aA 1))
   (aM (FQ (nm:="Web") (fun _=>rfl) T.v68 T.v25 (aA 0) (aQ (fun _=>AJ T) hr.le (aB (aA 1) (aB (aA 2) aF))))
   (aN (FQ (nm:="Web") (fun _=>rfl) T.v68 T.v26 (aA 0) (aAN (N':=(["i","j","weight"]:List Str)) (cap:=[none,none,none]) (fun _=>hr.u0) (fun _=>rfl) (fun _=>cK (sc0:=aE eG) (N:=oB) rfl rfl (by decide +kernel)) (mY (fun _=>rfl) (sP (nm:="Web") (fun _=>rfl) T.v68 T.v25 (aA 0))) (lJ (fun _=>rfl) (fun _=>rfl) (bH (aT 0 (fun _=>(show(["i","j","weight"]:List Str).Nodup by decide +kernel))) (bH (aT 1 (fun _=>(show(["i","j","weight"]:List Str).Nodup by decide +kernel))) (bH (aT 2 (fun _=>(show(["i","j","weight"]:List Str).Nodup by decide +kernel))) iJ)))) kF (vD (aB (aA 0) (aB (aA 1) aF))) (aA 2)))))))
theorem mV(T:Txt K mg):Callee P w K mg base 1 "_law_lowest" kN (spM K cH):=
 T.v50.okG (N:=pJ) (ps:=kN) (k:=0) (b:=kI) sc__law_lowest (by sleep 992) fun f cdv A outer s H E hr=>
  (aM (HX 2 3 (fun _=>rfl) (fun _=>sc__law_lowest.nd) (aB (aA 0) (aB (aA 1) aF)))
   (aM (DT (fun _=>L0) (bW RX (aA 3) aI) (aN (HX 2 3 (fun _=>rfl) (fun _=>sc__law_lowest.nd) (aB (aA 3) (aB (aS cY (aA 2) (aA 3)) aF)))))
   (aN (bE (eL (aB (aS gA (aA 0) (aA 2)) (aB (aS gA (aA 1) (aA 2)) aF)))))))
theorem AY(T:Txt K mg):Callee P w K mg base 2 "_law_rows" nD (spM K fL):=
 T.v51.okG (N:=mW) (ps:=nD) (k:=1) (b:=nW) AA (by sleep 991) fun f cdv A outer s H E hr=>
  (aN (bE (mK (N':=(["_law_ties","_law_i","_law_j"]:List Str)) (cap:=[some 0,none,none]) (fun _=>rfl) (fun _=>cK (sc0:=aE iM) (N:=mW) rfl rfl (by decide +kernel)) (mY (fun _=>rfl) (bX (ZJ (fun _=>rfl) (fun _=>hr.units2) (fun _=>rfl)) (fun _=>T.hB.of "sorted") boot_sorted (aB (aA 0) aF))) (lJ (fun _=>rfl) (fun _=>rfl) (bH (aT 1 (fun _=>(show(["_law_ties","_law_i","_law_j"]:List Str).Nodup by decide +kernel))) (bH (aT 2 (fun _=>(show(["_law_ties","_law_i","_law_j"]:List Str).Nodup by decide +kernel))) iJ))) kF (eL (aB (aA 1) (aB (aA 2) (aB (aQ (fun _=>mV T) hr.le (aB (JU (fun _=>hr.u1) (aA 0) (vD (aB (aA 1) (aB (aA 2) aF)))) (aB aI aF))) aF)))))))
theorem qU(T:Txt K mg):Callee P w K mg base 1 "_law_all_sides" gJ (spM K eI):=
 T.v52.okG (N:=gP) (ps:=gJ) (k:=0) (b:=gM) sc__law_all_sides (by sleep 991) fun f cdv A outer s H E hr=>
  (aM (bD 1 (fun _=>sc__law_all_sides.nd) (BM aF))
   (aM (mD (fun _=>L0) (fun _=>rfl) (uP (fun _=>T.hB.of "range") (aB aI (aB (aS JA (aS aFv aI (aA 0)) aI) aF))) (aT 2 (fun _=>sc__law_all_sides.nd))
    (aN (oZ (sX (fun _=>rfl) (aA 1) (aB (gU (oV (fun _=>rfl)) (fun _=>T.hB.of "tuple") A0k (aB (mK (N':=(["_law_mask","_law_place"]:List Str)) (cap:=[some 2,none]) (fun _=>rfl) (fun _=>cK (sc0:=aE dE) (N:=gP) rfl rfl (by decide +kernel)) (fR (fun _=>T.hB.of "range") (aB (aA 0) aF)) (aT 1 (fun _=>(show(["_law_mask","_law_place"]:List Str).Nodup by decide +kernel))) (nA (bW (pA (fun _=>rfl) (fun _=>hr.units)) (aS aCp (aS aEo (aA 0) (aA 1)) aI) aI)) (aA 1)) aF)) aF)))))
   (aN (bE (aA 1)))))
theorem qM(T:Txt K mg):Callee P w K mg base 1 "_law_weight_of" gC (spM K cP):=
 T.v53.okG (N:=gN) (ps:=gC) (k:=0) (b:=gG) qW (by sleep 992) fun f cdv A outer s H E hr=>
  (aN (bE (bX (PU (fun _=>rfl) (fun _=>rfl)) (fun _=>T.hB.of "sum") boot_sum (aB (mK (N':=(["_law_ties","_law_side","_law_pair"]:List Str)) (cap:=[some 0,some 1,none]) (fun _=>rfl) (fun _=>cK (sc0:=aE dG) (N:=gN) rfl rfl (by decide +kernel)) (VQ (aA 0)) (aT 2 (fun _=>(show(["_law_ties","_law_side","_law_pair"]:List Str).Nodup by decide +kernel))) (nA (bW (XY (fun _=>rfl) (fun _=>hr.units)) (eK (aDz (fun _=>rfl) (fun _=>hr.units1)) (bU dY (aA 2) aI) (aA 1)) (eK (aDz (fun _=>rfl) (fun _=>hr.units1)) (bU dY (aA 2) aI) (aA 1)))) (JU (fun _=>hr.u1) (aA 0) (aFL (aA 2)))) aF))))
theorem AZ(T:Txt K mg):Callee P w K mg base 1 "is_rising" oF (spM K jQ):=
 T.v54.okG (N:=oK) (ps:=oF) (k:=0) (b:=nF) BF (by sleep 991) fun f cdv A outer s H E hr=>
  (aN (bE (bX (aAn (fun _=>rfl) (fun _=>rfl)) (fun _=>T.hB.of "all") boot_all (aB (mK (N':=(["one","other"]:List Str)) (cap:=[none,none]) (fun _=>rfl) (fun _=>cK (sc0:=aE iI) (N:=oK) rfl rfl (by decide +kernel)) (WL (fun _=>rfl) (fun _=>T.hB.of "zip") (aB (aA 0) (aB (aEI (fun _=>rfl) (aA 0) (WR aI) UG) aF))) (lJ (fun _=>rfl) (fun _=>rfl) (bH (aT 0 (fun _=>(show(["one","other"]:List Str).Nodup by decide +kernel))) (bH (aT 1 (fun _=>(show(["one","other"]:List Str).Nodup by decide +kernel))) iJ))) kF (eK xU (aA 0) (aA 1))) aF))))
theorem mZ(T:Txt K mg):Callee P w K mg base 3 "are_rising_places" eS (spM K bM):=
 T.v55.okG (N:=eN) (ps:=eS) (k:=2) (b:=bZ) nO (by sleep 992) fun f cdv A outer s H E hr=>
  (aN (bE (eR (aQ (fun _=>sF T) hr.le (aB (aA 1) aF)) (eR (bX (aAn (fun _=>rfl) (fun _=>rfl)) (fun _=>T.hB.of "all") boot_all (aB (mK (N':=(["many","one"]:List Str)) (cap:=[some 0,none]) (fun _=>rfl) (fun _=>cK (sc0:=aE cN) (N:=eN) rfl rfl (by decide +kernel)) (mY (fun _=>rfl) (aA 1)) (aT 1 (fun _=>(show(["many","one"]:List Str).Nodup by decide +kernel))) kF (aQ (fun _=>oE T) hr.le (aB (aA 0) (aB (aA 1) aF)))) aF)) (iA (aQ (fun _=>AZ T) hr.le (aB (aA 1) aF)))))))
theorem GB(T:Txt K mg):Callee P w K mg base 4 "is_side" sI (spM K oY):=
 T.v56.okG (N:=zQ) (ps:=sI) (k:=3) (b:=sC) HL (by sleep 992) fun f cdv A outer s H E hr=>
  (aN (bE (eR (aQ (fun _=>mZ T) hr.le (aB (sP (nm:="Web") (fun _=>rfl) T.v68 T.v24 (aA 0)) (aB (aA 1) aF))) (iA (ES xU xU aI (bX zK (fun _=>T.hB.of "len") boot_len (aB (aA 1) aF)) (sP (nm:="Web") (fun _=>rfl) T.v68 T.v24 (aA 0)))))))
theorem jL(T:Txt K mg):Callee P w K mg base 5 "refuse_no_side" gQ (spM K bP):=
 T.v57.okG (N:=kZ) (ps:=gQ) (k:=4) (b:=fW) rQ (by sleep 992) fun f cdv A outer s H E hr=>
  (aN (fQ (lT (lO (aQ (fun _=>GB T) hr.le (aB (aA 0) (aB (aA 1) aF)))))
   (aN rN)
   gI))
theorem rO(T:Txt K mg):Callee P w K mg base 2 "in_least_terms" gK (spM K eD):=
 T.v58.okG (N:=kW) (ps:=gK) (k:=1) (b:=fX) sc_in_least_terms (by sleep 992) fun f cdv A outer s H E hr=>
  (aM (bD 2 (fun _=>sc_in_least_terms.nd) (aQ (fun _=>xZ T) hr.le (aB (aA 0) (aB (aA 1) aF))))
   (aN (bE (eL (aB (aS gA (aA 0) (aA 2)) (aB (aS gA (aA 1) (aA 2)) aF))))))
theorem xW(T:Txt K mg):Callee P w K mg base 3 "from_parts" lR (spM K iH):=
 T.v59.okG (N:=qO) (ps:=lR) (k:=2) (b:=lN) xP (by sleep 991) fun f cdv A outer s H E hr=>
  (aN (bE (aQ (fun _=>rO T) hr.le (aB (aA 0) (aB (oH (fun _=>T.v71)) aF)))))
theorem PJ(T:Txt K mg):Callee P w K mg base 1 "parts" BE (spM K oW):=
 T.v60.okG (N:=IT) (ps:=BE) (k:=0) (b:=BO) OQ (by sleep 991) fun f cdv A outer s H E hr=>
  (aN (bE (aS tM (bU dY (aA 0) aI) (aS gA (oH (fun _=>T.v71)) (bU dY (aA 0) aI)))))
theorem cR(T:Txt K mg):Callee P w K mg base 6 "side_weight" kQ (spM K aY):=
 T.v61.okG (N:=gS) (ps:=kQ) (k:=5) (b:=kP) sc_side_weight (by sleep 992) fun f cdv A outer s H E hr=>
  (aM (oZ (aQ (fun _=>jL T) hr.le (aB (aA 0) (aB (aA 1) aF))))
   (aM (bD 2 (fun _=>sc_side_weight.nd) (aBb (N':=(["place"]:List Str)) (cap:=[none]) (fun _=>hr.u0) (fun _=>rfl) (fun _=>cK (sc0:=aE dW) (N:=gS) rfl rfl (by decide +kernel)) (mY (fun _=>rfl) (aA 1)) (aT 0 (fun _=>(show(["place"]:List Str).Nodup by decide +kernel))) kF (mk_one (aA 0)) zM))
   (aN (bE (aQ (fun _=>xW T) hr.le (aB (bX (PU (fun _=>rfl) (fun _=>rfl)) (fun _=>T.hB.of "sum") boot_sum (aB (mK (N':=(["inside","i","j","weight"]:List Str)) (cap:=[some 2,none,none,none]) (fun _=>rfl) (fun _=>cK (sc0:=aE dW) (N:=gS) rfl rfl (by decide +kernel)) (mY (fun _=>rfl) (sP (nm:="Web") (fun _=>rfl) T.v68 T.v25 (aA 0))) (lJ (fun _=>rfl) (fun _=>rfl) (bH (aT 1 (fun _=>(show(["inside","i","j","weight"]:List Str).Nodup by decide +kernel))) (bH (aT 2 (fun _=>(show(["inside","i","j","weight"]:List Str).Nodup by decide +kernel))) (bH (aT 3 (fun _=>(show(["inside","i","j","weight"]:List Str).Nodup by decide +kernel))) iJ)))) (nA (bW (XY (fun _=>rfl) (fun _=>hr.units)) (RF (fun _=>hr.u1) (mk_one (aA 1)) (aA 0)) (RF (fun _=>hr.u1) (mk_one (aA 2)) (aA 0)))) (aQ (fun _=>PJ T) hr.le (aB (aA 3) aF))) aF)) aF))))))
theorem ND(T:Txt K mg):Callee P w K mg base 6 "others" uX (spM K uY):=
 T.v62.okG (N:=wB) (ps:=uX) (k:=5) (b:=wA) LC (by sleep 992) fun f cdv A outer s H E hr=>
  (aM (oZ (aQ (fun _=>jL T) hr.le (aB (aA 0) (aB (aA 1) aF))))
   (aN (bE (gU (oV (fun _=>rfl)) (fun _=>T.hB.of "tuple") A0k (aB (mK (N':=(["side","place"]:List Str)) (cap:=[some 1,none]) (fun _=>rfl) (fun _=>cK (sc0:=aE oU) (N:=wB) rfl rfl (by decide +kernel)) (fR (fun _=>T.hB.of "range") (aB (sP (nm:="Web") (fun _=>rfl) T.v68 T.v24 (aA 0)) aF)) (aT 1 (fun _=>(show(["side","place"]:List Str).Nodup by decide +kernel))) (nA (bW (YT (fun _=>rfl) (fun _=>hr.units1)) (aA 1) (aA 0))) (aA 1)) aF)))))
theorem xV(T:Txt K mg):Callee P w K mg base 7 "_law_right" lL (spM K lE):=
 T.v63.okG (N:=rA) (ps:=lL) (k:=6) (b:=lU) sc__law_right (by sleep 994) fun f cdv A outer s H E hr=>
  (aM (bD 4 (fun _=>sc__law_right.nd) (bX (AN (fun _=>rfl) (fun _=>hr.gd) (fun _=>hr.u200)) (fun _=>T.hB.of "repr") boot_repr (aB (aQ (fun _=>mV T) hr.le (aB (aQ (fun _=>qM T) hr.le (aB (aA 1) (aB (aA 2) aF))) (aB aI aF))) aF)))
   (aN (bE (eR (eK (pA (fun _=>rfl) (fun _=>hr.units)) (bX (AN (fun _=>rfl) (fun _=>hr.gd) (fun _=>hr.u200)) (fun _=>T.hB.of "repr") boot_repr (aB (aQ (fun _=>cR T) hr.le (aB (aA 0) (aB (aA 3) aF))) aF)) (aA 4)) (iA (eK (pA (fun _=>rfl) (fun _=>hr.units)) (bX (AN (fun _=>rfl) (fun _=>hr.gd) (fun _=>hr.u200)) (fun _=>T.hB.of "repr") boot_repr (aB (aQ (fun _=>cR T) hr.le (aB (aA 0) (aB (aQ (fun _=>ND T) hr.le (aB (aA 0) (aB (aA 3) aF))) aF))) aF)) (aA 4)))))))
theorem eC(T:Txt K mg):Callee P w K mg base 1 "_law_reckoned" hX (spM K aW):=
 T.v64.okG (N:=mP) (ps:=hX) (k:=0) (b:=hW) sE (by sleep 991) fun f cdv A outer s H E hr=>
  (aN (bE (aS gA (aS tM (bU dY (aA 0) aI) aI) (bU dY (aA 0) aI))))
theorem uK(T:Txt K mg):Callee P w K mg base 7 "_law_no_more" jA (spM K fT):=
 T.v65.okG (N:=jD) (ps:=jA) (k:=6) (b:=iX) sc__law_no_more (by sleep 993) fun f cdv A outer s H E hr=>
  (aM (bD 3 (fun _=>sc__law_no_more.nd) (gU (oV (fun _=>rfl)) (fun _=>T.hB.of "tuple") A0k (aB (ZM (fun _=>rfl) (fun _=>rfl) (fun _=>T.hB.of "set") (fun _=>T.hB.of "sorted") (aB (aS mQ (aA 1) (aA 2)) aF)) aF)))
   (aM (bD 4 (fun _=>sc__law_no_more.nd) (gU (oV (fun _=>rfl)) (fun _=>T.hB.of "tuple") A0k (aB (mK (N':=(["_law_other","_law_place"]:List Str)) (cap:=[some 2,none]) (fun _=>rfl) (fun _=>cK (sc0:=aE fB) (N:=jD) rfl rfl (by decide +kernel)) (mY (fun _=>rfl) (aA 1)) (aT 1 (fun _=>(show(["_law_other","_law_place"]:List Str).Nodup by decide +kernel))) (nA (bW (aDz (fun _=>rfl) (fun _=>hr.units1)) (aA 1) (aA 0))) (aA 1)) aF)))
   (aM (fQ (OS (yV (bW (pA (fun _=>rfl) (fun _=>hr.units)) (bX zK (fun _=>T.hB.of "len") boot_len (aB (aA 3) aF)) (sP (nm:="Web") (fun _=>rfl) T.v68 T.v24 (aA 0))) (BB (bW (pA (fun _=>rfl) (fun _=>hr.units)) (aA 4) (eL aF)))))
    (aN (bE zM))
    gI)
   (aM (bD 5 (fun _=>sc__law_no_more.nd) (aS mQ (aQ (fun _=>eC T) hr.le (aB (aQ (fun _=>cR T) hr.le (aB (aA 0) (aB (aA 3) aF))) aF)) (aQ (fun _=>eC T) hr.le (aB (aQ (fun _=>cR T) hr.le (aB (aA 0) (aB (aA 4) aF))) aF))))
   (aN (bE (eK aCJ (aA 5) (aS mQ (aQ (fun _=>eC T) hr.le (aB (aQ (fun _=>cR T) hr.le (aB (aA 0) (aB (aA 1) aF))) aF)) (aQ (fun _=>eC T) hr.le (aB (aQ (fun _=>cR T) hr.le (aB (aA 0) (aB (aA 2) aF))) aF))))))))))
theorem fn_law(T:Txt K mg):∃f fd,mg "law"=some (.ref f)/\(∀(s:Shared)(u:Value),BindsTo s fd ⟨[u],[]⟩ [("_law_script",u)])/\∀base,pC P w K mg base CX0 10 f fd ZQ (spM K F_law):=
 T.v66.okLG (N:=aAk) (k:=9) (b:=NO) sc_law rfl (by sleep 991) fun base f cdv A outer s H E hr=>
  (aM (bD 1 (fun _=>sc_law.nd) (aQ (fun _=>BS T) hr.le (aB (aA 0) (aB aI aF))))
   (aM (mD (fun _=>L0) (fun _=>rfl) (fR (fun _=>T.hB.of "range") (aB aI aF)) (aT 2 (fun _=>sc_law.nd))
    (aM (bD 3 (fun _=>sc_law.nd) (aS mQ aI (aS cY (mH (fun _=>rfl) (aA 1)) aI)))
   (aM (bD 4 (fun _=>sc_law.nd) (aQ (fun _=>EU T) hr.le (aB (aA 1) (aB (aA 3) aF))))
   (aM (WT 4 (bD 5 (fun _=>sc_law.nd) (XW (fun _=>zT T) (fun _=>rfl) hr.le (aB (aA 3) (aB (aQ (fun _=>AY T) hr.le (aB (aA 4) aF)) aF)))))
   (aM (bD 6 (fun _=>sc_law.nd) (zJ (aQ (fun _=>qU T) hr.le (aB (aA 3) aF))))
   (aM (mD (fun _=>L0) (fun _=>rfl) (IP (fun _=>rfl) (fun _=>T.hB.of "enumerate") (aB (aA 6) aF)) (lJ (fun _=>rfl) (fun _=>rfl) (bH (aT 7 (fun _=>sc_law.nd)) (bH (aT 8 (fun _=>sc_law.nd)) iJ)))
    (aN (fQ (lT (lO (aQ (fun _=>xV T) hr.le (aB (aA 5) (aB (aA 4) (aB (aA 8) (aB (bU dY (tI (aB (aA 8) (aB (gU (aDy (fun _=>rfl)) (fun _=>T.hB.of "list") boot_list (aB (aA 8) aF)) aF))) (aS cY (aA 7) aI)) aF)))))))
    (aN (bE zM))
    gI)))
   (aN (mD (fun _=>L0) (fun _=>rfl) (fR (fun _=>T.hB.of "range") (aB aI aF)) (aT 9 (fun _=>sc_law.nd))
    (aM (bD 10 (fun _=>sc_law.nd) (bU dY (aA 6) (aS cY (mH (fun _=>rfl) (aA 1)) (bX zK (fun _=>T.hB.of "len") boot_len (aB (aA 6) aF)))))
   (aN (fQ (lT (lO (aQ (fun _=>uK T) hr.le (aB (aA 5) (aB (aA 10) (aB (bU dY (aA 6) (aS cY (mH (fun _=>rfl) (aA 1)) (bX zK (fun _=>T.hB.of "len") boot_len (aB (aA 6) aF)))) aF))))))
    (aN (bE zM))
    gI)))))))))))
   (aN (bE zM))))
theorem txt_mk{h:Heap}{v74:Tok}{v75:Tok}{v76:Tok}{v77:Addr}{v78:Addr}{od_Web__init an_Web__init:Option Addr}{sl_Web__init:Array (Option Value)}{oc_Web__init kV_Web__init dc_Web__init pm_Web__init cd_Web__init ct_Web__init:Value}(X:K.In h)(G:h.Ns mainGlobals mg)(v0:PySem.W.nsIn K mainGlobals "all"=some none)(v1:PySem.W.nsIn K mainGlobals "bool"=some none)(v2:PySem.W.nsIn K mainGlobals "enumerate"=some none)(v3:PySem.W.nsIn K mainGlobals "int"=some none)(v4:PySem.W.nsIn K mainGlobals "isinstance"=some none)(v5:PySem.W.nsIn K mainGlobals "len"=some none)(v6:PySem.W.nsIn K mainGlobals "list"=some none)(v7:PySem.W.nsIn K mainGlobals "max"=some none)(v8:PySem.W.nsIn K mainGlobals "min"=some none)(v9:PySem.W.nsIn K mainGlobals "range"=some none)(v10:PySem.W.nsIn K mainGlobals "repr"=some none)(v11:PySem.W.nsIn K mainGlobals "set"=some none)(v12:PySem.W.nsIn K mainGlobals "sorted"=some none)(v13:PySem.W.nsIn K mainGlobals "sum"=some none)(v14:PySem.W.nsIn K mainGlobals "tuple"=some none)(v15:PySem.W.nsIn K mainGlobals "zip"=some none)(v16:PySem.W.nsIn K mainGlobals "MOST_ABOVE"=some (some (.int 1000000000000 v74)))(v17:PySem.W.nsIn K mainGlobals "BELOW"=some (some (.int 55440 v75)))(v18:PySem.W.nsIn K mainGlobals "MOST_PLACES"=some (some (.int 40 v76)))(v19:PySem.W.nsIn K mainGlobals "Web"=some (some (.ref v77)))(v20:PySem.W.plainGet K v77 Str.empty=true)(v21:PySem.W.hasDictIn K v77=true)(v22:PySem.W.plainOver K v77=true)(v23:PySem.W.findIn K (.ref v77) "__setattr__"=some (some (.builtin "object.__setattr__")))(v24:PySem.W.findIn K (.ref v77) "many"=some none)(v25:PySem.W.findIn K (.ref v77) "ties"=some none)(v26:PySem.W.findIn K (.ref v77) "weights"=some none)(v27:PySem.W.findIn K (.ref v77) "__init__"=some (some (.ref v78)))(v28:K.lookup v78=some ⟨oc_Web__init,od_Web__init,.func (PySem.W.fnOf "__init__" "Web.__init__" (eJ eG) (bN eG) (aE eG) .none kV_Web__init dc_Web__init pm_Web__init an_Web__init cd_Web__init ct_Web__init),sl_Web__init⟩)(v29:PySem.W.codeIn K cd_Web__init "Web.__init__"=true)(v30:PySem.W.keepIn K (.ref v78)=true)(v31:PySem.W.isFn K (.ref v78)=true)(v32:PySem.W.makesIn K v77=true)(v33:PySem.W.keepIn K (.ref v77)=true)(v34:Def K mg "_law_deck" lH)(v35:Def K mg "_law_pairs" bJ)(v36:Def K mg "_law_weight" jB)(v37:Def K mg "_law_web" nB)(v38:Def K mg "is_whole" oP)(v39:Def K mg "is_row" rX)(v40:Def K mg "common" tJ)(v41:Def K mg "is_row_of" mB)(v42:Def K mg "has_amount_numbers" dC)(v43:Def K mg "is_in_parts" jE)(v44:Def K mg "is_weight" mE)(v45:Def K mg "is_place" nJ)(v46:Def K mg "are_unlike_places" dO)(v47:Def K mg "is_between_places" dX)(v48:Def K mg "is_tie" rY)(v49:Def K mg "kept_ties" iL)(v50:Def K mg "_law_lowest" iZ)(v51:Def K mg "_law_rows" iM)(v52:Def K mg "_law_all_sides" dE)(v53:Def K mg "_law_weight_of" dG)(v54:Def K mg "is_rising" iI)(v55:Def K mg "are_rising_places" cN)(v56:Def K mg "is_side" pW)(v57:Def K mg "refuse_no_side" fM)(v58:Def K mg "in_least_terms" fP)(v59:Def K mg "from_parts" jZ)(v60:Def K mg "parts" vF)(v61:Def K mg "side_weight" dW)(v62:Def K mg "others" oU)(v63:Def K mg "_law_right" kK)(v64:Def K mg "_law_reckoned" gL)(v65:Def K mg "_law_no_more" fB)(v66:Def K mg "law" GL):Txt K mg:=by
 cases WO v19;exact⟨(bL (D7 X G v0) (bL (D7 X G v1) (bL (D7 X G v2) (bL (D7 X G v3) (bL (D7 X G v4) (bL (D7 X G v5) (bL (D7 X G v6) (bL (D7 X G v7) (bL (D7 X G v8) (bL (D7 X G v9) (bL (D7 X G v10) (bL (D7 X G v11) (bL (D7 X G v12) (bL (D7 X G v13) (bL (D7 X G v14) (bL (D7 X G v15) RI)))))))))))))))),⟨_,PySem.W.mg_of X G v16⟩,⟨_,PySem.W.mg_of X G v17⟩,⟨_,PySem.W.mg_of X G v18⟩,PySem.W.mg_of X G v19,⟨v20,v21,v22,v23⟩,v24,v25,v26,UZ rfl v27 v28 v29 v30 v31,v32,v33,v34,v35,v36,v37,v38,v39,v40,v41,v42,v43,v44,v45,v46,v47,v48,v49,v50,v51,v52,v53,v54,v55,v56,v57,v58,v59,v60,v61,v62,v63,v64,v65,v66⟩
end
end Q10
end
end
section
namespace Q10
variable{M M' M0:Sto}{J S a b i j mid n w y z:Int}{L c d m p v:Nat}{γ:Ga}{ns xs ys:List Int}{us ws:List Tie}{r x:PyData}{ds:List PyData}{g:GF}{f fa:AF}{g3 g4:Option CD}{e:EF}
open PySem PySem.Spec PyProof.Rows L2
local macro_rules | `(tactic| simp! [$a,*]) => `(tactic| simp only [fnF, fnX, aEL, aFF, aES, aCd, aEG, aEc, aAH, aEY, liA, liE, liS, aBR, aFT, aCK, aFe, YD, setG, aFs, aBk, aX, sIf, cO, aEi, dM, aV, lA, hName, gX, aZ, gT, hSub, gOr, OB, rJ, gB, HS, UK, aK, aC, aG, aD, fC, fOp, fUn, lQ, fOr, VV, fIf, vU, asB, dJ, pE, pY, lV, QF, IA, pI, ifS, aFd, xE, wQ, dF, bY, XF, ltI, leI, gtI, geI, Option.bind_some, Option.bind_none, Option.map_some, List.getElem?_cons_zero, List.getElem?_cons_succ, List.length_cons, List.length_nil, List.set_cons_zero, List.set_cons_succ, List.map_cons, List.map_nil, List.replicate_zero, List.replicate_succ, List.cons_append, List.nil_append, List.append_nil, if_true, ite_true, ite_false, Nat.reduceAdd, Nat.reduceSub, reduceIte, Bool.not_true, Bool.not_false, Bool.false_eq_true, $a,*])
noncomputable def rH:PyData->Bool
 |.int _=>true
 |_=>false
noncomputable def zV:PyData->Bool
 |.list _=>true
 |.tuple _=>true
 |_=>false
theorem iQ(x:PyData)(M:Sto):fF [.d x] M=some (.d (.bool (rH x)),M):=by cases x<;>rfl
theorem qK(x:PyData)(M:Sto):oG [.d x] M=some (.d (.bool (zV x)),M):=by cases x<;>rfl
noncomputable def iB(d:PyData)(n:Int):Bool:=match bF d with
 |some ds=>((ds.length:Int)==n)
 |none=>false
theorem fJ(x:PyData)(n:Int)(M:Sto):jJ [.d x,.d (.int n)] M=some (.d (.bool (iB x n)),M):=by cases x<;>rfl
theorem DA(x y:Int):Int.gcd y (x % y)=Int.gcd x y:=by
 rw[Int.gcd_comm x y];have:x % y=x-y*(x / y):=by have:=Int.emod_add_mul_ediv x y;omega
 rw[this];simp
noncomputable abbrev I(n:Int):CD:=.d (.int n)
theorem bV{x:Int}(h:0<y):eY x y=true:=by simp[eY,h]
theorem tP(M:Sto):∀(n:Nat)(x y:Int),0<=x->0<=y->y.toNat<n->
 eM (HS (aD 1)) (xQ 0 1 (aC (aD 1) (aC (fOp bY (aD 0) (aD 1)) aG))) n [some (I x),some (I y)] M=some (.nx [some (I (Int.gcd x y)),some (I 0)],M)
 |0=>fun _ _ _ _ h=>by omega
 |n+1=>fun x y hx hy h=>by
  by_cases e:y=0
  .subst e;have:(Int.gcd x 0:Int)=x:=by rw[Int.gcd_zero_right];omega
   rw[this];rfl
  .have hp:0<y:=by omega
   have ih:=tP M n y (x % y) hy (Y6 _ e) (by have:=S7 x hp;omega);rw[DA]at ih;rw[<- ih];have hb:(y != 0)=true:=by simp[e]
   simp only[eM,HS,aD,UK,xQ,aC,fOp,aG,bY,pI,ifS,bV hp,hb,Option.bind,List.getElem?_cons_succ,List.getElem?_cons_zero,if_true,List.set]
theorem DI(M:Sto)(ha:0<=a)(hb:0<=b):rT [I a,I b] M=some (I (Int.gcd a b),M):=by
 have h:qA [some (I a),some (I b)] M=_:=EI (tP M (b.toNat+1) a b ha hb (L6 _));show((aX qA _ [some (I a),some (I b)] M).bind _)=_;unfold aX;rw[h];rfl
noncomputable abbrev B(b:Bool):CD:=.d (.bool b)
noncomputable def rU(d:PyData):Bool:=match bF d with
 |some [.int a,.int b]=>decide (0<=a)&&decide (1<=b)
 |_=>false
theorem SL(h:iB x 2=true):∃a b,x=.list [a,b]\/x=.tuple [a,b]:=by
 unfold iB at h;cases x with
 |list ds=>
  have h:((ds.length:Int)==2)=true:=h;rcases ds with _|⟨a,_|⟨b,_|⟨c,r⟩⟩⟩
  .simp at h
  .simp at h
  .exact⟨a,b,.inl rfl⟩
  .simp at h;omega
 |tuple ds=>
  have h:((ds.length:Int)==2)=true:=h;rcases ds with _|⟨a,_|⟨b,_|⟨c,r⟩⟩⟩
  .simp at h
  .simp at h
  .exact⟨a,b,.inr rfl⟩
  .simp at h;omega
 |_=>simp[bF]at h
theorem DW(h:iB x 2=false):rU x=false:=by
 unfold rU;unfold iB at h;cases q:bF x with
 |none=>rfl
 |some ds=>
  rw[q]at h;rcases ds with _|⟨a,_|⟨b,_|⟨c,r⟩⟩⟩
  .rfl
  .cases a<;>rfl
  .simp at h
  .cases a<;>cases b<;>rfl
theorem aFx{a b:PyData}:ixF (.d (.list [a,b])) (I 0) M=some (.d a,M):=rfl
theorem aFB{a b:PyData}:ixF (.d (.list [a,b])) (I 1) M=some (.d b,M):=rfl
theorem aFN{a b:PyData}:ixF (.d (.tuple [a,b])) (I 0) M=some (.d a,M):=rfl
theorem aFI{a b:PyData}:ixF (.d (.tuple [a,b])) (I 1) M=some (.d b,M):=rfl
theorem aDT{p q:Bool}:(if p=true then some (B q,M)else some (B false,M))=some (B (p&&q),M):=by cases p<;>rfl
theorem cM(x:PyData)(M:Sto):bG [.d x] M=some (B (rU x),M):=by
 cases h:iB x 2 with
 |false=>
  rw[DW h];simp![bG,bS,fJ,h]
 |true=>
  obtain⟨a,b,rfl|rfl⟩:=SL h
  .cases a<;>cases b<;>first|rfl|(rename_i a b;simp![bG,bS,fJ,h,iQ,aFx,aFB,rH,aDT];rfl)
  .cases a<;>cases b<;>first|rfl|(rename_i a b;simp![bG,bS,fJ,h,iQ,aFN,aFI,rH,aDT];rfl)
noncomputable def P(k:Bool)(a b:Int):PyData:=if k then .list [.int a,.int b]else .tuple [.int a,.int b]
theorem aAO{k:Bool}:ixF (.d (P k a b)) (I 0) M=some (I a,M):=by cases k<;>rfl
theorem aDE{k:Bool}:ixF (.d (P k a b)) (I 1) M=some (I b,M):=by cases k<;>rfl
theorem BU:eqX false (I i) (I j) M=some (B (i==j),M):=rfl
theorem aDC:eqX true (I i) (I j) M=some (B (!(i==j)),M):=rfl
theorem NT{k:Bool}:rU (P k a b)=(decide (0<=a)&&decide (1<=b)):=by cases k<;>rfl
theorem aFP(n m:Nat):((n:Int)==(m:Int))=(n==m):=by
 rw[Y5];simp;omega
noncomputable def jY(a b:Int):Bool:=decide (0<=a)&&decide (1<=b)&&(55440 % b==0)&&(Int.gcd a b==1)&&decide (a<=1000000000000)
theorem pG(k:Bool)(a b:Int)(M:Sto):cF [.d (P k a b)] M=some (B (decide (0<=a)&&decide (1<=b)&&(55440 % b==0)&&(Int.gcd a b==1)),M):=by
 cases h:(decide (0<=a)&&decide (1<=b))with
 |false=>
  simp![cF,dA,cM,NT,h,Bool.false_and]
 |true=>
  have hh:=h;rw[B5]at h;have h1:=C3 h.1;have h2:=C3 h.2;have hm:eY 55440 b=true:=bV (by omega);cases h3:(55440 % b==0)with
  |false=>simp![cF,dA,cM,NT,hh,aAO,aDE,hm,BU,h3,Bool.true_and,Bool.false_and]
  |true=>
   simp![cF,dA,cM,NT,hh,aAO,aDE,hm,BU,h3,Bool.true_and,DI M h1 (Int.le_trans (by decide) h2)];rw[show(1:Int)=((1:Nat):Int)from rfl,aFP]
theorem EJ(k:Bool)(a b:Int)(M:Sto):eA [.d (P k a b)] M=some (B (jY a b),M):=by
 cases h:(decide (0<=a)&&decide (1<=b)&&(55440 % b==0)&&(Int.gcd a b==1))with
 |false=>
  have e:jY a b=false:=by unfold jY;rw[h];rfl
  rw[e];simp![eA,gZ,pG,h]
 |true=>
  have e:jY a b=decide (a<=1000000000000):=by unfold jY;rw[h];rfl
  rw[e];simp![eA,gZ,pG,h,aAO]
theorem wF(M:Sto)(a b:Int):∀(n:Nat)(x y:Int),0<=x->0<=y->y.toNat<n->
 eM (gB (fOp gtI (aD 3) (fC (.int 0)))) (xQ 2 3 (aC (aD 3) (aC (fOp bY (aD 2) (aD 3)) aG))) n [some (I a),some (I b),some (I x),some (I y)] M=some (.nx [some (I a),some (I b),some (I (Int.gcd x y)),some (I 0)],M)
 |0=>fun _ _ _ _ h=>by omega
 |n+1=>fun x y hx hy h=>by
  by_cases e:y=0
  .subst e;have:(Int.gcd x 0:Int)=x:=by rw[Int.gcd_zero_right];omega
   rw[this];rfl
  .have hp:0<y:=by omega
   have ih:=wF M a b n y (x % y) hy (Y6 _ e) (by have:=S7 x hp;omega);rw[DA]at ih;rw[<- ih];have hb:decide (0<y)=true:=C5 hp;simp![eM,xQ,bV hp,hb]
theorem uR(h:1<=b):1<=(Int.gcd a b:Int):=by
 have:Int.gcd a b≠0:=fun z=>by have:=(Int.gcd_eq_zero_iff.mp z).2;omega
 omega
theorem HV(h:1<=b):(Int.gcd a b:Int)<=b:=Int.le_of_dvd (by omega) (Int.gcd_dvd_right a b)
theorem wsm(h:0<=y)(h2:y<2 ^ 200):y.natAbs<tQ:=by
 have h1:y.natAbs<2 ^ 200:=by omega
 exact B8 h1 (Z9 (by decide) (by decide))
theorem gR{x:Int}(h:0<y)(h2:y.natAbs<tQ):jN x y=true:=by simp[jN,h,h2]
theorem DQ(M:Sto)(ha:0<=a)(hb:1<=b)(hw:b.natAbs<tQ):cH [I a,I b] M=some (.d (.tuple [.int (a / (Int.gcd a b:Int)),.int (b / (Int.gcd a b:Int))]),M):=by
 have h:mN [some (I a),some (I b),some (I a),some (I b)] M=_:=EI (wF M a b (b.toNat+1) a b ha (by omega) (L6 _));have g1:=uR (a:=a) hb;have g2:=HV (a:=a) hb;have d1:∀x,jN x (Int.gcd a b:Int)=true:=fun x=>gR (by omega) (Nat.lt_of_le_of_lt (by omega) hw);have sz:(2:Nat)<=sizeLine:=by decide
 simp![cH,kI,xQ,h,d1,sz]
theorem VT{x:Int}(h:y.natAbs<2 ^ 64):fV x y=true:=by simp only[fV,decide_eq_true h,Bool.or_true,Bool.true_or]
theorem YH{x:Int}(h:x.natAbs<2 ^ 64):fV x y=true:=by simp only[fV,decide_eq_true h,Bool.true_or]
noncomputable abbrev T2(a b:Int):CD:=.d (.tuple [.int a,.int b])
theorem ZS(h:jY a b=true):0<=a/\a<=1000000000000/\1<=b/\b<=55440:=by
 unfold jY at h;simp only[Bool.and_eq_true,decide_eq_true_eq,beq_iff_eq]at h;obtain⟨⟨⟨⟨h1,h2⟩,h3⟩,_⟩,h5⟩:=h;exact⟨h1,h5,h2,Int.le_of_dvd (by decide) (Int.dvd_of_emod_eq_zero h3)⟩
noncomputable def iG(x:PyData):Bool:=match bF x with
 |some [.int a,.int b]=>jY a b
 |_=>false
noncomputable def R2'(k:Bool)(p q:PyData):PyData:=if k then .list [p,q]else .tuple [p,q]
theorem PL(k:Bool)(p q:PyData):bF (R2' k p q)=some [p,q]:=by cases k<;>rfl
theorem WE(h:iB x 2=true):∃k p q,x=R2' k p q:=by
 obtain⟨a,b,rfl|rfl⟩:=SL h
 .exact⟨true,a,b,rfl⟩
 .exact⟨false,a,b,rfl⟩
theorem VX(h:rU x=true):∃k a b,x=P k a b:=by
 have hr:iB x 2=true:=by
  cases e:iB x 2 with
  |true=>rfl
  |false=>rw[DW e]at h;cases h
 obtain⟨k,p,q,rfl⟩:=WE hr;unfold rU at h;rw[PL]at h;cases p<;>cases q<;>first|exact⟨k,_,_,rfl⟩|simp at h
theorem YV(k:Bool)(a b:Int):iG (P k a b)=jY a b:=by cases k<;>rfl
theorem DH(h:rU x=false):iG x=false:=by
 unfold rU at h;unfold iG;split
 .rename_i a b e;rw[e]at h;dsimp only at h;unfold jY;rw[h];rfl
 .rfl
theorem CC(x:PyData)(M:Sto):eA [.d x] M=some (B (iG x),M):=by
 cases h:rU x with
 |false=>
  rw[DH h];have e:cF [.d x] M=some (B false,M):=by simp![cF,dA,cM,h]
  simp![eA,gZ,e]
 |true=>
  obtain⟨k,a,b,rfl⟩:=VX h;rw[YV];exact EJ k a b M
theorem qN:∀ds:List PyData,lV (ds.map .d)=some ds
 |[]=>rfl
 |d::ds=>by
  show(lV (ds.map .d)).map (d::·)=_;rw[qN ds];rfl
structure Tie where
 i:Int
 j:Int
 a:Int
 b:Int
deriving DecidableEq
noncomputable def Tie.key(t:Tie):List Key:=[.inl t.i,.inl t.j]
noncomputable def Tie.val(t:Tie):CD:=.d (.tuple [.int t.a,.int t.b])
noncomputable def bB(ts:List Tie):List (List Key×CD):=ts.map fun t=>(t.key,t.val)
theorem YZ{ts:List Tie}{t:Tie}(h:∀s∈ts,s.key≠t.key):lkC (bB ts) t.key=none:=by
 unfold lkC bB;rw[List.find?_map];have:List.find? ((fun kv=>decide (kv.1=t.key)) ∘ fun s:Tie=>(s.key,s.val)) ts=none:=List.find?_eq_none.mpr fun s hs=>by simpa using h s hs
 rw[this];rfl
theorem JK{ts:List Tie}{t:Tie}(h:∀s∈ts,s.key≠t.key):putD (bB ts) t.key t.val=bB (ts++[t]):=by
 unfold putD
 have:((bB ts).any fun kv=>decide (kv.1=t.key))=false:=by
  rw[bB,List.any_map];exact List.any_eq_false.mpr fun s hs=>by simpa using h s hs
 rw[this,B2 B4];unfold bB;rw[J8];rfl
theorem sz{n:Nat}(hn:n<=1000):n<=sizeLine:=by rw[F8];exact C7 hn (by decide)
noncomputable def f1(t:Tie):List PyData:=[.tuple [.int t.i,.int t.j],.tuple [.int t.a,.int t.b]]
noncomputable def f2(t:Tie):List PyData:=[.int t.i,.int t.j,.tuple [.int t.a,.int t.b]]
theorem RA{c d:Int}:PyData.eqv (.tuple [.int a,.int b]) (.tuple [.int c,.int d])=(a==c&&(b==d&&true)):=rfl
theorem sA{f:Tie->List PyData}{i:Nat}(h:i<us.length):(us.map f).getD i []=f us[i]:=by
 rw[D0,C0,B6 h];rfl
noncomputable def t0:Tie:=⟨0,0,0,0⟩
theorem yH(us:List Tie):(List.range us.length).map (fun i=>us.getD i t0)=us:=by
 refine Z1 fun i=>?_;rw[C0];by_cases h:i<us.length
 .rw[A0b h,B6 h];show some (us.getD i t0)=_;rw[D0,B6 h];rfl
 .rw[J7 (by rw[Z0];omega),J7 (by omega)];rfl
theorem RD{i:Nat}(h:i<us.length):us.getD i t0=us[i]:=by
 rw[D0,B6 h];rfl
theorem aDN(s t:Tie):(jM (f1 s) (f1 t)).isSome=true:=by
 unfold f1 jM;rw[RA];split
 .unfold jM;rw[RA];split
  .rfl
  .rfl
 .rfl
theorem XZ(h64:us.length<64):∃vs:List Tie,vs.Perm us/\eU (us.map f1)=some (vs.map fun t=>.tuple (f1 t)):=by
 by_cases h2:2<=us.length
 .have ab:sortable (us.map f1)=true:=by
   have hd:mJ (us.map f1)=true:=by unfold mJ;rw[List.all_map];exact List.all_eq_true.mpr fun t _=>rfl
   unfold sortable;rw[A3,C5 h2,C5 h64,hd,Bool.or_true,Bool.true_and,Bool.true_and,Bool.and_true,B5];refine⟨List.all_eq_true.mpr fun r hr=>?_,List.all_eq_true.mpr fun i hi=>List.all_eq_true.mpr fun j hj=>?_⟩
   .obtain⟨t,_,rfl⟩:=List.mem_map.mp hr;rfl
   .rw[sA (List.mem_range.mp hi),sA (List.mem_range.mp hj)];exact aDN _ _
  have pm:=jR (n:=(us.map f1).length) (lX (us.map f1)) (by rw[A3];omega);rw[A3]at pm;have mem:∀i∈fD (lX (us.map f1)) us.length,i<us.length:=fun i hi=>List.mem_range.mp (pm.mem_iff.mp hi)
  have sd:BY (us.map f1)=((fD (lX (us.map f1)) us.length).map fun i=>us.getD i t0).map fun t=>.tuple (f1 t):=by
   unfold BY;rw[A3,E5];refine L9 fun i hi=>?_;show PyData.tuple ((us.map f1).getD i [])=.tuple (f1 (us.getD i t0));rw[sA (mem i hi),RD (mem i hi)]
  refine⟨(fD (lX (us.map f1)) us.length).map fun i=>us.getD i t0,?_,?_⟩
  .have:=pm.map fun i=>us.getD i t0
   rwa [yH]at this
  .unfold eU;rw[ab,B0 rfl,sd]
 .have hl:us.length<2:=by omega
  refine⟨us,.refl _,?_⟩;unfold eU
  have:sortable (us.map f1)=false:=by
   unfold sortable;rw[A3,E2 h2];rfl
  rw[this,B2 B4,A3,B0 hl,E5];rfl
noncomputable def big(t:Tie):Bool:=decide (t.a > 0)
noncomputable def cX(vs:List Tie):List PyData:=(vs.filter big).map fun t=>.tuple (f2 t)
theorem RJ{cap:List (Option Nat)}{c:TF}{ee:EF}{M1 M2:Sto}{xs:List CD}(it:f γ M=some (xs,M1))(hl:xs.length<=sizeLine)(e:lcF g c ee xs (iR cap γ) M1=some (ds.map .d,M2))(hd:ds.length<=sizeLine):fLc cap f g c ee γ M=some (.d (.list ds),M2):=by
 have h1:tV cap f g c ee γ M=some (ds.map .d,M2):=by
  unfold tV;rw[it,B3,B0 hl];exact e
 show(tV cap f g c ee γ M).bind _=_;rw[h1,B3,qN,B3,B0 hd]
noncomputable abbrev kG:GF:=gX 2 (aZ (gX 2 (aZ (hName 0) (aZ (hName 1) gT))) (aZ (hName 2) gT))
noncomputable abbrev kC:TF:=gB (fOp gtI (fOp ixF (aD 2) (fC (.int 0))) (fC (.int 0)))
noncomputable abbrev kE:EF:=dJ (aC (aD 0) (aC (aD 1) (aC (aD 2) aG)))
theorem zH{M:Sto}:∀(vs:List Tie)(s1 s2 s3:Option CD),lcF kG kC kE (vs.map fun t=>.d (.tuple (f1 t))) [s1,s2,s3] M=some ((cX vs).map .d,M)
 |[]=>fun _ _ _=>rfl
 |t::vs=>fun s1 s2 s3=>by
  have ih:=zH (M:=M) vs (some (I t.i)) (some (I t.j)) (some (.d (.tuple [.int t.a,.int t.b])));have g1:kG (.d (.tuple (f1 t))) [s1,s2,s3] M=some ([some (I t.i),some (I t.j),some (.d (.tuple [.int t.a,.int t.b]))],M):=rfl;have c1:kC [some (I t.i),some (I t.j),some (.d (.tuple [.int t.a,.int t.b]))] M=some (big t,M):=rfl
  have e1:kE [some (I t.i),some (I t.j),some (.d (.tuple [.int t.a,.int t.b]))] M=some (.d (.tuple (f2 t)),M):=by
   have l3:3<=sizeLine:=sz (by decide);simp![kE,f2,if_pos l3,Nat.zero_add]
  rw[C6];unfold lcF;rw[g1,B3];dsimp only;rw[c1,B3];dsimp only;by_cases hb:big t=true
  .rw[B0 hb,e1,B3];dsimp only;rw[ih,B3];unfold cX;rw[Y7 hb];rfl
  .rw[B2 hb,ih];unfold cX;rw[Y8 hb]
theorem DS:∀us:List Tie,rS (bB us)=some (us.map fun t=>(t.key,.tuple [.int t.a,.int t.b]))
 |[]=>rfl
 |t::us=>by
  show(rS (bB us)).bind _=_;rw[DS us];rfl
theorem ZA(us:List Tie):(us.map fun t=>(t.key,PyData.tuple [.int t.a,.int t.b])).map DR=us.map f1:=by
 rw[E5];rfl
theorem UA{vs:List Tie}(h:vs.length<=1000):(cX vs).length<=sizeLine:=by
 unfold cX;rw[A3];exact sz (C7 (I0 ..) h)
noncomputable def cE(us:List Tie):List PyData:=us.map fun t=>.tuple (f2 t)
noncomputable def Ok(n:Int)(us:List Tie):Prop:=(∀t∈us,jY t.a t.b=true/\0<=t.i/\t.i<t.j/\t.j<n)/\(us.map Tie.key).Nodup/\us.length<64
theorem GO(nd:(us.map Tie.key).Nodup):((us.filter big).map Tie.key).Nodup:=(List.filter_sublist.map Tie.key).nodup nd
theorem DP{N:Sto}:∀(ws ts:List Tie)(s1 s2 s3:Option CD),((ts++ws).map Tie.key).Nodup->ts.length+ws.length<1000->
 dcF N.length (gX 3 (aZ (hName 0) (aZ (hName 1) (aZ (hName 2) gT)))) gE (qT (aC (aD 0) (aC (aD 1) aG))) (aD 2) ((cE ws).map .d) [s1,s2,s3] (N++[.dt (bB ts)])=some (N++[.dt (bB (ts++ws))])
 |[]=>fun ts _ _ _ _ _=>by rw[L4];rfl
 |t::ws=>fun ts s1 s2 s3 nd hl=>by
  have nk:∀s∈ts,s.key≠t.key:=fun s hs q=>by
   rw[J8,List.nodup_append]at nd;exact nd.2.2 _ (List.mem_map_of_mem hs) _ (by rw[C6];exact A9) q
  have ih:=DP (N:=N) ws (ts++[t]) (some (I t.i)) (some (I t.j)) (some t.val) (by rw[S0];exact nd) (by rw[B9];simp only[List.length_cons,List.length_nil]at hl ⊢;omega);have hD:(N++[.dt (bB ts)])[N.length]?=some (.dt (bB ts)):=by rw[F0 (A7 _),S4];rfl
  have len:(bB ts).length<sizeLine:=by unfold bB;rw[A3,F8];omega
  have st:uI (N++[.dt (bB ts)]) (.c N.length) (.inr t.key) t.val=some (N++[.dt (bB (ts++[t]))]):=by
   simp only[uI,hD,if_pos len,JK nk];rw[List.set_append_right _ _ (A7 _),S4];rfl
  have l2:(Tie.key t).length<=sizeLine:=sz (show 2<=1000 by decide)
  have kf:qT (aC (aD 0) (aC (aD 1) aG)) [some (I t.i),some (I t.j),some t.val] (N++[.dt (bB ts)])=some (.inr t.key,N++[.dt (bB ts)]):=by
   have kk:keysOf [I t.i,I t.j]=some t.key:=rfl;simp![qT,kk,if_pos l2]
  show dcF _ _ _ _ _ (.d (.tuple (f2 t))::(cE ws).map .d) [s1,s2,s3] _=_;unfold dcF;rw[show gX 3 (aZ (hName 0) (aZ (hName 1) (aZ (hName 2) gT))) (.d (.tuple (f2 t))) [s1,s2,s3] (N++[.dt (bB ts)])=some ([some (I t.i),some (I t.j),some t.val],N++[.dt (bB ts)])from rfl,B3];dsimp only;rw[show gE [some (I t.i),some (I t.j),some t.val] (N++[.dt (bB ts)])=some (true,N++[.dt (bB ts)])from rfl,B3];dsimp only;rw[B0 rfl,kf,B3];dsimp only;rw[show aD 2 [some (I t.i),some (I t.j),some t.val] (N++[.dt (bB ts)])=some (t.val,N++[.dt (bB ts)])from rfl,B3];dsimp only;rw[st,B3,ih,S0];rfl
noncomputable def aFz(w:Nat)(n:Int)(vs:List Tie):Cell:=.obj "Web" [("many",I n),("ties",.d (.tuple (cX vs))),("weights",.c (w+2))]
noncomputable def aCk(w:Nat)(n:Int)(us vs:List Tie):List Cell:=[aFz w n vs,.dt (bB us),.dt (bB (vs.filter big))]
theorem HY{L:Sto}{fs:List (Str×CD)}:objOf "Web" (M++(.obj "Web" fs::L)) (.c M.length)=some (M.length,fs):=by
 have:(M++(Cell.obj "Web" fs::L))[M.length]?=some (.obj "Web" fs):=by rw[F0 (A7 _),S4];rfl
 simp only[objOf,this,if_true]
theorem sG{L:Sto}{c c':Cell}:(M++(c::L)).set M.length c'=M++(c'::L):=by
 rw[List.set_append_right _ _ (A7 _),S4];rfl
noncomputable def R3(k:Bool)(p q w:PyData):PyData:=if k then .list [p,q,w]else .tuple [p,q,w]
theorem qJ(k:Bool)(p q w:PyData):bF (R3 k p q w)=some [p,q,w]:=by cases k<;>rfl
theorem VU(h:iB x 3=true):∃k p q w,x=R3 k p q w:=by
 have aux:∀ds:List PyData,((ds.length:Int)==3)=true->∃p q w,ds=[p,q,w]:=fun ds h=>by
  match ds,h with
  |[p,q,w],_=>exact⟨p,q,w,rfl⟩
  |[],h=>exact absurd h (by decide)
  |[_],h=>exact absurd h (by simp)
  |[_,_],h=>exact absurd h (by simp)
  |_::_::_::_::r,h=>
   have:((r.length+1+1+1+1:Nat):Int)=3:=by simpa using h
   omega
 cases x with
 |list ds=>obtain⟨p,q,w,rfl⟩:=aux ds h;exact⟨true,p,q,w,rfl⟩
 |tuple ds=>obtain⟨p,q,w,rfl⟩:=aux ds h;exact⟨false,p,q,w,rfl⟩
 |_=>cases h
noncomputable def plc(n:Int):PyData->Bool
 |.int i=>decide (0<=i)&&decide (i<n)
 |_=>false
theorem mC(n:Int)(p:PyData)(M:Sto):dQ [I n,.d p] M=some (B (plc n p),M):=by
 cases hp:rH p with
 |false=>
  have e:plc n p=false:=by cases p<;>first|rfl|cases hp
  rw[e];simp![dQ,lP,iQ,hp]
 |true=>
  obtain⟨i,rfl⟩:∃i,p=.int i:=by cases p<;>first|exact⟨_,rfl⟩|cases hp
  have hc:plc n (.int i)=(decide (0<=i)&&decide (i<n)):=rfl;rw[hc];cases h0:decide (0<=i)<;>simp![dQ,lP,iQ,hp,h0,Bool.true_and,Bool.false_and]
noncomputable def ulk(n:Int)(p q:PyData):Bool:=match p,q with
 |.int i,.int j=>plc n p&&(plc n q&&!(i==j))
 |_,_=>false
theorem rV{p:PyData}(h:plc n p=true):∃i,p=.int i/\0<=i/\i<n:=by
 cases p with
 |int i=>simp only[plc,Bool.and_eq_true,decide_eq_true_eq]at h;exact⟨i,rfl,h.1,h.2⟩
 |_=>cases h
theorem aAp(n:Int)(p q:PyData)(M:Sto):bK [I n,.d p,.d q] M=some (B (ulk n p q),M):=by
 cases h1:plc n p with
 |false=>
  have e:ulk n p q=false:=by
   unfold ulk;split
   .rw[h1];rfl
   .rfl
  rw[e];simp![bK,cA,mC,h1]
 |true=>
  obtain⟨i,rfl,_⟩:=rV h1;cases h2:plc n q with
  |false=>
   have e:ulk n (.int i) q=false:=by
    unfold ulk;split
    .rw[h2,Bool.false_and,Bool.and_false]
    .rfl
   rw[e];simp![bK,cA,mC,h1,h2]
  |true=>
   obtain⟨j,rfl,_⟩:=rV h2;have e:ulk n (.int i) (.int j)=!(i==j):=by show(plc n (.int i)&&(plc n (.int j)&&!(i==j)))=_;rw[h1,h2];rfl
   rw[e];simp![bK,cA,mC,h1,h2,aDC]
noncomputable def iF(n:Int)(r:PyData):Option Tie:=match bF r with
 |some [.int i,.int j,w]=>match bF w with
  |some [.int a,.int b]=>if 0<=i/\i<j/\j<n/\jY a b=true then some ⟨i,j,a,b⟩else none
  |_=>none
 |_=>none
theorem LY{w:PyData}(h:iG w=true):∃a b,bF w=some [.int a,.int b]/\jY a b=true:=by
 unfold iG at h;split at h
 .rename_i a b e;exact⟨a,b,e,h⟩
 .cases h
theorem JJ{w:PyData}(hr:bF r=some [.int i,.int j,w])(hw:bF w=some [.int a,.int b])(h:0<=i/\i<j/\j<n/\jY a b=true):iF n r=some ⟨i,j,a,b⟩:=by
 unfold iF;rw[hr];dsimp only;rw[hw];dsimp only;rw[B0 h]
theorem rW{t:Tie}(h:iF n r=some t):∃w,bF r=some [.int t.i,.int t.j,w]/\bF w=some [.int t.a,.int t.b]/\0<=t.i/\t.i<t.j/\t.j<n/\jY t.a t.b=true:=by
 unfold iF at h;split at h
 .rename_i i j w hr;split at h
  .rename_i a b hw;split at h
   .rename_i c;cases h;exact⟨w,hr,hw,c⟩
   .cases h
  .cases h
 .cases h
theorem ix3(k:Bool)(p q w:PyData)(M:Sto):ixF (.d (R3 k p q w)) (I 0) M=some (.d p,M)/\ixF (.d (R3 k p q w)) (I 1) M=some (.d q,M)/\ixF (.d (R3 k p q w)) (I 2) M=some (.d w,M):=by cases k<;>exact⟨rfl,rfl,rfl⟩
theorem NS(n:Int)(r:PyData)(M:Sto):jC [I n,.d r] M=some (B (iF n r).isSome,M):=by
 cases h3:iB r 3 with
 |false=>
  have e:iF n r=none:=by
   cases h:iF n r with
   |none=>rfl
   |some t=>
    obtain⟨w,hr,_⟩:=rW h;unfold iB at h3;rw[hr]at h3;cases h3
  have bt:bC [I n,.d r] M=some (B false,M):=by
   simp![bC,cB,fJ,h3]
  rw[e];simp![jC,kX,bt,Option.isSome_none]
 |true=>
  obtain⟨k,p,q,w,rfl⟩:=VU h3;obtain⟨x0,x1,x2⟩:=ix3 k p q w M;cases hu:ulk n p q with
  |false=>
   have e:iF n (R3 k p q w)=none:=by
    cases h:iF n (R3 k p q w)with
    |none=>rfl
    |some t=>
     obtain⟨w',hr,_,i0,ij,jn,_⟩:=rW h;rw[qJ]at hr;cases hr
     have:ulk n (.int t.i) (.int t.j)=true:=by
      have ne:(!(t.i==t.j))=true:=by simp;omega
      show(plc n (.int t.i)&&(plc n (.int t.j)&&!(t.i==t.j)))=true;rw[ne];simp only[plc,decide_eq_true i0,decide_eq_true jn,decide_eq_true (show t.i<n by omega),decide_eq_true (show(0:Int)<=t.j by omega),Bool.and_true,Bool.true_and]
     rw[this]at hu;cases hu
   have bt:bC [I n,.d (R3 k p q w)] M=some (B false,M):=by
    simp![bC,cB,fJ,h3,x0,x1,aAp,hu]
   rw[e];simp![jC,kX,bt,Option.isSome_none]
  |true=>
   obtain⟨i,j,rfl,rfl,i0,jn⟩:∃i j,p=.int i/\q=.int j/\0<=i/\j<n:=by
    unfold ulk at hu;split at hu
    .rename_i i j;rw[B5,B5]at hu;obtain⟨i',e1,q1,_⟩:=rV hu.1;obtain⟨j',e2,_,q2⟩:=rV hu.2.1;cases e1;cases e2;exact⟨i,j,rfl,rfl,q1,q2⟩
    .cases hu
   have bt:bC [I n,.d (R3 k (.int i) (.int j) w)] M=some (B (decide (i<j)),M):=by
    simp![bC,cB,fJ,h3,x0,x1,aAp,hu]
   cases ij:decide (i<j)with
   |false=>
    have e:iF n (R3 k (.int i) (.int j) w)=none:=by
     cases h:iF n (R3 k (.int i) (.int j) w)with
     |none=>rfl
     |some t=>
      obtain⟨w',hr,_,_,z,_⟩:=rW h;rw[qJ]at hr;cases hr;exact absurd z (of_decide_eq_false ij)
    rw[ij]at bt;rw[e];simp![jC,kX,bt,Option.isSome_none]
   |true=>
    rw[ij]at bt
    have e:(iF n (R3 k (.int i) (.int j) w)).isSome=iG w:=by
     cases hw:iG w with
     |true=>
      obtain⟨a,b,w1,w2⟩:=LY hw;rw[JJ (qJ ..) w1 ⟨i0,C3 ij,jn,w2⟩];rfl
     |false=>
      cases h:iF n (R3 k (.int i) (.int j) w)with
      |none=>rfl
      |some t=>
       obtain⟨w',hr,h2,_,_,_,h3'⟩:=rW h;rw[qJ]at hr;cases hr;unfold iG at hw;rw[h2]at hw;dsimp only at hw;rw[h3']at hw;cases hw
    rw[e];simp![jC,kX,bt,x2,CC]
noncomputable abbrev LG(n:Int)(x:CD)(c k:Nat)(r:PyData):Ga:=[some (I n),some x,some (.c c),some (I (k:Nat)),some (.d r)]
noncomputable def iP(k:Nat)(l:List PyData):List CD:=(l.zipIdx k).map fun p=>.d (.tuple [.int (p.2:Nat),p.1])
theorem KR(k:Nat)(r:PyData)(l:List PyData):iP k (r::l)=.d (.tuple [.int (k:Nat),r])::iP (k+1) l:=rfl
noncomputable abbrev G2:GF:=gX 2 (aZ (hName 3) (aZ (hName 4) gT))
theorem aDI{x:CD}{k:Nat}:G2 (.d (.tuple [.int (k:Nat),r])) [some (I n),some x,some (.c c),g3,g4] M=some (LG n x c k r,M):=rfl
theorem oJ{c:Cell}:(M++[c])[M.length]?=some c:=by rw[F0 (A7 _),S4];rfl
theorem aFD{w:PyData}(h:bF w=some [.int a,.int b])(M:Sto):eQ [.d w] M=some (.d (.tuple [.int a,.int b]),M):=by
 cases w<;>first|(cases h;rfl)|cases h
theorem aDc{t:Tie}(h:jY t.a t.b=true/\0<=t.i/\t.i<t.j/\t.j<n):iF n (.tuple (f2 t))=some t:=
 JJ (w:=.tuple [.int t.a,.int t.b]) rfl rfl ⟨h.2.1,h.2.2.1,h.2.2.2,h.1⟩
theorem LX{x:CD}{M:Sto}{k:Nat}{ts:List Tie}{t:Tie}(hl:ts.length<1000)(ht:iF n (.tuple (f2 t))=some t)(nk:∀s∈ts,s.key≠t.key):
 eX (LG n x M.length k (.tuple (f2 t))) (M++[.dt (bB ts)])=some (.nx (LG n x M.length k (.tuple (f2 t))),M++[.dt (bB (ts++[t]))]):=by
 have ti:=NS n (.tuple (f2 t)) (M++[.dt (bB ts)]);rw[ht,Option.isSome_some]at ti;have x0:ixF (.d (.tuple (f2 t))) (I 0) (M++[.dt (bB ts)])=some (I t.i,M++[.dt (bB ts)]):=rfl;have x1:ixF (.d (.tuple (f2 t))) (I 1) (M++[.dt (bB ts)])=some (I t.j,M++[.dt (bB ts)]):=rfl;have x2:ixF (.d (.tuple (f2 t))) (I 2) (M++[.dt (bB ts)])=some (.d (.tuple [.int t.a,.int t.b]),M++[.dt (bB ts)]):=rfl;have tu:=aFD (w:=.tuple [.int t.a,.int t.b]) rfl (M++[.dt (bB ts)]);have hD:(M++[Cell.dt (bB ts)])[M.length]?=some (.dt (bB ts)):=oJ;have kk':keysOf [I t.i,I t.j]=some t.key:=rfl;have l2:(Tie.key t).length<=sizeLine:=sz (show 2<=1000 by decide);have at_:atD (M++[.dt (bB ts)]) (.c M.length) (.inr t.key)=some none:=by simp only[atD,hD,YZ nk]
 have len:(bB ts).length<sizeLine:=by unfold bB;rw[A3,F8];omega
 have st:uI (M++[.dt (bB ts)]) (.c M.length) (.inr t.key) (.d (.tuple [.int t.a,.int t.b]))=some (M++[.dt (bB (ts++[t]))]):=by
  have pn:putD (bB ts) t.key (.d (.tuple [.int t.a,.int t.b]))=bB (ts++[t]):=JK nk;simp only[uI,hD,if_pos len,pn];rw[sG]
 simp![eX,ti,sM,qT,x0,x1,x2,kk',if_pos l2,at_,sQ,tu,st,Option.isSome_none]
theorem zP{n:Int}{x:CD}{M:Sto}:∀(ws ts:List Tie)(k:Nat)(g3 g4:Option CD),((ts++ws).map Tie.key).Nodup->(∀t∈ws,iF n (.tuple (f2 t))=some t)->ts.length+ws.length<1000->
 ∃g3' g4',lW G2 eX (iP k (cE ws)) [some (I n),some x,some (.c M.length),g3,g4] (M++[.dt (bB ts)])=some (.nx [some (I n),some x,some (.c M.length),g3',g4'],M++[.dt (bB (ts++ws))])
 |[]=>fun ts k g3 g4 _ _ _=>⟨g3,g4,by rw[L4];rfl⟩
 |t::ws=>fun ts k g3 g4 nd ok hl=>by
  have nk:∀s∈ts,s.key≠t.key:=fun s hs e=>by
   rw[J8,List.nodup_append]at nd;exact nd.2.2 _ (List.mem_map_of_mem hs) _ (List.mem_map_of_mem (A9 ..)) e
  rw[E9]at hl;have tn:=LX (n:=n) (x:=x) (M:=M) (k:=k) (ts:=ts) (t:=t) (by omega) (ok t (A9 ..)) nk;have e:ts++t::ws=ts++[t]++ws:=by simp
  rw[e]at nd ⊢;obtain⟨a,b,h⟩:=zP (n:=n) (x:=x) (M:=M) ws (ts++[t]) (k+1) (some (I (k:Nat))) (some (.d (.tuple (f2 t)))) nd (fun s hs=>ok s (A8 _ hs)) (by rw[B9,E7];omega);refine⟨a,b,?_⟩;rw[<- h];show lW G2 eX (.d (.tuple [.int (k:Nat),.tuple (f2 t)])::iP (k+1) (cE ws)) _ _=_
  conv=>lhs;unfold lW
  rw[aDI,B3];dsimp only;rw[tn,B3]
theorem ZE{d:PyData}{l:List PyData}{c:CD}(hd:bF d=some l):tY (aC (aD 1) aG) [some (I n),some (.d d),some c,none,none] M=some (iP 0 l,M):=by
 simp![tY,hd];rfl
theorem WY{M:Sto}(ok:Ok n us):
 ∃vs:List Tie,vs.Perm us/\gW [I n,.d (.list (cE us))] M=some (.d (.tuple (cX vs)),M++[.dt (bB us)]):=by
 obtain⟨o1,nd,h64⟩:=ok;obtain⟨g3,g4,lp⟩:=zP (n:=n) (x:=.d (.list (cE us))) (M:=M) us [] 0 none none (by rw[A0a];exact nd) (fun t ht=>aDc (o1 t ht)) (by rw[List.length_nil];omega);rw[A0a]at lp;obtain⟨vs,pm,sr⟩:=XZ h64;refine⟨vs,pm,?_⟩;have rw1:zV (.list (cE us))=true:=rfl;have m0:(M++[Cell.dt []])=M++[.dt (bB [])]:=rfl;have hD:(M++[Cell.dt (bB us)])[M.length]?=some (.dt (bB us)):=oJ;have lv:vs.length<64:=by rw[pm.length_eq];exact h64
 have it:cC (sN (aD 2)) [some (I n),some (.d (.list (cE us))),some (.c M.length),g3,g4] (M++[.dt (bB us)])=some (vs.map fun t=>.d (.tuple (f1 t)),M++[.dt (bB us)]):=by
  have s1:sN (aD 2) [some (I n),some (.d (.list (cE us))),some (.c M.length),g3,g4] (M++[.dt (bB us)])=some (.d (.list (vs.map fun t=>.tuple (f1 t))),M++[.dt (bB us)]):=by
   simp![sN,hD,DS,ZA,sr]
  unfold cC;rw[s1,B3];show(some (vs.map fun t=>PyData.tuple (f1 t))).bind _=_;rw[B3,E5];rfl
 have cp:kH [some (I n),some (.d (.list (cE us))),some (.c M.length),g3,g4] (M++[.dt (bB us)])=some (.d (.list (cX vs)),M++[.dt (bB us)]):=by
  unfold kH;exact RJ it (sz (by rw[A3];omega)) (zH vs none none none) (UA (by omega))
 have tf:eQ [.d (.list (cX vs))] (M++[.dt (bB us)])=some (.d (.tuple (cX vs)),M++[.dt (bB us)]):=rfl;have hi:bF (.list (cE us))=some (cE us):=rfl;simp![gW,nK,qK,rw1,sZ,m0,nN,ZE hi,lp,cp,tf]
theorem UO{M:Sto}(ok:Ok n us)(n1:1<=n)(n40:n<=40):
 ∃vs:List Tie,vs.Perm us/\fK [.c M.length,I n,.d (.list (cE us))] (M++[.obj "Web" []])=some (.d .none,M++aCk M.length n us vs):=by
 obtain⟨vs,pm,k1⟩:=WY (M:=M++[.obj "Web" [("many",I n)]]) ok;obtain⟨o1,nd,h64⟩:=ok;refine⟨vs,pm,?_⟩;have w1:fF [I n] (M++[.obj "Web" []])=some (B true,M++[.obj "Web" []]):=iQ _ _;have c1:decide (n<1)=false:=E2 (by omega);have c2:decide (n > 40)=false:=E2 (by omega);have o1:objOf "Web" (M++[.obj "Web" []]) (.c M.length)=some (M.length,[]):=HY;have s1:(M++[Cell.obj "Web" []]).set M.length (.obj "Web" (xO "many" (I n) []))=M++[.obj "Web" [("many",I n)]]:=sG
 have k1:gW [I n,.d (.list (cE us))] (M++[.obj "Web" [("many",I n)]])=some (.d (.tuple (cX vs)),M++[.obj "Web" [("many",I n)],.dt (bB us)]):=by
  rw[k1,S0];rfl
 have o2:objOf "Web" (M++[.obj "Web" [("many",I n)],.dt (bB us)]) (.c M.length)=some (M.length,([("many",I n)]:List (Str×CD))):=HY;have p2:xO "ties" (.d (.tuple (cX vs))) ([("many",I n)]:List (Str×CD))=([("many",I n),("ties",.d (.tuple (cX vs)))]:List (Str×CD)):=rfl;have s2:(M++[Cell.obj "Web" [("many",I n)],.dt (bB us)]).set M.length (.obj "Web" [("many",I n),("ties",.d (.tuple (cX vs)))])=M++[.obj "Web" [("many",I n),("ties",.d (.tuple (cX vs)))],.dt (bB us)]:=sG;have o3:∀L,objOf "Web" (M++(.obj "Web" [("many",I n),("ties",.d (.tuple (cX vs)))]::L)) (.c M.length)=some (M.length,([("many",I n),("ties",.d (.tuple (cX vs)))]:List (Str×CD))):=fun L=>HY;have lk:List.lookup ("ties":Str) [("many",I n),("ties",.d (.tuple (cX vs)))]=some (.d (.tuple (cX vs))):=rfl
 have it:cC (kB "Web" "ties" (aD 0)) [some (.c M.length),some (I n),some (.d (.list (cE us)))] (M++[.obj "Web" [("many",I n),("ties",.d (.tuple (cX vs)))],.dt (bB us)])=some ((cE (vs.filter big)).map .d,M++[.obj "Web" [("many",I n),("ties",.d (.tuple (cX vs)))],.dt (bB us)]):=by
  have:kB "Web" "ties" (aD 0) [some (.c M.length),some (I n),some (.d (.list (cE us)))] (M++[.obj "Web" [("many",I n),("ties",.d (.tuple (cX vs)))],.dt (bB us)])=some (.d (.tuple (cX vs)),M++[.obj "Web" [("many",I n),("ties",.d (.tuple (cX vs)))],.dt (bB us)]):=by
   simp![kB,o3,lk]
  unfold cC;rw[this];rfl
 have fl:(vs.filter big).length<=vs.length:=I0 ..;have lv:vs.length<64:=by rw[pm.length_eq];exact h64
 have nv:(vs.map Tie.key).Nodup:=(pm.map Tie.key).nodup_iff.mpr nd;have ln:(M++[Cell.obj "Web" [("many",I n),("ties",.d (.tuple (cX vs)))],.dt (bB us)]).length=M.length+2:=by rw[B9];rfl
 have wc:=DP (N:=M++[.obj "Web" [("many",I n),("ties",.d (.tuple (cX vs)))],.dt (bB us)]) (vs.filter big) [] none none none (by rw[A0a];exact GO nv) (by simp only[List.length_nil];omega);rw[A0a]at wc
 have dc:kO [some (.c M.length),some (I n),some (.d (.list (cE us)))] (M++[.obj "Web" [("many",I n),("ties",.d (.tuple (cX vs)))],.dt (bB us)])=some (.c (M.length+2),M++[.obj "Web" [("many",I n),("ties",.d (.tuple (cX vs)))],.dt (bB us),.dt (bB (vs.filter big))]):=by
  unfold kO fDc;rw[it,B3];dsimp only;rw[show iR [none,none,none] [some (CD.c M.length),some (I n),some (.d (.list (cE us)))]=[none,none,none]from rfl,show(M++[Cell.obj "Web" [("many",I n),("ties",CD.d (.tuple (cX vs)))],.dt (bB us)]++[Cell.dt []])=M++[Cell.obj "Web" [("many",I n),("ties",CD.d (.tuple (cX vs)))],.dt (bB us)]++[Cell.dt (bB [])]from rfl,wc,B3,ln,S0];rfl
 have p3:xO "weights" (.c (M.length+2)) ([("many",I n),("ties",.d (.tuple (cX vs)))]:List (Str×CD))=([("many",I n),("ties",.d (.tuple (cX vs))),("weights",.c (M.length+2))]:List (Str×CD)):=rfl;have s3:(M++[Cell.obj "Web" [("many",I n),("ties",.d (.tuple (cX vs)))],.dt (bB us),.dt (bB (vs.filter big))]).set M.length (.obj "Web" [("many",I n),("ties",.d (.tuple (cX vs))),("weights",.c (M.length+2))])=M++aCk M.length n us vs:=sG;have q0:([]:List (Str×CD)).length<1000:=by decide
 have q1:([("many",I n)]:List (Str×CD)).length<1000:=by show 1<1000;decide
 have q2:([("many",I n),("ties",.d (.tuple (cX vs)))]:List (Str×CD)).length<1000:=by show 2<1000;decide
 simp![fK,oO,w1,c1,c2,yO,o1,s1,k1,o2,p2,s2,dc,o3,p3,s3,if_true,if_pos q0,if_pos q1,if_pos q2,show(0:Nat)<1000 from by decide,show(0+1:Nat)<1000 from by decide,show(1:Nat)<1000 from by decide,show(2:Nat)<1000 from by decide,show(0+1+1:Nat)<1000 from by decide]
noncomputable abbrev Inn(n:Nat)(p:Int):Prop:=0<=p/\p<n
theorem AM{α:Type}{xs:List α}{k:Nat}{x:α}(h:xs[k]?=some x):atI xs (k:Int)=some x:=by
 have hk:k<xs.length:=(List.getElem?_eq_some_iff.mp h).1;unfold atI ixN;rw[B0 (Int.natCast_nonneg k),B0 (by omega),B3,J6,h]
theorem bA{f g:SF}{γ':Ga}(h:f γ M=some (.nx γ',M')):aX f g γ M=g γ' M':=by
 unfold aX;rw[h,B3]
theorem cL{f:EF}{i:Nat}{x:CD}(h:f γ M=some (x,M')):aV f (hName i) γ M=some (.nx (γ.set i (some x)),M'):=by
 unfold aV;rw[h,B3];rfl
theorem pP{ps N:Nat}{b:SF}{xs:List CD}{x:CD}(h:xs.length=ps)(hb:b (xs.map some++List.replicate (N-xs.length) none) M=some (.rt x,M')):fnF ps N b xs M=some (x,M'):=by
 unfold fnF;rw[B0 h,hb,B3]
theorem nQ{b:SF}{M1:Sto}{xs:List CD}{r:Option (Out×Sto)}(h:f γ M=some (xs,M1))(hb:lW g b xs γ M1=r):nN f g b γ M=r:=by
 unfold nN;rw[h,B3];exact hb
theorem rP{b:SF}{x:CD}{xs:List CD}{γ1 γ2:Ga}{M1 M2:Sto}(h:g x γ M=some (γ1,M1))(hb:b γ1 M1=some (.nx γ2,M2)):lW g b (x::xs) γ M=lW g b xs γ2 M2:=by
 conv=>lhs;unfold lW
 rw[h,B3];dsimp only;rw[hb,B3]
theorem sl_tup{lo hi:Option Int}:slF (.d (.tuple ds)) lo hi M=some (.d (.tuple (qQ ds lo hi)),M):=rfl
theorem UN{xs ys:List PyData}(hl:xs.length+ys.length<=1000):fU (.d (.tuple xs)) (.d (.tuple ys)) M=some (.d (.tuple (xs++ys)),M):=by
 cases xs with
 |nil=>rfl
 |cons x xs=>
  have h:(x::xs:List PyData)≠[]/\(x::xs).length+ys.length<=sizeLine:=⟨by simp,sz hl⟩;show(if (x::xs:List PyData)≠[]/\(x::xs).length+ys.length<=sizeLine then some (CD.d (.tuple (x::xs++ys)),M)else none)=_;rw[B0 h]
theorem BR{α:Type}{ds:List α}{k m:Int}(hm:0<m)(hl:(ds.length:Int)=m):∃d,atI ds (k % m)=some d/\d∈ds:=by
 have h1:=Y6 k (show m≠0 by omega);have h2:=S7 k hm;have hk:(k % m).toNat<ds.length:=by omega
 obtain⟨q,hq⟩:∃q:Nat,k % m=(q:Nat):=⟨(k % m).toNat,by omega⟩;rw[hq]at hk ⊢;rw[J6]at hk;exact⟨ds[q],AM (B6 hk),U9 hk⟩
noncomputable abbrev cI(xs:List Int):Cell:=.lst (xs.map fun i=>I i)
noncomputable def Li(M:Sto)(c:Nat)(xs:List Int):Prop:=M[c]?=some (cI xs)
structure Oth(c:Nat)(M M':Sto):Prop where
 len:M'.length=M.length
 at_:∀i,i≠c->M'[i]?=M[i]?
theorem Li.lt(h:Li M c xs):c<M.length:=(List.getElem?_eq_some_iff.mp h).1
theorem Li.set(h:Li M c xs):Li (M.set c (cI ys)) c ys/\Oth c M (M.set c (cI ys)):=
 ⟨by unfold Li;rw[J3 h.lt],by rw[O6],fun i hi=>by rw[F6 (O7 hi)]⟩
theorem Li.oth(h:Li M c xs)(o:Oth d M M')(ne:c≠d):Li M' c xs:=by unfold Li;rw[o.at_ c ne];exact h
theorem Li.app{L:Sto}(h:Li M c xs):Li (M++L) c xs:=by unfold Li;rw[L5 h.lt];exact h
theorem Li.ty(h:Li M c xs):tyB "list" M (.c c)=true:=by
 unfold Li at h;simp only[tyB,h];decide
theorem Li.ln(h:Li M c xs):lB [.c c] M=some (I xs.length,M):=by
 unfold Li at h;simp only[lB,h,List.length_map]
theorem aEw{α:Type}{xs:List α}{p:Int}(h:Inn xs.length p):∃z,atI xs p=some z/\z∈xs:=by
 obtain⟨q,rfl⟩:∃q:Nat,p=(q:Nat):=⟨p.toNat,by omega⟩;have hk:q<xs.length:=by omega
 exact⟨xs[q],AM (B6 hk),U9 hk⟩
theorem Li.ix{p:Int}(h:Li M c xs)(hp:Inn xs.length p):∃z,ixF (.c c) (I p) M=some (I z,M):=by
 obtain⟨z,h1,h2⟩:=aEw (xs:=xs.map fun i=>I i) (p:=p) (by rw[A3];exact hp);obtain⟨y,_,rfl⟩:=List.mem_map.mp h2;refine⟨y,?_⟩;unfold Li at h;simp only[ixF,h,h1,Option.bind_some]
theorem Li.put{p:Int}(h:Li M c xs)(hp:Inn xs.length p):∃ys,ys.length=xs.length/\BP (.c c) (I p) (I z) M=some (M.set c (cI ys)):=by
 obtain⟨q,rfl⟩:∃q:Nat,p=(q:Nat):=⟨p.toNat,by omega⟩;refine⟨xs.set q z,by rw[O6],?_⟩
 have hn:ixN (xs.map fun i=>I i).length (q:Int)=some q:=by
  unfold ixN;rw[B0 (Int.natCast_nonneg q),B0 (by rw[A3];omega),J6]
 unfold Li at h;simp only[BP,h,hn,Option.bind_some,cI,List.map_set]
theorem Li.push(h:Li M c xs)(hl:xs.length<1000):eE (.c c) [I z] M=some (.d .none,M.set c (cI (xs++[z]))):=by
 have l:(xs.map fun i=>I i).length<sizeLine:=by rw[A3,F8];omega
 unfold Li at h;simp only[eE,h,if_pos l,cI,List.map_append,List.map_singleton]
theorem Li.pop(h:Li M c (xs++[z])):gH (.c c) [] M=some (I z,M.set c (cI xs)):=by
 have e1:((xs++[z]).map fun i=>I i)[((xs++[z]).map fun i=>I i).length-1]?=some (I z):=by
  rw[A3,B9,E7,Nat.add_sub_cancel,C0,F0 (A7 _),S4];rfl
 have e2:((xs++[z]).map fun i=>I i).dropLast=xs.map fun i=>I i:=by
  rw[J8,List.map_singleton,List.dropLast_concat]
 unfold Li at h;simp only[gH,h,e1,e2,Option.bind_some]
noncomputable def Dk(M:Sto)(c m:Nat):Prop:=∃xs,Li M c xs/\m<=xs.length
theorem Dk.app{L:Sto}(h:Dk M c m):Dk (M++L) c m:=let⟨xs,a,b⟩:=h;⟨xs,a.app,b⟩
theorem Dk.pop(h:Dk M c (m+1)):∃z M',gH (.c c) [] M=some (I z,M')/\Dk M' c m/\Oth c M M':=by
 obtain⟨xs,a,b⟩:=h;rcases List.eq_nil_or_concat xs with rfl|⟨ys,z,rfl⟩
 .simp at b
 .rw[List.concat_eq_append]at a b;rw[B9,E7]at b;exact⟨z,_,a.pop,⟨ys,(a.set).1,by omega⟩,(a.set).2⟩
theorem Dk.ty(h:Dk M c m):tyB "list" M (.c c)=true:=let⟨_,a,_⟩:=h;a.ty
theorem CJ(lo:Int)(n:Nat):fE lo (n+1)=I lo::fE (lo+1) n:=by
 unfold fE;rw[List.range_succ_eq_map,C6,E5];refine congr (U6 List.cons ?_) (L9 fun k _=>?_)
 .show CD.d (.int (lo+((0:Nat):Int)))=I lo;rw[show lo+((0:Nat):Int)=lo by omega]
 .show CD.d (.int (lo+((k+1:Nat):Int)))=.d (.int (lo+1+(k:Nat)));rw[show lo+((k+1:Nat):Int)=lo+1+(k:Nat)by omega]
theorem NX(h:i.natAbs<2 ^ 64):fV i j=true:=by unfold fV;rw[C5 h];rfl
theorem mul_r(h:j.natAbs<2 ^ 64):fV i j=true:=by unfold fV;rw[C5 h,Bool.or_true];rfl
theorem nab(h0:0<=z)(h1:z<b)(hb:b<=2 ^ 62):z.natAbs<2 ^ 64:=by omega
noncomputable abbrev GD(s many:CD)(r d:Nat)(o:Int)(k at_ one:Option CD):Ga:=[some s,some many,some (.c r),some (I o),some (.c d),k,at_,one]
theorem KO{s many:CD}{r:Nat}{o k:Int}{ds:List Int}{g6 g7:Option CD}(hr:Li M r xs)(hd:Li M d ds)(ne:r≠d)(x0:0<xs.length)(hl:ds.length<1000)(k0:0<=k)(k1:k<1000):
 ∃xs' ds' g6' g7' M',cZ (GD s many r d o (some (I k)) g6 g7) M=some (.nx (GD s many r d o (some (I k)) g6' g7'),M')/\Li M' r xs'/\Li M' d ds'/\xs'.length=xs.length/\ds'.length=ds.length+1:=by
 have ln:=hr.ln;have p1:=Y6 k (show(xs.length:Int)≠0 by omega);have p2:=S7 k (show(0:Int)<xs.length by omega);obtain⟨z,ix⟩:=hr.ix (p:=k % xs.length) ⟨p1,p2⟩;have m1:eY k xs.length=true:=bV (by omega);have m2:∀y,eY y 1000000=true:=fun y=>bV (by decide);have m3:∀y,eY y 2147483629=true:=fun y=>bV (by decide);have m4:∀y,eY y 2147483647=true:=fun y=>bV (by decide);have m5:∀y,eY y 4=true:=fun y=>bV (by decide);have dv:∀y,jN y 1000000=true:=fun y=>gR (by decide) (wsm (by decide) (by decide));obtain⟨ys,yl,st⟩:=hr.put (p:=k % xs.length) (z:=z / 1000000) ⟨p1,p2⟩;generalize (xs.length:Int)=J at ln p1 p2 ix m1 st;cases h:(o==0)with
 |true=>
  obtain⟨c,hc,hcm⟩:=BR (ds:=([.int 48271,.int 69621,.int 39373,.int 40692]:List PyData)) (k:=k) (m:=4) (by decide) rfl
  obtain⟨cv,rfl,hcv⟩:∃v:Int,c=.int v/\v.natAbs<2 ^ 64:=by
   simp only[List.mem_cons,List.not_mem_nil,or_false]at hcm;rcases hcm with rfl|rfl|rfl|rfl<;>exact⟨_,rfl,by decide⟩
  have xk:ixF (.d (.list [.int 48271,.int 69621,.int 39373,.int 40692])) (I (k % 4)) M=some (I cv,M):=by
   show(atI [PyData.int 48271,.int 69621,.int 39373,.int 40692] (k % 4)).bind _=_;rw[hc];rfl
  have q1:fV k k=true:=NX (nab k0 (b:=1000) k1 (by decide));have q2:fV (k*k) 16807=true:=mul_r (by decide);have q3:fV 3 k=true:=NX (by decide);have q4:∀y,fV y cv=true:=fun y=>mul_r hcv;have a1:∀i j:Int,fU (I i) (I j) M=some (I (i+j),M):=fun i j=>rfl;have q5:∀y,fV (y % 2147483647) (y % 2147483647)=true:=fun y=>NX (nab (Y6 _ (by decide)) (S7 _ (by decide)) (by decide));generalize hv:(z+k*k*16807+3*k) % 2147483629=v1;have pu:=fun y=>hd.push (z:=y) hl;refine⟨xs,ds++[(v1*cv+7) % 2147483647*((v1*cv+7) % 2147483647) % 2147483629],some (I (k % J)),some (I ((v1*cv+7) % 2147483647*((v1*cv+7) % 2147483647) % 2147483629)),_,?_,hr.oth (hd.set).2 ne,(hd.set).1,rfl,by rw[B9,E7]⟩;simp![cZ,ln,m1,m2,ix,BU,h,q1,q2,q3,a1,m3,hv,uZ,m5,xk,q4,m4,q5,bQ,hd.ty,pu]
 |false=>
  have hr':=hr.set (ys:=ys);have hd':=hd.oth hr'.2 (O7 ne);have pu:=hd'.push (z:=z % 1000000) hl;refine⟨ys,ds++[z % 1000000],some (I (k % J)),some (I (z % 1000000)),_,?_,hr'.1.oth (hd'.set).2 ne,(hd'.set).1,yl,by rw[B9,E7]⟩;simp![cZ,ln,m1,m2,ix,BU,h,dv,st,bQ,hd'.ty,pu]
theorem yI{s many:CD}{r d:Nat}{o:Int}:∀(m:Nat)(k:Int)(M:Sto)(xs ds:List Int)(g5 g6 g7:Option CD),Li M r xs->Li M d ds->r≠d->0<xs.length->0<=k->k+m<900->ds.length+m<900->
 ∃ds' g5' g6' g7' M',lW (hName 5) cZ (fE k m) (GD s many r d o g5 g6 g7) M=some (.nx (GD s many r d o g5' g6' g7'),M')/\Li M' d ds'/\ds'.length=ds.length+m
 |0=>fun k M xs ds g5 g6 g7 hr hd ne x0 k0 _ _=>⟨ds,g5,g6,g7,M,rfl,hd,rfl⟩
 |m+1=>fun k M xs ds g5 g6 g7 hr hd ne x0 k0 hk hl=>by
  obtain⟨xs1,ds1,a6,a7,M1,t,h1,h2,h3,h4⟩:=KO (s:=s) (many:=many) (o:=o) (g6:=g6) (g7:=g7) hr hd ne x0 (by omega) k0 (show k<1000 by omega);obtain⟨ds',b5,b6,b7,M',l,h5,h6⟩:=yI (s:=s) (many:=many) (o:=o) m (k+1) M1 xs1 ds1 (some (I k)) a6 a7 h1 h2 ne (by omega) (by omega) (by omega) (by omega);refine⟨ds',b5,b6,b7,M',?_,h5,by omega⟩;rw[CJ,rP (show hName 5 (I k) (GD s many r d o g5 g6 g7) M=some (GD s many r d o (some (I k)) g6 g7,M)from rfl) t];exact l
theorem vE(n:Nat)(M:Sto):∀ns:List Int,oC n M (ns.map fun i=>I i)=some (ns.map .int)
 |[]=>by unfold oC;rfl
 |i::ns=>by
  rw[C6];unfold oC;rw[FL,B3,vE n M ns];rfl
theorem uF:∀ns:List Int,PyData.canLayAll0 (ns.map .int)=true
 |[]=>rfl
 |n::ns=>by show(true&&PyData.canLayAll0 (ns.map .int))=true;rw[uF ns];rfl
theorem wD:∀ns:List Int,PyData.depthAll (ns.map .int)=0
 |[]=>rfl
 |n::ns=>by show max 0 (PyData.depthAll (ns.map .int))=0;rw[wD ns];rfl
theorem shaped_ints(ns:List Int):SeqAt.shaped (.list (ns.map .int))=true:=by
 unfold SeqAt.shaped;have e1:PyData.canLay0 (.list (ns.map .int))=true:=uF ns;have e2:PyData.depth (.list (ns.map .int))=1:=by show PyData.depthAll (ns.map .int)+1=1;rw[wD]
 rw[e1,e2];rfl
theorem XH(h:Li M c ns):eqY false (.c c) (.d (.list [])) M=some (B ns.isEmpty,M):=by
 have s1:snap 5 M (.c c)=some (.list (ns.map .int)):=by
  unfold Li at h;unfold snap;rw[h];show(oC 4 M (ns.map fun i=>I i)).bind _=_;rw[vE];rfl
 have s2:snap 5 M (.d (.list []))=some (.list []):=by rw[FL]
 show eqC false (.c c) (.d (.list [])) M=_;unfold eqC;rw[s1,B3,s2,B3,shaped_ints,show SeqAt.shaped (.list [])=true from rfl];cases ns<;>rfl
theorem aEp{x:CD}(sm:dD J=true):cU (aC (aD 1) aG) (x::some (I J)::γ) M=some (fE 0 J.toNat,M):=by
 simp![cU,sm]
theorem aCP(ns:List Int):∃c M,jW [.d (.list (ns.map .int)),I 260] []=some (.c c,M)/\Dk M c 260:=by
 have s0:(0:Nat)<=sizeLine:=J5 _;have s1:(1:Nat)<=sizeLine:=by decide
 have st:∀(r:Nat)(M:Sto)(xs:List Int),Li M r xs->0<xs.length->∃c M',(aX (aV (fOp bY (fOp ixF (aD 2) (fC (.int 0))) (fC (.int 2))) (hName 3))
 (aX (aV (fOp dF (fOp ixF (aD 2) (fC (.int 0))) (fC (.int 2))) (hSub (aD 2) (fC (.int 0)) BP))
 (aX (aV (pY aG) (hName 4))
 (aX (nN (cU (aC (aD 1) aG)) (hName 5) cZ)
 (aX (lA (bQ "list" iV (aD 4) aG))
 (cO (aD 4))))))) [some (.d (.list (ns.map .int))),some (I 260),some (.c r),none,none,none,none,none] M=some (.rt (.c c),M')/\Dk M' c 260:=by
  intro r M xs hr x0;obtain⟨z,ix⟩:=hr.ix (p:=0) ⟨by decide,by omega⟩;have m2:∀y,eY y 2=true:=fun y=>bV (by decide);have d2:∀y,jN y 2=true:=fun y=>gR (by decide) (wsm (by decide) (by decide));obtain⟨ys,yl,pt⟩:=hr.put (p:=0) (z:=z / 2) ⟨by decide,by omega⟩;have hr1:=(hr.set (ys:=ys)).1;have hr2:=hr1.app (L:=[Cell.lst []]);have ml:(M.set r (cI ys)).length=M.length:=by rw[O6]
  have hd:Li (M.set r (cI ys)++[Cell.lst []]) M.length []:=by
   unfold Li;rw[<- ml,F0 (A7 _),S4];rfl
  have rl:=hr.lt;obtain⟨ds,a5,a6,a7,M',lp,hd',hl⟩:=yI (s:=.d (.list (ns.map .int))) (many:=I 260) (o:=z % 2) 260 0 _ ys [] none none none hr2 hd (by omega) (by omega) (by decide) (by decide) (by decide);have rg:cU (aC (aD 1) aG) (GD (.d (.list (ns.map .int))) (I 260) r M.length (z % 2) none none none) (M.set r (cI ys)++[Cell.lst []])=some (fE 0 260,M.set r (cI ys)++[Cell.lst []]):=aEp (J:=260) (by decide);have sf:=nQ rg lp
  have rv:iV (.c M.length) [] M'=some (.d .none,M'.set M.length (cI ds.reverse)):=by
   have:=hd';unfold Li at this;simp only[iV,this];rw[cI,List.map_reverse]
  refine⟨M.length,M'.set M.length (cI ds.reverse),?_,ds.reverse,(hd'.set).1,by rw[List.length_reverse,hl];exact A7 _⟩
  have a1:aV (fOp bY (fOp ixF (aD 2) (fC (.int 0))) (fC (.int 2))) (hName 3) [some (.d (.list (ns.map .int))),some (I 260),some (.c r),none,none,none,none,none] M=some (.nx [some (.d (.list (ns.map .int))),some (I 260),some (.c r),some (I (z % 2)),none,none,none,none],M):=by
   simp![ix,m2]
  have a2:aV (fOp dF (fOp ixF (aD 2) (fC (.int 0))) (fC (.int 2))) (hSub (aD 2) (fC (.int 0)) BP) [some (.d (.list (ns.map .int))),some (I 260),some (.c r),some (I (z % 2)),none,none,none,none] M=some (.nx [some (.d (.list (ns.map .int))),some (I 260),some (.c r),some (I (z % 2)),none,none,none,none],M.set r (cI ys)):=by
   simp![ix,d2,pt]
  have a3:aV (pY aG) (hName 4) [some (.d (.list (ns.map .int))),some (I 260),some (.c r),some (I (z % 2)),none,none,none,none] (M.set r (cI ys))=some (.nx (GD (.d (.list (ns.map .int))) (I 260) r M.length (z % 2) none none none),M.set r (cI ys)++[Cell.lst []]):=by
   simp![s0,ml]
  rw[bA a1,bA a2,bA a3,bA sf];simp![bQ,hd'.ty,rv]
 have l0:xY [.d (.list (ns.map .int))] []=some (.c 0,[cI ns]):=by
  show some (CD.c 0,[]++[Cell.lst ((ns.map PyData.int).map .d)])=_;rw[E5];rfl
 have h0:Li [cI ns] 0 ns:=rfl;have eq:=XH h0
 have b1:aV (aK xY (aC (aD 0) aG)) (hName 2) [some (.d (.list (ns.map .int))),some (I 260),none,none,none,none,none,none] []=some (.nx [some (.d (.list (ns.map .int))),some (I 260),some (.c 0),none,none,none,none,none],[cI ns]):=by
  simp![l0]
 cases he:ns.isEmpty with
 |true=>
  rw[he]at eq;obtain⟨c,M',h1,h2⟩:=st 1 ([cI ns]++[cI [4]]) [4] rfl (by decide);refine⟨c,M',pP rfl ?_,h2⟩
  have b2:sIf (gB (fOp (eqY false) (aD 2) (pE aG))) (aV (pY (aC (fC (.int 4)) aG)) (hName 2)) dM [some (.d (.list (ns.map .int))),some (I 260),some (.c 0),none,none,none,none,none] [cI ns]=some (.nx [some (.d (.list (ns.map .int))),some (I 260),some (.c 1),none,none,none,none,none],[cI ns]++[cI [4]]):=by
   simp![s0,s1,eq];rfl
  unfold jV;show aX _ _ [some (.d (.list (ns.map .int))),some (I 260),none,none,none,none,none,none] []=_;rw[bA b1,bA b2];exact h1
 |false=>
  rw[he]at eq;obtain⟨c,M',h1,h2⟩:=st 0 [cI ns] ns rfl (by cases ns with|nil=>cases he|cons _ _=>simp);refine⟨c,M',pP rfl ?_,h2⟩
  have b2:sIf (gB (fOp (eqY false) (aD 2) (pE aG))) (aV (pY (aC (fC (.int 4)) aG)) (hName 2)) dM [some (.d (.list (ns.map .int))),some (I 260),some (.c 0),none,none,none,none,none] [cI ns]=some (.nx [some (.d (.list (ns.map .int))),some (I 260),some (.c 0),none,none,none,none,none],[cI ns]):=by
   simp![s0,s1,eq]
  unfold jV;show aX _ _ [some (.d (.list (ns.map .int))),some (I 260),none,none,none,none,none,none] []=_;rw[bA b1,bA b2];exact h1
structure Ex(c:Nat)(M M':Sto):Prop where
 len:M.length<=M'.length
 at_:∀i,i<M.length->i≠c->M'[i]?=M[i]?
theorem Ex.refl(c:Nat)(M:Sto):Ex c M M:=⟨A7 _,fun _ _ _=>rfl⟩
theorem Ex.trans{M1 M2:Sto}(a:Ex c M M1)(b:Ex c M1 M2):Ex c M M2:=⟨C7 a.len b.len,fun i h n=>(b.at_ i (B8 h a.len) n).trans (a.at_ i h n)⟩
theorem Oth.ex(o:Oth c M M'):Ex c M M':=⟨Nat.le_of_eq o.len.symm,fun i _ n=>o.at_ i n⟩
theorem Ex.app(c:Nat)(M L:Sto):Ex c M (M++L):=⟨by rw[B9];omega,fun i h _=>L5 h⟩
theorem Ex.to{i:Nat}{x:Cell}(e:Ex c M M')(h:M[i]?=some x)(n:i≠c):M'[i]?=some x:=by rw[e.at_ i (List.getElem?_eq_some_iff.mp h).1 n];exact h
theorem Ex.put{j:Nat}{x:Cell}(e:Ex c M M')(h:M.length<=j):Ex c M (M'.set j x):=⟨by rw[O6];exact e.len,fun i hi n=>by rw[F6 (by omega)];exact e.at_ i hi n⟩
theorem Dk.le{n:Nat}(h:Dk M c m)(l:n<=m):Dk M c n:=let⟨xs,a,b⟩:=h;⟨xs,a,C7 l b⟩
theorem Dk.lt(h:Dk M c m):c<M.length:=let⟨_,a,_⟩:=h;a.lt
theorem Dk.put{j:Nat}{x:Cell}(h:Dk M c m)(n:j≠c):Dk (M.set j x) c m:=let⟨xs,a,b⟩:=h;⟨xs,by unfold Li;rw[F6 n];exact a,b⟩
theorem Dk.popE(h:Dk M c (m+1)):∃z M',gH (.c c) [] M=some (I z,M')/\Dk M' c m/\Ex c M M':=let⟨z,M',a,b,d⟩:=h.pop;⟨z,M',a,b,d.ex⟩
theorem pop_at(hv:γ[v]?=some (some (.c c)))(ty:tyB "list" M (.c c)=true)(h:gH (.c c) [] M=some (I z,M')):bQ "list" gH (aD v) aG γ M=some (I z,M'):=by
 simp only[bQ,aD,hv,aG,Option.bind_some,ty,if_true,h]
theorem oS{g:GF}{b:SF}{n:Nat}{Inv:Nat->Ga->Sto->Prop}(step:∀k,k<n->∀γ M,Inv k γ M->∃γ1 γ' M',g (I (k:Nat)) γ M=some (γ1,M)/\b γ1 M=some (.nx γ',M')/\Inv (k+1) γ' M'):
 ∀(m k:Nat)(γ:Ga)(M:Sto),k+m=n->Inv k γ M->∃γ' M',lW g b (fE (k:Nat) m) γ M=some (.nx γ',M')/\Inv n γ' M'
 |0=>fun k γ M h i=>⟨γ,M,rfl,by rw[<- h];exact i⟩
 |m+1=>fun k γ M h i=>by
  obtain⟨γ1,γ2,M1,e1,e2,i1⟩:=step k (by omega) γ M i;obtain⟨γ',M',e3,i2⟩:=oS step m (k+1) γ2 M1 (by omega) i1;refine⟨γ',M',?_,i2⟩;rw[CJ,rP e1 e2,show((k:Nat):Int)+1=((k+1:Nat):Int)by omega];exact e3
theorem vV{g:GF}{c:TF}{e:EF}{X E:CD->Prop}{Inv:Nat->Ga->Sto->Prop}
 (step:∀m x γ M,X x->Inv (m+1) γ M->∃γ1,g x γ M=some (γ1,M)/\∃b M2,c γ1 M=some (b,M2)/\(b=false->Inv m γ1 M2)/\(b=true->∃y M3,e γ1 M2=some (y,M3)/\E y/\Inv m γ1 M3)):
 ∀(xs:List CD)(γ:Ga)(M:Sto),(∀x∈xs,X x)->Inv xs.length γ M->∃ys γ' M',lcF g c e xs γ M=some (ys,M')/\(∀y∈ys,E y)/\ys.length<=xs.length/\Inv 0 γ' M'
 |[]=>fun γ M _ i=>⟨[],γ,M,rfl,fun y h=>by simp at h,A7 _,i⟩
 |x::xs=>fun γ M hx i=>by
  obtain⟨γ1,e1,b,M2,e2,hf,ht⟩:=step _ x γ M (hx x A9) i;cases b with
  |false=>
   obtain⟨ys,γ',M',e3,h1,h2,h3⟩:=vV step xs γ1 M2 (fun y hy=>hx y (A8 _ hy)) (hf rfl);refine⟨ys,γ',M',?_,h1,Nat.le_succ_of_le h2,h3⟩;simp only[lcF,e1,Option.bind_some,e2,Bool.false_eq_true,if_false,e3]
  |true=>
   obtain⟨y,M3,e4,hy,i3⟩:=ht rfl;obtain⟨ys,γ',M',e3,h1,h2,h3⟩:=vV step xs γ1 M3 (fun y hy=>hx y (A8 _ hy)) i3;refine⟨y::ys,γ',M',?_,fun z hz=>?_,Nat.succ_le_succ h2,h3⟩
   .simp only[lcF,e1,Option.bind_some,e2,if_true,e4,e3]
   .rcases List.mem_cons.mp hz with rfl|hz
    .exact hy
    .exact h1 z hz
noncomputable def Rg(lo hi:Int)(x:CD):Prop:=∃k:Int,x=I k/\lo<=k/\k<hi
theorem AG{lo:Int}{n:Nat}:∀x∈fE lo n,Rg lo (lo+n) x:=fun x hx=>by
 unfold fE at hx;obtain⟨k,hk,rfl⟩:=List.mem_map.mp hx;have:=List.mem_range.mp hk;exact⟨lo+(k:Nat),rfl,by omega,by omega⟩
theorem fA(lo:Int)(n:Nat):(fE lo n).length=n:=by unfold fE;rw[A3,Z0]
theorem pR(h:fa γ M=some ([I J],M))(sm:dD J=true):cU fa γ M=some (fE 0 J.toNat,M):=by
 simp only[cU,h,Option.bind_some,sm,if_true]
theorem uV(h:fa γ M=some ([I i,I j],M))(s1:dD i=true)(s2:dD j=true):qV fa γ M=some (fE i (j-i).toNat,M):=by
 simp only[qV,h,Option.bind_some];rw[B0 ⟨s1,s2⟩]
theorem mO(h0:-1000<=i)(h1:i<=1000):dD i=true:=by
 unfold dD;rw[B5];exact⟨C5 (by omega),C5 (by omega)⟩
theorem BC{cap:List (Option Nat)}{c:TF}{M1 M2:Sto}{xs ys:List CD}(it:f γ M=some (xs,M1))(hl:xs.length<=1000)(l:lcF g c e xs (iR cap γ) M1=some (ys,M2))(hy:ys.length<=1000):FD cap f g c e γ M=some (.c M2.length,M2++[.lst ys]):=by
 unfold FD pY tV;rw[it,B3,B0 (sz hl),l,B3,B0 (sz hy)]
theorem iS{cap:List (Option Nat)}{c:TF}{M1 M2:Sto}{xs:List CD}(it:f γ M=some (xs,M1))(hl:xs.length<=1000)(l:lcF g c e xs (iR cap γ) M1=some (ds.map .d,M2))(hy:ds.length<=1000):fLc cap f g c e γ M=some (.d (.list ds),M2):=RJ it (sz hl) l (sz hy)
theorem AH{E:PyData->Prop}:∀{ys:List CD},(∀y∈ys,∃d,y=.d d/\E d)->∃ds:List PyData,ys=ds.map .d/\∀d∈ds,E d
 |[]=>fun _=>⟨[],rfl,fun d h=>by simp at h⟩
 |y::ys=>fun h=>by
  obtain⟨d,rfl,hd⟩:=h y A9;obtain⟨ds,rfl,hs⟩:=AH fun z hz=>h z (A8 _ hz);refine⟨d::ds,rfl,fun z hz=>?_⟩;rcases List.mem_cons.mp hz with rfl|hz
  .exact hd
  .exact hs z hz
theorem pL{c:TF}{a b:SF}(h:c γ M=some (true,M')):sIf c a b γ M=a γ M':=by simp only[sIf,h,Option.bind_some,if_true]
theorem mL{c:TF}{a b:SF}(h:c γ M=some (false,M')):sIf c a b γ M=b γ M':=by simp only[sIf,h,Option.bind_some,Bool.false_eq_true,if_false]
noncomputable def Pr(n:Int)(y:CD):Prop:=∃i j:Int,y=T2 i j/\0<=i/\i<n/\0<=j/\j<n
noncomputable def Pl(M:Sto)(p:Nat)(n:Int)(L:Nat):Prop:=∃ys,M[p]?=some (.lst ys)/\(∀y∈ys,Pr n y)/\ys.length<=L
theorem Pl.le{L':Nat}(h:Pl M p n L)(l:L<=L'):Pl M p n L':=let⟨ys,a,b,d⟩:=h;⟨ys,a,b,C7 d l⟩
theorem Pl.new{ys:List CD}(h:∀y∈ys,Pr n y)(l:ys.length<=L):Pl (M++[.lst ys]) M.length n L:=⟨ys,oJ,h,l⟩
theorem Pl.to(h:Pl M p n L)(e:Ex c M M')(ne:p≠c):Pl M' p n L:=let⟨ys,a,b,d⟩:=h;⟨ys,e.to a ne,b,d⟩
theorem aDg{xs:List CD}(h:M[p]?=some (.lst xs))(l:xs.length+ds.length<=1000):sT (.c p) (.d (.list ds)) M=some (.c M.length,M++[.lst (xs++ds.map .d)]):=by
 have e1:rB M (.c p)=some xs:=by simp only[rB,h]
 have e2:rB M (.d (.list ds))=some (ds.map .d):=rfl;unfold sT;rw[e1,B3,e2,B3,B0 (by rw[A3];exact sz l)]
theorem Pl.cat{k:Nat}{ds:List PyData}(h:Pl M p n L)(hd:∀y∈ds.map CD.d,Pr n y)(hk:ds.length<=k)(l:L+k<=1000):∃M',sT (.c p) (.d (.list ds)) M=some (.c M.length,M')/\Pl M' M.length n (L+k)/\∃x,M'=M++[x]:=by
 obtain⟨ys,a,b,d⟩:=h;refine⟨_,aDg a (by omega),Pl.new (fun y hy=>?_) (by rw[B9,A3];omega),_,rfl⟩;rcases List.mem_append.mp hy with h|h
 .exact b y h
 .exact hd y h
theorem AQ{ys:List CD}(h:∀y∈ys,Pr n y):∃ds:List PyData,ys=ds.map .d:=by
 obtain⟨ds,e,_⟩:=AH (E:=fun _=>True) fun y hy=>let⟨i,j,q,_⟩:=h y hy;⟨_,q,True.intro⟩;exact⟨ds,e⟩
theorem s2:(2:Nat)<=sizeLine:=by decide
theorem sY{m:Int}(h:0<m):0<=z % m/\z % m<m:=⟨Y6 _ (by omega),S7 _ h⟩
theorem GC:fU (I i) (I j) M=some (I (i+j),M):=rfl
theorem nM{g:GF}{c:TF}{e:EF}{n lo:Int}{N:Nat}{M:Sto}{Sh:Ga->Prop}(h0:Sh γ)
 (st:∀k γ,lo<=k->k<lo+N->Sh γ->∃γ1,g (I k) γ M=some (γ1,M)/\Sh γ1/\∃b,c γ1 M=some (b,M)/\(b=true->∃y,e γ1 M=some (y,M)/\Pr n y)):
 ∃ys,lcF g c e (fE lo N) γ M=some (ys,M)/\(∀y∈ys,Pr n y)/\ys.length<=N:=by
 obtain⟨ys,γ',M',e1,e2,e3,e4⟩:=vV (g:=g) (c:=c) (e:=e) (X:=Rg lo (lo+N)) (E:=Pr n) (Inv:=fun _ γ M'=>M'=M/\Sh γ) (fun m x γ M' hx hi=>by
  obtain⟨k,rfl,k0,k1⟩:=hx;obtain⟨rfl,hs⟩:=hi;obtain⟨γ1,q1,q2,b,q3,q4⟩:=st k γ k0 k1 hs;refine⟨γ1,q1,b,_,q3,fun _=>⟨rfl,q2⟩,fun hb=>?_⟩;obtain⟨y,q5,q6⟩:=q4 hb;exact⟨y,_,q5,q6,rfl,q2⟩) (fE lo N) γ M AG ⟨rfl,h0⟩
 rw[e4.1]at e1;rw[fA]at e3;exact⟨ys,e1,e2,e3⟩
section
variable{n:Int}{γ:Ga}{M:Sto}
theorem aDO(n0:2<=n)(n9:n<=8)(h1:γ[1]?=some (some (I n))):∃ys,dZ γ M=some (.c M.length,M++[.lst ys])/\(∀y∈ys,Pr n y)/\ys.length<=9:=by
 obtain⟨ys,e1,e2,e3⟩:=nM (g:=hName 1) (c:=gE) (e:=dJ (aC (aD 1) (aC (fOp bY (fOp fU (aD 1) (fC (.int 1))) (aD 0)) aG))) (n:=n) (lo:=0) (N:=n.toNat) (γ:=[some (I n),none]) (M:=M) (Sh:=fun γ=>∃s,γ=[some (I n),s]) ⟨_,rfl⟩ (fun k γ k0 k1 hs=>by
  obtain⟨s,rfl⟩:=hs;have m1:eY (k+1) n=true:=bV (by omega);have mi:=sY (z:=k+1) (m:=n) (by omega);exact⟨[some (I n),some (I k)],rfl,⟨_,rfl⟩,true,rfl,fun _=>⟨T2 k ((k+1) % n),by simp![GC,m1,s2],k,_,rfl,k0,by omega,mi.1,mi.2⟩⟩)
 refine⟨ys,?_,e2,by omega⟩;unfold dZ;refine BC (pR (J:=n) (by simp![h1]) (mO (by omega) (by omega))) (by rw[fA];omega) ?_ (by omega);have:iR [some 1,none] γ=[some (I n),none]:=by simp only[iR,List.map_cons,List.map_nil,Option.bind_some,Option.bind_none,h1];rfl
 rw[this];exact e1
theorem aEB(n0:2<=n)(n9:n<=8)(h1:γ[1]?=some (some (I n))):∃ys,fO γ M=some (.c M.length,M++[.lst ys])/\(∀y∈ys,Pr n y)/\ys.length<=9:=by
 obtain⟨ys,e1,e2,e3⟩:=nM (g:=hName 0) (c:=gE) (e:=dJ (aC (fC (.int 0)) (aC (aD 0) aG))) (n:=n) (lo:=1) (N:=(n-1).toNat) (γ:=[none]) (M:=M) (Sh:=fun γ=>∃s,γ=[s]) ⟨_,rfl⟩ (fun k γ k0 k1 hs=>by
  obtain⟨s,rfl⟩:=hs;exact⟨[some (I k)],rfl,⟨_,rfl⟩,true,rfl,fun _=>⟨T2 0 k,by simp![s2],0,k,rfl,by decide,by omega,by omega,by omega⟩⟩)
 refine⟨ys,?_,e2,by omega⟩;unfold fO;exact BC (uV (i:=1) (j:=n) (by simp![h1]) (by decide) (mO (by omega) (by omega))) (by rw[fA];omega) e1 (by omega)
theorem aEJ{k:Int}(k0:0<=k)(kn:k<n)(n9:n<=8)(h6:γ[6]?=some (some (I k)))(h5:γ[5]?=some (some (I mid))):∃ds,iY γ M=some (.d (.list ds),M)/\(∀y∈ds.map CD.d,Pr n y)/\ds.length<=k.toNat:=by
 obtain⟨ys,e1,e2,e3⟩:=nM (g:=hName 2) (c:=gB (fOp (eqX false) (fOp ltI (aD 2) (aD 1)) (fOp ltI (aD 0) (aD 1)))) (e:=dJ (aC (aD 2) (aC (aD 0) aG))) (n:=n) (lo:=0) (N:=k.toNat) (γ:=[some (I k),some (I mid),none]) (M:=M) (Sh:=fun γ=>∃s,γ=[some (I k),some (I mid),s]) ⟨_,rfl⟩ (fun j γ j0 j1 hs=>by
  obtain⟨s,rfl⟩:=hs;refine⟨[some (I k),some (I mid),some (I j)],rfl,⟨_,rfl⟩,(decide (j<mid)==decide (k<mid)),?_,fun _=>⟨T2 j k,by simp![s2],j,k,rfl,by omega,by omega,by omega,by omega⟩⟩;have q:∀a b:Bool,eqX false (B a) (B b) M=some (B (a==b),M):=fun a b=>by cases a<;>cases b<;>rfl
  simp![q])
 obtain⟨ds,rfl⟩:=AQ e2;rw[A3]at e3;refine⟨ds,?_,e2,e3⟩;unfold iY;refine iS (pR (J:=k) (by simp![h6]) (mO (by omega) (by omega))) (by rw[fA];omega) ?_ (by omega);have:iR [some 6,some 5,none] γ=[some (I k),some (I mid),none]:=by simp only[iR,List.map_cons,List.map_nil,Option.bind_some,Option.bind_none,h6,h5];rfl
 rw[this];exact e1
theorem aFq(m0:0<=mid)(mn:mid<n)(n9:n<=8)(h5:γ[5]?=some (some (I mid))):∃ys,dN γ M=some (.c M.length,M++[.lst ys])/\(∀y∈ys,Pr n y)/\ys.length<=9:=by
 obtain⟨ys,e1,e2,e3⟩:=nM (g:=hName 1) (c:=gE) (e:=dJ (aC (aD 1) (aC (fOp bY (fOp fU (aD 1) (fC (.int 1))) (fOp fU (aD 0) (fC (.int 1)))) aG))) (n:=n) (lo:=0) (N:=(mid+1).toNat) (γ:=[some (I mid),none]) (M:=M) (Sh:=fun γ=>∃s,γ=[some (I mid),s]) ⟨_,rfl⟩ (fun k γ k0 k1 hs=>by
  obtain⟨s,rfl⟩:=hs;have m1:eY (k+1) (mid+1)=true:=bV (by omega);have mi:=sY (z:=k+1) (m:=mid+1) (by omega);exact⟨[some (I mid),some (I k)],rfl,⟨_,rfl⟩,true,rfl,fun _=>⟨T2 k ((k+1) % (mid+1)),by simp![GC,m1,s2],k,_,rfl,k0,by omega,mi.1,by omega⟩⟩)
 refine⟨ys,?_,e2,by omega⟩;unfold dN;refine BC (pR (J:=mid+1) (by simp![h5,GC]) (mO (by omega) (by omega))) (by rw[fA];omega) ?_ (by omega);have:iR [some 5,none] γ=[some (I mid),none]:=by simp only[iR,List.map_cons,List.map_nil,Option.bind_some,Option.bind_none,h5];rfl
 rw[this];exact e1
theorem aEr(m0:0<=mid)(n0:2<=n)(n9:n<=8)(mn:mid<n)(h1:γ[1]?=some (some (I n)))(h5:γ[5]?=some (some (I mid))):∃ds,fN γ M=some (.d (.list ds),M)/\(∀y∈ds.map CD.d,Pr n y)/\ds.length<=9:=by
 obtain⟨ys,e1,e2,e3⟩:=nM (g:=hName 0) (c:=gE) (e:=dJ (aC (aD 0) (aC (fOp fU (aD 0) (fC (.int 1))) aG))) (n:=n) (lo:=mid) (N:=(n-1-mid).toNat) (γ:=[none]) (M:=M) (Sh:=fun γ=>∃s,γ=[s]) ⟨_,rfl⟩ (fun k γ k0 k1 hs=>by
  obtain⟨s,rfl⟩:=hs;exact⟨[some (I k)],rfl,⟨_,rfl⟩,true,rfl,fun _=>⟨T2 k (k+1),by simp![s2,GC],k,k+1,rfl,by omega,by omega,by omega,by omega⟩⟩)
 obtain⟨ds,rfl⟩:=AQ e2;rw[A3]at e3;refine⟨ds,?_,e2,by omega⟩;unfold fN;exact iS (uV (i:=mid) (j:=n-1) (by simp![h1,h5]) (mO (by omega) (by omega)) (mO (by omega) (by omega))) (by rw[fA];omega) e1 (by omega)
end
theorem aEm(n0:2<=n)(n9:n<=8)(h0:γ[0]?=some (some (.c c)))(h1:γ[1]?=some (some (I n)))(dk:Dk M c (m+9)):∃ys M2,fS γ M=some (.c M2.length,M2++[.lst ys])/\(∀y∈ys,Pr n y)/\ys.length<=9/\Dk M2 c m/\Ex c M M2:=by
 obtain⟨ys,γ',M2,e1,e2,e3,⟨e4,e5,_⟩⟩:=vV (g:=hName 1) (c:=gE) (e:=dJ (aC (fOp bY (bQ "list" gH (aD 0) aG) (aD 1)) (aC (aD 1) aG))) (X:=Rg 1 (1+(n-1).toNat)) (E:=Pr n) (Inv:=fun j γ M'=>Dk M' c (m+j)/\Ex c M M'/\∃s,γ=[some (.c c),s]) (fun j x γ M' hx hi=>by
  obtain⟨k,rfl,k0,k1⟩:=hx;obtain⟨d,ex,s,rfl⟩:=hi;obtain⟨z,M3,po,d3,ex3⟩:=Dk.popE (m:=m+j) d;have pa:=pop_at (γ:=[some (.c c),some (I k)]) (v:=0) rfl d.ty po;have m1:eY z k=true:=bV (by omega);have mi:=sY (z:=z) (m:=k) (by omega);exact⟨[some (.c c),some (I k)],rfl,true,M',rfl,fun h=>Bool.noConfusion h,fun _=>⟨T2 (z % k) k,M3,by simp![pa,m1,s2],⟨_,k,rfl,mi.1,by omega,by omega,by omega⟩,d3,ex.trans ex3,_,rfl⟩⟩) (fE 1 (n-1).toNat) [some (.c c),none] M AG ⟨dk.le (by rw[fA];omega),Ex.refl _ _,_,rfl⟩
 rw[fA]at e3;refine⟨ys,M2,?_,e2,by omega,e4,e5⟩;unfold fS;refine BC (uV (i:=1) (j:=n) (by simp![h1]) (by decide) (mO (by omega) (by omega))) (by rw[fA];omega) ?_ (by omega);have:iR [some 0,none] γ=[some (.c c),none]:=by simp only[iR,List.map_cons,List.map_nil,Option.bind_some,Option.bind_none,h0];rfl
 rw[this];exact e1
theorem aDP{k:Int}(k0:0<=k)(kn:k<n)(n9:n<=8)(h0:γ[0]?=some (some (.c c)))(h6:γ[6]?=some (some (I k)))(dk:Dk M c (m+k.toNat)):∃ds M2,iU γ M=some (.d (.list ds),M2)/\(∀y∈ds.map CD.d,Pr n y)/\ds.length<=k.toNat/\Dk M2 c m/\Ex c M M2:=by
 obtain⟨ys,γ',M2,e1,e2,e3,⟨e4,e5,_⟩⟩:=vV (g:=hName 2) (c:=gB (fOp gtI (fOp bY (bQ "list" gH (aD 1) aG) (fC (.int 3))) (fC (.int 0)))) (e:=dJ (aC (aD 2) (aC (aD 0) aG))) (X:=Rg 0 (0+k.toNat)) (E:=Pr n) (Inv:=fun j γ M'=>Dk M' c (m+j)/\Ex c M M'/\∃s,γ=[some (I k),some (.c c),s]) (fun j x γ M' hx hi=>by
  obtain⟨i,rfl,i0,i1⟩:=hx;obtain⟨d,ex,s,rfl⟩:=hi;obtain⟨z,M3,po,d3,ex3⟩:=Dk.popE (m:=m+j) d;have pa:=pop_at (γ:=[some (I k),some (.c c),some (I i)]) (v:=1) rfl d.ty po;have m1:eY z 3=true:=bV (by decide);exact⟨[some (I k),some (.c c),some (I i)],rfl,decide (z % 3 > 0),M3,by simp![pa,m1],fun _=>⟨d3,ex.trans ex3,_,rfl⟩,fun _=>⟨T2 i k,M3,by simp![s2],⟨i,k,rfl,by omega,by omega,by omega,by omega⟩,d3,ex.trans ex3,_,rfl⟩⟩) (fE 0 k.toNat) [some (I k),some (.c c),none] M AG ⟨dk.le (by rw[fA];exact A7 _),Ex.refl _ _,_,rfl⟩
 obtain⟨ds,rfl⟩:=AQ e2;rw[A3,fA]at e3;refine⟨ds,M2,?_,e2,e3,e4,e5⟩;unfold iU;refine iS (pR (J:=k) (by simp![h6]) (mO (by omega) (by omega))) (by rw[fA];omega) ?_ (by omega);have:iR [some 6,some 0,none] γ=[some (I k),some (.c c),none]:=by simp only[iR,List.map_cons,List.map_nil,Option.bind_some,Option.bind_none,h6,h0];rfl
 rw[this];exact e1
noncomputable def tri:Nat->Nat
 |0=>0
 |k+1=>tri k+k
theorem aEW:∀n,n<=8->tri n<=28:=by decide
theorem wV:∀{n k:Nat},k<=n->tri k<=tri n
 |0,k=>fun h=>by rw[Nat.le_zero.mp h];exact A7 _
 |n+1,k=>fun h=>by
  by_cases e:k=n+1
  .rw[e];exact A7 _
  .have:=wV (n:=n) (k:=k) (by omega);show tri k<=tri n+n;omega
noncomputable abbrev GP(c:Nat)(n K:Int)(p:Nat)(g4 g5 g6:Option CD):Ga:=[some (.c c),some (I n),some (I K),some (.c p),g4,g5,g6]
noncomputable def Fd(c m:Nat)(n:Int)(M:Sto)(r:Option (Out×Sto)):Prop:=∃γ' p M',r=some (.nx γ',M')/\γ'[3]?=some (some (.c p))/\Pl M' p n 30/\Dk M' c m/\Ex c M M'/\M.length<=p
theorem XM{c:Nat}{K mid:Int}{g4:Option CD}(j0:0<=J)(jn:J<n)(n9:n<=8)(pl:Pl M p n L)(hL:L+J.toNat<=1000):
 ∃x,cQ (GP c n K p g4 (some (I mid)) (some (I J))) M=some (.nx (GP c n K M.length g4 (some (I mid)) (some (I J))),M++[x])/\Pl (M++[x]) M.length n (L+J.toNat):=by
 obtain⟨ds,e1,e2,e3⟩:=aEJ (γ:=GP c n K p g4 (some (I mid)) (some (I J))) (M:=M) (k:=J) (mid:=mid) (n:=n) j0 jn n9 rfl rfl;obtain⟨M',e4,e5,x,rfl⟩:=pl.cat e2 e3 hL;refine⟨x,?_,e5⟩;unfold cQ;refine(cL (x:=.c M.length) ?_).trans rfl;simp![e1,e4]
theorem UU{K:Int}{g4 g5:Option CD}(j0:0<=J)(jn:J<n)(n9:n<=8)(ne:p≠c)(dk:Dk M c (m+J.toNat))(pl:Pl M p n L)(hL:L+J.toNat<=1000):
 ∃M2 x,cS (GP c n K p g4 g5 (some (I J))) M=some (.nx (GP c n K M2.length g4 g5 (some (I J))),M2++[x])/\Pl (M2++[x]) M2.length n (L+J.toNat)/\Dk M2 c m/\Ex c M M2:=by
 obtain⟨ds,M2,e1,e2,e3,d2,x2⟩:=aDP (γ:=GP c n K p g4 g5 (some (I J))) (M:=M) (k:=J) (n:=n) (c:=c) (m:=m) j0 jn n9 rfl rfl dk;obtain⟨M',e4,e5,x,rfl⟩:=(pl.to x2 ne).cat e2 e3 hL;refine⟨M2,x,?_,e5,d2,x2⟩;unfold cS;refine(cL (x:=.c M2.length) ?_).trans rfl;simp![e1,e4]
theorem CB{K mid:Int}{g4 g6:Option CD}(n0:2<=n)(n9:n<=8)(dk:Dk M c m)(pl:Pl M p n 0)(ex:Ex c M0 M)(hp:M0.length<=p)(cl:c<M0.length):
 ∃g4' g6' p' M',lW (hName 6) cQ (fE (0:Nat) n.toNat) (GP c n K p g4 (some (I mid)) g6) M=some (.nx (GP c n K p' g4' (some (I mid)) g6'),M')/\Pl M' p' n 28/\Dk M' c m/\Ex c M0 M'/\M0.length<=p':=by
 have t9:=aEW n.toNat (by omega)
 obtain⟨γ',M',e,⟨p',a4,a6,rfl,q1,q2,q3,q4⟩⟩:=oS (g:=hName 6) (b:=cQ) (n:=n.toNat) (Inv:=fun k γ M=>∃p g4 g6,γ=GP c n K p g4 (some (I mid)) g6/\Pl M p n (tri k)/\Dk M c m/\Ex c M0 M/\M0.length<=p) (fun k hk γ M hi=>by
  obtain⟨p,g4,g6,rfl,pl,dk,ex,hp⟩:=hi;have tm:=wV (n:=n.toNat) (k:=k) (by omega);obtain⟨J,hJ⟩:∃J:Int,J=(k:Nat):=⟨_,rfl⟩;rw[<- hJ];obtain⟨x,e1,e2⟩:=XM (c:=c) (K:=K) (mid:=mid) (g4:=g4) (J:=J) (by omega) (by omega) n9 pl (by omega);rw[show tri k+J.toNat=tri (k+1)by rw[hJ,J6];rfl]at e2;exact⟨_,_,_,rfl,e1,_,g4,_,rfl,e2,dk.app,ex.trans (Ex.app _ _ _),ex.len⟩) n.toNat 0 _ M (by omega) ⟨p,g4,g6,rfl,pl,dk,ex,hp⟩
 exact⟨a4,a6,p',M',e,q1.le t9,q2,q3,q4⟩
theorem EK{K:Int}{g4 g5 g6:Option CD}(n0:2<=n)(n9:n<=8)(dk:Dk M c (m+28))(pl:Pl M p n 0)(ex:Ex c M0 M)(hp:M0.length<=p)(cl:c<M0.length):
 ∃g4' g5' g6' p' M',lW (hName 6) cS (fE (0:Nat) n.toNat) (GP c n K p g4 g5 g6) M=some (.nx (GP c n K p' g4' g5' g6'),M')/\Pl M' p' n 28/\Dk M' c m/\Ex c M0 M'/\M0.length<=p':=by
 have t9:=aEW n.toNat (by omega)
 obtain⟨γ',M',e,⟨p',a4,a5,a6,rfl,q1,q2,q3,q4⟩⟩:=oS (g:=hName 6) (b:=cS) (n:=n.toNat) (Inv:=fun k γ M=>∃p g4 g5 g6,γ=GP c n K p g4 g5 g6/\Pl M p n (tri k)/\Dk M c (m+(28-tri k))/\Ex c M0 M/\M0.length<=p) (fun k hk γ M hi=>by
  obtain⟨p,g4,g5,g6,rfl,pl,dk,ex,hp⟩:=hi;have tm:=wV (n:=n.toNat) (k:=k+1) (by omega);have tk:tri (k+1)=tri k+k:=rfl;obtain⟨J,hJ⟩:∃J:Int,J=(k:Nat):=⟨_,rfl⟩;rw[<- hJ];obtain⟨M2,x,e1,e2,e3,e4⟩:=UU (c:=c) (K:=K) (g4:=g4) (g5:=g5) (J:=J) (m:=m+(28-tri (k+1))) (by omega) (by omega) n9 (by omega) (dk.le (by omega)) pl (by omega);rw[show tri k+J.toNat=tri (k+1)by rw[hJ,J6];rfl]at e2;exact⟨_,_,_,rfl,e1,_,g4,g5,_,rfl,e2,e3.app,(ex.trans e4).trans (Ex.app _ _ _),(ex.trans e4).len⟩) n.toNat 0 _ M (by omega) ⟨p,g4,g5,g6,rfl,pl,dk,ex,hp⟩
 exact⟨a4,a5,a6,p',M',e,q1.le t9,q2.le (by omega),q3,q4⟩
theorem ZI(n0:2<=n)(n9:n<=8)(dk:Dk M c (m+30)):∃p M',iN [.c c,I n] M=some (.c p,M')/\Pl M' p n 30/\Dk M' c m/\Ex c M M'/\M.length<=p:=by
 obtain⟨z,M1,po,d1,x1⟩:=Dk.popE (m:=m+29) dk;have pa:=pop_at (γ:=[some (.c c),some (I n),none,none,none,none,none]) (v:=0) rfl dk.ty po;have m9:∀y,eY y 9=true:=fun y=>bV (by decide);have mi:=sY (z:=z) (m:=9) (by decide);generalize hK:z % 9=K at mi;have cl:=dk.lt
 have a1:aV (fOp bY (bQ "list" gH (aD 0) aG) (fC (.int 9))) (hName 2) [some (.c c),some (I n),none,none,none,none,none] M=some (.nx [some (.c c),some (I n),some (I K),none,none,none,none],M1):=by
  simp![pa,m9,hK]
 have a2:aV (pY aG) (hName 3) [some (.c c),some (I n),some (I K),none,none,none,none] M1=some (.nx (GP c n K M1.length none none none),M1++[.lst []]):=by
  simp![show(0:Nat)<=sizeLine from Nat.zero_le _]
 have d2:Dk (M1++[.lst []]) c (m+29):=d1.app;have x2:Ex c M (M1++[.lst []]):=x1.trans (Ex.app _ _ _);have p2:Pl (M1++[.lst []]) M1.length n 0:=Pl.new (fun y h=>by simp at h) (A7 _);have hp2:M.length<=M1.length:=x1.len;generalize M1++[Cell.lst []]=M2 at a2 d2 x2 p2;generalize M1.length=p0 at a2 p2 hp2;have tl:∀k:Int,∀γ N,γ[2]?=some (some (I K))->gB (fOp ltI (aD 2) (fC (.int k))) γ N=some (decide (K<k),N):=fun k γ N h=>by simp![h]
 have te:∀k:Int,∀γ N,γ[2]?=some (some (I K))->gB (fOp (eqX false) (aD 2) (fC (.int k))) γ N=some (K==k,N):=fun k γ N h=>by simp![h,BU]
 have dv:∀y:Int,jN y 2=true:=fun y=>gR (by decide) (wsm (by decide) (by decide))
 have key:Fd c m n M ((sIf (gB (fOp ltI (aD 2) (fC (.int 2))))
  (aX (aV dZ (hName 3))
 (sIf (gB (fOp (eqX false) (aD 2) (fC (.int 1))))
  (aX (aV (bQ "list" gH (aD 0) aG) (hName 4))
 (aV (fOp sT (aD 3) (pE (aC (dJ (aC (fOp bY (aD 4) (aD 1)) (aC (fOp bY (fOp dF (aD 4) (fC (.int 11))) (aD 1)) aG))) (aC (dJ (aC (fOp bY (fOp dF (aD 4) (fC (.int 97))) (aD 1)) (aC (fOp bY (fOp dF (aD 4) (fC (.int 7))) (aD 1)) aG))) aG)))) (hName 3)))
  dM))
  (sIf (gB (fOp (eqX false) (aD 2) (fC (.int 2))))
  (aV fO (hName 3))
  (sIf (gB (fOp (eqX false) (aD 2) (fC (.int 3))))
  (aV fS (hName 3))
  (sIf (gB (fOp (eqX false) (aD 2) (fC (.int 4))))
  (aX (aV (fOp dF (aD 1) (fC (.int 2))) (hName 5))
 (aX (nN (cU (aC (aD 1) aG)) (hName 6) cQ)
 (lA (bQ "list" eE (aD 3) (aC (dJ (aC (fC (.int 0)) (aC (fOp xE (aD 1) (fC (.int 1))) aG))) aG)))))
  (sIf (gB (fOp (eqX false) (aD 2) (fC (.int 5))))
  (aX (aV (fOp dF (aD 1) (fC (.int 2))) (hName 5))
 (aX (aV dN (hName 3))
 (aV (fOp sT (fOp sT (aD 3) fN) (pE (aC (dJ (aC (aD 5) (aC (fOp xE (aD 1) (fC (.int 1))) aG))) aG))) (hName 3))))
  (sIf (gB (fOp ltI (aD 2) (fC (.int 8))))
  (nN (cU (aC (aD 1) aG)) (hName 6) cS)
  dM)))))) (GP c n K p0 none none none) M2):=by
  by_cases k2:K<2
  .rw[pL ((tl 2 _ _ rfl).trans (by rw[C5 k2]))];obtain⟨ys,e1,e2,e3⟩:=aDO (γ:=GP c n K p0 none none none) (M:=M2) n0 n9 rfl;have st1:aV dZ (hName 3) (GP c n K p0 none none none) M2=some (.nx (GP c n K M2.length none none none),M2++[.lst ys]):=(cL e1).trans rfl;rw[bA st1];have pl:Pl (M2++[.lst ys]) M2.length n 9:=Pl.new e2 e3;by_cases k1:K=1
   .rw[pL ((te 1 _ _ rfl).trans (by rw[k1];rfl))];obtain⟨y,M4,po4,d4,x4⟩:=Dk.popE (m:=m+28) (show Dk (M2++[.lst ys]) c (m+28+1)from d2.app);have pa4:=pop_at (γ:=GP c n K M2.length none none none) (v:=0) rfl (show Dk (M2++[.lst ys]) c _ from d2.app).ty po4;have mo:∀q,eY q n=true:=fun q=>bV (by omega);have dv':∀q:Int,jN q 11=true/\jN q 97=true/\jN q 7=true:=fun q=>⟨gR (by decide) (wsm (by decide) (by decide)),gR (by decide) (wsm (by decide) (by decide)),gR (by decide) (wsm (by decide) (by decide))⟩;have cl2:c<M2.length:=d2.lt;have mm:∀q:Int,0<=q % n/\q % n<n:=fun q=>sY (by omega)
    obtain⟨M5,e5,e6,x,rfl⟩:=(pl.to x4 (by omega)).cat (ds:=[.tuple [.int (y % n),.int (y / 11 % n)],.tuple [.int (y / 97 % n),.int (y / 7 % n)]]) (k:=2) (fun w hw=>by
     simp only[List.map_cons,List.map_nil,List.mem_cons,List.not_mem_nil,or_false]at hw;rcases hw with rfl|rfl
     .exact⟨_,_,rfl,(mm _).1,(mm _).2,(mm _).1,(mm _).2⟩
     .exact⟨_,_,rfl,(mm _).1,(mm _).2,(mm _).1,(mm _).2⟩) (A7 _) (by decide)
    have st4:aV (bQ "list" gH (aD 0) aG) (hName 4) (GP c n K M2.length none none none) (M2++[.lst ys])=some (.nx (GP c n K M2.length (some (I y)) none none),M4):=(cL pa4).trans rfl;rw[bA st4];refine⟨_,M4.length,_,(cL (x:=.c M4.length) ?_).trans rfl,rfl,e6.le (by decide),d4.app.le (by omega),((x2.trans (Ex.app _ _ _)).trans x4).trans (Ex.app _ _ _),((x2.trans (Ex.app _ _ _)).trans x4).len⟩;simp![mo,dv',s2,e5]
   .rw[mL ((te 1 _ _ rfl).trans (by rw[beq_eq_false_iff_ne.mpr k1]))];exact⟨_,M2.length,_,rfl,rfl,pl.le (by decide),d2.app.le (by omega),x2.trans (Ex.app _ _ _),x2.len⟩
  .rw[mL ((tl 2 _ _ rfl).trans (by rw[E2 k2]))];by_cases k3:K=2
   .rw[pL ((te 2 _ _ rfl).trans (by rw[k3];rfl))];obtain⟨ys,e1,e2,e3⟩:=aEB (γ:=GP c n K p0 none none none) (M:=M2) n0 n9 rfl;exact⟨_,M2.length,_,(cL e1).trans rfl,rfl,Pl.new e2 (C7 e3 (by decide)),d2.app.le (by omega),x2.trans (Ex.app _ _ _),x2.len⟩
   rw[mL ((te 2 _ _ rfl).trans (by rw[beq_eq_false_iff_ne.mpr k3]))];by_cases k4:K=3
   .rw[pL ((te 3 _ _ rfl).trans (by rw[k4];rfl))];obtain⟨ys,M3,e1,e2,e3,e4,e5⟩:=aEm (γ:=GP c n K p0 none none none) (M:=M2) (c:=c) (m:=m) n0 n9 rfl rfl (d2.le (by omega));exact⟨_,M3.length,_,(cL e1).trans rfl,rfl,Pl.new e2 (C7 e3 (by decide)),e4.app,(x2.trans e5).trans (Ex.app _ _ _),(x2.trans e5).len⟩
   rw[mL ((te 3 _ _ rfl).trans (by rw[beq_eq_false_iff_ne.mpr k4]))];have h5:aV (fOp dF (aD 1) (fC (.int 2))) (hName 5) (GP c n K p0 none none none) M2=some (.nx (GP c n K p0 none (some (I (n / 2))) none),M2):=by simp![dv]
   have rg:∀(γ:Ga)(N:Sto),γ[1]?=some (some (I n))->cU (aC (aD 1) aG) γ N=some (fE (0:Nat) n.toNat,N):=fun γ N h=>pR (J:=n) (by simp![h]) (mO (by omega) (by omega));by_cases k5:K=4
   .rw[pL ((te 4 _ _ rfl).trans (by rw[k5];rfl)),bA h5];obtain⟨g4,g6,p',M',e1,e2,e3,e4,e5⟩:=CB (K:=K) (mid:=n / 2) (g4:=none) (g6:=none) n0 n9 d2 p2 x2 hp2 cl;rw[bA (nQ (rg _ _ rfl) e1)];obtain⟨ys,y1,y2,y3⟩:=id e2;have ty:tyB "list" M' (.c p')=true:=by simp only[tyB,y1];decide
    have ap:eE (.c p') [T2 0 (n-1)] M'=some (.d .none,M'.set p' (.lst (ys++[T2 0 (n-1)]))):=by
     simp only[eE,y1,if_pos (show ys.length<sizeLine by rw[sizeLine_eq];omega)]
    refine⟨GP c n K p' g4 (some (I (n / 2))) g6,p',_,?_,rfl,⟨ys++[T2 0 (n-1)],J3 (List.getElem?_eq_some_iff.mp y1).1,fun w hw=>?_,by rw[B9];simp;omega⟩,(e3.put (by omega)).le (by omega),e4.put e5,e5⟩
    .simp![bQ,ty,s2,ap]
    .rcases List.mem_append.mp hw with h|h
     .exact y2 w h
     .rw[List.mem_singleton.mp h];exact⟨0,n-1,rfl,by decide,by omega,by omega,by omega⟩
   rw[mL ((te 4 _ _ rfl).trans (by rw[beq_eq_false_iff_ne.mpr k5]))];by_cases k6:K=5
   .rw[pL ((te 5 _ _ rfl).trans (by rw[k6];rfl)),bA h5];obtain⟨ys,e1,e2,e3⟩:=aFq (γ:=GP c n K p0 none (some (I (n / 2))) none) (M:=M2) (n:=n) (mid:=n / 2) (by omega) (by omega) n9 rfl;have st1:aV dN (hName 3) (GP c n K p0 none (some (I (n / 2))) none) M2=some (.nx (GP c n K M2.length none (some (I (n / 2))) none),M2++[.lst ys]):=(cL e1).trans rfl;rw[bA st1];obtain⟨ds,f1,f2,f3⟩:=aEr (γ:=GP c n K M2.length none (some (I (n / 2))) none) (M:=M2++[.lst ys]) (n:=n) (mid:=n / 2) (by omega) n0 n9 (by omega) rfl rfl;obtain⟨M4,q1,q2,x4,rfl⟩:=(Pl.new (M:=M2) e2 e3).cat f2 f3 (by decide)
    obtain⟨M5,q3,q4,x5,rfl⟩:=q2.cat (ds:=[.tuple [.int (n / 2),.int (n-1)]]) (k:=1) (fun w hw=>by
     simp only[List.map_cons,List.map_nil,List.mem_cons,List.not_mem_nil,or_false]at hw;rw[hw];exact⟨_,_,rfl,by omega,by omega,by omega,by omega⟩) (A7 _) (by decide)
    have x6:=((x2.trans (Ex.app c M2 [.lst ys])).trans (Ex.app c _ [x4]));refine⟨_,_,_,(cL (x:=.c _) ?_).trans rfl,rfl,q4.le (by decide),d2.app.app.app.le (by omega),x6.trans (Ex.app _ _ _),x6.len⟩;simp![f1,q1,s2,show(1:Nat)<=sizeLine by decide,q3]
   rw[mL ((te 5 _ _ rfl).trans (by rw[beq_eq_false_iff_ne.mpr k6]))];by_cases k7:K<8
   .rw[pL ((tl 8 _ _ rfl).trans (by rw[C5 k7]))];obtain⟨g4,g5,g6,p',M',e1,e2,e3,e4,e5⟩:=EK (K:=K) (m:=m) (g4:=none) (g5:=none) (g6:=none) n0 n9 (d2.le (by omega)) p2 x2 hp2 cl;rw[nQ (rg _ _ rfl) e1];exact⟨_,p',M',rfl,rfl,e2.le (by decide),e3,e4,e5⟩
   rw[mL ((tl 8 _ _ rfl).trans (by rw[E2 k7]))];exact⟨_,p0,M2,rfl,rfl,p2.le (by decide),d2.le (by omega),x2,hp2⟩
 obtain⟨γ',p,M',e,g3,q1,q2,q3,q4⟩:=key;refine⟨p,M',pP rfl ?_,q1,q2,q3,q4⟩;unfold lZ;show aX _ _ [some (.c c),some (I n),none,none,none,none,none] M=_;rw[bA a1,bA a2,bA e];simp![g3]
noncomputable def wts:List Int:=[55440,55440,110880,27720,41580,0,23100,166320,55440000000000,1,55440,27720]
theorem NM(M:Sto):∃w,eW [I z] M=some (I w,M)/\w∈wts:=by
 obtain⟨d,h1,h2⟩:=BR (ds:=wts.map PyData.int) (k:=z) (m:=12) (by decide) rfl;obtain⟨w,hw,rfl⟩:=List.mem_map.mp h2;have m1:eY z 12=true:=bV (by decide)
 have e:ixF (.d (.list (wts.map .int))) (I (z % 12)) M=some (I w,M):=by
  show(atI (wts.map PyData.int) (z % 12)).bind _=_;rw[h1];rfl
 have e:ixF (.d (.list [.int 55440,.int 55440,.int 110880,.int 27720,.int 41580,.int 0,.int 23100,.int 166320,.int 55440000000000,.int 1,.int 55440,.int 27720])) (I (z % 12)) M=some (I w,M):=e;exact⟨w,by simp![eW,kR,sO,m1,e],hw⟩
noncomputable def OkW(n:Int)(us:List Tie):Prop:=(∀t∈us,0<=t.i/\t.i<t.j/\t.j<n/\t.a∈wts/\0<t.a/\t.b=55440)/\(us.map Tie.key).Nodup
noncomputable def kvW(us:List Tie):List (List Key×CD):=us.map fun t=>(t.key,I t.a)
theorem aBQ(ok:OkW n us)(h0:0<=i)(h1:i<j)(h2:j<n)(hw:w∈wts)(w0:0<w):∃vs,putD (kvW us) [.inl i,.inl j] (I w)=kvW vs/\OkW n vs/\vs.length<=us.length+1:=by
 unfold putD;by_cases c:((kvW us).any fun kv=>decide (kv.1=[.inl i,.inl j]))=true
 .rw[B0 c];refine⟨us.map fun t=>if t.key=[.inl i,.inl j]then{ t with a:=w }else t,?_,⟨fun t ht=>?_,?_⟩,by rw[A3];omega⟩
  .unfold kvW;rw[E5,E5];refine L9 fun t _=>?_;show(if t.key=_ then(t.key,I w)else(t.key,I t.a))=_;by_cases q:t.key=[.inl i,.inl j]
   .rw[B0 q];show(t.key,I w)=((if t.key=[.inl i,.inl j]then{ t with a:=w }else t).key,I (if t.key=[.inl i,.inl j]then{ t with a:=w }else t).a);rw[B0 q];rfl
   .rw[B2 q];show(t.key,I t.a)=((if t.key=[.inl i,.inl j]then{ t with a:=w }else t).key,I (if t.key=[.inl i,.inl j]then{ t with a:=w }else t).a);rw[B2 q]
  .obtain⟨s,hs,rfl⟩:=List.mem_map.mp ht;obtain⟨a1,a2,a3,a4,a5,a6⟩:=ok.1 s hs;split
   .exact⟨a1,a2,a3,hw,w0,a6⟩
   .exact⟨a1,a2,a3,a4,a5,a6⟩
  .rw[E5,show us.map (Tie.key ∘ fun t=>if t.key=[.inl i,.inl j]then{ t with a:=w }else t)=us.map Tie.key from L9 fun t _=>by
    show(if t.key=[.inl i,.inl j]then{ t with a:=w }else t).key=t.key;split<;>rfl]
   exact ok.2
 .rw[B2 c];refine⟨us++[⟨i,j,w,55440⟩],by unfold kvW;rw[J8];rfl,⟨fun t ht=>?_,?_⟩,by rw[B9,E7];omega⟩
  .rcases List.mem_append.mp ht with h|h
   .exact ok.1 t h
   .rw[List.mem_singleton.mp h];exact⟨h0,h1,h2,hw,w0,rfl⟩
  .rw[J8,List.map_singleton];refine List.nodup_append.mpr ⟨ok.2,by simp,fun k hk l hl q=>?_⟩;rw[List.mem_singleton.mp hl]at q;subst q;obtain⟨t,ht,e⟩:=List.mem_map.mp hk;refine c (List.any_eq_true.mpr ⟨(t.key,I t.a),List.mem_map.mpr ⟨t,ht,rfl⟩,?_⟩);rw[e];exact C5 rfl
theorem IW{g:GF}{b:SF}{X:CD->Prop}{Inv:Nat->Ga->Sto->Prop}(step:∀m x γ M,X x->Inv (m+1) γ M->∃γ1 γ' M',g x γ M=some (γ1,M)/\b γ1 M=some (.nx γ',M')/\Inv m γ' M'):
 ∀(xs:List CD)(γ:Ga)(M:Sto),(∀x∈xs,X x)->Inv xs.length γ M->∃γ' M',lW g b xs γ M=some (.nx γ',M')/\Inv 0 γ' M'
 |[]=>fun γ M _ i=>⟨γ,M,rfl,i⟩
 |x::xs=>fun γ M hx i=>by
  obtain⟨γ1,γ2,M1,e1,e2,i1⟩:=step _ x γ M (hx x A9) i;obtain⟨γ',M',e3,i2⟩:=IW step xs γ2 M1 (fun y hy=>hx y (A8 _ hy)) i1;exact⟨γ',M',by rw[rP e1 e2];exact e3,i2⟩
noncomputable abbrev GW(c:Nat)(n al:Int)(d:Nat)(i j w:Option CD):Ga:=[some (.c c),some (I n),some (I al),some (.c d),i,j,w]
noncomputable def Dt(M:Sto)(d:Nat)(n:Int)(L:Nat):Prop:=∃us,M[d]?=some (.dt (kvW us))/\OkW n us/\us.length<=L
theorem aBT:DV [I i,I j] M=some (I (if j<i then j else i),M):=rfl
theorem aBU:CI [I i,I j] M=some (I (if j > i then j else i),M):=rfl
theorem RY{al:Int}{g6:Option CD}(hi:0<=i/\i<n)(hj:0<=j/\j<n)(dk:Dk M c (m+1))(dt:Dt M d n L)(hL:L<900)(ex:Ex c M0 M)(hd:M0.length<=d)(ne:d≠c):
 ∃g6' M',iK (GW c n al d (some (I i)) (some (I j)) g6) M=some (.nx (GW c n al d (some (I i)) (some (I j)) g6'),M')/\Dk M' c m/\Dt M' d n (L+1)/\Ex c M0 M':=by
 have m2:eY al 2=true:=bV (by decide);have p1:aV (fC (.int 55440)) (hName 6) (GW c n al d (some (I i)) (some (I j)) g6) M=some (.nx (GW c n al d (some (I i)) (some (I j)) (some (I 55440))),M):=rfl;have tt:gB (fOp (eqX false) (fOp bY (aD 2) (fC (.int 2))) (fC (.int 1))) (GW c n al d (some (I i)) (some (I j)) (some (I 55440))) M=some (al % 2==1,M):=by simp![m2,BU]
 have mid:∃w M1,sIf (gB (fOp (eqX false) (fOp bY (aD 2) (fC (.int 2))) (fC (.int 1)))) (aV (aK eW (aC (bQ "list" gH (aD 0) aG) aG)) (hName 6)) dM (GW c n al d (some (I i)) (some (I j)) (some (I 55440))) M=some (.nx (GW c n al d (some (I i)) (some (I j)) (some (I w))),M1)/\w∈wts/\Dk M1 c m/\Ex c M M1:=by
  cases h:(al % 2==1)with
  |true=>
   obtain⟨z,M1,po,d1,x1⟩:=Dk.popE dk;have pa:=pop_at (γ:=GW c n al d (some (I i)) (some (I j)) (some (I 55440))) (v:=0) rfl dk.ty po;obtain⟨w,e1,e2⟩:=NM (z:=z) M1;refine⟨w,M1,?_,e2,d1,x1⟩;rw[pL (tt.trans (by rw[h]))];refine(cL (x:=I w) ?_).trans rfl;simp![pa,e1]
  |false=>exact⟨55440,M,by rw[mL (tt.trans (by rw[h]))];rfl,by decide,dk.le (by omega),Ex.refl _ _⟩
 obtain⟨w,M1,e1,hw,d1,x1⟩:=mid;obtain⟨us,u1,u2,u3⟩:=dt;have u1:=x1.to u1 ne;have ll:(kvW us).length<sizeLine:=by unfold kvW;rw[A3,F8];omega
 have tA:OB (gB (fOp (eqX true) (aD 4) (aD 5))) (gB (fOp gtI (aD 6) (fC (.int 0)))) (GW c n al d (some (I i)) (some (I j)) (some (I w))) M1=some (!(i==j)&&decide (w > 0),M1):=by
  cases h:(i==j)<;>simp![aDC,h]<;>rfl
 unfold iK;rw[bA p1,bA e1];cases h:(!(i==j)&&decide (w > 0))with
 |false=>
  rw[mL (tA.trans (by rw[h]))];exact⟨_,M1,rfl,d1,⟨us,u1,u2,by omega⟩,ex.trans x1⟩
 |true=>
  rw[pL (tA.trans (by rw[h]))];rw[B5]at h;have nij:i≠j:=by simpa using h.1
  have w0:0<w:=by simpa using h.2
  obtain⟨vs,v1,v2,v3⟩:=aBQ (i:=if j<i then j else i) (j:=if j > i then j else i) (w:=w) u2 (by split<;>omega) (by split<;>split<;>omega) (by split<;>omega) hw w0
  have sd:uI M1 (.c d) (.inr [.inl (if j<i then j else i),.inl (if j > i then j else i)]) (I w)=some (M1.set d (.dt (kvW vs))):=by
   simp only[uI,u1,if_pos ll,v1]
  refine⟨some (I w),M1.set d (.dt (kvW vs)),?_,d1.put ne,⟨vs,J3 (List.getElem?_eq_some_iff.mp u1).1,v2,by omega⟩,(ex.trans x1).put hd⟩;simp![sQ,qT,aBT,aBU,keysOf,keyOf,s2,sd]
theorem aEd(n0:2<=n)(n9:n<=8)(dk:Dk M c (m+61)):∃d M',lM [.c c,I n] M=some (.c d,M')/\Dt M' d n 30/\Dk M' c m/\Ex c M M'/\d≠c/\M.length<=d:=by
 obtain⟨z,M1,po,d1,x1⟩:=Dk.popE (m:=m+60) dk;have pa:=pop_at (γ:=[some (.c c),some (I n),none,none,none,none,none]) (v:=0) rfl dk.ty po;have a1:aV (bQ "list" gH (aD 0) aG) (hName 2) [some (.c c),some (I n),none,none,none,none,none] M=some (.nx [some (.c c),some (I n),some (I z),none,none,none,none],M1):=(cL pa).trans rfl;have a2:aV sZ (hName 3) [some (.c c),some (I n),some (I z),none,none,none,none] M1=some (.nx (GW c n z M1.length none none none),M1++[.dt []]):=rfl;have x2:Ex c M (M1++[.dt []]):=x1.trans (Ex.app _ _ _);have cl:=dk.lt;have hd:M.length<=M1.length:=x1.len;have u0:Dt (M1++[.dt []]) M1.length n 0:=⟨[],oJ,⟨fun t h=>by simp at h,List.nodup_nil⟩,A7 _⟩;obtain⟨p,M2,e1,pl,d2,x3,hp⟩:=ZI (m:=m+30) n0 n9 (show Dk (M1++[.dt []]) c (m+30+30)from d1.app);obtain⟨ys,y1,y2,y3⟩:=pl;obtain⟨ds,rfl⟩:=AQ y2
 have it:cC (jK (aK iN (aC (aD 0) (aC (aD 1) aG)))) (GW c n z M1.length none none none) (M1++[.dt []])=some (ds.map .d,M2.set p .dead):=by
  simp![cC,jK,e1,y1,qN,bF]
 have ln:(M1++[Cell.dt []]).length=M1.length+1:=by rw[B9];rfl
 have u2:Dt (M2.set p .dead) M1.length n 0:=by
  obtain⟨us,a,b⟩:=u0;refine⟨us,?_,b⟩;rw[F6 (by omega)];exact x3.to a (by omega)
 obtain⟨γ',M',e2,⟨g4,g5,g6,rfl,f1,f2,f3⟩⟩:=IW (g:=gX 2 (aZ (hName 4) (aZ (hName 5) gT))) (b:=iK) (X:=Pr n) (Inv:=fun k γ N=>∃g4 g5 g6,γ=GW c n z M1.length g4 g5 g6/\Dk N c (m+k)/\Dt N M1.length n (30-k)/\Ex c M N/\k<=30) (fun k x γ N hx hi=>by
  obtain⟨i,j,rfl,i0,i1,j0,j1⟩:=hx;obtain⟨g4,g5,g6,rfl,q1,q2,q3,q4⟩:=hi;obtain⟨g6',N',t1,t2,t3,t4⟩:=RY (al:=z) (g6:=g6) ⟨i0,i1⟩ ⟨j0,j1⟩ (m:=m+k) q1 q2 (by omega) q3 hd (by omega);refine⟨GW c n z M1.length (some (I i)) (some (I j)) g6,_,N',rfl,t1,_,_,_,rfl,t2,?_,t4,by omega⟩;obtain⟨us,a,b,e⟩:=t3;exact⟨us,a,b,by omega⟩) (ds.map .d) (GW c n z M1.length none none none) (M2.set p .dead) y2 ⟨none,none,none,rfl,(d2.put (by omega)).le (by omega),(let⟨us,a,b,e⟩:=u2;⟨us,a,b,by omega⟩),(x2.trans x3).put (by omega),y3⟩
 refine⟨M1.length,M',pP rfl ?_,f2,f1,f3.1,by omega,hd⟩;unfold qF;show aX _ _ [some (.c c),some (I n),none,none,none,none,none] M=_;rw[bA a1,bA a2,bA (nQ it e2)];rfl
noncomputable def f0(t:Tie):List PyData:=[.int t.i,.int t.j]
theorem aEe(s t:Tie):(jM (f0 s) (f0 t)).isSome=true:=by
 show(if (s.i==t.i)=true then(if (s.j==t.j)=true then jM [] []else some (decide (s.j<t.j)))else some (decide (s.i<t.i))).isSome=true;split
 .split
  .rfl
  .rfl
 .rfl
theorem ZO(h64:us.length<64):∃vs:List Tie,vs.Perm us/\eU (us.map f0)=some (vs.map fun t=>.tuple (f0 t)):=by
 by_cases h2:2<=us.length
 .have ab:sortable (us.map f0)=true:=by
   have hd:(jU (us.map f0) || mJ (us.map f0))=true:=by
    rw[Bool.or_eq_true];exact .inl (by unfold jU;rw[List.all_map];exact List.all_eq_true.mpr fun t _=>rfl)
   unfold sortable;rw[A3,C5 h2,C5 h64,hd,Bool.true_and,Bool.true_and,Bool.and_true,B5];refine⟨List.all_eq_true.mpr fun r hr=>?_,List.all_eq_true.mpr fun i hi=>List.all_eq_true.mpr fun j hj=>?_⟩
   .obtain⟨t,_,rfl⟩:=List.mem_map.mp hr;rfl
   .rw[sA (List.mem_range.mp hi),sA (List.mem_range.mp hj)];exact aEe _ _
  have pm:=jR (n:=(us.map f0).length) (lX (us.map f0)) (by rw[A3];omega);rw[A3]at pm;have mem:∀i∈fD (lX (us.map f0)) us.length,i<us.length:=fun i hi=>List.mem_range.mp (pm.mem_iff.mp hi)
  have sd:BY (us.map f0)=((fD (lX (us.map f0)) us.length).map fun i=>us.getD i t0).map fun t=>.tuple (f0 t):=by
   unfold BY;rw[A3,E5];refine L9 fun i hi=>?_;show PyData.tuple ((us.map f0).getD i [])=.tuple (f0 (us.getD i t0));rw[sA (mem i hi),RD (mem i hi)]
  refine⟨(fD (lX (us.map f0)) us.length).map fun i=>us.getD i t0,?_,?_⟩
  .have:=pm.map fun i=>us.getD i t0
   rwa [yH]at this
  .unfold eU;rw[ab,B0 rfl,sd]
 .have hl:us.length<2:=by omega
  refine⟨us,.refl _,?_⟩;unfold eU
  have:sortable (us.map f0)=false:=by
   unfold sortable;rw[A3,E2 h2];rfl
  rw[this,B2 B4,A3,B0 hl,E5];rfl
noncomputable def low(t:Tie):Tie:=⟨t.i,t.j,t.a / (Int.gcd t.a 55440:Int),55440 / (Int.gcd t.a 55440:Int)⟩
theorem JR(h:w∈wts):jY (w / (Int.gcd w 55440:Int)) (55440 / (Int.gcd w 55440:Int))=true:=by
 have:wts.all fun w=>jY (w / (Int.gcd w 55440:Int)) (55440 / (Int.gcd w 55440:Int)):=by decide +kernel
 exact List.all_eq_true.mp this w h
theorem aCO{t:Tie}(nd:(us.map Tie.key).Nodup)(ht:t∈us):lkC (kvW us) t.key=some (I t.a):=by
 unfold lkC kvW;rw[List.find?_map]
 have:us.find? ((fun kv:List Key×CD=>decide (kv.1=t.key)) ∘ fun t=>(t.key,I t.a))=some t:=by
  induction us with
  |nil=>simp at ht
  |cons s us ih=>
   rw[C6,List.nodup_cons]at nd;by_cases e:s.key=t.key
   .rcases List.mem_cons.mp ht with rfl|h
    .rw[List.find?_cons_of_pos (by simp)]
    .exact absurd (List.mem_map.mpr ⟨t,h,e.symm⟩) nd.1
   .rw[List.find?_cons_of_neg (by simpa using e)];rcases List.mem_cons.mp ht with rfl|h
    .exact absurd rfl e
    .exact ih nd.2 h
 rw[this];rfl
noncomputable abbrev rE:EF:=(dJ (aC (aD 1) (aC (aD 2) (aC (aK cH (aC (tO (aD 0) (qT (aC (aD 1) (aC (aD 2) aG)))) (aC (fC (.int 55440)) aG))) aG))))
theorem s3:(3:Nat)<=sizeLine:=by decide
theorem zI{d:Nat}{M:Sto}{us:List Tie}(hd:M[d]?=some (.dt (kvW us)))(nd:(us.map Tie.key).Nodup)(h0:∀t∈us,0<=t.a):∀(vs:List Tie)(g1 g2:Option CD),(∀t∈vs,t∈us)->lcF (gX 2 (aZ (hName 1) (aZ (hName 2) gT))) gE rE (vs.map fun t=>.d (.tuple (f0 t))) [some (.c d),g1,g2] M=some ((vs.map fun t=>PyData.tuple (f2 (low t))).map .d,M)
 |[]=>fun _ _ _=>rfl
 |t::vs=>fun g1 g2 hv=>by
  have ih:=zI hd nd h0 vs (some (I t.i)) (some (I t.j)) fun u hu=>hv u (A8 _ hu)
  have lk:atD M (.c d) (.inr [.inl t.i,.inl t.j])=some (some (I t.a)):=by
   have:=aCO nd (hv t A9);simp only[atD,hd];exact U6 some this
  have lo:=DQ (a:=t.a) (b:=55440) M (h0 t (hv t A9)) (by decide) (wsm (by decide) (by decide))
  have e:rE [some (.c d),some (I t.i),some (I t.j)] M=some (.d (.tuple (f2 (low t))),M):=by
   simp![rE,tO,qT,keysOf,keyOf,s2,s3,lk,lo];rfl
  rw[C6,C6,C6];show(gX 2 (aZ (hName 1) (aZ (hName 2) gT)) (.d (.tuple (f0 t))) [some (.c d),g1,g2] M).bind _=_;rw[show gX 2 (aZ (hName 1) (aZ (hName 2) gT)) (.d (.tuple (f0 t))) [some (.c d),g1,g2] M=some ([some (.c d),some (I t.i),some (I t.j)],M)from rfl,B3];show(gE _ M).bind _=_;rw[show gE [some (.c d),some (I t.i),some (I t.j)] M=some (true,M)from rfl,B3,B0 rfl,e,B3];dsimp only;rw[ih,B3]
theorem aBy(u1:M[d]?=some (.dt (kvW us)))(ok:OkW n us)(u3:us.length<=30):∃vs:List Tie,vs.Perm us/\fL [.c d] M=some (.d (.list (cE (vs.map low))),M)/\Ok n (vs.map low):=by
 obtain⟨u2,nd⟩:=ok;obtain⟨vs,pm,sr⟩:=ZO (us:=us) (by omega);have hv:∀t∈vs,t∈us:=fun t ht=>pm.mem_iff.mp ht
 have sk:qG [.c d] M=some (.d (.list (vs.map fun t=>.tuple (f0 t))),M):=by
  have e:(kvW us).map (fun kv=>kv.1.map rG)=us.map f0:=by unfold kvW;rw[E5];rfl
  simp only[qG,u1,e,sr,Option.bind_some]
 have it:cC (aK qG (aC (aD 0) aG)) [some (.c d)] M=some (vs.map fun t=>.d (.tuple (f0 t)),M):=by
  simp![cC,sk,bF,List.map_map];rfl
 refine⟨vs,pm,?_,fun t ht=>?_,?_,by rw[A3,pm.length_eq];omega⟩
 .have cp:kD [some (.c d)] M=some (.d (.list (cE (vs.map low))),M):=by
   unfold kD;refine iS it (by rw[A3,pm.length_eq];omega) ?_ (by unfold cE;rw[A3,A3,pm.length_eq];omega);have:=zI u1 nd (fun t ht=>by have:=(u2 t ht).2.2.2.2.1;omega) vs none none hv;rw[show iR [some 0,none,none] [some (CD.c d)]=[some (.c d),none,none]from rfl,this];unfold cE;rw[E5 (f:=low)];rfl
  simp![fL,nW,cp]
 .obtain⟨s,hs,rfl⟩:=List.mem_map.mp ht;obtain⟨a1,a2,a3,a4,a5,a6⟩:=u2 s (hv s hs);exact⟨JR a4,a1,a2,a3⟩
 .rw[E5];exact((pm.map Tie.key).nodup_iff.mpr nd)
noncomputable def nV(M:Sto)(w:Nat)(n:Int)(ws:List Tie):Prop:=∃fs,M[w]?=some (.obj "Web" fs)/\List.lookup ("many":Str) fs=some (I n)/\List.lookup ("ties":Str) fs=some (.d (.tuple (cE ws)))
theorem nV.to{w:Nat}(h:nV M w n ws)(e:Ex c M M')(ne:w≠c):nV M' w n ws:=let⟨fs,a,b⟩:=h;⟨fs,e.to a ne,b⟩
theorem nV.app{L:Sto}{w:Nat}(h:nV M w n ws):nV (M++L) w n ws:=let⟨fs,a,b⟩:=h;⟨fs,by rw[L5 (List.getElem?_eq_some_iff.mp a).1];exact a,b⟩
theorem nV.put{w j:Nat}{x:Cell}(h:nV M w n ws)(ne:w≠j):nV (M.set j x) w n ws:=let⟨fs,a,b⟩:=h;⟨fs,by rw[F6 (O7 ne)];exact a,b⟩
theorem ZC(h:w∈wts)(h0:0<w):0<w / (Int.gcd w 55440:Int):=by
 have:wts.all fun w=>decide (¬0<w) || decide (0<w / (Int.gcd w 55440:Int)):=by decide +kernel
 have:=List.all_eq_true.mp this w h;simp only[Bool.or_eq_true,decide_eq_true_eq]at this;rcases this with q|q
 .exact absurd h0 q
 .exact q
theorem aBG(n0:2<=n)(n9:n<=8)(u1:M[d]?=some (.dt (kvW us)))(ok:OkW n us)(u3:us.length<=30)(h3:γ[3]?=some (some (I n)))(h4:γ[4]?=some (some (.c d))):
 ∃L ws,yW "Web" fK (aC (aD 3) (aC (aK fL (aC (aD 4) aG)) aG)) γ M=some (.c M.length,M++L)/\nV (M++L) M.length n ws/\ws.Perm (us.map low):=by
 obtain⟨xs,px,e2,okx⟩:=aBy u1 ok u3;obtain⟨vs,pm,e3⟩:=UO (M:=M) okx (by omega) (by omega)
 have fb:vs.filter big=vs:=List.filter_eq_self.mpr fun t ht=>by
  obtain⟨s,hs,rfl⟩:=List.mem_map.mp (pm.mem_iff.mp ht);obtain⟨a1,a2,a3,a4,a5,a6⟩:=ok.1 s (px.mem_iff.mp hs);exact C5 (ZC a4 a5)
 have op:cX vs=cE vs:=by unfold cX cE;rw[fb]
 refine⟨aCk M.length n (xs.map low) vs,vs,?_,⟨[("many",I n),("ties",.d (.tuple (cX vs))),("weights",.c (M.length+2))],?_,rfl,by rw[op];rfl⟩,pm.trans (px.map low)⟩
 .simp![yW,h3,h4,e2,e3];rfl
 .rw[F0 (A7 _),S4];rfl
noncomputable def lts:List Int->List Bool
 |a::b::r=>decide (a<b)::lts (b::r)
 |_=>[]
theorem OG:∀ns:List Int,(lts ns).all id=true↔ns.Pairwise (·<·)
 |[]=>by simp[lts]
 |[a]=>by simp[lts]
 |a::b::r=>by
  have ih:=OG (b::r);show(decide (a<b)&&(lts (b::r)).all id)=true↔_;rw[B5,ih,decide_eq_true_eq];constructor
  .intro h;refine List.pairwise_cons.mpr ⟨fun x hx=>?_,h.2⟩;rcases List.mem_cons.mp hx with rfl|hx
   .exact h.1
   .have:=(List.pairwise_cons.mp h.2).1 x hx;omega
  .intro h;exact⟨(List.pairwise_cons.mp h).1 b A9,(List.pairwise_cons.mp h).2⟩
theorem XO{σ:List Int}{v:Int}(nd:σ.Nodup):(step_dedup σ v).Nodup:=by
 unfold step_dedup;split
 .exact nd
 .rename_i h;refine List.nodup_append.mpr ⟨nd,by simp,fun a ha b hb e=>h (List.any_eq_true.mpr ⟨a,ha,?_⟩)⟩;rw[List.mem_singleton.mp hb]at e;rw[e];simp
theorem ID:∀(ns σ:List Int),σ.Nodup->(ns.foldl step_dedup σ).Nodup
 |[]=>fun _ h=>h
 |n::ns=>fun σ h=>ID ns _ (XO h)
theorem lc2{c:TF}{e:EF}{f:PyData->PyData}{t:PyData->Bool}{a:Option CD}{M:Sto}:∀(ds:List PyData)(s:Option CD),(∀d∈ds,c [a,some (.d d)] M=some (t d,M))->(∀d∈ds,t d=true->e [a,some (.d d)] M=some (.d (f d),M))->lcF (hName 1) c e (ds.map .d) [a,s] M=some (((ds.filter t).map f).map .d,M)
 |[]=>fun _ _ _=>rfl
 |d::ds=>fun s hc he=>by
  have ih:=lc2 (c:=c) (e:=e) (f:=f) (t:=t) (a:=a) (M:=M) ds (some (.d d)) (fun x hx=>hc x (A8 _ hx)) (fun x hx=>he x (A8 _ hx));have h1:=hc d A9;have h2:=he d A9;have hg:hName 1 (.d d) [a,s] M=some ([a,some (.d d)],M):=rfl;cases q:t d with
  |false=>simp only[List.map_cons,lcF,hg,Option.bind_some,h1,q,Bool.false_eq_true,if_false,ih,List.filter_cons_of_neg (show ¬t d=true by rw[q];decide)]
  |true=>simp only[List.map_cons,lcF,hg,Option.bind_some,h1,q,if_true,h2 q,ih,List.filter_cons_of_pos q]
theorem FV:ds.filter (fun _=>true)=ds:=List.filter_eq_self.mpr fun _ _=>rfl
theorem yF{α:Type}{f:α->Bool}:∀ds:List α,boolsOf (ds.map fun d=>.bool (f d))=some (ds.map f)
 |[]=>rfl
 |d::ds=>by show(boolsOf (ds.map fun d=>.bool (f d))).bind _=_;rw[yF ds];rfl
theorem all_map'{α:Type}{f:α->Bool}{ds:List α}:CW [.d (.list (ds.map fun d=>.bool (f d)))] M=some (B (ds.all f),M):=by
 show(boolsOf (ds.map fun d=>.bool (f d))).bind _=_;rw[yF,B3,List.all_map];rfl
noncomputable def Rw(k:Bool)(ds:List PyData):PyData:=if k then .list ds else .tuple ds
theorem aEk(h:zV x=true):∃k ds,x=Rw k ds:=by
 cases x<;>first|(cases h;done)|exact⟨true,_,rfl⟩|exact⟨false,_,rfl⟩
theorem kY(k:Bool)(ds:List PyData):bF (Rw k ds)=some ds:=by cases k<;>rfl
theorem PF{k:Bool}{f:EF}(h:f γ M=some (.d (Rw k ds),M)):cC f γ M=some (ds.map .d,M):=by
 simp only[cC,h,Option.bind_some,kY]
theorem PP{k:Bool}:lB [.d (Rw k ds)] M=some (I ds.length,M):=by cases k<;>rfl
theorem aEt{α:Type}(ds:List α):qQ ds (some 1) none=ds.drop 1:=by
 unfold qQ;rw[show(1:Int)=((1:Nat):Int)from rfl,HT.sIx_nat,HT.sIx_none];cases ds with
 |nil=>rfl
 |cons d ds=>rw[show min 1 (d::ds).length=1 by simp];exact List.take_of_length_le (by simp)
theorem aCM{k:Bool}:slF (.d (Rw k ds)) (some 1) none M=some (.d (Rw k (ds.drop 1)),M):=by
 cases k
 .show some (CD.d (.tuple (qQ ds (some 1) none)),M)=_;rw[aEt];rfl
 .show some (CD.d (.list (qQ ds (some 1) none)),M)=_;rw[aEt];rfl
theorem KJ{M:Sto}:∀(ns:List Int)(γ:Ga),(∃a b,γ=[a,b])->lcF (gX 2 (aZ (hName 0) (aZ (hName 1) gT))) gE (fOp ltI (aD 0) (aD 1)) (lC (ns.map .int) ((ns.map PyData.int).drop 1)) γ M=some (((lts ns).map fun b=>PyData.bool b).map .d,M)
 |[]=>fun _ _=>rfl
 |[_]=>fun _ _=>rfl
 |a::b::r=>fun γ h=>by
  obtain⟨x,y,rfl⟩:=h;have ih:=KJ (M:=M) (b::r) [some (I a),some (I b)] ⟨_,_,rfl⟩;show(lcF (gX 2 (aZ (hName 0) (aZ (hName 1) gT))) gE (fOp ltI (aD 0) (aD 1)) (lC ((b::r).map .int) (((b::r).map PyData.int).drop 1)) [some (I a),some (I b)] M).bind _=_;rw[ih];rfl
theorem IZ:∀ns:List Int,(lts ns).length<=ns.length
 |[]=>A7 _
 |[_]=>J5 _
 |a::b::r=>by have:=IZ (b::r);simp only[lts,List.length_cons]at this ⊢;omega
theorem DB{k:Bool}(hl:ns.length<=900):jQ [.d (Rw k (ns.map .int))] M=some (B ((lts ns).all id),M):=by
 have zl:(lC (ns.map PyData.int) ((ns.map PyData.int).drop 1)).length<=1000:=by
  have:=AB (ns.map PyData.int) ((ns.map PyData.int).drop 1);rw[A3]at this;omega
 have it:BZ (aC (aD 0) (aC (fSl (aD 0) (DK (fC (.int 1))) rM) aG)) [some (.d (Rw k (ns.map .int)))] M=some (lC (ns.map .int) ((ns.map PyData.int).drop 1),M):=by
  simp![BZ,fSl,DK,rM,asI,aCM];cases k<;>rfl
 have cp:kA [some (.d (Rw k (ns.map .int)))] M=some (.d (.list ((lts ns).map fun b=>.bool b)),M):=by
  unfold kA;exact iS it zl (KJ ns _ ⟨_,_,rfl⟩) (by rw[A3];have:=IZ ns;omega)
 have al:=all_map' (f:=id) (ds:=lts ns) (M:=M);have al:CW [.d (.list ((lts ns).map fun b=>.bool b))] M=some (B ((lts ns).all id),M):=al;simp![jQ,nF,cp,al]
noncomputable def HD(n:Int)(x:PyData):Bool:=match bF x with
 |some ds=>ds.all (plc n)&&(match mM ds with|some ns=>(lts ns).all id|none=>false)
 |none=>false
theorem ints_map:∀ns:List Int,mM (ns.map .int)=some ns
 |[]=>rfl
 |n::ns=>by show(mM (ns.map .int)).bind _=_;rw[ints_map ns];rfl
theorem FI{n:Int}:∀{ds:List PyData},ds.all (plc n)=true->∃ns:List Int,ds=ns.map .int/\∀i∈ns,0<=i/\i<n
 |[]=>fun _=>⟨[],rfl,fun i h=>by simp at h⟩
 |d::ds=>fun h=>by
  rw[Z5,B5]at h;obtain⟨i,rfl,i0,i1⟩:=rV h.1;obtain⟨ns,rfl,hn⟩:=FI h.2;refine⟨i::ns,rfl,fun j hj=>?_⟩;rcases List.mem_cons.mp hj with rfl|hj
  .exact⟨i0,i1⟩
  .exact hn j hj
theorem NP{k:Bool}(h:(ns.map PyData.int).all (plc n)=true):HD n (Rw k (ns.map .int))=(lts ns).all id:=by
 unfold HD;rw[kY];dsimp only;rw[h,ints_map];rfl
theorem RL(hl:∀ds,bF x=some ds->ds.length<=60):bM [I n,.d x] M=some (B (HD n x),M):=by
 cases hr:zV x with
 |false=>
  have:HD n x=false:=by unfold HD;cases x<;>first|rfl|(cases hr;done)
  rw[this];simp![bM,bZ,qK,hr]
 |true=>
  obtain⟨k,ds,rfl⟩:=aEk hr;have l60:=hl ds (kY k ds)
  have cp:dB [some (I n),some (.d (Rw k ds))] M=some (.d (.list (ds.map fun d=>.bool (plc n d))),M):=by
   unfold dB;refine iS (PF (k:=k) (ds:=ds) (by simp![])) (by rw[A3];omega) ?_ (by rw[A3];omega);have:=lc2 (c:=gE) (e:=aK dQ (aC (aD 0) (aC (aD 1) aG))) (f:=fun d=>.bool (plc n d)) (t:=fun _=>true) (a:=some (I n)) (M:=M) ds none (fun _ _=>rfl) (fun d _ _=>by simp![mC]);rw[FV]at this;exact this
  have al:=all_map' (f:=plc n) (ds:=ds) (M:=M);cases ha:ds.all (plc n)with
  |false=>
   have:HD n (Rw k ds)=false:=by unfold HD;rw[kY];dsimp only;rw[ha];rfl
   rw[this];rw[ha]at al;simp![bM,bZ,qK,hr,cp,al]
  |true=>
   rw[ha]at al;obtain⟨ns,rfl,hn⟩:=FI ha;rw[NP ha];have ri:=DB (k:=k) (ns:=ns) (M:=M) (by rw[A3]at l60;omega);simp![bM,bZ,qK,hr,cp,al,ri]
structure Itm(d:PyData):Prop where
 fit:Fit 9000 2 d
 lay:PyData.canLay0 d=true
theorem wX:∀{ds:List PyData},(∀d∈ds,Itm d)->PyData.canLayAll0 ds=true
 |[]=>fun _=>rfl
 |d::ds=>fun h=>by
  show(PyData.canLay0 d&&PyData.canLayAll0 ds)=true;rw[(h d A9).lay,wX fun x hx=>h x (A8 _ hx)];rfl
theorem zL:∀{ds:List PyData},(∀d∈ds,Itm d)->PyData.depthAll ds<=2
 |[]=>fun _=>by decide
 |d::ds=>fun h=>by
  show max (PyData.depth d) (PyData.depthAll ds)<=2;exact Nat.max_le.mpr ⟨(h d A9).fit.dp,zL fun x hx=>h x (A8 _ hx)⟩
theorem CP{ds:List PyData}(h:∀d∈ds,Itm d):SeqAt.shaped (.list ds)=true:=by
 unfold SeqAt.shaped;have e1:PyData.canLay0 (.list ds)=true:=wX h
 have e2:PyData.depth (.list ds)<=64:=by
  show PyData.depthAll ds+1<=64;have:=zL h;omega
 rw[e1,C5 e2];rfl
theorem UE(h:i.natAbs<2 ^ 200):Itm (.int i):=⟨⟨C5 (B8 h (Z9 (by decide) (by decide))),by show 2000<=9000;decide,by show 0<=2;decide⟩,rfl⟩
theorem OT{ns:List Int}(h:∀i∈ns,0<=i/\i<1000):∀d∈ns.map PyData.int,Itm d:=fun d hd=>by
 obtain⟨i,hi,rfl⟩:=List.mem_map.mp hd;have:=h i hi;exact UE (O8 (show i.natAbs<1000 by omega) (by decide))
noncomputable def inB(xs:List Int)(i:Int):Bool:=xs.any fun j=>j==i
noncomputable def cr(xs:List Int)(t:Tie):Bool:=!(inB xs t.i==inB xs t.j)
noncomputable def W(us:List Tie)(xs:List Int):Int:=((us.filter (cr xs)).map (·.a)).sum
structure Sd(n:Int)(xs:List Int):Prop where
 ris:xs.Pairwise (·<·)
 bd:∀i∈xs,0<=i/\i<n
 pos:0<xs.length
 lt:(xs.length:Int)<n
theorem inB_iff:inB xs i=true↔i∈xs:=by
 unfold inB;constructor
 .intro h;obtain⟨j,hj,e⟩:=List.any_eq_true.mp h;have:j=i:=by simpa using e
  exact this▸hj
 .exact fun h=>List.any_eq_true.mpr ⟨i,h,by simp⟩
theorem XE{xs:List Int}(h:∀i∈xs,0<=i/\i<n):(xs.map PyData.int).all (plc n)=true:=by
 rw[List.all_map];refine List.all_eq_true.mpr fun i hi=>?_;obtain⟨h0,h1⟩:=h i hi;show(decide (0<=i)&&decide (i<n))=true;rw[C5 h0,C5 h1];rfl
theorem JE{n:Int}:∀{xs:List Int}{lo:Int},xs.Pairwise (·<·)->(∀i∈xs,lo<=i/\i<n)->xs≠[]->(xs.length:Int)<=n-lo
 |[],_=>fun _ _ h=>absurd rfl h
 |[a],lo=>fun _ h _=>by have:=h a A9;simp only[List.length_singleton];omega
 |a::b::r,lo=>fun hp h _=>by
  have hp':=List.pairwise_cons.mp hp;have ha:=h a A9;have ih:=JE (xs:=b::r) (lo:=a+1) (n:=n) hp'.2 (fun i hi=>⟨by have:=hp'.1 i hi;omega,(h i (A8 _ hi)).2⟩) (by simp);simp only[List.length_cons]at ih ⊢;omega
section
variable{n:Int}{w:Nat}{ws:List Tie}{M:Sto}{k:Bool}{xs:List Int}
theorem nV.ob(h:nV M w n ws):∃fs,objOf "Web" M (.c w)=some (w,fs)/\List.lookup ("many":Str) fs=some (I n)/\List.lookup ("ties":Str) fs=some (.d (.tuple (cE ws))):=by
 obtain⟨fs,f1,f2,f3⟩:=h;exact⟨fs,by simp only[objOf,f1];rfl,f2,f3⟩
theorem Sd.l8(s:Sd n xs)(n8:n<=8):xs.length<=8:=by have:=s.lt;omega
theorem LO(hw:nV M w n ws)(s:Sd n xs)(n8:n<=8):oY [.c w,.d (Rw k (xs.map .int))] M=some (B true,M):=by
 obtain⟨fs,ob,f2,_⟩:=hw.ob;have l8:=s.l8 n8;have r1:=RL (n:=n) (M:=M) (x:=Rw k (xs.map .int)) fun ds h=>by rw[kY]at h;cases h;rw[A3];omega
 rw[NP (XE s.bd),(OG xs).mpr s.ris]at r1;have ln:lB [.d (Rw k (xs.map .int))] M=some (I (xs.length:Nat),M):=by rw[PP,A3]
 have sp:=s.pos;have sl:=s.lt;obtain⟨J,hJ⟩:∃J:Int,J=(xs.length:Nat):=⟨_,rfl⟩;rw[<- hJ]at ln sl;have c1:decide ((0:Int)<J)=true:=C5 (by omega);have c2:decide (J<n)=true:=C5 sl;simp![oY,sC,kB,ob,f2,r1,ln,c1,c2]
theorem DZ(hw:nV M w n ws)(s:Sd n xs)(n8:n<=8):bP [.c w,.d (Rw k (xs.map .int))] M=some (.d .none,M):=by
 have e:=LO (k:=k) hw s n8;simp![bP,fW,e]
noncomputable def kvS(xs:List Int):List (Key×CD):=xs.map fun i=>(.inl i,B true)
theorem QG(h:i∉xs):putD (kvS xs) (.inl i) (B true)=kvS (xs++[i]):=by
 unfold putD
 rw[B2 fun q=>by
  obtain⟨kv,hk,e⟩:=List.any_eq_true.mp q;obtain⟨j,hj,rfl⟩:=List.mem_map.mp hk;have e:(Sum.inl j:Key)=.inl i:=C3 e;injection e with e
  exact h (e▸hj)]
 unfold kvS;rw[J8];rfl
theorem JP:∀(xs:List Int)(i:Int),(lkC (kvS xs) (.inl i)).isSome=inB xs i
 |[]=>fun i=>rfl
 |j::xs=>fun i=>by
  have ih:=JP xs i;by_cases e:j=i
  .rw[e];simp[lkC,kvS,inB]
  .have ne:(Sum.inl j:Key)≠.inl i:=fun q=>e (by injection q);have:lkC (kvS (j::xs)) (.inl i)=lkC (kvS xs) (.inl i):=by unfold lkC kvS;rw[C6,List.find?_cons_of_neg (by simpa using ne)]
   rw[this,ih];unfold inB;rw[O1,show(j==i)=false by simpa using e,Bool.false_or]
end
theorem JM{M:Sto}:∀(ys xs:List Int)(s:Option CD),(xs++ys).Nodup->xs.length+ys.length<900->dcF M.length (hName 0) gE (sV (aD 0)) (fC (.bool true)) (ys.map fun i=>I i) [s] (M++[.dk (kvS xs)])=some (M++[.dk (kvS (xs++ys))])
 |[]=>fun xs s _ _=>by rw[L4];rfl
 |y::ys=>fun xs s nd hl=>by
  have ny:y∉xs:=fun h=>(List.nodup_append.mp nd).2.2 y h y A9 rfl;have ih:=JM (M:=M) ys (xs++[y]) (some (I y)) (by simpa using nd) (by rw[B9,E7];simp only[List.length_cons]at hl;omega);rw[S0,List.singleton_append]at ih;have ll:(kvS xs).length<sizeLine:=by unfold kvS;rw[A3,F8];omega
  have g1:hName 0 (I y) [s] (M++[.dk (kvS xs)])=some ([some (I y)],M++[.dk (kvS xs)]):=rfl;have g2:sV (aD 0) [some (I y)] (M++[.dk (kvS xs)])=some (.inl (.inl y),M++[.dk (kvS xs)]):=rfl
  have g3:uI (M++[.dk (kvS xs)]) (.c M.length) (.inl (.inl y)) (B true)=some (M++[.dk (kvS (xs++[y]))]):=by
   have e:(M++[Cell.dk (kvS xs)])[M.length]?=some (.dk (kvS xs)):=oJ;simp only[uI,e,if_pos ll,QG ny];rw[show(M++[Cell.dk (kvS xs)]).set M.length (.dk (kvS (xs++[y])))=M++[.dk (kvS (xs++[y]))]from sG]
  simp only[List.map_cons,dcF,g1,Option.bind_some,gE,if_true,g2,fC,g3,ih]
section
variable{n:Int}{w:Nat}{ws us:List Tie}{M:Sto}{k:Bool}{xs:List Int}
noncomputable def PW(ws:List Tie)(xs:List Int):Int:=((ws.filter (cr xs)).map fun t=>t.a*(55440 / t.b)).sum
theorem VY(M:Sto)(ha:0<=a)(ha2:a<=1000000000000)(hb:1<=b)(hb2:b<=55440):oW [.d (.tuple [.int a,.int b])] M=some (I (a*(55440 / b)),M):=by
 have d1:jN 55440 b=true:=gR (by omega) (wsm (by omega) (by omega));have m1:fV a (55440 / b)=true:=YH (by omega);have i0:ixF (.d (.tuple [.int a,.int b])) (I 0) M=some (I a,M):=rfl;have i1:ixF (.d (.tuple [.int a,.int b])) (I 1) M=some (I b,M):=rfl;simp![oW,BO,i0,i1,d1,m1]
theorem OP(a b:Bool)(M:Sto):eqX true (B a) (B b) M=some (B (!(a==b)),M):=by cases a<;>cases b<;>rfl
theorem in_dict{q:Nat}{N:Sto}{u:Nat}(hq:N[q]?=some (.dk (kvS xs)))(h0:γ[v]?=some (some (.c q)))(h1:γ[u]?=some (some (I i))):sM false (sV (aD u)) (aD v) γ N=some (B (inB xs i),N):=by
 have e:atD N (.c q) (.inl (.inl i))=some (lkC (kvS xs) (.inl i)):=by simp only[atD,hq]
 simp only[sM,sV,aD,h0,h1,Option.bind_some,keyOf,e,JP];rfl
theorem KI{q:Nat}{N:Sto}(hq:N[q]?=some (.dk (kvS xs))):∀(ws:List Tie)(a b c:Option CD),(∀t∈ws,jY t.a t.b=true)->lcF (gX 3 (aZ (hName 1) (aZ (hName 2) (aZ (hName 3) gT)))) (gB (fOp (eqX true) (sM false (sV (aD 1)) (aD 0)) (sM false (sV (aD 2)) (aD 0)))) (aK oW (aC (aD 3) aG)) ((cE ws).map .d) [some (.c q),a,b,c] N=some ((((ws.filter (cr xs)).map fun t=>t.a*(55440 / t.b)).map PyData.int).map .d,N)
 |[]=>fun _ _ _ _=>rfl
 |t::ws=>fun a b c h=>by
  have ih:=KI hq ws (some (I t.i)) (some (I t.j)) (some (.d (.tuple [.int t.a,.int t.b]))) fun u hu=>h u (A8 _ hu);have hg:gX 3 (aZ (hName 1) (aZ (hName 2) (aZ (hName 3) gT))) (.d (.tuple (f2 t))) [some (.c q),a,b,c] N=some ([some (.c q),some (I t.i),some (I t.j),some (.d (.tuple [.int t.a,.int t.b]))],N):=rfl;have d1:=in_dict (γ:=[some (.c q),some (I t.i),some (I t.j),some (.d (.tuple [.int t.a,.int t.b]))]) (v:=0) (u:=1) (i:=t.i) hq rfl rfl;have d2:=in_dict (γ:=[some (.c q),some (I t.i),some (I t.j),some (.d (.tuple [.int t.a,.int t.b]))]) (v:=0) (u:=2) (i:=t.j) hq rfl rfl
  have hc:gB (fOp (eqX true) (sM false (sV (aD 1)) (aD 0)) (sM false (sV (aD 2)) (aD 0))) [some (.c q),some (I t.i),some (I t.j),some (.d (.tuple [.int t.a,.int t.b]))] N=some (cr xs t,N):=by
   simp only[gB,fOp,d1,d2,Option.bind_some,OP,asB];rfl
  have wb:=ZS (h t A9);have hp:=VY N wb.1 wb.2.1 wb.2.2.1 wb.2.2.2
  have he:aK oW (aC (aD 3) aG) [some (.c q),some (I t.i),some (I t.j),some (.d (.tuple [.int t.a,.int t.b]))] N=some (I (t.a*(55440 / t.b)),N):=by
   simp![hp]
  have rc:(cE (t::ws)).map CD.d=.d (.tuple (f2 t))::(cE ws).map .d:=rfl;cases q':cr xs t with
  |false=>
   rw[q']at hc;simp only[rc,lcF,hg,Option.bind_some,hc,Bool.false_eq_true,if_false,ih,List.filter_cons_of_neg (show ¬cr xs t=true by rw[q'];decide)]
  |true=>
   rw[q']at hc;simp only[rc,lcF,hg,Option.bind_some,hc,if_true,he,ih,List.filter_cons_of_pos q',List.map_cons]
noncomputable def amt(S:Int):PyData:=.tuple [.int (S / (Int.gcd S 55440:Int)),.int (55440 / (Int.gcd S 55440:Int))]
theorem aBv(M:Sto)(h:0<=S):iH [I S] M=some (.d (amt S),M):=by
 have c:=DI (a:=S) (b:=55440) M h (by decide);have g1:=uR (a:=S) (b:=55440) (by decide);have g2:=HV (a:=S) (b:=55440) (by decide);have d1:∀x,jN x (Int.gcd S 55440:Int)=true:=fun x=>gR (by omega) (wsm (by omega) (by omega))
 have l:eD [I S,I 55440] M=some (.d (amt S),M):=by
  unfold amt;generalize (Int.gcd S 55440:Int)=g at c d1;simp![eD,fX,c,d1,show(2:Nat)<=sizeLine by decide]
 simp![iH,lN,l]
theorem HA:∀l:List Int,(∀x∈l,0<=x)->0<=l.sum
 |[]=>fun _=>by simp
 |x::l=>fun h=>by
  have a:=h x A9;have b:=HA l fun y hy=>h y (A8 _ hy);simp only[List.sum_cons];omega
theorem xS(hw:nV M w n ws)(hg:∀t∈ws,jY t.a t.b=true)(hl:ws.length<=30)(s:Sd n xs)(n8:n<=8):∃x,aY [.c w,.d (Rw k (xs.map .int))] M=some (.d (amt (PW ws xs)),M++[x]):=by
 have rf:=DZ (k:=k) hw s n8;have l8:=s.l8 n8;obtain⟨fs,ob,_,f3⟩:=(hw.app (L:=[.dk (kvS xs)])).ob;have nd:xs.Nodup:=s.ris.imp fun h=>by omega
 have it:cC (aD 1) [some (.c w),some (.d (Rw k (xs.map .int))),none] M=some (xs.map fun i=>I i,M):=by
  rw[PF (k:=k) (ds:=xs.map .int) (by simp![]),E5];rfl
 have c0:eZ [some (.c w),some (.d (Rw k (xs.map .int))),none] M=some (.c M.length,M++[.dk (kvS xs)]):=by
  have:=JM (M:=M) xs [] none (by simpa using nd) (by simp only[List.length_nil];omega);rw[A0a]at this;unfold eZ fDc;rw[it,B3];dsimp only;rw[show iR [none] [some (CD.c w),some (.d (Rw k (xs.map .int))),none]=[none]from rfl,show M++[Cell.dk []]=M++[.dk (kvS [])]from rfl,this,B3]
 have hq:(M++[Cell.dk (kvS xs)])[M.length]?=some (.dk (kvS xs)):=oJ;refine⟨.dk (kvS xs),?_⟩;generalize M++[Cell.dk (kvS xs)]=N at c0 hq ob;generalize M.length=q at c0 hq
 have it1:cC (kB "Web" "ties" (aD 0)) [some (.c w),some (.d (Rw k (xs.map .int))),some (.c q)] N=some ((cE ws).map .d,N):=by
  simp![cC,kB,ob,f3,bF]
 have c1:hZ [some (.c w),some (.d (Rw k (xs.map .int))),some (.c q)] N=some (.d (.list (((ws.filter (cr xs)).map fun t=>t.a*(55440 / t.b)).map .int)),N):=by
  unfold hZ;exact iS it1 (by unfold cE;rw[A3,A3];omega) (KI hq ws none none none hg) (by rw[A3,A3];exact C7 (I0 ..) (by omega))
 have sm:sumF [.d (.list (((ws.filter (cr xs)).map fun t=>t.a*(55440 / t.b)).map .int))] N=some (I (PW ws xs),N):=by
  simp only[sumF,ints_map,Option.bind_some];rfl
 have nn:0<=PW ws xs:=HA _ fun x hx=>by
  obtain⟨t,ht,rfl⟩:=List.mem_map.mp hx;have wb:=ZS (hg t (List.mem_filter.mp ht).1);exact Int.mul_nonneg wb.1 (Int.ediv_nonneg (by decide) (by omega))
 have fr:=aBv N nn
 have a0:lA (aK bP (aC (aD 0) (aC (aD 1) aG))) [some (.c w),some (.d (Rw k (xs.map .int))),none] M=some (.nx [some (.c w),some (.d (Rw k (xs.map .int))),none],M):=by
  simp![rf]
 have a1:aV eZ (hName 2) [some (.c w),some (.d (Rw k (xs.map .int))),none] M=some (.nx [some (.c w),some (.d (Rw k (xs.map .int))),some (.c q)],N):=(cL c0).trans rfl;refine pP rfl ?_;unfold kP;show aX _ _ [some (.c w),some (.d (Rw k (xs.map .int))),none] M=_;rw[bA a0,bA a1];simp![c1,sm,fr]
theorem OH{v:Int}(h:v∈wts):v / (Int.gcd v 55440:Int)*(55440 / (55440 / (Int.gcd v 55440:Int)))=v:=by
 have:wts.all fun v=>decide (v / (Int.gcd v 55440:Int)*(55440 / (55440 / (Int.gcd v 55440:Int)))=v):=by decide +kernel
 exact C3 (List.all_eq_true.mp this v h)
theorem qR:∀{l m:List Int},l.Perm m->l.sum=m.sum
 |_,_,.nil=>rfl
 |_,_,.cons x h=>by simp only[List.sum_cons,qR h]
 |_,_,.swap x y l=>by simp only[List.sum_cons];omega
 |_,_,.trans h1 h2=>(qR h1).trans (qR h2)
theorem aFG(pm:ws.Perm (us.map low))(ok:OkW n us)(xs:List Int):PW ws xs=W us xs:=by
 unfold PW W;rw[qR ((pm.filter (cr xs)).map _),List.filter_map,E5];have e:(cr xs ∘ low)=cr xs:=rfl;rw[e];congr 1;refine L9 fun t ht=>?_;exact OH (ok.1 t (List.mem_filter.mp ht).1).2.2.2.1
end
noncomputable def kvF(us:List Tie):List (List Key×PyData):=us.map fun t=>(t.key,.int t.a)
theorem aBs{t:Tie}(nd:(us.map Tie.key).Nodup)(ht:t∈us):lkP (kvF us) t.key=some (.int t.a):=by
 unfold lkP kvF;rw[List.find?_map]
 have:us.find? ((fun kv:List Key×PyData=>decide (kv.1=t.key)) ∘ fun t=>(t.key,PyData.int t.a))=some t:=by
  induction us with
  |nil=>simp at ht
  |cons s us ih=>
   rw[C6,List.nodup_cons]at nd;by_cases e:s.key=t.key
   .rcases List.mem_cons.mp ht with rfl|h
    .rw[List.find?_cons_of_pos (by simp)]
    .exact absurd (List.mem_map.mpr ⟨t,h,e.symm⟩) nd.1
   .rw[List.find?_cons_of_neg (by simpa using e)];rcases List.mem_cons.mp ht with rfl|h
    .exact absurd rfl e
    .exact ih nd.2 h
 rw[this];rfl
theorem uU{k:Bool}(neg:Bool):inD neg (I i) (.d (Rw k (ys.map .int))) M=some (B (if neg then !inB ys i else inB ys i),M):=by
 have sh:(ys.map PyData.int).all SeqAt.shaped=true:=by rw[List.all_map];exact List.all_eq_true.mpr fun _ _=>rfl
 have an:((ys.map PyData.int).any fun d=>PyData.eqv d (.int i))=inB ys i:=by rw[List.any_map];rfl
 show(bF (Rw k (ys.map .int))).bind _=_;rw[kY,B3];show(if (SeqAt.shaped (.int i)&&(ys.map PyData.int).all SeqAt.shaped)=true then _ else _)=_;rw[sh,show(SeqAt.shaped (.int i)&&true)=true from rfl,B0 rfl,an]
section
variable{us:List Tie}{xs:List Int}{M:Sto}
noncomputable abbrev wC:TF:=gB (fOp (eqX true) (fOp (inD false) (fOp ixF (aD 2) (fC (.int 0))) (aD 1)) (fOp (inD false) (fOp ixF (aD 2) (fC (.int 1))) (aD 1)))
noncomputable abbrev wE:EF:=tO (aD 0) (kT (aD 2))
theorem IY(nd:(us.map Tie.key).Nodup):∀(vs:List Tie)(s:Option CD),(∀t∈vs,t∈us)->lcF (hName 2) wC wE (vs.map fun t=>uH t.key) [some (.f (kvF us)),some (.d (Rw false (xs.map .int))),s] M=some ((((vs.filter (cr xs)).map (·.a)).map PyData.int).map .d,M)
 |[]=>fun _ _=>rfl
 |t::vs=>fun s hv=>by
  have ih:=IY nd vs (some (uH t.key)) fun u hu=>hv u (A8 _ hu);have hg:hName 2 (uH t.key) [some (.f (kvF us)),some (.d (Rw false (xs.map .int))),s] M=some ([some (.f (kvF us)),some (.d (Rw false (xs.map .int))),some (uH t.key)],M):=rfl;have i0:ixF (uH t.key) (I 0) M=some (I t.i,M):=rfl;have i1:ixF (uH t.key) (I 1) M=some (I t.j,M):=rfl;have n1:=uU (k:=false) (i:=t.i) (ys:=xs) (M:=M) false;have n2:=uU (k:=false) (i:=t.j) (ys:=xs) (M:=M) false
  have hc:wC [some (.f (kvF us)),some (.d (Rw false (xs.map .int))),some (uH t.key)] M=some (cr xs t,M):=by
   simp![wC,i0,i1,n1,n2,OP];rfl
  have lk:=aBs nd (hv t A9);have kt:kT (aD 2) [some (.f (kvF us)),some (.d (Rw false (xs.map .int))),some (uH t.key)] M=some (.inr t.key,M):=rfl
  have he:wE [some (.f (kvF us)),some (.d (Rw false (xs.map .int))),some (uH t.key)] M=some (I t.a,M):=by
   have ad:atD M (.f (kvF us)) (.inr t.key)=some (some (I t.a)):=by
    show some ((lkP (kvF us) t.key).map CD.d)=_;rw[lk];rfl
   simp only[wE,tO,aD,List.getElem?_cons_zero,Option.bind_some,kt,ad]
  cases q':cr xs t with
  |false=>
   rw[q']at hc;simp only[List.map_cons,lcF,hg,Option.bind_some,hc,Bool.false_eq_true,if_false,ih,List.filter_cons_of_neg (show ¬cr xs t=true by rw[q'];decide)]
  |true=>
   rw[q']at hc;simp only[List.map_cons,lcF,hg,Option.bind_some,hc,if_true,he,ih,List.filter_cons_of_pos q',List.map_cons]
theorem FA(ok:OkW n us)(hl:us.length<=30):cP [.f (kvF us),.d (Rw false (xs.map .int))] M=some (I (W us xs),M):=by
 have it:KL (aD 0) [some (.f (kvF us)),some (.d (Rw false (xs.map .int)))] M=some (us.map fun t=>uH t.key,M):=by
  show some ((kvF us).map fun kv=>uH kv.1,M)=_;unfold kvF;rw[E5];rfl
 have c0:fI [some (.f (kvF us)),some (.d (Rw false (xs.map .int)))] M=some (.d (.list (((us.filter (cr xs)).map (·.a)).map .int)),M):=by
  unfold fI;exact iS it (by rw[A3];omega) (IY ok.2 us none fun t h=>h) (by rw[A3,A3];exact C7 (I0 ..) (by omega))
 have sm:sumF [.d (.list (((us.filter (cr xs)).map (·.a)).map .int))] M=some (I (W us xs),M):=by
  simp only[sumF,ints_map,Option.bind_some];rfl
 simp![cP,gG,c0,sm]
theorem aAe(h:w∈wts):0<=w/\w<=55440000000000:=by
 have:wts.all fun w=>decide (0<=w)&&decide (w<=55440000000000):=by decide
 have:=List.all_eq_true.mp this w h;simpa using this
theorem TY:∀(l:List Int)(b:Int),(∀x∈l,x<=b)->l.sum<=l.length*b
 |[]=>fun _ _=>by simp
 |x::l=>fun b h=>by
  have h1:=h x A9;have h2:=TY l b fun y hy=>h y (A8 _ hy);simp only[List.sum_cons,List.length_cons];rw[show((l.length+1:Nat):Int)=(l.length:Int)+1 by omega,Int.add_mul,Int.one_mul];omega
theorem W_b(ok:OkW n us)(hl:us.length<=30):0<=W us xs/\W us xs<10000000000000000:=by
 have hm:∀x∈(us.filter (cr xs)).map (·.a),0<=x/\x<=55440000000000:=fun x hx=>by
  obtain⟨t,ht,rfl⟩:=List.mem_map.mp hx;exact aAe (ok.1 t (List.mem_filter.mp ht).1).2.2.2.1
 refine⟨HA _ fun x hx=>(hm x hx).1,?_⟩;have h1:=TY _ 55440000000000 fun x hx=>(hm x hx).2;have h2:((us.filter (cr xs)).map (·.a)).length<=30:=by rw[A3];exact C7 (I0 ..) hl
 unfold W;have h3:((((us.filter (cr xs)).map (·.a)).length:Nat):Int)*55440000000000<=30*55440000000000:=Int.mul_le_mul_of_nonneg_right (by omega) (by decide);omega
theorem aCS(M:Sto)(h:0<=S):cH [I S,I 55440] M=some (.d (amt S),M):=DQ M h (by decide) (wsm (by decide) (by decide))
theorem SZ(h0:0<=S)(h1:S<10000000000000000):pK [.d (amt S)] M=some (.d (.str (PyData.shown (amt S))),M):=by
 have g1:=uR (a:=S) (b:=55440) (by decide);have q1:0<=S / (Int.gcd S 55440:Int):=Int.ediv_nonneg h0 (by omega);have q2:S / (Int.gcd S 55440:Int)<=S:=Int.ediv_le_self _ h0;have q3:0<=55440 / (Int.gcd S 55440:Int):=Int.ediv_nonneg (by decide) (by omega);have q4:55440 / (Int.gcd S 55440:Int)<=55440:=Int.ediv_le_self _ (by decide);rw[US];refine NW (n:=5000) (m:=1) ⟨?_,?_,?_⟩ (by rw[F8];decide) (by decide)
 .show(decide (_<2 ^ 1900)&&(decide (_<2 ^ 1900)&&true))=true;rw[C5 (B8 (show(S / (Int.gcd S 55440:Int)).natAbs<2 ^ 200 by omega) (Z9 (by decide) (by decide))),C5 (B8 (show(55440 / (Int.gcd S 55440:Int)).natAbs<2 ^ 200 by omega) (Z9 (by decide) (by decide)))];rfl
 .show 2000+2+(2000+2+0)+3<=5000;decide
 .show max 0 (max 0 0)+1<=1;decide
end
noncomputable def zsI(n:Int):List Int:=(List.range n.toNat).map fun k:Nat=>(k:Int)
theorem OU(n:Int):fE 0 n.toNat=(zsI n).map fun i=>I i:=by
 unfold fE zsI;rw[E5];refine L9 fun k _=>?_;show CD.d (.int (0+(k:Nat)))=I (k:Nat);rw[Int.zero_add]
theorem IH(n:Int):(zsI n).Pairwise (·<·):=by
 unfold zsI;rw[List.pairwise_map];exact List.pairwise_lt_range.imp fun h=>by omega
theorem zs_mem:i∈zsI n↔0<=i/\i<n:=by
 unfold zsI;rw[List.mem_map];constructor
 .rintro⟨k,hk,rfl⟩;have:=List.mem_range.mp hk;omega
 .intro h;exact⟨i.toNat,List.mem_range.mpr (by omega),by omega⟩
theorem HP(n:Int):(zsI n).length=n.toNat:=by unfold zsI;rw[A3,Z0]
noncomputable def oth(n:Int)(xs:List Int):List Int:=(zsI n).filter fun i=>!inB xs i
theorem TZ(h0:0<=i)(h1:i<n):inB (oth n xs) i=!inB xs i:=by
 cases h:inB xs i with
 |true=>
  cases q:inB (oth n xs) i with
  |false=>rfl
  |true=>
   have:=(List.mem_filter.mp (inB_iff.mp q)).2;rw[h]at this;cases this
 |false=>exact inB_iff.mpr (List.mem_filter.mpr ⟨zs_mem.mpr ⟨h0,h1⟩,by rw[h];rfl⟩)
theorem vY{α:Type}(f:α->Bool):∀l:List α,(l.filter f).length+(l.filter fun x=>!f x).length=l.length
 |[]=>rfl
 |a::l=>by
  have ih:=vY f l;cases h:f a with
  |true=>rw[Y7 h,Y8 (by rw[h];decide)];simp only[List.length_cons];omega
  |false=>rw[Y8 (by rw[h];decide),Y7 (by rw[h];rfl)];simp only[List.length_cons];omega
theorem DD(s:Sd n xs):(zsI n).filter (inB xs)=xs:=by
 have pm:((zsI n).filter (inB xs)).Perm xs:=(List.perm_ext_iff_of_nodup (((IH n).filter _).imp fun h=>by omega) (s.ris.imp fun h=>by omega)).mpr fun i=>by
  rw[List.mem_filter,zs_mem,inB_iff];exact⟨fun h=>h.2,fun h=>⟨s.bd i h,h⟩⟩
 exact rZ (((IH n).filter _).imp fun h=>by omega) (s.ris.imp fun h=>by omega) pm
theorem Sd.oth(s:Sd n xs):Sd n (oth n xs):=by
 have fa:=vY (inB xs) (zsI n);rw[DD s,HP]at fa;have sp:=s.pos;have sl:=s.lt;refine⟨(IH n).filter _,fun i hi=>zs_mem.mp (List.mem_filter.mp hi).1,?_,?_⟩
 .show 0<(List.filter (fun i=>!inB xs i) (zsI n)).length;omega
 .show((List.filter (fun i=>!inB xs i) (zsI n)).length:Int)<n;omega
theorem aDL(ok:OkW n us)(xs:List Int):W us (oth n xs)=W us xs:=by
 unfold W;rw[List.filter_congr fun t ht=>?_];obtain⟨a1,a2,a3,_⟩:=ok.1 t ht;unfold cr;rw[TZ a1 (by omega),TZ (by omega) a3];cases inB xs t.i<;>cases inB xs t.j<;>rfl
section
variable{n:Int}{w:Nat}{ws us:List Tie}{M:Sto}{k:Bool}{xs ys:List Int}
theorem lcI{c:TF}{t:Int->Bool}{a:Option CD}{M:Sto}:∀(is:List Int)(s:Option CD),(∀i∈is,c [a,some (I i)] M=some (t i,M))->lcF (hName 1) c (aD 1) (is.map fun i=>I i) [a,s] M=some (((is.filter t).map PyData.int).map .d,M)
 |[]=>fun _ _=>rfl
 |i::is=>fun s hc=>by
  have ih:=lcI (c:=c) (t:=t) (a:=a) (M:=M) is (some (I i)) (fun x hx=>hc x (A8 _ hx));have h1:=hc i A9;have hg:hName 1 (I i) [a,s] M=some ([a,some (I i)],M):=rfl;have hv:aD 1 [a,some (I i)] M=some (I i,M):=rfl;cases q:t i with
  |false=>
   rw[q]at h1;simp only[List.map_cons,lcF,hg,Option.bind_some,h1,Bool.false_eq_true,if_false,ih,List.filter_cons_of_neg (show ¬t i=true by rw[q];decide)]
  |true=>
   rw[q]at h1;simp only[List.map_cons,lcF,hg,Option.bind_some,h1,if_true,hv,ih,List.filter_cons_of_pos q]
theorem QZ(hw:nV M w n ws)(s:Sd n xs)(n0:2<=n)(n8:n<=8):uY [.c w,.d (Rw k (xs.map .int))] M=some (.d (Rw false ((oth n xs).map .int)),M):=by
 obtain⟨fs,ob,f2,_⟩:=hw.ob;have rf:=DZ (k:=k) hw s n8
 have it:cU (aC (kB "Web" "many" (aD 0)) aG) [some (.c w),some (.d (Rw k (xs.map .int)))] M=some ((zsI n).map fun i=>I i,M):=by
  rw[<- OU];exact pR (J:=n) (by simp![kB,ob,f2]) (mO (by omega) (by omega))
 have l1:=HP n
 have cp:qB [some (.c w),some (.d (Rw k (xs.map .int)))] M=some (.d (.list ((oth n xs).map .int)),M):=by
  unfold qB;refine iS it (by rw[A3];omega) ?_ (by rw[A3];exact C7 (I0 ..) (by omega))
  exact lcI (a:=some (.d (Rw k (xs.map .int)))) (t:=fun i=>!inB xs i) (zsI n) none fun i _=>by
   have q:=uU (k:=k) (i:=i) (ys:=xs) (M:=M) true;simp![q]
 have tf:eQ [.d (.list ((oth n xs).map .int))] M=some (.d (Rw false ((oth n xs).map .int)),M):=rfl
 have a0:lA (aK bP (aC (aD 0) (aC (aD 1) aG))) [some (.c w),some (.d (Rw k (xs.map .int)))] M=some (.nx [some (.c w),some (.d (Rw k (xs.map .int)))],M):=by
  simp![rf]
 refine pP rfl ?_;unfold wA;show aX _ _ [some (.c w),some (.d (Rw k (xs.map .int)))] M=_;rw[bA a0];simp![cp,tf]
structure Wb(M:Sto)(w:Nat)(n:Int)(us ws:List Tie):Prop where
 web:nV M w n ws
 pm:ws.Perm (us.map low)
 ok:OkW n us
 len:us.length<=30
theorem Wb.app{L:Sto}(h:Wb M w n us ws):Wb (M++L) w n us ws:=⟨h.web.app,h.pm,h.ok,h.len⟩
theorem Wb.wgt(h:Wb M w n us ws):∀t∈ws,jY t.a t.b=true:=fun t ht=>by
 obtain⟨s,hs,rfl⟩:=List.mem_map.mp (h.pm.mem_iff.mp ht);exact JR (h.ok.1 s hs).2.2.2.1
theorem Wb.sw(h:Wb M w n us ws)(s:Sd n xs)(n8:n<=8)(k:Bool):∃x,aY [.c w,.d (Rw k (xs.map .int))] M=some (.d (amt (W us xs)),M++[x]):=by
 obtain⟨x,e⟩:=xS (k:=k) h.web h.wgt (by rw[h.pm.length_eq,A3];exact h.len) s n8;rw[aFG h.pm h.ok]at e;exact⟨x,e⟩
theorem aFO{s:Str}:eqX false (.d (.str s)) (.d (.str s)) M=some (B true,M):=by
 show some (B (s==s),M)=_;rw[beq_self_eq_true]
theorem VA(h:Wb M w n us ws)(s:Sd n xs)(n0:2<=n)(n8:n<=8)(k:Bool):∃L,lE [.c w,.f (kvF us),.d (Rw false (xs.map .int)),.d (Rw k (xs.map .int))] M=some (B true,M++L):=by
 have wb:=W_b (xs:=xs) h.ok h.len;have e1:=FA (xs:=xs) (M:=M) h.ok h.len;have e2:=aCS M wb.1;have r:=fun N:Sto=>SZ (M:=N) wb.1 wb.2;obtain⟨x,e3⟩:=h.sw s n8 k;have h1:Wb (M++[x]) w n us ws:=h.app;have e4:=QZ (k:=k) h1.web s n0 n8;obtain⟨y,e5⟩:=h1.sw s.oth n8 false;rw[aDL h.ok]at e5;refine⟨[x,y],?_⟩;rw[show M++[x,y]=M++[x]++[y]by simp];generalize M++[x]++[y]=N2 at e5;generalize M++[x]=N1 at e3 e4 e5;generalize amt (W us xs)=A at e2 r e3 e5;generalize PyData.shown A=t at r
 have a1:aV (aK pK (aC (aK cH (aC (aK cP (aC (aD 1) (aC (aD 2) aG))) (aC (fC (.int 55440)) aG))) aG)) (hName 4) [some (.c w),some (.f (kvF us)),some (.d (Rw false (xs.map .int))),some (.d (Rw k (xs.map .int))),none] M=some (.nx [some (.c w),some (.f (kvF us)),some (.d (Rw false (xs.map .int))),some (.d (Rw k (xs.map .int))),some (.d (.str t))],M):=by
  refine(cL (x:=.d (.str t)) ?_).trans rfl;simp![e1,e2,r]
 refine pP rfl ?_;unfold lU;show aX _ _ [some (.c w),some (.f (kvF us)),some (.d (Rw false (xs.map .int))),some (.d (Rw k (xs.map .int))),none] M=_;rw[bA a1];simp![e3,e4,e5,r,aFO]
theorem VJ(xs ys zs vs:List Int)(t:Tie)(h1:∀i,inB zs i=(inB xs i || inB ys i))(h2:∀i,inB vs i=(inB xs i&&inB ys i))(h0:0<=t.a):(if cr zs t then t.a else 0)+(if cr vs t then t.a else 0)<=(if cr xs t then t.a else 0)+(if cr ys t then t.a else 0):=by
 unfold cr;rw[h1,h1,h2,h2];cases inB xs t.i<;>cases inB xs t.j<;>cases inB ys t.i<;>cases inB ys t.j<;>simp<;>omega
theorem AS(t:Tie)(us:List Tie)(xs:List Int):W (t::us) xs=(if cr xs t then t.a else 0)+W us xs:=by
 unfold W;cases h:cr xs t with
 |true=>rw[Y7 h,C6,List.sum_cons];rfl
 |false=>rw[Y8 (by rw[h];decide)];simp
theorem ZZ(xs ys zs vs:List Int)(h1:∀i,inB zs i=(inB xs i || inB ys i))(h2:∀i,inB vs i=(inB xs i&&inB ys i)):∀us:List Tie,(∀t∈us,0<=t.a)->W us zs+W us vs<=W us xs+W us ys
 |[]=>fun _=>by simp[W]
 |t::us=>fun h=>by
  have ih:=ZZ xs ys zs vs h1 h2 us fun u hu=>h u (A8 _ hu);have:=VJ xs ys zs vs t h1 h2 (h t A9);rw[AS,AS,AS,AS];omega
theorem mF(M:Sto)(h0:0<=S)(h1:S<10000000000000000):aW [.d (amt S)] M=some (I S,M):=by
 have g1:=uR (a:=S) (b:=55440) (by decide);have gl:=HV (a:=S) (b:=55440) (by decide);have d1:(Int.gcd S 55440:Int) ∣ S:=Int.gcd_dvd_left S 55440;have d2:(Int.gcd S 55440:Int) ∣ 55440:=Int.gcd_dvd_right S 55440;have q1:0<=S / (Int.gcd S 55440:Int):=Int.ediv_nonneg h0 (by omega);have q2:S / (Int.gcd S 55440:Int)<=S:=Int.ediv_le_self _ h0;have q3:0<55440 / (Int.gcd S 55440:Int):=Int.ediv_pos_of_pos_of_dvd (by decide) (by omega) d2;have q4:55440 / (Int.gcd S 55440:Int)<=55440:=Int.ediv_le_self _ (by decide)
 have e:S / (Int.gcd S 55440:Int)*55440 / (55440 / (Int.gcd S 55440:Int))=S:=by
  obtain⟨a,ha⟩:=d1;obtain⟨b,hb⟩:=d2;generalize (Int.gcd S 55440:Int)=g at *;have ea:S / g=a:=by rw[ha];exact Int.mul_ediv_cancel_left _ (by omega)
  have eb:55440 / g=b:=by rw[hb];exact Int.mul_ediv_cancel_left _ (by omega)
  rw[ea,eb];rw[eb]at q3;rw[hb,<- Int.mul_assoc,Int.mul_comm a g,<- ha];exact Int.mul_ediv_cancel _ (by omega)
 have dk:jN (S / (Int.gcd S 55440:Int)*55440) (55440 / (Int.gcd S 55440:Int))=true:=gR q3 (wsm (by omega) (by omega));have mk:fV (S / (Int.gcd S 55440:Int)) 55440=true:=VT (by decide);unfold amt;generalize S / (Int.gcd S 55440:Int)=a at *;generalize 55440 / (Int.gcd S 55440:Int)=b at *;have i0:ixF (.d (.tuple [.int a,.int b])) (I 0) M=some (I a,M):=rfl;have i1:ixF (.d (.tuple [.int a,.int b])) (I 1) M=some (I b,M):=rfl;simp![aW,hW,i0,i1,mk,dk,e]
end
section
variable{n:Int}{w:Nat}{ws us:List Tie}{M:Sto}{xs ys:List Int}
theorem aCi{f g:SF}{x:CD}(h:f γ M=some (.rt x,M')):aX f g γ M=some (.rt x,M'):=by unfold aX;rw[h];rfl
theorem VO(ns:List Int)(i:Int):inB (pD ns) i=inB ns i:=by
 unfold inB;rw[<- mG,firstMet_any];congr 1;refine Z1 fun j=>?_;rw[C0];by_cases h:j<ns.length
 .rw[A0b h,B6 h];simp[h]
 .rw[J7 (by simp;omega),J7 (by omega)];rfl
theorem aAZ(ns:List Int)(i:Int):inB (iD (pD ns)) i=inB ns i:=by
 rw[<- VO ns i];cases h:inB (pD ns) i with
 |true=>exact inB_iff.mpr ((iT _).mem_iff.mpr (inB_iff.mp h))
 |false=>
  cases q:inB (iD (pD ns)) i with
  |false=>rfl
  |true=>rw[inB_iff.mpr ((iT _).mem_iff.mp (inB_iff.mp q))]at h;cases h
theorem aDa(ns:List Int):(iD (pD ns)).Pairwise (·<·):=by
 have s1:=rR (pD ns);have nd:(iD (pD ns)).Nodup:=(iT _).nodup_iff.mpr (ID ns [] List.nodup_nil);exact(List.Pairwise.and s1 nd).imp fun⟨a,b⟩=>by omega
theorem aCs(xs ys:List Int)(i:Int):inB (xs++ys) i=(inB xs i || inB ys i):=by
 unfold inB;rw[List.any_append]
theorem aAS(xs ys:List Int)(i:Int):inB (xs.filter (inB ys)) i=(inB xs i&&inB ys i):=by
 cases h:(inB xs i&&inB ys i)with
 |true=>
  rw[B5]at h;exact inB_iff.mpr (List.mem_filter.mpr ⟨inB_iff.mp h.1,h.2⟩)
 |false=>
  cases q:inB (xs.filter (inB ys)) i with
  |false=>rfl
  |true=>
   have:=List.mem_filter.mp (inB_iff.mp q);rw[inB_iff.mpr this.1,this.2]at h;cases h
theorem RG(hl:xs.length+ys.length<=1000):fU (.d (Rw false (xs.map .int))) (.d (Rw false (ys.map .int))) M=some (.d (Rw false ((xs++ys).map .int)),M):=by
 rw[J8];exact UN (by rw[A3,A3];exact hl)
theorem MV(h:Wb M w n us ws)(s1:Sd n xs)(s2:Sd n ys)(n0:2<=n)(n8:n<=8):∃L,fT [.c w,.d (Rw false (xs.map .int)),.d (Rw false (ys.map .int))] M=some (B true,M++L):=by
 obtain⟨fs,ob,f2,_⟩:=h.web.ob;have l1:=s1.l8 n8;have l2:=s2.l8 n8;have bdz:∀i∈xs++ys,0<=i/\i<n:=fun i hi=>(List.mem_append.mp hi).elim (s1.bd i) (s2.bd i)
 have sm8:BG (xs++ys)=true:=List.all_eq_true.mpr fun i hi=>by
  have:=bdz i hi;rw[C5 this.1,C5 (show i<9 by omega)];rfl
 have ad:=RG (M:=M) (xs:=xs) (ys:=ys) (by omega);have hz1:=aAZ (xs++ys);have hz2:=aDa (xs++ys)
 have ss:FG ((xs++ys).map .int) M=some (.d (.list ((iD (pD (xs++ys))).map .int)),M):=by
  unfold FG;rw[ints_map,B3,B0 ⟨sm8,by rw[B9];omega⟩]
 generalize iD (pD (xs++ys))=zs at hz1 hz2 ss
 have bz:∀i∈zs,0<=i/\i<n:=fun i hi=>by
  have:=hz1 i;rw[inB_iff.mpr hi]at this;exact bdz i (inB_iff.mp this.symm)
 have a1:aV (aK eQ (aC (yR (aC (fOp fU (aD 1) (aD 2)) aG)) aG)) (hName 3) [some (.c w),some (.d (Rw false (xs.map .int))),some (.d (Rw false (ys.map .int))),none,none,none] M=some (.nx [some (.c w),some (.d (Rw false (xs.map .int))),some (.d (Rw false (ys.map .int))),some (.d (Rw false (zs.map .int))),none,none],M):=by
  refine(cL (x:=.d (Rw false (zs.map .int))) ?_).trans rfl
  have fs:yR (aC (fOp fU (aD 1) (aD 2)) aG) [some (.c w),some (.d (Rw false (xs.map .int))),some (.d (Rw false (ys.map .int))),none,none,none] M=some (.d (.list (zs.map .int)),M):=by
   simp![yR,ad];exact ss
  simp![fs];rfl
 have cp:eB [some (.c w),some (.d (Rw false (xs.map .int))),some (.d (Rw false (ys.map .int))),some (.d (Rw false (zs.map .int))),none,none] M=some (.d (.list ((xs.filter (inB ys)).map .int)),M):=by
  unfold eB
  have it:cC (aD 1) [some (.c w),some (.d (Rw false (xs.map .int))),some (.d (Rw false (ys.map .int))),some (.d (Rw false (zs.map .int))),none,none] M=some (xs.map fun i=>I i,M):=by
   rw[PF (k:=false) (ds:=xs.map .int) (by simp![]),E5];rfl
  refine iS it (by rw[A3];omega) ?_ (by rw[A3];exact C7 (I0 ..) (by omega))
  exact lcI (a:=some (.d (Rw false (ys.map .int)))) (t:=inB ys) xs none fun i _=>by
   have q:=uU (k:=false) (i:=i) (ys:=ys) (M:=M) false;simp![q]
 have hv1:=aAS xs ys;have hv2:(xs.filter (inB ys)).Pairwise (·<·):=s1.ris.filter _;have hv3:(xs.filter (inB ys)).length<=xs.length:=I0 ..;have hv4:∀i∈xs.filter (inB ys),0<=i/\i<n:=fun i hi=>s1.bd i (List.mem_filter.mp hi).1;generalize xs.filter (inB ys)=vs at cp hv1 hv2 hv3 hv4
 have a2:aV (aK eQ (aC eB aG)) (hName 4) [some (.c w),some (.d (Rw false (xs.map .int))),some (.d (Rw false (ys.map .int))),some (.d (Rw false (zs.map .int))),none,none] M=some (.nx [some (.c w),some (.d (Rw false (xs.map .int))),some (.d (Rw false (ys.map .int))),some (.d (Rw false (zs.map .int))),some (.d (Rw false (vs.map .int))),none],M):=by
  refine(cL (x:=.d (Rw false (vs.map .int))) ?_).trans rfl;simp![cp];rfl
 have ln:lB [.d (Rw false (zs.map .int))] M=some (I (zs.length:Nat),M):=by rw[PP,A3]
 have en:eqX false (.d (Rw false (vs.map .int))) (.d (.tuple [])) M=some (B vs.isEmpty,M):=by
  have sh:SeqAt.shaped (.tuple (vs.map .int))=true:=by
   have:=CP (OT fun i hi=>by have:=hv4 i hi;omega:∀d∈vs.map PyData.int,Itm d);exact this
  show(if (SeqAt.shaped (.tuple (vs.map .int))&&SeqAt.shaped (.tuple []))=true then some (B (PyData.eqv (.tuple (vs.map .int)) (.tuple [])),M)else none)=_;rw[sh,show SeqAt.shaped (.tuple [])=true from rfl];cases vs<;>rfl
 obtain⟨J,hJ⟩:∃J:Int,J=(zs.length:Nat):=⟨_,rfl⟩;rw[<- hJ]at ln
 have tst:gOr (gB (fOp (eqX false) (aK lB (aC (aD 3) aG)) (kB "Web" "many" (aD 0)))) (gB (fOp (eqX false) (aD 4) (dJ aG))) [some (.c w),some (.d (Rw false (xs.map .int))),some (.d (Rw false (ys.map .int))),some (.d (Rw false (zs.map .int))),some (.d (Rw false (vs.map .int))),none] M=some ((J==n) || vs.isEmpty,M):=by
  cases q:(J==n)with
  |true=>simp![kB,ln,ob,f2,BU,q];rfl
  |false=>simp![kB,ln,ob,f2,BU,q,show(0:Nat)<=sizeLine from Nat.zero_le _,en];rfl
 have go:∀N,(aX (sIf (gOr (gB (fOp (eqX false) (aK lB (aC (aD 3) aG)) (kB "Web" "many" (aD 0)))) (gB (fOp (eqX false) (aD 4) (dJ aG)))) (cO (fC (.bool true))) dM) (aX (aV (fOp fU (aK aW (aC (aK aY (aC (aD 0) (aC (aD 3) aG))) aG)) (aK aW (aC (aK aY (aC (aD 0) (aC (aD 4) aG))) aG))) (hName 5)) (cO (fOp leI (aD 5) (fOp fU (aK aW (aC (aK aY (aC (aD 0) (aC (aD 1) aG))) aG)) (aK aW (aC (aK aY (aC (aD 0) (aC (aD 2) aG))) aG))))))) [some (.c w),some (.d (Rw false (xs.map .int))),some (.d (Rw false (ys.map .int))),some (.d (Rw false (zs.map .int))),some (.d (Rw false (vs.map .int))),none] M=some (.rt (B true),N)->fT [.c w,.d (Rw false (xs.map .int)),.d (Rw false (ys.map .int))] M=some (B true,N):=fun N hN=>by
  refine pP rfl ?_;unfold iX;show aX _ _ [some (.c w),some (.d (Rw false (xs.map .int))),some (.d (Rw false (ys.map .int))),none,none,none] M=_;rw[bA a1,bA a2];exact hN
 cases q:((J==n) || vs.isEmpty)with
 |true=>
  refine⟨[],go _ ?_⟩;rw[L4];exact aCi (by rw[pL (tst.trans (by rw[q]))];rfl)
 |false=>
  rw[Bool.or_eq_false_iff]at q;have jn:J≠n:=by simpa using q.1
  have vp:0<vs.length:=by
   cases vs with
   |nil=>cases q.2
   |cons _ _=>simp
  have zne:zs≠[]:=fun e=>by
   have hx:=s1.pos
   obtain⟨x,r,rfl⟩:∃x r,xs=x::r:=by
    cases xs with
    |nil=>simp at hx
    |cons x r=>exact⟨x,r,rfl⟩
   have:=hz1 x;rw[e,inB_iff.mpr (U5 _ A9)]at this;cases this
  have zl:=JE (lo:=0) hz2 bz zne;have sz:Sd n zs:=⟨hz2,bz,by cases zs with|nil=>exact absurd rfl zne|cons _ _=>simp,by omega⟩;have sl:=s1.lt;have sv:Sd n vs:=⟨hv2,hv4,vp,by omega⟩;obtain⟨x1,e1⟩:=h.sw sz n8 false;have h1:Wb (M++[x1]) w n us ws:=h.app;obtain⟨x2,e2⟩:=h1.sw sv n8 false;have h2:Wb (M++[x1]++[x2]) w n us ws:=h1.app;obtain⟨x3,e3⟩:=h2.sw s1 n8 false;have h3:Wb (M++[x1]++[x2]++[x3]) w n us ws:=h2.app;obtain⟨x4,e4⟩:=h3.sw s2 n8 false;have b1:=W_b (xs:=zs) h.ok h.len;have b2:=W_b (xs:=vs) h.ok h.len;have b3:=W_b (xs:=xs) h.ok h.len;have b4:=W_b (xs:=ys) h.ok h.len;have r1:=fun N:Sto=>mF N b1.1 b1.2;have r2:=fun N:Sto=>mF N b2.1 b2.2;have r3:=fun N:Sto=>mF N b3.1 b3.2;have r4:=fun N:Sto=>mF N b4.1 b4.2;have le:W us zs+W us vs<=W us xs+W us ys:=ZZ xs ys zs vs (fun i=>by rw[hz1,aCs]) hv1 us fun t ht=>(aAe (h.ok.1 t ht).2.2.2.1).1;have dl:=C5 le;refine⟨[x1,x2,x3,x4],go _ ?_⟩;rw[show M++[x1,x2,x3,x4]=M++[x1]++[x2]++[x3]++[x4]by simp];generalize M++[x1]++[x2]++[x3]++[x4]=N4 at e4;generalize M++[x1]++[x2]++[x3]=N3 at e3 e4;generalize M++[x1]++[x2]=N2 at e2 e3;generalize M++[x1]=N1 at e1 e2;generalize W us zs=A at *;generalize W us vs=C at *;generalize W us xs=D at *;generalize W us ys=E at *
  have a3:aV (fOp fU (aK aW (aC (aK aY (aC (aD 0) (aC (aD 3) aG))) aG)) (aK aW (aC (aK aY (aC (aD 0) (aC (aD 4) aG))) aG))) (hName 5) [some (.c w),some (.d (Rw false (xs.map .int))),some (.d (Rw false (ys.map .int))),some (.d (Rw false (zs.map .int))),some (.d (Rw false (vs.map .int))),none] M=some (.nx [some (.c w),some (.d (Rw false (xs.map .int))),some (.d (Rw false (ys.map .int))),some (.d (Rw false (zs.map .int))),some (.d (Rw false (vs.map .int))),some (I (A+C))],N2):=by
   refine(cL (x:=I (A+C)) ?_).trans rfl;simp![e1,e2,r1,r2,GC]
  have sf:sIf (gOr (gB (fOp (eqX false) (aK lB (aC (aD 3) aG)) (kB "Web" "many" (aD 0)))) (gB (fOp (eqX false) (aD 4) (dJ aG)))) (cO (fC (.bool true))) dM [some (.c w),some (.d (Rw false (xs.map .int))),some (.d (Rw false (ys.map .int))),some (.d (Rw false (zs.map .int))),some (.d (Rw false (vs.map .int))),none] M=some (.nx [some (.c w),some (.d (Rw false (xs.map .int))),some (.d (Rw false (ys.map .int))),some (.d (Rw false (zs.map .int))),some (.d (Rw false (vs.map .int))),none],M):=by
   refine(mL (M':=M) ?_).trans rfl;rw[tst,q.1,q.2];rfl
  rw[bA sf,bA a3];simp![e3,e4,r3,r4,GC,dl]
end
noncomputable def bt(J p:Int):Bool:=Builtin.bitAnd (J / 2 ^ p.toNat) 1==1
noncomputable def chk(n:Nat):Bool:=(List.range (2 ^ n-2)).all fun k=>let l:=((zsI (n:Int)).filter (bt ((k:Int)+1))).length;decide (0<l)&&decide (l<n)
theorem XU:([2,3,4,5,6,7,8].all chk)=true:=by decide +kernel
noncomputable def SdT(n:Int)(y:CD):Prop:=∃xs:List Int,y=.d (Rw false (xs.map .int))/\Sd n xs
theorem XA(n0:2<=n)(n8:n<=8)(j0:1<=J)(j1:J<2 ^ n.toNat-1):Sd n ((zsI n).filter (bt J)):=by
 have m:n.toNat∈[2,3,4,5,6,7,8]:=by
  simp only[List.mem_cons,List.not_mem_nil,or_false];omega
 have c:=List.all_eq_true.mp XU _ m;unfold chk at c;have p2:(2:Int) ^ n.toNat=((2 ^ n.toNat:Nat):Int):=by simp
 rw[p2]at j1;have c:=List.all_eq_true.mp c (J-1).toNat (List.mem_range.mpr (by omega));rw[show(((J-1).toNat:Nat):Int)+1=J by omega,show((n.toNat:Nat):Int)=n by omega]at c;simp only[Bool.and_eq_true,decide_eq_true_eq]at c;exact⟨(IH n).filter _,fun i hi=>zs_mem.mp (List.mem_filter.mp hi).1,c.1,by omega⟩
theorem OW{L:Nat}{ys:List CD}(n0:2<=n)(n8:n<=8)(j0:1<=J)(j1:J<2 ^ n.toNat-1)(h:M[p]?=some (.lst ys))(hs:∀y∈ys,SdT n y)(hl:ys.length<=900):
 ∃y,cV [some (I n),some (.c p),some (I J)] M=some (.nx [some (I n),some (.c p),some (I J)],M.set p (.lst (ys++[y])))/\SdT n y:=by
 have it:cU (aC (aD 0) aG) [some (I n),some (.c p),some (I J)] M=some ((zsI n).map fun i=>I i,M):=by
  rw[<- OU];exact pR (J:=n) (by simp![]) (mO (by omega) (by omega))
 have l1:=HP n
 have cp:fH [some (I n),some (.c p),some (I J)] M=some (.d (.list (((zsI n).filter (bt J)).map .int)),M):=by
  unfold fH;refine iS it (by rw[A3];omega) ?_ (by rw[A3];exact C7 (I0 ..) (by omega))
  exact lcI (a:=some (I J)) (t:=bt J) (zsI n) none fun i hi=>by
   have i0:=(zs_mem.mp hi).1
   have e1:YU (I J) (I i) M=some (I (J / 2 ^ i.toNat),M):=by
    simp only[YU,pI,ifS,decide_eq_true i0,if_true,Option.bind_some]
   have e2:QO (I (J / 2 ^ i.toNat)) (I 1) M=some (I (Builtin.bitAnd (J / 2 ^ i.toNat) 1),M):=rfl;simp![e1,e2,BU];rfl
 have tf:eQ [.d (.list (((zsI n).filter (bt J)).map .int))] M=some (.d (Rw false (((zsI n).filter (bt J)).map .int)),M):=rfl;have so:=XA n0 n8 j0 j1;generalize (zsI n).filter (bt J)=xs at cp tf so;refine⟨.d (Rw false (xs.map .int)),?_,xs,rfl,so⟩;have ty:tyB "list" M (.c p)=true:=by simp only[tyB,h];decide
 have ap:eE (.c p) [.d (Rw false (xs.map .int))] M=some (.d .none,M.set p (.lst (ys++[.d (Rw false (xs.map .int))]))):=by
  simp only[eE,h,if_pos (show ys.length<sizeLine by rw[sizeLine_eq];omega)]
 unfold cV;simp![bQ,ty,cp,tf,ap]
theorem aDG(n0:2<=n)(n8:n<=8):∃ds:List PyData,eI [I n] M=some (.c M.length,M++[.lst (ds.map .d)])/\(∀y∈ds.map CD.d,SdT n y)/\0<ds.length/\ds.length<=300:=by
 have pw:4<=2 ^ n.toNat/\2 ^ n.toNat<=256:=by
  have m:n.toNat∈[2,3,4,5,6,7,8]:=by
   simp only[List.mem_cons,List.not_mem_nil,or_false];omega
  have:[2,3,4,5,6,7,8].all fun k=>decide (4<=2 ^ k)&&decide (2 ^ k<=256):=by decide
  have:=List.all_eq_true.mp this _ m;simpa using this
 have p2:(2:Int) ^ n.toNat=((2 ^ n.toNat:Nat):Int):=by simp
 have pk:zO 1 n=true:=by
  obtain rfl|rfl|rfl|rfl|rfl|rfl|rfl:n=2\/n=3\/n=4\/n=5\/n=6\/n=7\/n=8:=by omega
  all_goals rfl
 obtain⟨N,hN⟩:∃N:Nat,N=2 ^ n.toNat:=⟨_,rfl⟩;rw[<- hN]at pw p2
 have sh:xK (I 1) (I n) M=some (I (N:Nat),M):=by
  have:xK (I 1) (I n) M=some (I (1*2 ^ n.toNat),M):=by
   simp only[xK,pI,ifS,pk,if_true,Option.bind_some]
  rw[this,Int.one_mul,p2]
 have a1:aV (pY aG) (hName 1) [some (I n),none,none] M=some (.nx [some (I n),some (.c M.length),none],M++[.lst []]):=by
  simp![show(0:Nat)<=sizeLine from Nat.zero_le _]
 have sh':xK (I 1) (I n) (M++[.lst []])=some (I (N:Nat),M++[.lst []]):=by
  have:xK (I 1) (I n) (M++[.lst []])=some (I (1*2 ^ n.toNat),M++[.lst []]):=by
   simp only[xK,pI,ifS,pk,if_true,Option.bind_some]
  rw[this,Int.one_mul,p2]
 obtain⟨K,hK⟩:∃K:Int,K=(N:Nat):=⟨_,rfl⟩;rw[<- hK]at sh'
 have rg:qV (aC (fC (.int 1)) (aC (fOp xE (fOp xK (fC (.int 1)) (aD 0)) (fC (.int 1))) aG)) [some (I n),some (.c M.length),none] (M++[.lst []])=some (fE ((1:Nat):Int) (N-2),M++[.lst []]):=by
  have:=uV (fa:=aC (fC (.int 1)) (aC (fOp xE (fOp xK (fC (.int 1)) (aD 0)) (fC (.int 1))) aG)) (γ:=[some (I n),some (.c M.length),none]) (M:=M++[.lst []]) (i:=1) (j:=K-1) (by simp![sh']) (by decide) (mO (by omega) (by omega));rw[this,show(K-1-1).toNat=N-2 by omega];rfl
 obtain⟨γ',M',lp,⟨g,ys,rfl,rfl,h2,h3⟩⟩:=oS (g:=hName 2) (b:=cV) (n:=N-1) (Inv:=fun k γ M'=>∃g ys,γ=[some (I n),some (.c M.length),g]/\M'=M++[.lst ys]/\(∀y∈ys,SdT n y)/\ys.length+1=k/\1<=k) (fun k hk γ M' hi=>by
  obtain⟨g,ys,rfl,rfl,q1,q2,q3⟩:=hi;obtain⟨J,hJ⟩:∃J:Int,J=(k:Nat):=⟨_,rfl⟩;rw[<- hJ];obtain⟨y,e1,e2⟩:=OW (L:=0) (p:=M.length) (M:=M++[.lst ys]) (J:=J) n0 n8 (by omega) (by rw[p2];omega) oJ q1 (by omega);rw[sG]at e1;refine⟨_,_,_,rfl,e1,_,_,rfl,rfl,fun z hz=>?_,by rw[B9,E7];omega,by omega⟩;rcases List.mem_append.mp hz with h|h
  .exact q1 z h
  .rw[List.mem_singleton.mp h];exact e2) (N-2) 1 [some (I n),some (.c M.length),none] (M++[.lst []]) (by omega) ⟨none,[],rfl,rfl,fun y h=>by simp at h,rfl,A7 _⟩
 obtain⟨ds,rfl,_⟩:=AH (E:=fun _=>True) fun y hy=>let⟨xs,q,_⟩:=h2 y hy;⟨_,q,True.intro⟩;rw[A3]at h3;refine⟨ds,pP rfl ?_,h2,by omega,by omega⟩;unfold gM;show aX _ _ [some (I n),none,none] M=_;rw[bA a1,bA (nQ rg lp)];rfl
theorem FS{L:List PyData}{m:Int}(M:Sto)(hm:0<m)(hl:(L.length:Int)=m):∃d,ixF (.d (.list L)) (I (z % m)) M=some (.d d,M)/\d∈L:=by
 obtain⟨d,h1,h2⟩:=BR (ds:=L) (k:=z) hm hl;refine⟨d,?_,h2⟩;show(atI L (z % m)).bind _=_;rw[h1];rfl
noncomputable abbrev GT(s:CD)(c:Nat)(k n:Int)(us:List Tie)(w:Nat)(ds:List PyData)(g7 g8 g9 g10:Option CD):Ga:=[some s,some (.c c),some (I k),some (I n),some (.f (kvF us)),some (.c w),some (.d (.list ds)),g7,g8,g9,g10]
section
variable{s:CD}{c w m:Nat}{k n:Int}{us ws:List Tie}{ds:List PyData}{g7 g8 g9 g10:Option CD}{M:Sto}
theorem aBd{q:Int}{d:PyData}(n0:2<=n)(n8:n<=8)(h:Wb M w n us ws)(hd:SdT n (.d d)):∃L,uT (GT s c k n us w ds (some (I q)) (some (.d d)) g9 g10) M=some (.nx (GT s c k n us w ds (some (I q)) (some (.d d)) g9 g10),M++L):=by
 obtain⟨xs,e,sd⟩:=hd;cases e;have m2:eY q 2=true:=bV (by decide);obtain⟨d,i1,i2⟩:=FS (L:=[Rw false (xs.map .int),.list (xs.map .int)]) (z:=q) (m:=2) M (by decide) rfl
 obtain⟨b,rfl⟩:∃b,d=Rw b (xs.map .int):=by
  simp only[List.mem_cons,List.not_mem_nil,or_false]at i2;rcases i2 with rfl|rfl
  .exact⟨false,rfl⟩
  .exact⟨true,rfl⟩
 obtain⟨L,e⟩:=VA h sd n0 n8 b;refine⟨L,?_⟩;have li:uA [.d (Rw false (xs.map .int))] M=some (.d (.list (xs.map .int)),M):=rfl
 have fl:pE (aC (aD 8) (aC (aK uA (aC (aD 8) aG)) aG)) (GT s c k n us w ds (some (I q)) (some (.d (Rw false (xs.map .int)))) g9 g10) M=some (.d (.list [Rw false (xs.map .int),.list (xs.map .int)]),M):=by
  simp![li,show(2:Nat)<=sizeLine by decide]
 unfold uT;refine(mL (M':=M++L) ?_).trans rfl
 have ix:fOp ixF (pE (aC (aD 8) (aC (aK uA (aC (aD 8) aG)) aG))) (fOp bY (aD 7) (fC (.int 2))) (GT s c k n us w ds (some (I q)) (some (.d (Rw false (xs.map .int)))) g9 g10) M=some (.d (Rw b (xs.map .int)),M):=by
  have md:fOp bY (aD 7) (fC (.int 2)) (GT s c k n us w ds (some (I q)) (some (.d (Rw false (xs.map .int)))) g9 g10) M=some (I (q % 2),M):=by simp![m2]
  rw[show ∀(f g:EF) γ M,fOp ixF f g γ M=(f γ M).bind fun r=>(g γ r.2).bind fun q=>ixF r.1 q.1 q.2 from fun _ _ _ _=>rfl,fl,B3,md,B3];exact i1
 simp only[rJ,gB,aK,aC,aG,aD,List.getElem?_cons_zero,List.getElem?_cons_succ,Option.bind_some,ix,e,asB];rfl
theorem IL{N:Nat}(n0:2<=n)(n8:n<=8):∀(es:List PyData)(j:Nat)(g7 g8:Option CD)(M:Sto),(∀y∈es.map CD.d,SdT n y)->Wb M w n us ws->Dk M c m->∃g7' g8' M',lW (gX 2 (aZ (hName 7) (aZ (hName 8) gT))) uT (iP j es) (GT s c k n us w ds g7 g8 g9 g10) M=some (.nx (GT s c k n us w ds g7' g8' g9 g10),M')/\Wb M' w n us ws/\Dk M' c m
 |[]=>fun j g7 g8 M _ h dk=>⟨g7,g8,M,rfl,h,dk⟩
 |d::es=>fun j g7 g8 M hs h dk=>by
  obtain⟨J,hJ⟩:∃J:Int,J=(j:Nat):=⟨_,rfl⟩;obtain⟨L,e1⟩:=aBd (s:=s) (c:=c) (k:=k) (ds:=ds) (g9:=g9) (g10:=g10) (q:=J) n0 n8 h (hs (.d d) (by simp));obtain⟨a7,a8,M',e2,q1,q2⟩:=IL (N:=N) n0 n8 es (j+1) (some (I J)) (some (.d d)) (M++L) (fun y hy=>hs y (by rw[C6];exact A8 _ hy)) h.app dk.app;refine⟨a7,a8,M',?_,q1,q2⟩;rw[KR,<- hJ,rP (γ1:=GT s c k n us w ds (some (I J)) (some (.d d)) g9 g10) (M1:=M) rfl e1];exact e2
theorem aDd(n0:2<=n)(n8:n<=8)(h:Wb M w n us ws)(dk:Dk M c (m+2))(wc:w≠c)(hs:∀y∈ds.map CD.d,SdT n y)(h0:0<ds.length)(h3:ds.length<=300):∃g10' M',uQ (GT s c k n us w ds g7 g8 g9 g10) M=some (.nx (GT s c k n us w ds g7 g8 g9 g10'),M')/\Wb M' w n us ws/\Dk M' c m:=by
 obtain⟨z,M1,po,d1,x1⟩:=Dk.popE (m:=m+1) dk;have pa:=pop_at (γ:=GT s c k n us w ds g7 g8 g9 g10) (v:=1) rfl dk.ty po;obtain⟨J,hJ⟩:∃J:Int,J=(ds.length:Nat):=⟨_,rfl⟩;have ln:∀N:Sto,lB [.d (.list ds)] N=some (I J,N):=fun N=>by rw[hJ];rfl
 have mj:∀q,eY q J=true:=fun q=>bV (by omega);obtain⟨a,i1,i2⟩:=FS (L:=ds) (z:=z) (m:=J) M1 (by omega) hJ.symm;obtain⟨xs,ea,sx⟩:=hs (.d a) (List.mem_map.mpr ⟨a,i2,rfl⟩);cases ea
 have a1:aV (fOp ixF (aD 6) (fOp bY (bQ "list" gH (aD 1) aG) (aK lB (aC (aD 6) aG)))) (hName 10) (GT s c k n us w ds g7 g8 g9 g10) M=some (.nx (GT s c k n us w ds g7 g8 g9 (some (.d (Rw false (xs.map .int))))),M1):=by
  refine(cL (x:=.d (Rw false (xs.map .int))) ?_).trans rfl;simp only[fOp,aD,aK,aC,aG,List.getElem?_cons_zero,List.getElem?_cons_succ,Option.bind_some,pa,ln,bY,pI,ifS,mj,if_true,i1]
 obtain⟨y,M2,po2,d2,x2⟩:=Dk.popE (m:=m) d1;have pa2:=pop_at (γ:=GT s c k n us w ds g7 g8 g9 (some (.d (Rw false (xs.map .int))))) (v:=1) rfl d1.ty po2;obtain⟨b,i3,i4⟩:=FS (L:=ds) (z:=y) (m:=J) M2 (by omega) hJ.symm;obtain⟨ys,eb,sy⟩:=hs (.d b) (List.mem_map.mpr ⟨b,i4,rfl⟩);cases eb;have h2:Wb M2 w n us ws:=⟨(h.web.to x1 wc).to x2 wc,h.pm,h.ok,h.len⟩;obtain⟨L,e⟩:=MV h2 sx sy n0 n8;refine⟨some (.d (Rw false (xs.map .int))),M2++L,?_,h2.app,d2.app⟩;unfold uQ;rw[bA a1];refine(mL (M':=M2++L) ?_).trans rfl;simp only[rJ,gB,fOp,aD,aK,aC,aG,List.getElem?_cons_zero,List.getElem?_cons_succ,Option.bind_some,pa2,ln,bY,pI,ifS,mj,if_true,i3,e,asB];rfl
end
theorem IR:∀us:List Tie,rS (kvW us)=some (kvF us)
 |[]=>rfl
 |t::us=>by show(rS (kvW us)).bind _=_;rw[IR us];rfl
noncomputable abbrev G0(s:CD)(c:Nat)(g2 g3 g4 g5 g6 g7 g8 g9 g10:Option CD):Ga:=[some s,some (.c c),g2,g3,g4,g5,g6,g7,g8,g9,g10]
theorem round{s:CD}{k:Int}{g5 g6 g7 g8 g9 g10:Option CD}(dk:Dk M c (m+70)):∃a3 a4 a5 a6 a7 a8 a9 a10 M',uO (G0 s c (some (I k)) g3 g4 g5 g6 g7 g8 g9 g10) M=some (.nx (G0 s c (some (I k)) a3 a4 a5 a6 a7 a8 a9 a10),M')/\Dk M' c m:=by
 obtain⟨z,M1,po,d1,x1⟩:=Dk.popE (m:=m+69) dk;have pa:=pop_at (γ:=G0 s c (some (I k)) g3 g4 g5 g6 g7 g8 g9 g10) (v:=1) rfl dk.ty po;have m7:eY z 7=true:=bV (by decide);have mi:=sY (z:=z) (m:=7) (by decide)
 have a1:aV (fOp fU (fC (.int 2)) (fOp bY (bQ "list" gH (aD 1) aG) (fC (.int 7)))) (hName 3) (G0 s c (some (I k)) g3 g4 g5 g6 g7 g8 g9 g10) M=some (.nx (G0 s c (some (I k)) (some (I (2+z % 7))) g4 g5 g6 g7 g8 g9 g10),M1):=by
  refine(cL (x:=I (2+z % 7)) ?_).trans rfl;simp![pa,m7,GC]
 generalize hn:2+z % 7=n at a1;have n0:2<=n:=by omega
 have n8:n<=8:=by omega
 obtain⟨d,M2,e2,⟨us,u1,ok,u3⟩,d2,x2,dc,_⟩:=aEd (m:=m+8) n0 n8 d1
 have a2:aV (aK lM (aC (aD 1) (aC (aD 3) aG))) (hName 4) (G0 s c (some (I k)) (some (I n)) g4 g5 g6 g7 g8 g9 g10) M1=some (.nx (G0 s c (some (I k)) (some (I n)) (some (.c d)) g5 g6 g7 g8 g9 g10),M2):=by
  refine(cL (x:=.c d) ?_).trans rfl;simp![e2]
 obtain⟨L,ws,e3,w3,pm⟩:=aBG (γ:=G0 s c (some (I k)) (some (I n)) (some (.c d)) g5 g6 g7 g8 g9 g10) n0 n8 u1 ok u3 rfl rfl;have cl:=d2.lt;have dl:d<M2.length:=(List.getElem?_eq_some_iff.mp u1).1;have u4:(M2++L)[d]?=some (.dt (kvW us)):=by rw[L5 dl];exact u1
 have a3:DU 4 (aV (yW "Web" fK (aC (aD 3) (aC (aK fL (aC (aD 4) aG)) aG))) (hName 5)) (G0 s c (some (I k)) (some (I n)) (some (.c d)) g5 g6 g7 g8 g9 g10) M2=some (.nx (G0 s c (some (I k)) (some (I n)) (some (.f (kvF us))) (some (.c M2.length)) g6 g7 g8 g9 g10),(M2++L).set d .dead):=by
  unfold DU;rw[cL e3,B3];dsimp only
  have:CV 4 (G0 s c (some (I k)) (some (I n)) (some (.c d)) (some (.c M2.length)) g6 g7 g8 g9 g10) (M2++L)=some (G0 s c (some (I k)) (some (I n)) (some (.f (kvF us))) (some (.c M2.length)) g6 g7 g8 g9 g10,(M2++L).set d .dead):=by
   simp only[CV,List.getElem?_cons_succ,List.getElem?_cons_zero,u4,IR,Option.bind_some,List.set_cons_succ,List.set_cons_zero]
  rw[show(G0 s c (some (I k)) (some (I n)) (some (CD.c d)) g5 g6 g7 g8 g9 g10).set 5 (some (.c M2.length))=G0 s c (some (I k)) (some (I n)) (some (.c d)) (some (.c M2.length)) g6 g7 g8 g9 g10 from rfl,this];rfl
 have W3:Wb ((M2++L).set d .dead) M2.length n us ws:=⟨w3.put (by omega),pm,ok,u3⟩;have D3:Dk ((M2++L).set d .dead) c (m+8):=(Dk.app d2).put dc;have wc:M2.length≠c:=by omega
 generalize (M2++L).set d .dead=M3 at a3 W3 D3;generalize M2.length=w at a3 W3 wc;obtain⟨ds,e4,hs,h0,h3⟩:=aDG (M:=M3) n0 n8
 have a4:aV (jK (aK eI (aC (aD 3) aG))) (hName 6) (G0 s c (some (I k)) (some (I n)) (some (.f (kvF us))) (some (.c w)) g6 g7 g8 g9 g10) M3=some (.nx (GT s c k n us w ds g7 g8 g9 g10),(M3++[Cell.lst (ds.map .d)]).set M3.length .dead):=by
  refine(cL (x:=.d (.list ds)) ?_).trans rfl;have q:(M3++[Cell.lst (ds.map .d)])[M3.length]?=some (.lst (ds.map .d)):=oJ;simp![jK,e4,q,qN]
 have c3:=D3.lt;have w3l:w<M3.length:=by obtain⟨fs,a,_⟩:=W3.web;exact(List.getElem?_eq_some_iff.mp a).1
 have W4:Wb ((M3++[Cell.lst (ds.map .d)]).set M3.length .dead) w n us ws:=⟨(W3.web.app).put (by omega),W3.pm,W3.ok,W3.len⟩;have D4:Dk ((M3++[Cell.lst (ds.map .d)]).set M3.length .dead) c (m+8):=(Dk.app D3).put (by omega);generalize (M3++[Cell.lst (ds.map .d)]).set M3.length .dead=M4 at a4 W4 D4;obtain⟨b7,b8,M5,e5,W5,D5⟩:=IL (s:=s) (k:=k) (N:=0) (ds:=ds) (g9:=g9) (g10:=g10) n0 n8 ds 0 g7 g8 M4 hs W4 D4
 have it:tY (aC (aD 6) aG) (GT s c k n us w ds g7 g8 g9 g10) M4=some (iP 0 ds,M4):=by
  simp![tY,bF];rfl
 obtain⟨γ',M6,e6,⟨b9,b10,rfl,W6,D6⟩⟩:=oS (g:=hName 9) (b:=uQ) (n:=4) (Inv:=fun j γ M=>∃g9 g10,γ=GT s c k n us w ds b7 b8 g9 g10/\Wb M w n us ws/\Dk M c (m+(8-2*j))) (fun j hj γ M hi=>by
  obtain⟨g9,g10,rfl,W,D⟩:=hi;obtain⟨J,hJ⟩:∃J:Int,J=(j:Nat):=⟨_,rfl⟩;rw[<- hJ];obtain⟨a10,M',t1,t2,t3⟩:=aDd (s:=s) (k:=k) (g7:=b7) (g8:=b8) (g9:=some (I J)) (g10:=g10) (m:=m+(8-2*(j+1))) n0 n8 W (D.le (by omega)) wc hs h0 h3;exact⟨_,_,M',rfl,t1,_,_,rfl,t2,t3⟩) 4 0 (GT s c k n us w ds b7 b8 g9 g10) M5 (by omega) ⟨g9,g10,rfl,W5,D5⟩
 have rg:cU (aC (fC (.int 4)) aG) (GT s c k n us w ds b7 b8 g9 g10) M5=some (fE ((0:Nat):Int) 4,M5):=rfl;refine⟨some (I n),some (.f (kvF us)),some (.c w),some (.d (.list ds)),b7,b8,b9,b10,M6,?_,D6.le (by omega)⟩;unfold uO;rw[bA a1,bA a2,bA a3,bA a4,bA (nQ it e5)];exact nQ rg e6
theorem main(ns:List Int)(hl:ns.length<=63):∃M',F_law [.d (.list (ns.map .int))] []=some (.d (.bool true),M'):=by
 obtain⟨c,M,e1,dk⟩:=aCP ns
 have a1:aV (aK jW (aC (aD 0) (aC (fC (.int 260)) aG))) (hName 1) [some (.d (.list (ns.map .int))),none,none,none,none,none,none,none,none,none,none] []=some (.nx (G0 (.d (.list (ns.map .int))) c none none none none none none none none none),M):=by
  refine(cL (x:=.c c) ?_).trans rfl;simp![e1]
 generalize CD.d (.list (ns.map .int))=s at a1
 obtain⟨γ',M',e2,⟨g2,g3,g4,g5,g6,g7,g8,g9,g10,rfl,_⟩⟩:=oS (g:=hName 2) (b:=uO) (n:=3) (Inv:=fun j γ M=>∃g2 g3 g4 g5 g6 g7 g8 g9 g10,γ=G0 s c g2 g3 g4 g5 g6 g7 g8 g9 g10/\Dk M c (260-80*j)) (fun j hj γ M hi=>by
  obtain⟨g2,g3,g4,g5,g6,g7,g8,g9,g10,rfl,dk⟩:=hi;obtain⟨J,hJ⟩:∃J:Int,J=(j:Nat):=⟨_,rfl⟩;rw[<- hJ];obtain⟨a3,a4,a5,a6,a7,a8,a9,a10,M',t1,t2⟩:=round (s:=s) (k:=J) (g3:=g3) (g4:=g4) (g5:=g5) (g6:=g6) (g7:=g7) (g8:=g8) (g9:=g9) (g10:=g10) (m:=260-80*(j+1)) (dk.le (by omega));exact⟨_,_,M',rfl,t1,_,_,_,_,_,_,_,_,_,rfl,t2⟩) 3 0 (G0 s c none none none none none none none none none) M (by omega) ⟨none,none,none,none,none,none,none,none,none,rfl,dk⟩
 have rg:cU (aC (fC (.int 3)) aG) (G0 s c none none none none none none none none none) M=some (fE ((0:Nat):Int) 3,M):=rfl;refine⟨M',pP rfl ?_⟩;unfold NO;show aX _ _ [some _,none,none,none,none,none,none,none,none,none,none] []=_;rw[bA a1,bA (nQ rg e2)];rfl
end Q10
end
end
open PySem PySem.W PyProof.Rows
set_option maxRecDepth 100000 in
set_option maxHeartbeats 0 in
theorem PySem.Challenge.cw_cutstree_k10_side_weight_holds : PySem.Challenge.rw_cutstree_k10_side_weight.Holds := by
 refine Q10.k_top ?_
 k_fill
 refine L2.law_walk (l:=PySem.Challenge.rw_cutstree_k10_side_weight) (F:=Q10.F_law) (k:=10) (p:="_law_script") (by decide +kernel) rfl rfl ⟨fun _=>rfl,by decide,by decide,rfl⟩ (fun w h Y=>PySem.W.kIn_of Y) ?T Q10.main
 case T=>
  intro w mg h KX G;refine Q10.fn_law (K:=_) (mg:=mg) ?TT
  refine' Q10.txt_mk KX G ?v0 ?v1 ?v2 ?v3 ?v4 ?v5 ?v6 ?v7 ?v8 ?v9 ?v10 ?v11 ?v12 ?v13 ?v14 ?v15 ?v16 ?v17 ?v18 ?v19 ?v20 ?v21 ?v22 ?v23 ?v24 ?v25 ?v26 ?v27 ?v28 ?v29 ?v30 ?v31 ?v32 ?v33 ?v34 ?v35 ?v36 ?v37 ?v38 ?v39 ?v40 ?v41 ?v42 ?v43 ?v44 ?v45 ?v46 ?v47 ?v48 ?v49 ?v50 ?v51 ?v52 ?v53 ?v54 ?v55 ?v56 ?v57 ?v58 ?v59 ?v60 ?v61 ?v62 ?v63 ?v64 ?v65 ?v66
  (case v0|v1|v2|v3|v4|v5|v6|v7|v8|v9|v10|v11|v12|v13|v14|v15|v16|v17|v18|v19|v23|v24|v25|v26|v27|v28|v29|v30|v33=>k_is)
  (case v20|v21|v22|v31|v32=>kernel_rfl)
  (case v34|v35|v36|v37|v38|v39|v40|v41|v42|v43|v44|v45|v46|v47|v48|v49|v50|v51|v52|v53|v54|v55|v56|v57|v58|v59|v60|v61|v62|v63|v64|v65|v66=>exact L2.def_mk KX G (by k_is) (by k_is) (by k_is) (by k_is))