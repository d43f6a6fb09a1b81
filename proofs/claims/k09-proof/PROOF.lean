import PyProof.Rows.All
import OpenK.KLine
import OpenK.KWalk
import OpenK.KMore
import OpenK.KOwn
import OpenK.KRaise
import KE.KSortTup
import PyProof.EqAt
import PyProof.EqKinds
import PyProof.TupleCall
import PyProof.ReprLen
import KE.KIsAll
import PyProof.ExcArgsOwn
import PyProof.NsDelKeeps
import KE.KTryMore
import PyProof.InstStoreFacts
import PyProof.ExcInit
import PyProof.ExcClass2
import PyProof.Rows.ListMul
import PyProof.Draws
import PyProof.EnumMake
import PyProof.Rows.EnumRows
import KE.KItemsList
import PyProof.DictCompW
import PyProof.ListRange
import PyProof.ZipIter
import PyProof.AttrMissHeap
import KE.KDictOf
import KE.KUnpack
import PyProof.SetKind
import PyProof.Rows.SetFrom
import PySem.Challenge.RW_cutstree_k09_sides_told
set_option Elab.async false
section
set_option maxRecDepth 100000
set_option maxHeartbeats 0
namespace Q9
open PySem
def qv:Program:={ PySem.Challenge.rw_cutstree_k09_sides_told.prog with main:={ PySem.Challenge.rw_cutstree_k09_sides_told.prog.main with body:=((((((PySem.Challenge.rw_cutstree_k09_sides_told.prog.main.body.eraseIdx 35).eraseIdx 30).eraseIdx 24).eraseIdx 14).eraseIdx 5).eraseIdx 0) } }
end Q9
open PySem PySem.W PyProof.Rows
local macro_rules | `(tactic| o_head $H) => `(tactic| (
 refine holds_open (r:=PySem.Challenge.rw_cutstree_k09_sides_told.row) (q:=Q9.qv) (loose:=[]) (Xt:=fun s=>xlAt Q9.qv [] s&&recOk (RowW.records (OpenRow.toRowW PySem.Challenge.rw_cutstree_k09_sides_told.row)) s) (XP:=XL Q9.qv []) (Yf:=Hook.obs $H) (Ya:=Hook.val $H) (YP:=Hook.says $H) (N:=6100) ?hl (Hook.of $H) (Hook.keeps $H) (fun s e=>xl_of s (Bool.and_eq_true_iff.mp e).1) XL.keeps (by rfl) (by rfl) (by rfl) (fun s e=>recFacts_of (Bool.and_eq_true_iff.mp e).2) (by rfl) (by first|assumption|decide +kernel) (by decide +kernel) ⟨rfl,rfl,rfl,rfl,rfl,by decide +kernel⟩ ?hw ?hc
 (case hl=>intro w;kernel_rfl)))
open_top Q9.k_top for PySem.Challenge.rw_cutstree_k09_sides_told
end
section
set_option linter.all false
set_option maxRecDepth 100000
set_option maxHeartbeats 4000000
abbrev Fg:=PySem.W.Frag
noncomputable section
abbrev A3:=@PySem.wpAny_bind
abbrev A4:=@PySem.Heap.get?_push_of_some
abbrev A6:=@PySem.wpAny_pure
abbrev A7:=@List.length_map
abbrev A8:=@PySem.Heap.lt_size
abbrev A9:=@if_pos
abbrev B0:=@Nat.le_refl
abbrev B1:=@Bool.false_ne_true
abbrev B2:=@if_neg
abbrev B3:=@List.mem_cons_of_mem
abbrev B4:=@Option.bind_some
abbrev B5:=@List.mem_cons_self
abbrev B6:=@PySem.Heap.get?_push_size
abbrev B7:=@Bool.and_eq_true
abbrev B8:=@Nat.ne_of_lt
abbrev B9:=@List.getElem?_eq_getElem
abbrev C0:=@List.size_toArray
abbrev C2:=@Nat.lt_of_lt_of_le
abbrev C3:=@List.length_append
abbrev C4:=@PySem.wpAny_newObj_type
abbrev C5:=@Array.getD_eq_getD_getElem?
abbrev C6:=@Array.length_toList
abbrev C7:=@List.map_cons
abbrev C8:=@List.getElem?_map
abbrev C9:=@of_decide_eq_true
abbrev D0:=@Nat.le_trans
abbrev D3:=@decide_eq_true
abbrev D4:=@List.getD_eq_getElem?_getD
abbrev D5:=@List.mem_append_right
abbrev D6:=@PySem.W.mg_none_of
abbrev D7:=@PySem.wpAny_field
abbrev D8:=@decide_eq_false
abbrev D9:=@List.lookup_cons
abbrev E1:=@Array.getElem?_toList
abbrev E2:=@Option.some.inj
abbrev E3:=@PySem.wpAny_mono
abbrev E4:=@PySem.wpAny_call_entry
abbrev E5:=@Array.getElem?_eq_getElem
abbrev E6:=@PySem.wpAny_callSpecial?_slot
abbrev E7:=@PySem.wpAny_holding
abbrev E8:=@PySem.Heap.get?_update_self
abbrev E9:=@List.length_cons
abbrev F0:=@PySem.sizeLine_eq
abbrev F4:=@List.append_nil
abbrev F5:=@List.getElem?_set_self
abbrev F6:=@List.getElem?_set_ne
abbrev F7:=@PyProof.Rows.callWith_type1
abbrev F8:=@PySem.mem_of_lookup
abbrev F9:=@PySem.wpAny_setField_rec
abbrev I0:=@List.getElem?_append_right
abbrev J0:=@Nat.ne_of_gt
abbrev J1:=@Nat.lt_irrefl
abbrev J2:=@PySem.Heap.get?_update_other
abbrev J3:=@PySem.Obj.data_mapFields
abbrev J4:=@Nat.zero_le
abbrev J5:=@List.length_singleton
abbrev J6:=@List.map_map
abbrev J7:=@PySem.Heap.SameBut.update
abbrev J8:=@PyProof.Rows.slot_tuple_getitem
abbrev J9:=@Nat.lt_succ_self
abbrev L3:=@Int.toNat_natCast
abbrev L4:=@List.map_append
abbrev L5:=@List.mem_append_left
abbrev L6:=@Ne.symm
abbrev L7:=@PySem.wpAny_Call_Name_kw
abbrev L9:=@PySem.Around.under_plainId
abbrev O0:=@Array.getElem?_eq_none
abbrev O1:=@List.filterMap_cons
abbrev O6:=@PySem.Heap.size_push
abbrev O7:=@PySem.wpAny_setField
abbrev O8:=@PySem.W.mg_of
abbrev O9:=@List.mem_of_getElem?
abbrev S0:=@PySem.Obj.isFreed_of_fields
abbrev S3:=@List.reverse_cons
abbrev S4:=@List.append_assoc
abbrev S5:=@PySem.wpAny_truthy_bool
abbrev S6:=@PySem.codeAny_builtin
abbrev S7:=@PySem.PassesOwn.never
abbrev S8:=@List.getElem?_toArray
abbrev S9:=@List.getElem?_eq_none
abbrev U0:=@List.length_filter_le
abbrev U1:=@List.getElem?_append_left
abbrev U2:=@List.length_set
abbrev U3:=@Nat.lt_trans
abbrev U4:=@PySem.wpAny_pyIter_tuple
abbrev U5:=@List.length_range
abbrev U6:=@Nat.sub_self
abbrev U7:=@List.any_cons
abbrev U8:=@List.length_reverse
abbrev U9:=@List.map_congr_left
abbrev Y0:=@congrArg
abbrev Y1:=@List.getElem_mem
abbrev Y2:=@Int.emod_lt_of_pos
abbrev Y3:=@PySem.wpAny_seqItems
abbrev Y4:=@PySem.wpAny_isInstance
abbrev Y5:=@List.all_cons
abbrev Y6:=@PySem.codeAny_mono
abbrev Y7:=@PySem.wpAny_typeOf
abbrev Y8:=@PySem.SeqAt.canLay_of_shaped
abbrev Y9:=@PySem.wpAny_passesOwn
abbrev Z0:=@PySem.wpAny_attempt
abbrev Z1:=@List.drop_eq_getElem_cons
abbrev Z2:=@PySem.F.plain_extend_loop
abbrev Z3:=@List.mem_map_of_mem
abbrev Z4:=@PySem.F.slot_tuple_iterator_next
abbrev Z5:=@Bool.eq_iff_iff
abbrev Z6:=@Int.emod_nonneg
abbrev Z7:=@PySem.F.plain_list_iadd
abbrev Z8:=@Nat.le_of_lt
abbrev Z9:=@PySem.plainId_quiet
abbrev A0a:=@List.ext_getElem?
abbrev A0b:=@PySem.wpAny_loadPart'
abbrev A0c:=@PyProof.Rows.boot_tuple
abbrev A0d:=@PySem.F.slot_zip_next
abbrev A0e:=@PyProof.Rows.callWith_builtin1
abbrev A0f:=@Nat.le_succ
abbrev A0g:=@List.eq_nil_of_length_eq_zero
abbrev A0h:=@PySem.Obj.cls_mapFields
abbrev A0i:=@PySem.wpAny_setState_of
abbrev A0j:=@List.nil_append
abbrev A0k:=@PySem.wpAny_rule
abbrev A0l:=@PySem.wpAny_typeNameOfWhole_itemiter
abbrev A0m:=@PySem.Paired.length
abbrev A0n:=@PySem.wpAny_standAt
abbrev A0o:=@Bool.false_and
abbrev A0p:=@PySem.W.callWith_K
abbrev A0q:=@PySem.wpAny_typeNameOfWhole_keyiter
abbrev A0r:=@PySem.wpAny_execs_nil
abbrev A0s:=@PySem.Calls.spliced_cons
namespace L2
variable{H:Hp}{s:Shared}{A:Around}{σ:St}{K:Fg}{pos:Pos}
open PySem PySem.Spec PyProof.Rows
abbrev Key:=Sum Int Str
def yH:Key->Value->Bool
 |.inl k,v=>Value.isInt k v
 |.inr x,v=>Value.isStrOf x v
def aJM(w:World):Key->Int
 |.inl k=>hashInt k
 |.inr x=>hashStr w x
theorem cR:∀{k:Key}{v:Value},yH k v=true->(∃i t,k=Sum.inl i/\v=Value.int i t)\/(∃x t,k=Sum.inr x/\v=Value.str x t)
 |.inl i,v=>fun h=>by
  obtain⟨t,e⟩:=Value.isInt_shape (k:=i) (v:=v) h;exact .inl ⟨i,t,rfl,e⟩
 |.inr x,v=>fun h=>by
  obtain⟨t,e⟩:=Value.isStrOf_shape (x:=x) (v:=v) h;exact .inr ⟨x,t,rfl,e⟩
theorem RS(i:Int)(t:Tok):yH (.inl i) (.int i t)=true:=by simp[yH,Value.isInt]
theorem US(x:Str)(t:Tok):yH (.inr x) (.str x t)=true:=by simp[yH,Value.isStrOf]
theorem aHE(a b:Int):decide ((Sum.inl a:Key)=Sum.inl b)=(a==b):=by
 by_cases e:a=b
 .subst e;simp
 .have h:¬(Sum.inl a:Key)=Sum.inl b:=fun q=>e (Sum.inl.inj q);rw[D8 h];exact(beq_eq_false_iff_ne.mpr e).symm
theorem aHP(a b:Str):decide ((Sum.inr a:Key)=Sum.inr b)=decide (a=b):=by
 by_cases e:a=b
 .subst e;simp
 .have h:¬(Sum.inr a:Key)=Sum.inr b:=fun q=>e (Sum.inr.inj q);rw[D8 h,D8 e]
theorem aFm(a:Int)(b:Str):decide ((Sum.inl a:Key)=Sum.inr b)=false:=D8 (fun q=>nomatch q)
theorem aGI(a:Str)(b:Int):decide ((Sum.inr a:Key)=Sum.inl b)=false:=D8 (fun q=>nomatch q)
def dA(prog:Program)(w:World):PySem.KeyKind prog w Key where
 is:=yH
 hash:=aJM w
 inj:=fun v a b ha hb=>by
  rcases cR ha with⟨i,t,rfl,rfl⟩|⟨x,t,rfl,rfl⟩
  .rcases cR hb with⟨j,u,rfl,e⟩|⟨y,u,rfl,e⟩
   .injection e with e1 _;rw[e1]
   .exact nomatch e
  .rcases cR hb with⟨j,u,rfl,e⟩|⟨y,u,rfl,e⟩
   .exact nomatch e
   .injection e with e1 _;rw[e1]
 byValue:=fun k v h=>by
  rcases cR h with⟨i,t,rfl,rfl⟩|⟨x,t,rfl,rfl⟩<;>rfl
 pyHash:=fun hv h=>by
  rcases cR hv with⟨i,t,rfl,rfl⟩|⟨x,t,rfl,rfl⟩
  .exact wpAny_pyHash_int h
  .exact wpAny_pyHash_str h
 eqBool:=fun hu hv h=>by
  rcases cR hu with⟨i,t,rfl,rfl⟩|⟨x,t,rfl,rfl⟩
  .rcases cR hv with⟨j,u,rfl,rfl⟩|⟨y,u,rfl,rfl⟩
   .rw[aHE]at h;exact wpAny_eqBool_int h
   .rw[aFm]at h;exact SeqAt.EqAt.int_str i t y u _ _ _ _ h
  .rcases cR hv with⟨j,u,rfl,rfl⟩|⟨y,u,rfl,rfl⟩
   .rw[aGI]at h;exact SeqAt.EqAt.str_int x t j u _ _ _ _ h
   .rw[aHP]at h;exact wpAny_eqBool_str h
 «strs»:=fun k x t v h=>by
  rcases cR h with⟨i,u,rfl,e⟩|⟨y,u,rfl,e⟩
  .exact nomatch e
  .injection e with e1 _
   subst e1;cases v<;>rfl
theorem IZ(prog:Program)(w:World)(i:Int)(t:Tok):(dA prog w).is (.inl i) (.int i t)=true:=RS i t
theorem IF(prog:Program)(w:World)(x:Str)(t:Tok):(dA prog w).is (.inr x) (.str x t)=true:=US x t
inductive V where
 |non|bl (b:Bool)|int (i:Int)|str (x:Str)|byt (b:Array UInt8)|flt (b:UInt64)|ref (a:Addr)|ty (n:String)
 deriving DecidableEq
def RelV:V->Value->Prop
 |.non,u=>u=Value.none
 |.bl b,u=>u=Value.bool b
 |.int i,u=>∃t,u=Value.int i t
 |.str x,u=>∃t,u=Value.str x t
 |.byt b,u=>∃t,u=Value.bytes b t
 |.flt b,u=>∃t,u=Value.float b t
 |.ref a,u=>u=Value.ref a
 |.ty n,u=>u=Value.type n
abbrev aW:List V->List Value->Prop:=Paired RelV
theorem aW.length{xs:List V}{us:List Value}(r:aW xs us):xs.length=us.length:=A0m r
theorem aW.get:∀{xs:List V}{us:List Value}{i:Nat}{x:V},aW xs us->xs[i]?=some x->∃u,us[i]?=some u/\RelV x u
 |_,_,_,_,.nil=>fun e=>by simp at e
 |_,_,0,_,.cons r _=>fun e=>by simp at e;subst e;exact⟨_,rfl,r⟩
 |_,_,i+1,x,.cons _ t=>fun e=>by
  obtain⟨u,h1,h2⟩:=aW.get (i:=i) (x:=x) t (by simpa using e);exact⟨u,by simpa using h1,h2⟩
theorem aW.set{x:V}{u:Value}(r:RelV x u):∀{xs:List V}{us:List Value}(i:Nat),aW xs us->aW (xs.set i x) (us.set i u)
 |_,_,_,.nil=>.nil
 |_,_,0,.cons _ t=>.cons r t
 |_,_,i+1,.cons q t=>.cons q (aW.set r i t)
theorem aW.append:∀{xs ys:List V}{us ws:List Value},aW xs us->aW ys ws->aW (xs++ys) (us++ws)
 |_,_,_,_,.nil=>fun s=>s
 |_,_,_,_,.cons r t=>fun s=>.cons r (aW.append t s)
theorem aW.take:∀{xs:List V}{us:List Value}(n:Nat),aW xs us->aW (xs.take n) (us.take n)
 |_,_,0,_=>.nil
 |_,_,_+1,.nil=>.nil
 |_,_,n+1,.cons r t=>.cons r (aW.take n t)
theorem aW.drop:∀{xs:List V}{us:List Value}(n:Nat),aW xs us->aW (xs.drop n) (us.drop n)
 |_,_,0,r=>r
 |_,_,_+1,.nil=>.nil
 |_,_,n+1,.cons _ t=>aW.drop n t
def wM:Option V->Option Value->Prop
 |some v,some u=>RelV v u
 |none,none=>True
 |_,_=>False
def KV{κ:Type}:List (κ×V)->List (κ×Value)->Prop:=Paired fun(p:κ×V)(q:κ×Value)=>p.1=q.1/\RelV p.2 q.2
def kV:Key->V
 |.inl i=>.int i
 |.inr x=>.str x
inductive HO where
 |lst (xs:List V)
 |tup (xs:List V)
 |dK (kvs:List (Key×V))|dT (kvs:List (List Key×V))
 |set (S:Int->Bool) (n:Nat)
 |ins (C dx:Addr) (fs:List (Str×V))
 |own (x:Addr)
 |xd (fs:List (Str×V))
 |met (f x:Addr)
 |rng (lo hi:Int)
 |frz (o:Obj) (u:HO)
 |tbl (ps:Array Value)
 |ext (φ:Heap->Prop)
abbrev Hp:=Addr->Option HO
def upd(H:Hp)(a:Addr)(o:HO):Hp:=fun b=>if b=a then some o else H b
theorem aO{a:Addr}{o:HO}:upd H a o a=some o:=by unfold upd;rw[A9 rfl]
theorem aL{a b:Addr}{o:HO}(h:b≠a):upd H a o b=H b:=by unfold upd;rw[B2 h]
theorem aEq{a b:Addr}{o u:HO}(h:H a=some o)(h':H b=some u)(d:o≠u):a≠b:=by
 intro e;subst e;rw[h]at h';exact d (E2 h')
theorem aP{a b:Addr}{o:HO}(h:H a=some o)(h':H b=none):a≠b:=by
 intro e;subst e;rw[h]at h';cases h'
section
variable(P:Program)(w:World)
def cP(H:Hp)(h:Heap)(a:Addr):HO->Prop
 |.lst xs=>xs.length<=sizeLine/\∃(its:List Value)(n:Nat),aW xs its/\h.get? a=some { cls:=.type "list",data:=.seq its.toArray n }
 |.tup xs=>xs.length<=sizeLine/\∃its:List Value,aW xs its/\IsTup h a its.toArray
 |.dK kvs=>kvs.length<=sizeLine/\(a==sysModules)=false/\∃vs,KV kvs vs/\h.DictOf (dA P w) a vs
 |.dT kvs=>kvs.length<=sizeLine/\(a==sysModules)=false/\∃xs:List (List Key×Addr×Value),
  Paired (fun(p:List Key×V)(q:List Key×Addr×Value)=>p.1=q.1/\H q.2.1=some (.tup (p.1.map kV))/\RelV p.2 q.2.2) kvs xs /\
  ∃o es ep,h.get? a=some o/\o.ExactDict/\o.data=.dict es ep/\es.toList=xs.map (entryOfKey (tupleKind (dA P w)))/\(xs.map (·.1)).Nodup
 |.set S n=>h.SetOf (intKind P w) a S n
 |.ins C dx fs=>H dx=some (.own a)/\fs.length<=1000/\dx≠a/\h.get? a=some (PySem.W.instObj C dx) /\
  ∃mA,h.Ns1 dx mA/\(∀f,wM (fs.lookup f) (mA f))/\PySem.Within mA (fs.map (·.1))
 |.own _=>∃o,h.get? a=some o
 |.xd fs=>∃mA,h.Ns1 a mA/\∀f,wM (fs.lookup f) (mA f)
 |.rng lo hi=>∃t u v,h.get? a=some { cls:=.type "range",data:=.fields #[.int lo t,.int hi u,.int 1 v] }
 |.frz o u=>h.get? a=some o/\cP H h a u
 |.tbl ps=>h.get? a=some { cls:=.none,data:=.fields ps }
 |.met f x=>h.get? a=some (PySem.W.methodObj (.ref f) (.ref x))
 |.ext φ=>φ h/\(∃o,h.get? a=some o)/\∀h1 h2:Heap,φ h1->(∀o,h1.get? a=some o->h2.get? a=some o)->φ h2
def HOk(H:Hp)(h:Heap):Prop:=∀a o,H a=some o->cP P w H h a o
end
section
variable{P:Program}{w:World}{H H':Hp}{h h':Heap}{a:Addr}{o:HO}
theorem cP.lt(x:cP P w H h a o):a<h.objs.size:=by
 cases o with
 |lst xs=>obtain⟨_,_,_,_,e⟩:=x;exact A8 e
 |tup xs=>obtain⟨_,_,_,p⟩:=x;exact p.lt
 |dK kvs=>obtain⟨_,_,_,_,o,_,_,e,_⟩:=x;exact A8 e
 |dT kvs=>obtain⟨_,_,_,_,o,_,_,e,_⟩:=x;exact A8 e
 |set S n=>obtain⟨o,_,_,_,e,_⟩:=x;exact A8 e
 |ins C dx fs=>obtain⟨_,_,_,e,_⟩:=x;exact A8 e
 |own y=>obtain⟨_,e⟩:=x;exact A8 e
 |xd fs=>obtain⟨_,⟨_,_,_,e,_⟩,_⟩:=x;exact A8 e
 |rng lo hi=>obtain⟨_,_,_,e⟩:=x;exact A8 e
 |frz ob u=>obtain⟨e,_⟩:=x;exact A8 e
 |tbl ps=>exact A8 (show h.get? a=some _ from x)
 |met f y=>exact A8 (show h.get? a=some _ from x)
 |ext φ=>obtain⟨_,⟨_,e⟩,_⟩:=x;exact A8 e
theorem Paired.mapP{α β:Type}{F G:α->β->Prop}:∀{l₁:List α}{l₂:List β},Paired F l₁ l₂->(∀a b,F a b->G a b)->Paired G l₁ l₂
 |_,_,.nil=>fun _=>.nil
 |_,_,.cons r t=>fun f=>.cons (f _ _ r) (Paired.mapP t f)
theorem cP.stay(x:cP P w H h a o)(k:∀b u,(b=a\/H b=some (.own a))->h.get? b=some u->h'.get? b=some u)
 (ho:∀b,H b=some (.own a)->H' b=some (.own a)) (ht:∀b xs,H b=some (.tup xs)->H' b=some (.tup xs)):cP P w H' h' a o:=by
 induction o with
 |lst xs=>obtain⟨z,its,n,r,e⟩:=x;exact⟨z,its,n,r,k _ _ (.inl rfl) e⟩
 |tup xs=>obtain⟨z,its,r,ob,e,c⟩:=x;exact⟨z,its,r,ob,k _ _ (.inl rfl) e,c⟩
 |dK kvs=>obtain⟨z,y,vs,r,ob,es,ep,e,c⟩:=x;exact⟨z,y,vs,r,ob,es,ep,k _ _ (.inl rfl) e,c⟩
 |dT kvs=>
  obtain⟨z,y,xs,r,ob,es,ep,e,c⟩:=x;exact⟨z,y,xs,Paired.mapP r fun p q z=>⟨z.1,ht _ _ z.2.1,z.2.2⟩,ob,es,ep,k _ _ (.inl rfl) e,c⟩
 |set S n=>obtain⟨ob,es,ep,t,e,c⟩:=x;exact⟨ob,es,ep,t,k _ _ (.inl rfl) e,c⟩
 |ins C dx fs=>
  obtain⟨d,z,ne,e,mA,⟨od,es,ep,e2,c⟩,r⟩:=x;exact⟨ho _ d,z,ne,k _ _ (.inl rfl) e,mA,⟨od,es,ep,k _ _ (.inr d) e2,c⟩,r⟩
 |own y=>obtain⟨ob,e⟩:=x;exact⟨ob,k _ _ (.inl rfl) e⟩
 |xd fs=>obtain⟨mA,⟨od,es,ep,e,c⟩,r⟩:=x;exact⟨mA,⟨od,es,ep,k _ _ (.inl rfl) e,c⟩,r⟩
 |rng lo hi=>obtain⟨t,u,v,e⟩:=x;exact⟨t,u,v,k _ _ (.inl rfl) e⟩
 |frz ob u ih=>obtain⟨e,q⟩:=x;exact⟨k _ _ (.inl rfl) e,ih q⟩
 |tbl ps=>
  have e:h.get? a=some { cls:=.none,data:=.fields ps }:=x;show h'.get? a=some { cls:=.none,data:=.fields ps };exact k a _ (.inl rfl) e
 |met f y=>
  have e:h.get? a=some (PySem.W.methodObj (.ref f) (.ref y)):=x;show h'.get? a=some (PySem.W.methodObj (.ref f) (.ref y));exact k a _ (.inl rfl) e
 |ext φ=>obtain⟨p,⟨o,e⟩,st⟩:=x;exact⟨st _ _ p fun o q=>k _ _ (.inl rfl) q,⟨o,k _ _ (.inl rfl) e⟩,st⟩
theorem HOk.lt(x:HOk P w H h)(e:H a=some o):a<h.objs.size:=(x a o e).lt
theorem HOk.fresh(x:HOk P w H h)(e:h.objs.size<=a):H a=none:=by
 cases q:H a with
 |none=>rfl
 |some u=>exact absurd (C2 (x.lt q) e) (J1 _)
theorem HOk.kept(x:HOk P w H h)(k:∀b u,h.get? b=some u->h'.get? b=some u):HOk P w H h':=fun a o e=>
 (x a o e).stay (fun b u _ q=>k b u q) (fun _ q=>q) fun _ _ q=>q
theorem HOk.laid(x:HOk P w H h)(k:∀b u,h.get? b=some u->h'.get? b=some u)(hp:h.objs.size<=a)(new:cP P w (upd H a o) h' a o):HOk P w (upd H a o) h':=fun b u e=>by
 have hn:=x.fresh hp;by_cases hb:b=a
 .subst hb;rw[aO]at e;cases e;exact new
 .rw[aL hb]at e;exact(x b u e).stay (fun c v _ q=>k c v q) (fun c q=>by rw[aL (aP q hn)];exact q) fun c xs q=>by rw[aL (aP q hn)];exact q
end
def Rd(H:Hp)(a:Addr)(u:HO):Prop:=H a=some u\/∃o,H a=some (.frz o u)
theorem Rd.ok{P:Program}{w:World}{h:Heap}{a:Addr}{u:HO}(r:Rd H a u)(x:HOk P w H h):cP P w H h a u:=by
 rcases r with r|⟨o,r⟩
 .exact x a u r
 .obtain⟨_,q⟩:=x a _ r;exact q
def Mut:Option HO->Prop
 |some (.lst _)=>True
 |some (.dK _)=>True
 |some (.dT _)=>True
 |some (.set _ _)=>True
 |some (.ins _ _ _)=>True
 |some (.ext _)=>True
 |_=>False
section
variable{P:Program}{w:World}{H:Hp}{h h':Heap}{x e:Addr}{o':HO}
theorem HOk.write(ok:HOk P w H h)(mu:Mut (H x))(he:e=x\/H e=some (.own x))(k:∀b u,b≠e->h.get? b=some u->h'.get? b=some u)(heo:∃u,h'.get? e=some u)
 (new:cP P w (upd H x o') h' x o'):HOk P w (upd H x o') h':=fun b u q=>by
 have nown:∀c y,H c=some (.own y)->c≠x:=fun c y r z=>by subst z;rw[r]at mu;exact mu
 have ntup:∀c xs,H c=some (.tup xs)->c≠x:=fun c xs r z=>by subst z;rw[r]at mu;exact mu
 by_cases hb:b=x
 .subst hb;rw[aO]at q;cases q;exact new
 .rw[aL hb]at q;by_cases hbe:b=e
  .have q':H b=some (.own x):=by
    rcases he with z|z
    .exact absurd (hbe.trans z) hb
    .rw[hbe];exact z
   rw[q]at q';cases q';obtain⟨v,hv⟩:=heo;exact⟨v,by rw[hbe];exact hv⟩
  .refine(ok b u q).stay (fun c v hc r=>k c v ?_ r) (fun c r=>by rw[aL (nown c b r)];exact r) fun c xs r=>by rw[aL (ntup c xs r)];exact r
   rcases hc with rfl|hc
   .exact hbe
   .rintro rfl;rcases he with z|z
    .exact nown c b hc z
    .rw[hc]at z;cases z;exact hb rfl
end
structure Un(fs ex:List Addr)(H H':Hp)(h h':Heap):Prop where
 keep:∀b o,h.get? b=some o->H b=none->b∉fs->b∉ex->h'.get? b=some o
 slot:∀b o,h.get? b=some o->H b=none->b∈fs->b∉ex->∃sl,h'.get? b=some { o with slots:=sl }
 free:∀b o,h.get? b=some o->H b=none->b∉ex->H' b=none
 there:∀b o,h.get? b=some o->b∉ex->∃o',h'.get? b=some o'
 tups:∀b xs,H b=some (.tup xs)->H' b=some (.tup xs)
 frzs:∀b o u,H b=some (.frz o u)->H' b=some (.frz o u)
 tbls:∀b ps,H b=some (.tbl ps)->∃more,H' b=some (.tbl (ps++more))
section
variable{fs fs' ex ex':List Addr}{H H1 H2:Hp}{h h1 h2 h':Heap}{a x e:Addr}{o:HO}
theorem Un.any(u:Un fs ex H H1 h h1){b:Addr}{ob:Obj}(q:h.get? b=some ob)(n:H b=none)(hx:b∉ex):∃sl,h1.get? b=some { ob with slots:=sl }:=by
 by_cases hb:b∈fs
 .exact u.slot b ob q n hb hx
 .exact⟨ob.slots,u.keep b ob q n hb hx⟩
theorem Un.kept(k:∀b u,h.get? b=some u->h'.get? b=some u):Un fs ex H H h h':=
 ⟨fun b ob q _ _ _=>k b ob q,fun b ob q _ _ _=>⟨ob.slots,k b ob q⟩,fun _ _ _ n _=>n,fun b ob q _=>⟨ob,k b ob q⟩,fun _ _ q=>q,fun _ _ _ q=>q,fun _ ps q=>⟨#[],by rw[q];simp⟩⟩
theorem Un.refl:Un fs ex H H h h:=Un.kept fun _ _ q=>q
theorem Un.laid(k:∀b u,h.get? b=some u->h'.get? b=some u)(hp:h.objs.size<=a)(hn:H a=none):Un fs ex H (upd H a o) h h' where
 keep:=fun b u q _ _ _=>k b u q
 slot:=fun b u q _ _ _=>⟨u.slots,k b u q⟩
 free:=fun b u q n _=>by rw[aL (B8 (C2 (A8 q) hp))];exact n
 there:=fun b u q _=>⟨u,k b u q⟩
 tups:=fun b xs q=>by rw[aL (aP q hn)];exact q
 frzs:=fun b u xs q=>by rw[aL (aP q hn)];exact q
 tbls:=fun b ps q=>⟨#[],by rw[aL (aP q hn),q];simp⟩
theorem Un.write(mu:Mut (H x))(he:e=x\/H e=some (.own x))(k:∀b u,b≠e->h.get? b=some u->h'.get? b=some u)(heo:∃u,h'.get? e=some u):Un fs ex H (upd H x o) h h':=by
 have hx:∀b,H b=none->b≠x:=fun b n z=>by subst z;rw[n]at mu;exact mu
 have hb:∀b,H b=none->b≠e:=fun b n z=>by
  subst z;rcases he with r|r
  .exact hx b n r
  .rw[n]at r;cases r
 have hm:∀b u,H b=some u->¬Mut (some u)->b≠x:=fun b u q nm z=>by subst z;rw[q]at mu;exact nm mu
 refine⟨fun b u q n _ _=>k b u (hb b n) q,fun b u q n _ _=>⟨u.slots,k b u (hb b n) q⟩,fun b u q n _=>by rw[aL (hx b n)];exact n,fun b u q _=>?_,
  fun b xs q=>by rw[aL (hm b _ q fun z=>z)];exact q,fun b u xs q=>by rw[aL (hm b _ q fun z=>z)];exact q,fun b ps q=>⟨#[],by rw[aL (hm b _ q fun z=>z),q];simp⟩⟩
 by_cases hbe:b=e
 .subst hbe;exact heo
 .exact⟨u,k b u hbe q⟩
end
def trk(h:Heap)(H:Hp):List Addr:=(List.range h.objs.size).filter fun a=>(H a).isSome
def HG(h:Heap)(H:Hp):Heap:=PySem.W.hideAll h (trk h H)
theorem UW(h:Heap)(H:Hp):(HG h H).objs.size=h.objs.size:=PySem.W.hideAll_size _ _
theorem VM{h:Heap}{b:Addr}{o:Obj}(e:h.get? b=some o)(n:H b=none):(HG h H).get? b=some o:=
 PySem.W.hideAll_get _ e fun hm=>by
  have q:(H b).isSome=true:=(List.mem_filter.mp hm).2;rw[n]at q;simp at q
theorem aCF{h:Heap}{b:Addr}{o:Obj}(e:(HG h H).get? b=some o):h.get? b=some o/\H b=none:=by
 have e':h.get? b=some o:=PySem.W.of_hideAll (trk h H) e;refine⟨e',?_⟩;cases q:H b with
 |none=>rfl
 |some x=>
  have hm:b∈trk h H:=List.mem_filter.mpr ⟨List.mem_range.mpr (A8 e'),by simp[q]⟩;have z:(HG h H).get? b=none:=PySem.W.hideAll_none (trk h H) hm;rw[z]at e;cases e
def lL(g h:Heap)(L:Addr):List (Addr×Obj):=(List.range h.objs.size).filterMap fun a=>if a=L\/(g.get? a).isSome=true then none else(h.get? a).map fun o=>(a,o)
theorem lF{g h:Heap}{L a:Addr}{o:Obj}(h1:a≠L)(h2:g.get? a=none)(h3:h.get? a=some o):(a,o)∈lL g h L:=
 List.mem_filterMap.mpr ⟨a,List.mem_range.mpr (A8 h3),by simp[h1,h2,h3]⟩
theorem BL{g h:Heap}{L:Addr}{p:Addr×Obj}(hp:p∈lL g h L):p.1≠L/\g.get? p.1=none/\h.get? p.1=some p.2:=by
 obtain⟨b,_,e⟩:=List.mem_filterMap.mp hp;split at e
 .cases e
 .rename_i hn;cases q:h.get? b with
  |none=>rw[q]at e;simp at e
  |some u=>
   rw[q]at e;simp only[Option.map_some,Option.some.injEq]at e;subst e;refine⟨fun z=>hn (.inl z),?_,q⟩;show g.get? b=none;cases r:g.get? b with
   |none=>rfl
   |some v=>exact(hn (.inr (by simp[r]))).elim
def rest(g h:Heap)(L d:Addr):List (Addr×Obj):=(lL g h L).filter fun p=>decide (p.1≠d)
theorem LF{g h:Heap}{L:Addr}:News g L h (lL g h L):=fun p hp=>let⟨a,b,c⟩:=BL hp;⟨c,a,b⟩
structure Mod(K:Fg)(mg:Str->Option Value)(base:Heap):Prop where
 kin:K.In base
 glob:base.Ns mainGlobals mg
 blt:∃mb,base.Ns builtinsNs mb/\∀x:Str,x≠"__name__"->mb x=bootBuiltins x
 nolimit:base.NoLimit
 sysm:∃o es ep,base.get? sysModules=some o/\o.data=.dict es ep
structure Cx where
 prog:Program
 w:World
 K:Fg
 mg:Str->Option Value
 base:Heap
 A:Around
 N:List Str
 s₀:Shared
 H₀:Hp
 env:Env
 outer:List Env
 stack:List Env
 ex:List Addr
 fn:Str->Bool
 calm:Bool
 pn:List (Addr×Obj)
 xe:Value->Shared->Prop
def frs(l:List Env):List Addr:=l.filterMap (·.frame)
abbrev Cx.fs(X:Cx):List Addr:=frs X.outer
def Vis(sc:Scope)(x:Str):Prop:=sc.names.lookup x=some .local\/sc.names.lookup x=some .cell\/sc.names.lookup x=some .free
def Loc(sc:Scope)(x:Str):Prop:=sc.names.lookup x=some .local\/sc.names.lookup x=some .cell
def Look(env:Env)(h:Heap)(m:Str->Option Value)(x:Str)(u:Value):Prop:=
 (env.kindOf x=some .local/\m x=some u)\/((env.kindOf x=some .cell\/env.kindOf x=some .free)/\∃c,env.cells.lookup x=some c/\h.IsCell c (some u))
structure Cx.Ok(X:Cx):Prop where
 mod:Mod X.K X.mg X.base
 kind:X.env.scope.kind=.function
 glob:X.env.globals=mainGlobals
 blt:X.env.builtins=builtinsNs
 above:X.s₀.heap.objs.size<=X.env.locals
 inj:∀x y c,X.env.cells.lookup x=some c->X.env.cells.lookup y=some c->x=y
 has:∀x,(X.env.kindOf x=some .cell\/X.env.kindOf x=some .free)->∃c,X.env.cells.lookup x=some c
 cab:∀x c,X.fn x=true->X.env.cells.lookup x=some c->X.s₀.heap.objs.size<=c
 hd:X.calm=true->X.A.handled=none
 frames:X.A.frames=some X.stack
 stk:X.stack=X.outer\/(X.stack=X.env::X.outer/\X.env.frame=some X.env.locals)
 exf:∀b∈X.ex,b≠X.env.locals/\∀x c,X.env.cells.lookup x=some c->c≠b
 bs:∀b o,X.base.get? b=some o->X.s₀.heap.get? b=some o/\X.H₀ b=none
 bsz:X.base.objs.size<=X.s₀.heap.objs.size
 noex:∀b o,X.base.get? b=some o->b∉X.ex
 exfs:∀b∈X.ex,b∉X.fs
 funs:X.s₀.heap.FunFrames X.base X.outer
 frf:∀b∈X.fs,X.H₀ b=none
structure Inv(X:Cx)(pins:List (Addr×Obj))(σ:List (Option V))(H:Hp)(s:Shared):Prop where
 ok:X.Ok
 os:s.os=X.s₀.os
 bare:AllBare s.gens
 base:Un X.fs X.ex X.H₀ H X.s₀.heap s.heap
 loc:∃m,s.heap.Ns X.env.locals m/\∀(i:Nat)(x:Str)(v:V),X.N[i]?=some x->σ[i]?=some (some v)->Vis X.env.scope x->∃u,RelV v u/\Look X.env s.heap m x u
 cell:∀x c,X.env.cells.lookup x=some c->∃v,s.heap.IsCell c v
 free:H X.env.locals=none
 freeC:∀x c,X.env.cells.lookup x=some c->H c=none
 pin:∀p∈X.pn++pins,s.heap.get? p.1=some p.2/\H p.1=none/\p.1≠X.env.locals/\p.1∉X.fs/\∀v,p.2.data≠.cell v
 hok:HOk X.prog X.w H s.heap
 len:σ.length=X.N.length
section
variable{X:Cx}{pins:List (Addr×Obj)}{σ:List (Option V)}{H H':Hp}{s:Shared}{h':Heap}
theorem Cx.Ok.nofr(ok:X.Ok){b:Addr}{o:Obj}(e:X.base.get? b=some o):b∉X.fs:=fun hb=>by
 have:=(ok.funs.mem hb).1;rw[e]at this;cases this
theorem Inv.bs(I:Inv X pins σ H s):∀b o,X.base.get? b=some o->s.heap.get? b=some o/\H b=none:=fun b o e=>
 ⟨I.base.keep b o (I.ok.bs b o e).1 (I.ok.bs b o e).2 (I.ok.nofr e) (I.ok.noex b o e),I.base.free b o (I.ok.bs b o e).1 (I.ok.bs b o e).2 (I.ok.noex b o e)⟩
theorem Inv.bk(I:Inv X pins σ H s):∀b o,X.base.get? b=some o->s.heap.get? b=some o:=fun b o e=>(I.bs b o e).1
theorem Inv.mod(I:Inv X pins σ H s):Mod X.K X.mg X.base:=I.ok.mod
theorem Inv.kIn(I:Inv X pins σ H s):X.K.In s.heap:=I.ok.mod.kin.keeps I.bk
theorem Inv.fr(I:Inv X pins σ H s):∃m,Fr X.base X.env.locals s.heap m:=
 let⟨m,hn,_⟩:=I.loc
 ⟨m,hn,I.bk,D0 I.ok.bsz I.ok.above⟩
theorem Inv.lt(I:Inv X pins σ H s):X.env.locals<s.heap.objs.size:=let⟨_,hn,_⟩:=I.loc;hn.lt
theorem Inv.sz(I:Inv X pins σ H s):X.s₀.heap.objs.size<=s.heap.objs.size:=D0 I.ok.above (Z8 I.lt)
theorem Inv.nofs(I:Inv X pins σ H s){a:Addr}(h:s.heap.objs.size<=a):a∉X.fs:=fun hb=>by
 obtain⟨_,o,ho,_⟩:=I.ok.funs.mem hb;exact absurd (C2 (A8 ho) (D0 I.sz h)) (J1 _)
theorem Inv.cne(I:Inv X pins σ H s):∀x c,X.env.cells.lookup x=some c->c≠X.env.locals:=fun x c e z=>by
 obtain⟨v,o,ho,hd⟩:=I.cell x c e;obtain⟨m,⟨o',es,ep,ho',hd',_⟩,_⟩:=I.loc;rw[z,ho']at ho;cases ho;rw[hd']at hd;cases hd
theorem Inv.funs(I:Inv X pins σ H s):s.heap.FunFrames X.base X.outer:=by
 have all:∀(l:List Env),(∀b∈frs l,b∈X.fs)->X.s₀.heap.FunFrames X.base l->s.heap.FunFrames X.base l:=by
  intro l
  induction l with
  |nil=>intro _ _;trivial
  |cons env r ih=>
   intro hs hl;obtain⟨hk,⟨L,o,hf,hn,ho,hd⟩,hr⟩:=hl;have hL:L∈X.fs:=hs L (by unfold frs;rw[O1,hf];exact B5);obtain⟨sl,e⟩:=I.base.slot L o ho (I.ok.frf L hL) hL fun z=>I.ok.exfs L z hL;exact⟨hk,⟨L,_,hf,hn,e,hd⟩,ih (fun b hb=>hs b (by unfold frs;rw[O1,hf];exact B3 _ hb)) hr⟩
 exact all X.outer (fun _ hb=>hb) I.ok.funs
theorem Inv.stack(I:Inv X pins σ H s):s.heap.FunFrames X.base X.stack:=by
 rcases I.ok.stk with e|⟨e,hf⟩
 .rw[e];exact I.funs
 .rw[e];obtain⟨m,hn,_⟩:=I.loc;refine .cons (by rw[I.ok.kind];decide) hf hn ?_ I.funs;exact Heap.get?_none_of_le (D0 I.ok.bsz I.ok.above)
theorem Inv.stkSub(I:Inv X pins σ H s):∀b∈frs X.stack,b∈X.env.locals::X.fs:=fun b hb=>by
 rcases I.ok.stk with e|⟨e,hf⟩
 .rw[e]at hb;exact B3 _ hb
 .rw[e]at hb;unfold frs at hb;rw[O1,hf]at hb;exact hb
theorem Inv.stkFree(I:Inv X pins σ H s):∀b∈frs X.stack,H b=none:=fun b hb=>by
 rcases List.mem_cons.mp (I.stkSub b hb)with e|hb
 .rw[e];exact I.free
 .obtain⟨_,o,ho,_⟩:=I.ok.funs.mem hb;exact I.base.free b o ho (I.ok.frf b hb) fun z=>I.ok.exfs b z hb
theorem Inv.step{g':Array GenState}{t':Nat}{d':Drawn}{ch:List Addr}(I:Inv X pins σ H s)
 (hch:∀b∈ch,(b∈X.ex\/X.s₀.heap.objs.size<=b)/\b≠X.env.locals/\(∀x c,X.env.cells.lookup x=some c->c≠b)/\∀p∈X.pn++pins,p.1≠b)
 (keep:∀b o,b≠X.env.locals->b∉X.fs->b∉ch->s.heap.get? b=some o->H b=none->h'.get? b=some o)
 (slot:∀b o,b≠X.env.locals->b∈X.fs->b∉ch->s.heap.get? b=some o->H b=none->∃sl,h'.get? b=some { o with slots:=sl }) (free:∀b o,b∉ch->s.heap.get? b=some o->H b=none->H' b=none)
 (there:∀b o,b∉ch->s.heap.get? b=some o->∃o',h'.get? b=some o')
 (tups:∀b xs,H b=some (.tup xs)->H' b=some (.tup xs)) (frzs:∀b o u,H b=some (.frz o u)->H' b=some (.frz o u)) (tbls:∀b ps,H b=some (.tbl ps)->∃more,H' b=some (.tbl (ps++more)))
 (ns:∀m,s.heap.Ns X.env.locals m->h'.Ns X.env.locals m) (hok:HOk X.prog X.w H' h') (hg:AllBare g'):
 Inv X pins σ H' { s with heap:=h',gens:=g',drawn:=d',toks:=t' }:=by
 have neL:∀b o,X.s₀.heap.get? b=some o->b≠X.env.locals:=fun b o e=>B8 (C2 (A8 e) I.ok.above)
 have neC:∀b o,X.s₀.heap.get? b=some o->b∉X.ex->b∉ch:=fun b o e hx hb=>by
  rcases (hch b hb).1 with z|z
  .exact hx z
  .exact absurd (C2 (A8 e) z) (J1 _)
 have cellK:∀x c,X.env.cells.lookup x=some c->∀v,s.heap.IsCell c v->h'.IsCell c v:=fun x c e v ⟨o,ho,hd⟩=>by
  have nch:c∉ch:=fun z=>(hch c z).2.2.1 x c e rfl;by_cases hc:c∈X.fs
  .obtain⟨sl,q⟩:=slot c o (I.cne x c e) hc nch ho (I.freeC x c e);exact⟨_,q,hd⟩
  .exact⟨o,keep c o (I.cne x c e) hc nch ho (I.freeC x c e),hd⟩
 refine⟨I.ok,I.os,hg,⟨fun b o e n hb hx=>?_,fun b o e n hb hx=>?_,fun b o e n hx=>?_,fun b o e hx=>?_,fun b xs e=>tups b xs (I.base.tups b xs e),fun b o xs e=>frzs b o xs (I.base.frzs b o xs e),fun b ps e=>?_⟩,?_,fun x c e=>?_,?_,fun x c e=>?_,fun p hp=>?_,hok,I.len⟩
 .exact keep b o (neL b o e) hb (neC b o e hx) (I.base.keep b o e n hb hx) (I.base.free b o e n hx)
 .obtain⟨sl,e1⟩:=I.base.slot b o e n hb hx;obtain⟨sl',e2⟩:=slot b _ (neL b o e) hb (neC b o e hx) e1 (I.base.free b o e n hx);exact⟨sl',e2⟩
 .obtain⟨o',e1⟩:=I.base.there b o e hx;exact free b o' (neC b o e hx) e1 (I.base.free b o e n hx)
 .obtain⟨o',e1⟩:=I.base.there b o e hx;exact there b o' (neC b o e hx) e1
 .obtain⟨m1,e1⟩:=I.base.tbls b ps e;obtain⟨m2,e2⟩:=tbls b _ e1;exact⟨m1++m2,by rw[e2,Array.append_assoc]⟩
 .obtain⟨m,hn,hl⟩:=I.loc;refine⟨m,ns m hn,fun i x v e1 e2 e3=>?_⟩;obtain⟨u,r,l⟩:=hl i x v e1 e2 e3;refine⟨u,r,?_⟩;rcases l with l|⟨k,c,e,z⟩
  .exact .inl l
  .exact .inr ⟨k,c,e,cellK x c e _ z⟩
 .obtain⟨v,z⟩:=I.cell x c e;exact⟨v,cellK x c e v z⟩
 .obtain⟨m,⟨o,_,_,ho,_⟩,_⟩:=I.loc;exact free _ o (fun z=>(hch _ z).2.1 rfl) ho I.free
 .obtain⟨v,o,ho,hd⟩:=I.cell x c e;exact free c o (fun z=>(hch c z).2.2.1 x c e rfl) ho (I.freeC x c e)
 .obtain⟨e,n,ne,nf,d⟩:=I.pin p hp;have nch:p.1∉ch:=fun z=>(hch p.1 z).2.2.2 p hp rfl;exact⟨keep p.1 p.2 ne nf nch e n,free p.1 p.2 nch e n,ne,nf,d⟩
theorem Inv.un{t':Nat}(I:Inv X pins σ H s)(u:Un X.fs [] H H' s.heap h')(hok:HOk X.prog X.w H' h'):Inv X pins σ H' { s with heap:=h',toks:=t' }:=by
 obtain⟨m,⟨o,es,ep,ho,r⟩,_⟩:=id I.loc;obtain⟨sl,hL⟩:=u.any ho I.free (by simp)
 exact I.step (g':=s.gens) (d':=s.drawn) (ch:=[]) (fun _ z=>nomatch z) (fun b o _ hb _ e n=>u.keep b o e n hb (by simp)) (fun b o _ hb _ e n=>u.slot b o e n hb (by simp)) (fun b o _ e n=>u.free b o e n (by simp)) (fun b o _ e=>u.there b o e (by simp)) u.tups u.frzs u.tbls (fun m' hm=>by
  obtain⟨o',es',ep',ho',r'⟩:=hm;rw[ho]at ho';cases ho';exact⟨_,es',ep',hL,r'⟩) hok I.bare
theorem Inv.call{g':Array GenState}{t':Nat}{d':Drawn}{ch:List Addr}(I:Inv X pins σ H s)(u:Un (frs X.stack) ch H H' s.heap h')(hok:HOk X.prog X.w H' h')(hg:AllBare g')
 (hch:∀b∈ch,(b∈X.ex\/X.s₀.heap.objs.size<=b)/\b≠X.env.locals/\(∀x c,X.env.cells.lookup x=some c->c≠b)/\∀p∈X.pn++pins,p.1≠b):
 Inv X pins σ H' { s with heap:=h',gens:=g',drawn:=d',toks:=t' }:=by
 obtain⟨m,⟨o,es,ep,ho,r⟩,_⟩:=id I.loc;obtain⟨sl,hL⟩:=u.any ho I.free fun z=>(hch _ z).2.1 rfl
 exact I.step (ch:=ch) hch (fun b o hL hb hc e n=>u.keep b o e n (fun z=>(List.mem_cons.mp (I.stkSub b z)).elim hL hb) hc) (fun b o _ _ hc e n=>u.any e n hc) (fun b o hc e n=>u.free b o e n hc) (fun b o hc e=>u.there b o e hc) u.tups u.frzs u.tbls (fun m' hm=>by
  obtain⟨o',es',ep',ho',r'⟩:=hm;rw[ho]at ho';cases ho';exact⟨_,es',ep',hL,r'⟩) hok hg
theorem Inv.turned{t':Nat}{it:Addr}(I:Inv X pins σ H s)(k:∀b o,b≠it->s.heap.get? b=some o->h'.get? b=some o)(hn:H it=none)(hL:it≠X.env.locals)
 (h1:it∈X.ex\/X.s₀.heap.objs.size<=it) (h2:∀x c,X.env.cells.lookup x=some c->c≠it) (h3:∀p∈X.pn++pins,p.1≠it):Inv X pins σ H { s with heap:=h',toks:=t' }:=by
 have nit:∀b u,H b=some u->b≠it:=fun b u e z=>by rw[z,hn]at e;cases e
 refine I.step (g':=s.gens) (d':=s.drawn) (ch:=[it]) (fun b hb=>?_) (fun b o _ _ hc e _=>k b o (fun z=>hc (by simp[z])) e) (fun b o _ _ hc e _=>⟨o.slots,k b o (fun z=>hc (by simp[z])) e⟩) (fun _ _ _ _ n=>n)
  (fun b o hc e=>⟨o,k b o (fun z=>hc (by simp[z])) e⟩) (fun _ _ e=>e) (fun _ _ _ e=>e) (fun b ps e=>⟨#[],by rw[e];simp⟩) (fun m hm=>?_) (fun b u e=>?_) I.bare
 .have e:b=it:=by simpa using hb
  subst e;exact⟨h1,hL,h2,h3⟩
 .obtain⟨o,es,ep,ho,r⟩:=hm;exact⟨o,es,ep,k _ o (L6 hL) ho,r⟩
 .refine(I.hok b u e).stay (fun c v hc q=>k c v ?_ q) (fun _ q=>q) fun _ _ q=>q;rcases hc with z|z
  .rw[z];exact nit b u e
  .exact nit c _ z
theorem Inv.tok(I:Inv X pins σ H s)(t:Nat):Inv X pins σ H { s with toks:=t }:=I.un (h':=s.heap) (t':=t) Un.refl I.hok
theorem Inv.kept{t':Nat}(I:Inv X pins σ H s)(k:∀b u,s.heap.get? b=some u->h'.get? b=some u):Inv X pins σ H { s with heap:=h',toks:=t' }:=I.un (Un.kept k) (I.hok.kept k)
theorem Inv.laid{a:Addr}{o:HO}{t':Nat}(I:Inv X pins σ H s)(k:∀b u,s.heap.get? b=some u->h'.get? b=some u)(hp:s.heap.objs.size<=a)(new:cP X.prog X.w (upd H a o) h' a o):
 Inv X pins σ (upd H a o) { s with heap:=h',toks:=t' }:=I.un (Un.laid k hp (I.hok.fresh hp)) (I.hok.laid k hp new)
theorem Inv.write{x e:Addr}{o:HO}{t':Nat}(I:Inv X pins σ H s)(mu:Mut (H x))(he:e=x\/H e=some (.own x))(k:∀b u,b≠e->s.heap.get? b=some u->h'.get? b=some u)(heo:∃u,h'.get? e=some u)
 (new:cP X.prog X.w (upd H x o) h' x o):Inv X pins σ (upd H x o) { s with heap:=h',toks:=t' }:=I.un (Un.write mu he k heo) (I.hok.write mu he k heo new)
theorem Inv.pins_of{pins':List (Addr×Obj)}(I:Inv X pins σ H s)(h:∀p∈pins',s.heap.get? p.1=some p.2/\H p.1=none/\p.1≠X.env.locals/\p.1∉X.fs/\∀v,p.2.data≠.cell v):Inv X pins' σ H s:=
 ⟨I.ok,I.os,I.bare,I.base,I.loc,I.cell,I.free,I.freeC,fun p hp=>(List.mem_append.mp hp).elim (fun z=>I.pin p (L5 _ z)) (h p),I.hok,I.len⟩
theorem AN{N:List Str}(hN:N.Nodup){i j:Nat}{x:Str}(a:N[i]?=some x)(b:N[j]?=some x):i=j:=by
 obtain⟨h1,e1⟩:=List.getElem?_eq_some_iff.mp a;obtain⟨h2,e2⟩:=List.getElem?_eq_some_iff.mp b;exact(List.getElem_inj hN).mp (e1.trans e2.symm)
theorem DH{M:Model}{A:Around}{E:Value->Shared->Prop}{i:Nat}{x:Str}{v:V}{u:Value}{Q:Unit->Shared->Prop}(I:Inv X pins σ H s)(hN:X.N.Nodup)(hi:X.N[i]?=some x)(hx:Loc X.env.scope x)(r:RelV v u)
 (h:∀s',Inv X pins (σ.set i (some v)) H s'->(∃a,Heap.SameBut a s.heap s'.heap/\(a=X.env.locals\/X.env.cells.lookup x=some a))->Q () s') (hf:X.fn x=true\/X.env.scope.names.lookup x=some .local:=by first|exact .inl rfl|exact .inr rfl|assumption):wpAny M A (storeName X.env x u) Q E s:=by
 obtain⟨m,hn,hl⟩:=id I.loc;have hcls:(X.env.scope.kind==.class || (X.env.scope.kind==.module&&X.env.locals != X.env.globals))=false:=by rw[I.ok.kind];rfl
 have hiσ:i<σ.length:=by rw[I.len];exact(List.getElem?_eq_some_iff.mp hi).1
 have cne:=I.cne
 have tracked:∀{a:Addr}{h':Heap},(∃o,s.heap.get? a=some o/\H a=none)->Heap.SameBut a s.heap h'->HOk X.prog X.w H h':=fun{a h'} ha hs b ob e=>by
  obtain⟨_,_,hfree⟩:=ha;refine(I.hok b ob e).stay (fun c w' hc q=>(hs.2 c ?_).trans q) (fun _ q=>q) fun _ _ q=>q;rintro rfl;rcases hc with rfl|hc
  .rw[hfree]at e;cases e
  .rw[hfree]at hc;cases hc
 rcases hx with hk|hk
 .refine wpAny_storeName_local hk hn (fun h' hn' hs=>?_) hcls;obtain⟨oL,_,_,hoL,_⟩:=id hn;refine h _ ⟨I.ok,I.os,I.bare,⟨fun b o e n hb hx=>?_,fun b o e n hb hx=>?_,I.base.free,fun b o e hx=>?_,I.base.tups,I.base.frzs,I.base.tbls⟩,⟨_,hn',fun j y v' e1 e2 e3=>?_⟩,fun y c e=>?_,I.free,I.freeC,fun p hp=>?_,tracked ⟨oL,hoL,I.free⟩ hs,by simpa using I.len⟩ ⟨_,hs,.inl rfl⟩
  .exact(hs.2 b (B8 (C2 (A8 e) I.ok.above))).trans (I.base.keep b o e n hb hx)
  .obtain⟨sl,e1⟩:=I.base.slot b o e n hb hx;exact⟨sl,(hs.2 b (B8 (C2 (A8 e) I.ok.above))).trans e1⟩
  .obtain⟨o',e1⟩:=I.base.there b o e hx;exact⟨o',(hs.2 b (B8 (C2 (A8 e) I.ok.above))).trans e1⟩
  .by_cases hj:j=i
   .subst hj;rw[hi]at e1;cases e1;rw[F5 hiσ]at e2;cases e2;exact⟨u,r,.inl ⟨hk,by simp⟩⟩
   .rw[F6 (L6 hj)]at e2;obtain⟨u',r',q⟩:=hl j y v' e1 e2 e3;refine⟨u',r',?_⟩;rcases q with⟨k,e⟩|⟨k,c,e,z⟩
    .refine .inl ⟨k,?_⟩;have:y≠x:=fun e=>hj (AN hN e1 (e▸hi));simp[this,e]
    .exact .inr ⟨k,c,e,z.sameBut hs (cne y c e)⟩
  .obtain⟨w',z⟩:=I.cell y c e;exact⟨w',z.sameBut hs (cne y c e)⟩
  .obtain⟨e,n,ne,nf,d⟩:=I.pin p hp;exact⟨(hs.2 p.1 ne).trans e,n,ne,nf,d⟩
 .have hfn:X.fn x=true:=by
   rcases hf with z|z
   .exact z
   .rw[z]at hk;cases hk
  obtain⟨c,hc⟩:=I.ok.has x (.inl hk);obtain⟨w',z⟩:=I.cell x c hc;refine wpAny_storeName_cell I.ok.kind hk hc z (fun h' hc' hs=>?_);obtain⟨oc,hoc,hocd⟩:=id z;refine h { s with heap:=h' } ⟨I.ok,I.os,I.bare,⟨fun b o e n hb hx=>?_,fun b o e n hb hx=>?_,I.base.free,fun b o e hx=>?_,I.base.tups,I.base.frzs,I.base.tbls⟩,⟨m,hn.sameBut hs (L6 (cne x c hc)),fun j y v' e1 e2 e3=>?_⟩,fun y c' e=>?_,I.free,I.freeC,fun p hp=>?_,tracked ⟨oc,hoc,I.freeC x c hc⟩ hs,by simpa using I.len⟩ ⟨c,hs,.inr hc⟩
  .exact(hs.2 b (B8 (C2 (A8 e) (I.ok.cab x c hfn hc)))).trans (I.base.keep b o e n hb hx)
  .obtain⟨sl,e1⟩:=I.base.slot b o e n hb hx;exact⟨sl,(hs.2 b (B8 (C2 (A8 e) (I.ok.cab x c hfn hc)))).trans e1⟩
  .obtain⟨o',e1⟩:=I.base.there b o e hx;exact⟨o',(hs.2 b (B8 (C2 (A8 e) (I.ok.cab x c hfn hc)))).trans e1⟩
  .by_cases hj:j=i
   .subst hj;rw[hi]at e1;cases e1;rw[F5 hiσ]at e2;cases e2;exact⟨u,r,.inr ⟨.inl hk,c,hc,hc'⟩⟩
   .rw[F6 (L6 hj)]at e2;obtain⟨u',r',q⟩:=hl j y v' e1 e2 e3;refine⟨u',r',?_⟩;rcases q with q|⟨k,c',e,z'⟩
    .exact .inl q
    .refine .inr ⟨k,c',e,z'.sameBut hs ?_⟩;rintro rfl;exact hj (AN hN e1 (I.ok.inj _ _ _ e hc▸hi))
  .by_cases hcc:c'=c
   .subst hcc;exact⟨_,hc'⟩
   .obtain⟨w2,z2⟩:=I.cell y c' e;exact⟨w2,z2.sameBut hs hcc⟩
  .obtain⟨e,n,ne,nf,d⟩:=I.pin p hp;refine⟨(hs.2 p.1 ?_).trans e,n,ne,nf,d⟩;intro q;rw[q,hoc]at e;have q':oc=p.2:=E2 e;exact d w' (by rw[<- q'];exact hocd)
theorem qY{M:Model}{A:Around}{E:Value->Shared->Prop}{i:Nat}{x:Str}{v:V}{u:Value}{Q:Unit->Shared->Prop}(I:Inv X pins σ H s)(hN:X.N.Nodup)(hi:X.N[i]?=some x)(hx:Loc X.env.scope x)(r:RelV v u)
 (h:∀s',Inv X pins (σ.set i (some v)) H s'->Q () s') (hf:X.fn x=true\/X.env.scope.names.lookup x=some .local:=by first|exact .inl rfl|exact .inr rfl|assumption):wpAny M A (storeName X.env x u) Q E s:=
 DH I hN hi hx r (fun s' I' _=>h s' I') hf
theorem Inv.call'{s':Shared}{ch:List Addr}(I:Inv X pins σ H s)(ho:s'.os=s.os)(u:Un (frs X.stack) ch H H' s.heap s'.heap)(hok:HOk X.prog X.w H' s'.heap)(hg:AllBare s'.gens)
 (hch:∀b∈ch,(b∈X.ex\/X.s₀.heap.objs.size<=b)/\b≠X.env.locals/\(∀x c,X.env.cells.lookup x=some c->c≠b)/\∀p∈X.pn++pins,p.1≠b):Inv X pins σ H' s':=by
 obtain⟨h',g',d',t',o'⟩:=s';have e:o'=s.os:=ho;subst e;exact I.call (g':=g') (t':=t') (d':=d') u hok hg hch
end
abbrev XK:=Value->Option Addr->Hp->Prop
abbrev St:=List (Option V)
abbrev VK:=V->Hp->Prop
abbrev TE:=St->Hp->VK->Prop
abbrev TT:=St->Hp->(Bool->Hp->Prop)->Prop
abbrev TA:=St->Hp->(List V->Hp->Prop)->Prop
structure Ends where
 nx:St->Hp->Prop
 rt:VK
 bk:St->Hp->Prop:=fun _ _=>False
 ct:St->Hp->Prop:=fun _ _=>False
abbrev TS:=Ends->St->Hp->Prop
def EP(X:Cx)(pins:List (Addr×Obj))(σ:St)(Q:VK)(u:Value)(s':Shared):Prop:=∃v H',Inv X pins σ H' s'/\RelV v u/\Q v H'
def TP(X:Cx)(pins:List (Addr×Obj))(σ:St)(Q:Bool->Hp->Prop)(b:Bool)(s':Shared):Prop:=∃H',Inv X pins σ H' s'/\Q b H'
def AP(X:Cx)(pins:List (Addr×Obj))(σ:St)(Q:List V->Hp->Prop)(us:List Value)(s':Shared):Prop:=∃vs H',Inv X pins σ H' s'/\aW vs us/\Q vs H'
def SP(X:Cx)(pins:List (Addr×Obj))(D:Ends)(f:Flow)(s':Shared):Prop:=
 match f with
 |.next=>∃σ' H',Inv X pins σ' H' s'/\D.nx σ' H'
 |.brk=>∃σ' H',Inv X pins σ' H' s'/\D.bk σ' H'
 |.cont=>∃σ' H',Inv X pins σ' H' s'/\D.ct σ' H'
 |.ret u=>∃v σ' H',Inv X pins σ' H' s'/\RelV v u/\D.rt v H'
def PE(X:Cx)(e:Expr)(t:TE):Prop:=
 ∀(pins:List (Addr×Obj))(s:Shared)(σ:St)(H:Hp)(Q:VK),Inv X pins σ H s->t σ H Q->wpAny (model X.prog X.w) X.A (eval e X.env) (EP X pins σ Q) X.xe s
def PT(X:Cx)(e:Expr)(t:TT):Prop:=
 ∀(pins:List (Addr×Obj))(s:Shared)(σ:St)(H:Hp)(Q:Bool->Hp->Prop),Inv X pins σ H s->t σ H Q->wpAny (model X.prog X.w) X.A (isTrue e X.env (eval e X.env)) (TP X pins σ Q) X.xe s
def PW(X:Cx)(e:Expr)(t:TT):Prop:=
 ∀(whole:Sem Value)(pins:List (Addr×Obj))(s:Shared)(σ:St)(H:Hp)(Q:Bool->Hp->Prop),Inv X pins σ H s->t σ H Q->wpAny (model X.prog X.w) X.A (isTrue e X.env whole) (TP X pins σ Q) X.xe s
theorem PW.pt{X:Cx}{e:Expr}{t:TT}(h:PW X e t):PT X e t:=h _
def PA(X:Cx)(es:List Expr)(t:TA):Prop:=
 ∀(pos:Pos)(pins:List (Addr×Obj))(s:Shared)(σ:St)(H:Hp)(Q:List V->Hp->Prop),Inv X pins σ H s->t σ H Q->wpAny (model X.prog X.w) X.A (spliced (backTo pos (starEach es X.env))) (AP X pins σ Q) X.xe s
def PS(X:Cx)(st:Stmt)(t:TS):Prop:=
 ∀(pins:List (Addr×Obj))(s:Shared)(σ:St)(H:Hp)(D:Ends),Inv X pins σ H s->t D σ H->wpAny (model X.prog X.w) X.A (exec st X.env) (SP X pins D) X.xe s
def PSs(X:Cx)(st:List Stmt)(t:TS):Prop:=
 ∀(pins:List (Addr×Obj))(s:Shared)(σ:St)(H:Hp)(D:Ends),Inv X pins σ H s->t D σ H->wpAny (model X.prog X.w) X.A (execs st X.env) (SP X pins D) X.xe s
theorem thn{α:Type}{t:Sem α}{Q Q':α->Shared->Prop}{M:Model}{E:Value->Shared->Prop}{s:Shared}(h:wpAny M A t Q E s)(hQ:∀a s,Q a s->Q' a s):wpAny M A t Q' E s:=E3 h hQ fun _ _ x=>x
section
variable{X:Cx}
theorem bin{a b:Expr}{ta tb:TE}(ha:PE X a ta)(hb:PE X b tb){pins:List (Addr×Obj)}{R:V->V->Hp->Prop}(I:Inv X pins σ H s)(h:ta σ H fun x H1=>tb σ H1 fun y H2=>R x y H2)
 {α:Type} {Q:α->Shared->Prop} {f:Value->Value->Sem α}
 (hf:∀v u s2 x y H2,Inv X pins σ H2 s2->RelV x v->RelV y u->R x y H2->wpAny (model X.prog X.w) X.A (f v u) Q X.xe s2):
 wpAny (model X.prog X.w) X.A (eval a X.env) (fun v s₁=>wpAny (model X.prog X.w) X.A (eval b X.env) (fun u s₂=>wpAny (model X.prog X.w) X.A (f v u) Q X.xe s₂) X.xe s₁) X.xe s:=by
 refine thn (ha pins s σ H _ I h) fun v s1 ⟨x,H1,I1,r1,q1⟩=>?_;refine thn (hb pins s1 σ H1 _ I1 q1) fun u s2 ⟨y,H2,I2,r2,q2⟩=>?_;exact hf v u s2 x y H2 I2 r1 r2 q2
def aJm(i:Nat):TE:=fun σ H Q=>∃v,σ[i]?=some (some v)/\Q v H
def tC(v:V):TE:=fun _ H Q=>Q v H
theorem ZD{i:Nat}{x:Str}(hN:X.N[i]?=some x)(hv:Vis X.env.scope x)(hd:(x==("__debug__":Str))=false:=by decide)(hcd:(x==("__classdict__":Str))=false:=by decide):PE X (.Name x pos) (aJm i):=by
 intro pins s σ H Q I h;obtain⟨v,e,h⟩:=h;obtain⟨m,hn,hl⟩:=I.loc;obtain⟨u,r,l⟩:=hl i x v hN e hv;have fin:EP X pins σ Q u s:=⟨v,H,I,r,h⟩;rcases l with⟨hk,hm⟩|⟨hk,c,hc,hcell⟩
 .exact wpAny_Name (wpAny_loadName_local I.ok.kind hk hn hm fin) hd
 .rcases hk with hk|hk
  .exact wpAny_Name (wpAny_loadName_cell I.ok.kind hk hc hcell fin) hd
  .exact wpAny_Name (wpAny_loadName_free I.ok.kind hk hc hcell fin hcd) hd
theorem aFu{i j pos}:PE X (.Constant (.int i) j pos) (tC (.int i)):=fun _ _ _ H _ I h=>wpAny_Constant_int ⟨.int i,H,I.tok _,⟨_,rfl⟩,h⟩
theorem aJD{b j pos}:PE X (.Constant (.bool b) j pos) (tC (.bl b)):=fun _ _ _ H _ I h=>Constant_bool ⟨.bl b,H,I,rfl,h⟩
theorem aGk{j pos}:PE X (.Constant .none j pos) (tC .non):=fun _ _ _ H _ I h=>Constant_none ⟨.non,H,I,rfl,h⟩
theorem aFs{x j pos}:PE X (.Constant (.str x) j pos) (tC (.str x)):=fun _ _ _ H _ I h=>Calls.Constant_str ⟨.str x,H,I.tok _,⟨_,rfl⟩,h⟩
def Gl(X:Cx)(x:Str):Prop:=X.env.kindOf x=some .globalImplicit
theorem rO{E:Value->Shared->Prop}{pins:List (Addr×Obj)}{x:Str}{u:Value}{pos:Pos}{Q:Value->Shared->Prop}(I:Inv X pins σ H s)(hg:Gl X x)(hm:X.mg x=some u)(h:Q u s)
 (hd:(x==("__debug__":Str))=false:=by decide):wpAny (model X.prog X.w) X.A (eval (.Name x pos) X.env) Q E s:=
 Calls.Name_function_global I.ok.kind hg (Calls.loadGlobal_global (by rw[I.ok.glob];exact I.mod.glob.keeps I.bk) hm h) hd
theorem iR{E:Value->Shared->Prop}{pins:List (Addr×Obj)}{x:Str}{u:Value}{pos:Pos}{Q:Value->Shared->Prop}(I:Inv X pins σ H s)(hg:Gl X x)(hm:X.mg x=none)(hv:bootBuiltins x=some u)(h:Q u s)
 (hn:x≠"__name__":=by decide) (hd:(x==("__debug__":Str))=false:=by decide):wpAny (model X.prog X.w) X.A (eval (.Name x pos) X.env) Q E s:=by
 obtain⟨mb,h1,h2⟩:=I.mod.blt;exact Calls.Name_function_global I.ok.kind hg (Calls.loadGlobal_builtin (by rw[I.ok.glob];exact I.mod.glob.keeps I.bk) hm (by rw[I.ok.blt];exact h1.keeps I.bk) ((h2 x hn).trans hv) h) hd
theorem FR{x:Str}{v:V}{u:Value}(hg:Gl X x)(hm:X.mg x=some u)(r:RelV v u)(hd:(x==("__debug__":Str))=false:=by decide):PE X (.Name x pos) (tC v):=
 fun _ _ _ H _ I h=>rO I hg hm ⟨v,H,I,r,h⟩ hd
theorem xY{x:Str}{v:V}{u:Value}(hg:Gl X x)(hm:X.mg x=none)(hv:bootBuiltins x=some u)(r:RelV v u)(hn:x≠"__name__":=by decide)(hd:(x==("__debug__":Str))=false:=by decide):PE X (.Name x pos) (tC v):=
 fun _ _ _ H _ I h=>iR I hg hm hv ⟨v,H,I,r,h⟩ hn hd
variable{a b:Expr}{ta tb:TE}{pos:Pos}
def PC(X:Cx)(op:CmpOp)(a b:Expr)(t:TE):Prop:=
 ∀(pins:List (Addr×Obj))(s:Shared)(σ:St)(H:Hp)(Q:VK),Inv X pins σ H s->t σ H Q->
  wpAny (model X.prog X.w) X.A (eval a X.env) (fun v s₁=>wpAny (model X.prog X.w) X.A (eval b X.env) (fun u s₂=>wpAny (model X.prog X.w) X.A (compareOp op v u) (EP X pins σ Q) X.xe s₂) X.xe s₁) X.xe s
theorem JN(b:Expr){op:CmpOp}(h:op≠.In)(h2:op≠.NotIn):behindInMarks op b=false:=by
 have e1:(op==CmpOp.In)=false:=by cases op<;>first|rfl|exact absurd rfl h
 have e2:(op==CmpOp.NotIn)=false:=by cases op<;>first|rfl|exact absurd rfl h2
 cases b<;>simp[behindInMarks,e1,e2]
def tB(t:TE):TT:=fun σ H Q=>t σ H fun x H1=>∃c,x=.bl c/\Q c H1
theorem aEM{op:CmpOp}{t:TE}(h:PC X op a b t)(h1:behindInMarks op b=false:=by first|exact JN _ (by decide) (by decide)|rfl):PE X (.Compare a [op] [b] pos) t:=fun pins s σ H Q I hw=>wpAny_Compare1 (h pins s σ H Q I hw) h1
theorem aHv{op:CmpOp}{t:TE}(h:PC X op a b t)(h1:behindInMarks op b=false:=by first|exact JN _ (by decide) (by decide)|rfl):PT X (.Compare a [op] [b] pos) (tB t):=by
 intro pins s σ H Q I hw;refine wpAny_isTrue_Compare1 (thn (h pins s σ H _ I hw) fun v s1 h1=>thn h1 fun u s2 h2=>thn h2 fun c s3 ⟨x,H1,I1,r1,q1⟩=>?_) h1;obtain⟨d,rfl,q⟩:=q1;cases r1;exact S5 ⟨H1,I1,q⟩
theorem aEJ{e:Expr}{t:TE}(h:PE X e t)(he:∀whole,isTrue e X.env whole=(do let v <- whole;standAt e.pos;holding [v] (truthy v)):=by intro _;rfl):PT X e (tB t):=by
 intro pins s σ H Q I hw;refine isTrue_plain (thn (h pins s σ H _ I hw) fun v s1 ⟨x,H1,I1,r1,q1⟩=>?_) (he _);obtain⟨d,rfl,q⟩:=q1;cases r1;exact S5 ⟨H1,I1,q⟩
variable{tA tB':TT}{rest:List Expr}
def aIa(t u:TT):TT:=fun σ H Q=>t σ H fun c H1=>if c=true then u σ H1 Q else Q false H1
def tOr(t u:TT):TT:=fun σ H Q=>t σ H fun c H1=>if c=true then Q true H1 else u σ H1 Q
def aIS(t:TT):TT:=fun σ H Q=>t σ H fun c H1=>Q (!c) H1
theorem aBN(ha:PT X a tA):PW X (.BoolOp .And [a] pos) tA:=by
 intro wh pins s σ H Q I h;refine isTrue_and (thn (ha pins s σ H Q I h) fun c s1 e=>?_);cases c with
 |true=>exact isTrue_and_nil e
 |false=>exact e
theorem aET(ha:PT X a tA):PW X (.BoolOp .Or [a] pos) tA:=by
 intro wh pins s σ H Q I h;refine isTrue_or (thn (ha pins s σ H Q I h) fun c s1 e=>?_);cases c with
 |false=>exact isTrue_or_nil e
 |true=>exact e
theorem aGH(ha:PT X a tA)(hb:PW X (.BoolOp .And (b::rest) pos) tB'):PW X (.BoolOp .And (a::b::rest) pos) (aIa tA tB'):=by
 intro wh pins s σ H Q I h;refine isTrue_and (thn (ha pins s σ H _ I h) fun c s1 ⟨H1,I1,q1⟩=>?_);cases c with
 |true=>exact hb wh pins s1 σ H1 Q I1 q1
 |false=>exact⟨H1,I1,q1⟩
theorem aIF(ha:PT X a tA)(hb:PW X (.BoolOp .Or (b::rest) pos) tB'):PW X (.BoolOp .Or (a::b::rest) pos) (tOr tA tB'):=by
 intro wh pins s σ H Q I h;refine isTrue_or (thn (ha pins s σ H _ I h) fun c s1 ⟨H1,I1,q1⟩=>?_);cases c with
 |true=>exact⟨H1,I1,q1⟩
 |false=>exact hb wh pins s1 σ H1 Q I1 q1
theorem aEW(ha:PT X a tA):PT X (.UnaryOp .Not a pos) (aIS tA):=by
 intro pins s σ H Q I h;exact isTrue_not (ha pins s σ H (fun c H1=>Q (!c) H1) I h)
def aDX(ta tb:TE):TE:=fun σ H Q=>ta σ H fun x H1=>∃c,x=.bl c/\if c=true then tb σ H1 Q else Q (.bl false) H1
def aED(ta:TE):TE:=fun σ H Q=>ta σ H fun x H1=>∃c,x=.bl c/\Q (.bl (!c)) H1
theorem aEO{op}{t:TE}(h:PE X a t):PE X (.BoolOp op [a] pos) t:=fun pins s σ H Q I hw=>BoolOp_one (h pins s σ H Q I hw)
theorem aHB(ha:PE X a ta)(hb:PE X (.BoolOp .And (b::rest) pos) tb):PE X (.BoolOp .And (a::b::rest) pos) (aDX ta tb):=by
 intro pins s σ H Q I h;refine BoolOp_and (thn (ha pins s σ H _ I h) fun v s1 ⟨x,H1,I1,r1,q1⟩=>?_);obtain⟨c,rfl,q1⟩:=q1;cases r1;refine S5 ?_;cases c with
 |true=>exact hb pins s1 σ H1 Q I1 q1
 |false=>exact⟨.bl false,H1,I1,rfl,q1⟩
theorem aGh(ha:PE X a ta):PE X (.UnaryOp .Not a pos) (aED ta):=by
 intro pins s σ H Q I h;refine UnaryOp_ (thn (ha pins s σ H _ I h) fun v s1 ⟨x,H1,I1,r1,q1⟩=>?_);obtain⟨c,rfl,q1⟩:=q1;cases r1;exact not_of (S5 ⟨.bl (!c),H1,I1,rfl,q1⟩)
def tIf(t:TT)(ta tb:TE):TE:=fun σ H Q=>t σ H fun c H1=>if c=true then ta σ H1 Q else tb σ H1 Q
theorem IB{c:Expr}(hc:PT X c tA)(ha:PE X a ta)(hb:PE X b tb):PE X (.IfExp c a b pos) (tIf tA ta tb):=by
 intro pins s σ H Q I h;refine wpAny_IfExp (thn (hc pins s σ H _ I h) fun d s1 ⟨H1,I1,q1⟩=>?_);cases d with
 |true=>exact ha pins s1 σ H1 Q I1 q1
 |false=>exact hb pins s1 σ H1 Q I1 q1
end
def SqL(K:Fg)(H:Hp)(a:Addr)(xs:List V):Prop:=
 Rd H a (.lst xs) \/
  ∃(o:Obj)(its:Array Value)(n:Nat),K.lookup a=some o/\o.cls=.type "list"/\o.dict=none/\o.data=.seq its n/\its.size<=sizeLine/\aW xs its.toList
def SqT(K:Fg)(H:Hp)(a:Addr)(xs:List V):Prop:=
 Rd H a (.tup xs) \/
  ∃(o:Obj)(its:Array Value)(n:Nat),K.lookup a=some o/\o.cls=.type "tuple"/\o.data=.seq its n/\its.size<=sizeLine/\aW xs its.toList
def aJY:Value->Option V
 |.none=>some .non
 |.bool b=>some (.bl b)
 |.int i _=>some (.int i)
 |.str x _=>some (.str x)
 |.bytes b _=>some (.byt b)
 |.float b _=>some (.flt b)
 |.ref a=>some (.ref a)
 |.type n=>some (.ty n)
 |_=>none
theorem RelV.abs{x:V}{u:Value}(r:RelV x u):aJY u=some x:=by
 cases x with
 |non=>cases r;rfl
 |bl _=>cases r;rfl
 |int _=>obtain⟨t,rfl⟩:=r;rfl
 |str _=>obtain⟨t,rfl⟩:=r;rfl
 |byt _=>obtain⟨t,rfl⟩:=r;rfl
 |flt _=>obtain⟨t,rfl⟩:=r;rfl
 |ref _=>cases r;rfl
 |ty _=>cases r;rfl
theorem RelV.inj{x y:V}{u:Value}(r:RelV x u)(q:RelV y u):x=y:=E2 (r.abs.symm.trans q.abs)
theorem aW.inj:∀{xs ys:List V}{us:List Value},aW xs us->aW ys us->xs=ys
 |_,_,_,.nil,.nil=>rfl
 |_,_,_,.cons r t,.cons r' t'=>by rw[r.inj r',aW.inj t t']
section
variable{X:Cx}{pins:List (Addr×Obj)}{σ:St}{H:Hp}{s:Shared}{a:Addr}{xs ys:List V}
theorem SqL.of(h:H a=some (.lst xs)):SqL K H a xs:=.inl (.inl h)
theorem SqT.of(h:H a=some (.tup xs)):SqT K H a xs:=.inl (.inl h)
theorem Inv.list(I:Inv X pins σ H s)(h:SqL X.K H a xs):∃its:List Value,aW xs its/\PlainL s.heap a its.toArray/\xs.length<=sizeLine:=by
 rcases h with h|⟨o,its,n,hk,hc,hd,hs,hz,r⟩
 .obtain⟨z,its,n,r,e⟩:=h.ok I.hok;exact⟨its,r,⟨_,n,e,rfl,rfl,rfl⟩,z⟩
 .refine⟨its.toList,r,⟨o,n,I.kIn a o hk,hc,hd,by simpa using hs⟩,?_⟩;have e:=r.length;simp only[Array.length_toList]at e;omega
theorem Inv.tuple(I:Inv X pins σ H s)(h:SqT X.K H a xs):∃its:List Value,aW xs its/\IsTup s.heap a its.toArray/\xs.length<=sizeLine:=by
 rcases h with h|⟨o,its,n,hk,hc,hs,hz,r⟩
 .obtain⟨z,its,r,p⟩:=h.ok I.hok;exact⟨its,r,p,z⟩
 .refine⟨its.toList,r,⟨o,I.kIn a o hk,hc,n,by simpa using hs⟩,?_⟩;have e:=r.length;simp only[Array.length_toList]at e;omega
theorem Inv.list_inj(I:Inv X pins σ H s)(h:SqL X.K H a xs)(h':SqL X.K H a ys):xs=ys:=by
 obtain⟨its,r,⟨o,n,e,_,_,d⟩,_⟩:=I.list h;obtain⟨its',r',⟨o',n',e',_,_,d'⟩,_⟩:=I.list h';rw[e]at e';cases e';rw[d]at d';injection d' with d1 _
 have:its=its':=by simpa using Y0 Array.toList d1
 subst this;exact r.inj r'
theorem Inv.tuple_inj(I:Inv X pins σ H s)(h:SqT X.K H a xs)(h':SqT X.K H a ys):xs=ys:=by
 obtain⟨its,r,⟨o,e,_,n,d⟩,_⟩:=I.tuple h;obtain⟨its',r',⟨o',e',_,n',d'⟩,_⟩:=I.tuple h';rw[e]at e';cases e';rw[d]at d';injection d' with d1 _
 have:its=its':=by simpa using Y0 Array.toList d1
 subst this;exact r.inj r'
end
abbrev Cx.wish(X:Cx)(E:Value->Shared->Prop):Cx:={ X with xe:=E }
abbrev Cx.nox(X:Cx):Cx:=X.wish fun _ _=>False
theorem Cx.Ok.wish{X:Cx}(ok:X.Ok)(E:Value->Shared->Prop):(X.wish E).Ok:=
 ⟨ok.mod,ok.kind,ok.glob,ok.blt,ok.above,ok.inj,ok.has,ok.cab,ok.hd,ok.frames,ok.stk,ok.exf,ok.bs,ok.bsz,ok.noex,ok.exfs,ok.funs,ok.frf⟩
theorem Cx.Ok.unwish{X:Cx}{E:Value->Shared->Prop}(ok:(X.wish E).Ok):X.Ok:=
 ⟨ok.mod,ok.kind,ok.glob,ok.blt,ok.above,ok.inj,ok.has,ok.cab,ok.hd,ok.frames,ok.stk,ok.exf,ok.bs,ok.bsz,ok.noex,ok.exfs,ok.funs,ok.frf⟩
section
variable{X:Cx}{pins:List (Addr×Obj)}{σ:St}{H:Hp}{s:Shared}{E:Value->Shared->Prop}
theorem Inv.wish(I:Inv X pins σ H s)(E:Value->Shared->Prop):Inv (X.wish E) pins σ H s:=⟨I.ok.wish E,I.os,I.bare,I.base,I.loc,I.cell,I.free,I.freeC,I.pin,I.hok,I.len⟩
theorem Inv.unwish(I:Inv (X.wish E) pins σ H s):Inv X pins σ H s:=⟨I.ok.unwish,I.os,I.bare,I.base,I.loc,I.cell,I.free,I.freeC,I.pin,I.hok,I.len⟩
theorem SP.unwish{D:Ends}{f:Flow}{s':Shared}(h:SP (X.wish E) pins D f s'):SP X pins D f s':=by
 cases f with
 |next=>obtain⟨σ',H',I,q⟩:=h;exact⟨σ',H',I.unwish,q⟩
 |brk=>obtain⟨σ',H',I,q⟩:=h;exact⟨σ',H',I.unwish,q⟩
 |cont=>obtain⟨σ',H',I,q⟩:=h;exact⟨σ',H',I.unwish,q⟩
 |ret u=>obtain⟨v,σ',H',I,r,q⟩:=h;exact⟨v,σ',H',I.unwish,r,q⟩
theorem PSs.nox{st:List Stmt}{t:TS}(h:PSs X.nox st t):PSs X st t:=fun pins s σ H D I hw=>
 E3 (h pins s σ H D (I.wish _) hw) (fun _ _ q=>q.unwish) fun _ _ z=>False.elim z
end
section
variable{X:Cx}{st:Stmt}{rest:List Stmt}{t u:TS}{e:Expr}{te:TE}{pos:Pos}
def aDR:TS:=fun D σ H=>D.nx σ H
def aFd(t u:TS):TS:=fun D σ H=>t { D with nx:=u D } σ H
theorem aDo:PSs X [] aDR:=fun _ _ σ H _ I h=>A0r ⟨σ,H,I,h⟩
theorem JQ(h1:PS X st t)(h2:PSs X rest u):PSs X (st::rest) (aFd t u):=by
 intro pins s σ H D I h;refine wpAny_execs_cons (thn (h1 pins s σ H { D with nx:=u D } I h) fun f s1 q=>?_);cases f with
 |next=>
  obtain⟨σ',H',I',q⟩:=q;exact h2 pins s1 σ' H' D I' q
 |ret v=>exact q
 |brk=>exact q
 |cont=>exact q
theorem QW(h1:PS X st t):PSs X [st] t:=by
 intro pins s σ H D I h;refine wpAny_execs_cons (thn (h1 pins s σ H D I h) fun f s1 q=>?_);cases f with
 |next=>exact A0r q
 |ret v=>exact q
 |brk=>exact q
 |cont=>exact q
theorem Inv.quiet{pins:List (Addr×Obj)}(I:Inv X pins σ H s):interactive X.env=false:=by simp[interactive,I.ok.kind]
def VY(te:TE):TS:=fun D σ H=>te σ H fun _ H1=>D.nx σ H1
theorem QE(he:PE X e te)(hs:swapsWith e none pos.line X.env=pure false:=by rfl):PS X (.Expr e pos) (VY te):=by
 intro pins s σ H D I h;exact wpAny_Expr_any (thn (he pins s σ H _ I h) fun v s1 ⟨x,H1,I1,r1,q1⟩=>⟨σ,H1,I1,q1⟩) I.quiet hs
def aGl(te:TE):TS:=fun D σ H=>te σ H D.rt
theorem aAv(he:PE X e te):PS X (.Return (some e) pos) (aGl te):=by
 intro pins s σ H D I h;exact wpAny_Return_some (thn (he pins s σ H _ I h) fun v s1 ⟨x,H1,I1,r1,q1⟩=>⟨x,σ,H1,I1,r1,q1⟩)
def aEV(c:TT)(t u:TS):TS:=fun D σ H=>c σ H fun b H1=>if b=true then t D σ H1 else u D σ H1
theorem aDV{c:Expr}{a b:List Stmt}{tc:TT}(hc:PT X c tc)(ha:PSs X a t)(hb:PSs X b u):PS X (.If c a b pos) (aEV tc t u):=by
 intro pins s σ H D I h;refine wpAny_If (thn (hc pins s σ H _ I h) fun d s1 ⟨H1,I1,q1⟩=>?_);cases d with
 |true=>exact ha pins s1 σ H1 D I1 q1
 |false=>exact hb pins s1 σ H1 D I1 q1
def aAB:TS:=fun _ _ _=>False
theorem aAC:PS X st aAB:=fun _ _ _ _ _ _ h=>h.elim
end
abbrev TG:=V->St->Hp->(St->Hp->Prop)->Prop
abbrev TGs:=List V->St->Hp->(St->Hp->Prop)->Prop
def PG(X:Cx)(target:Expr)(t:TG):Prop:=
 ∀(pins:List (Addr×Obj))(s:Shared)(σ:St)(H:Hp)(v:V)(u:Value)(Q:St->Hp->Prop),Inv X pins σ H s->RelV v u->t v σ H Q->
  wpAny (model X.prog X.w) X.A (assign target X.env u) (fun _ s'=>∃σ' H',Inv X pins σ' H' s'/\Q σ' H') X.xe s
def PGs(X:Cx)(ts:List Expr)(t:TGs):Prop:=
 ∀(pins:List (Addr×Obj))(s:Shared)(σ:St)(H:Hp)(vs:List V)(us:List Value)(Q:St->Hp->Prop),Inv X pins σ H s->aW vs us->t vs σ H Q->
  wpAny (model X.prog X.w) X.A (assignInOrder ((assignEach ts X.env).map (·.2)) us) (fun _ s'=>∃σ' H',Inv X pins σ' H' s'/\Q σ' H') X.xe s
abbrev aCE:=V->V->V->Hp->(Hp->Prop)->Prop
def aFR(X:Cx)(t:aCE):Prop:=
 ∀(pins:List (Addr×Obj))(s:Shared)(σ:St)(H:Hp)(o i v:V)(ov iv u:Value)(Q:Hp->Prop),Inv X pins σ H s->RelV o ov->RelV i iv->RelV v u->t o i v H Q->
  wpAny (model X.prog X.w) X.A (setItem ov iv u) (fun _ s'=>∃H',Inv X pins σ H' s'/\Q H') X.xe s
section
variable{X:Cx}{pos:Pos}
def IK(i:Nat):TG:=fun v σ H Q=>Q (σ.set i (some v)) H
theorem aCj{i:Nat}{x:Str}(hN:X.N.Nodup)(hi:X.N[i]?=some x)(hx:Loc X.env.scope x)(hf:X.fn x=true\/X.env.scope.names.lookup x=some .local:=by first|exact .inl rfl|exact .inr rfl|assumption):PG X (.Name x pos) (IK i):=by
 intro pins s σ H v u Q I r h;exact wpAny_assign_Name (qY I hN hi hx r (fun s' I'=>⟨_,H,I',h⟩) hf)
def aIU:TGs:=fun vs σ H Q=>vs=[]/\Q σ H
def aEG(t:TG)(u:TGs):TGs:=fun vs σ H Q=>∃v r,vs=v::r/\t v σ H fun σ' H'=>u r σ' H' Q
theorem aDe:PGs X [] aIU:=by
 intro pins s σ H vs us Q I r h;obtain⟨e,h⟩:=h;subst e;cases r;exact assignInOrder_nil ⟨σ,H,I,h⟩
theorem VF{e:Expr}{es:List Expr}{t:TG}{u:TGs}(h1:PG X e t)(h2:PGs X es u)
 (hs:(assignEach (e::es) X.env).map (·.2)=assign e X.env::(assignEach es X.env).map (·.2):=by rfl):PGs X (e::es) (aEG t u):=by
 intro pins s σ H vs us Q I r h;obtain⟨v,vr,e1,h⟩:=h;subst e1;cases r with
 |cons r rr=>
  rw[hs];refine assignInOrder_cons (thn (h1 pins s σ H _ _ _ I r h) fun _ s1 ⟨σ1,H1,I1,q1⟩=>?_);exact h2 pins s1 σ1 H1 _ _ Q I1 rr q1
def aFz(K:Fg)(n:Nat)(t:TGs):TG:=fun v σ H Q=>∃a xs,v=.ref a/\SqT K H a xs/\xs.length=n/\t xs σ H Q
theorem aFa{es:List Expr}{k:Nat}{t:TGs}{n:Nat}(hc:X.calm=true)(h:PGs X es t)
 (hn:(assignEach es X.env).length=n:=by rfl) (hst:(assignEach es X.env).findIdx? (·.1)=none:=by rfl):PG X (.Tuple es k pos) (aFz X.K n t):=by
 intro pins s σ H v u Q I r hw;obtain⟨a,xs,e1,hq,hl,hw⟩:=hw;subst e1;cases r;obtain⟨its,rv,ht,hz⟩:=I.tuple hq;refine assign_Tuple_tuple (I.ok.hd hc) ht (by simp[hn,<- hl,rv.length]) hst fun h' hx=>?_;have I1:Inv X pins σ H { s with heap:=h' }:=I.kept (t':=s.toks) fun b o e=>hx b o (B8 (A8 e)) e;exact h pins _ σ H xs _ Q I1 (by simpa using rv) hw
def aIi(to ti:TE)(t:aCE):TG:=fun v σ H Q=>to σ H fun o H1=>ti σ H1 fun i H2=>t o i v H2 fun H3=>Q σ H3
theorem aFi{o i:Expr}{to ti:TE}{t:aCE}(ho:PE X o to)(hi:PE X i ti)(hs:aFR X t)
 (ha:∀v,assign (.Subscript o i pos) X.env v=(do
  let ov <- holding [v] (eval o X.env);let iv <- holding [v,ov] (eval i X.env)
  standAt pos
  holding [v,ov,iv] (setItem ov iv v)
  release [v,ov,iv] []):=by intro _;rfl):PG X (.Subscript o i pos) (aIi to ti t):=by
 intro pins s σ H v u Q I r h;rw[ha];refine A3 (E7 (thn (ho pins s σ H _ I h) fun ov s1 ⟨x,H1,I1,r1,q1⟩=>?_));refine A3 (E7 (thn (hi pins s1 σ H1 _ I1 q1) fun iv s2 ⟨y,H2,I2,r2,q2⟩=>?_));refine A3 (A0n (A3 (E7 (thn (hs pins s2 σ H2 x y v ov iv u _ I2 r1 r2 r q2) fun _ s3 ⟨H3,I3,q3⟩=>?_))));exact wpAny_release ⟨σ,H3,I3,q3⟩
def aBk(te:TE)(g:TG):TS:=fun D σ H=>te σ H fun x H1=>g x σ H1 D.nx
theorem aHc{tg e:Expr}{te:TE}{g:TG}(he:PE X e te)(hg:PG X tg g)(hs:swapsWithSole [tg] e pos.line X.env=pure false:=by rfl)(hw:swappedStores [tg] e X.env=pure none:=by rfl)
 (h1:(assignEach [tg] X.env).map (·.2)=[assign tg X.env]:=by rfl):PS X (.Assign [tg] e pos) (aBk te g):=by
 intro pins s σ H D I h;refine wpAny_Assign_stores (thn (he pins s σ H _ I h) fun v s1 ⟨x,H1,I1,r1,q1⟩=>?_) hs hw;rw[h1];exact thn (hg pins s1 σ H1 x v _ I1 r1 q1) fun _ s2 q=>q
theorem aHA{i:Nat}{x:Str}{e:Expr}{te:TE}{pos':Pos}(hN:X.N.Nodup)(hi:X.N[i]?=some x)(hx:Loc X.env.scope x)(he:PE X e te)(hs:swapsWith e (some (.Name x pos')) pos.line X.env=pure false:=by rfl)(hf:X.fn x=true\/X.env.scope.names.lookup x=some .local:=by first|exact .inl rfl|exact .inr rfl|assumption):
 PS X (.Assign [.Name x pos'] e pos) (aBk te (IK i)):=by
 intro pins s σ H D I h;refine wpAny_Assign_Name (thn (he pins s σ H _ I h) fun v s1 ⟨y,H1,I1,r1,q1⟩=>?_) hs;exact qY I1 hN hi hx r1 (fun s2 I2=>⟨_,H1,I2,q1⟩) hf
def aJx(i j:Nat)(ta:TA):TS:=fun D σ H=>ta σ H fun vs H1=>∃v w,vs=[v,w]/\D.nx ((σ.set i (some v)).set j (some w)) H1
theorem aGW{i j:Nat}{x y:Str}{a b:Expr}{ta:TA}{px py pt:Pos}{kt k2 pt2}(hc:X.calm=true)(hN:X.N.Nodup)(hi:X.N[i]?=some x)(hj:X.N[j]?=some y)(hij:i≠j)
 (hx:X.env.scope.names.lookup x=some .local) (hy:X.env.scope.names.lookup y=some .local) (ha:PA X [a,b] ta)
 (hw:swappedStores [.Tuple [.Name x px,.Name y py] kt pt] (.Tuple [a,b] k2 pt2) X.env=pure (some [x,y]))
 (hs:swapsWithSole [.Tuple [.Name x px,.Name y py] kt pt] (.Tuple [a,b] k2 pt2) pos.line X.env=pure false:=by rfl):
 PS X (.Assign [.Tuple [.Name x px,.Name y py] kt pt] (.Tuple [a,b] k2 pt2) pos) (aJx i j ta):=by
 intro pins s σ H D I h;rw[exec_Assign_arm];refine A3 (A0n ?_);rw[hs];refine A3 (A6 ?_);rw[B2 (by decide)];refine A3 (Tuple_ (thn (ha _ pins s σ H _ I h) fun us s1 ⟨vs,H1,I1,r1,q1⟩=>?_));obtain⟨v,w,e1,q1⟩:=q1;subst e1
 obtain⟨u1,u2,rfl,rv,rw'⟩:∃u1 u2,us=[u1,u2]/\RelV v u1/\RelV w u2:=by
  cases r1 with
  |cons p q=>
   cases q with
   |cons p' q'=>
    cases q';exact⟨_,_,rfl,p,p'⟩
 refine C4 ?_ (by show 2<=sizeLine;decide);have I2:Inv X pins σ H1 { s1 with heap:=s1.heap.push { cls:=.type "tuple",data:=.seq [u1,u2].toArray } }:=I1.kept (t':=s1.toks) fun b o e=>A4 _ e;rw[hw];refine A3 (A6 ?_);show wpAny (model X.prog X.w) X.A (do rule "assign.swapped-stores";let items <- unpackItems (.ref s1.heap.objs.size) 2 none;assignInOrder [fun v=>bindName X.env y v,fun v=>bindName X.env x v] items.reverse;pure Flow.next) _ _ _;refine A3 (A0k (A3 (unpackItems_tuple (items:=#[u1,u2]) (I.ok.hd hc) (IsTup.new s1.heap _) fun h' hx'=>?_)));have I3:=I2.kept (h':=h') (t':=s1.toks) fun b o e=>hx' b o (B8 (A8 e)) e;show wpAny _ _ (assignInOrder [fun v=>bindName X.env y v,fun v=>bindName X.env x v] [u2,u1] >>= fun _=>pure Flow.next) _ _ _;refine A3 (assignInOrder_cons (wpAny_bindName (qY I3 hN hj (.inl hy) rw' (fun s2 I4=>?_) (.inr hy))));refine assignInOrder_cons (wpAny_bindName (qY I4 hN hi (.inl hx) rv (fun s3 I5=>assignInOrder_nil (A6 ?_)) (.inr hx)));rw[List.set_comm _ _ (L6 hij)]at I5;exact⟨_,H1,I5,q1⟩
end
section
variable{X:Cx}{pos:Pos}
def aBe(c:TT)(tb:TS):TS:=fun D σ H=>∃W:Nat->St->Hp->Prop,(∃m,W m σ H)/\∀m σ H,W m σ H->
 c σ H fun b H1=>if b=true then ∃N:St->Hp->Prop,(∀σ' H',N σ' H'->∃m',m'<m/\W m' σ' H')/\tb { D with nx:=N,ct:=N,bk:=D.nx } σ H1 else D.nx σ H1
theorem aBa{c:Expr}{body:List Stmt}{tc:TT}{tb:TS}(hp:PassesOwn (model X.prog X.w) X.A X.env X.xe)(hc:PT X c tc)(hb:PSs X body tb):PS X (.While c body [] pos) (aBe tc tb):=by
 intro pins s σ H D I h;obtain⟨W,⟨m0,w0⟩,turn⟩:=h;refine wpAny_While (codeAny_whileLoop (fun n s'=>∃σ' H',Inv X pins σ' H' s'/\W n σ' H') ?_ m0 ⟨σ,H,I,w0⟩);rintro n s1 ⟨σ1,H1,I1,w1⟩;refine Y9 hp (thn (hc pins s1 σ1 H1 _ I1 (turn n σ1 H1 w1)) fun b s2 ⟨H2,I2,q2⟩=>?_);cases b with
 |true=>
  obtain⟨N,hN,q2⟩:=q2;rw[A9 rfl];refine Y9 hp (thn (hb pins s2 σ1 H2 _ I2 q2) fun f s3 q3=>?_);cases f with
  |next=>
   obtain⟨σ3,H3,I3,n3⟩:=q3;obtain⟨m',hm,w3⟩:=hN σ3 H3 n3;exact⟨m',hm,σ3,H3,I3,w3⟩
  |cont=>
   obtain⟨σ3,H3,I3,n3⟩:=q3;obtain⟨m',hm,w3⟩:=hN σ3 H3 n3;exact⟨m',hm,σ3,H3,I3,w3⟩
  |brk=>exact q3
  |ret v=>exact q3
 |false=>
  rw[B2 B1];exact A0r ⟨σ1,H2,I2,q2⟩
end
structure It where
 go:Nat->Hp->Prop
 yld:Nat->Hp->V->Hp->Prop
 stop:Nat->Hp->Prop
def qR(X:Cx)(pins:List (Addr×Obj))(H:Hp)(b:Addr):Prop:=
 H b=none/\b≠X.env.locals/\b∉X.fs/\(b∈X.ex\/X.s₀.heap.objs.size<=b)/\(∀x c,X.env.cells.lookup x=some c->c≠b)/\∀p∈X.pn++pins,p.1≠b
theorem Inv.fpOk{X:Cx}{pins:List (Addr×Obj)}{H':Hp}{b:Addr}(I:Inv X pins σ H s)(hb:s.heap.objs.size<=b)(hn:H' b=none):qR X pins H' b:=by
 refine⟨hn,J0 (C2 I.lt hb),I.nofs hb,.inr (D0 I.sz hb),fun x c e z=>?_,fun p hp z=>?_⟩
 .obtain⟨v,q⟩:=I.cell x c e;exact absurd (C2 q.lt (by rw[z];exact hb)) (J1 _)
 .exact absurd (C2 (A8 (I.pin p hp).1) (by rw[z];exact hb)) (J1 _)
structure Turn(P:Program)(w:World)(K:Fg)(tg:Expr)(J:It)(fp:List Addr)(it:Addr)(tn:Nat->Heap->Prop):Prop where
 mem:it∈fp
 obj:∀i h,tn i h->∀b∈fp,∃o,h.get? b=some o/\∀v,o.data≠.cell v
 keep:∀i h h',tn i h->(∀b∈fp,∀o,h.get? b=some o->h'.get? b=some o)->tn i h'
 item:∀(X:Cx),X.prog=P->X.w=w->X.K=K->X.calm=true->∀(i:Nat)(pins:List (Addr×Obj))(s:Shared)(σ:St)(H:Hp)(E:Value->Shared->Prop),Inv X pins σ H s->(∀b∈fp,qR X pins H b)->tn i s.heap->J.go i H->
  wpAny (model P w) X.A (pyNext (.ref it)) (fun r s1=>∃u,r=some u /\
   wpAny (model P w) X.A (letOwnedTupleGo tg (.ref it) u) (fun _ s2=>∃x H',Inv X pins σ H' s2/\RelV x u/\J.yld i H x H'/\tn (i+1) s2.heap/\∀b∈fp,H' b=none) E s1) E s
 done:∀(X:Cx),X.prog=P->X.w=w->X.K=K->X.calm=true->∀(i:Nat)(pins:List (Addr×Obj))(s:Shared)(σ:St)(H:Hp)(E:Value->Shared->Prop),Inv X pins σ H s->(∀b∈fp,qR X pins H b)->tn i s.heap->J.stop i H->
  wpAny (model P w) X.A (pyNext (.ref it)) (fun r s1=>r=none/\Inv X pins σ H s1) E s
 self:∀(A:Around)(i:Nat)(s:Shared)(Q:Value->Shared->Prop)(E:Value->Shared->Prop),tn i s.heap->Q (.ref it) s->wpAny (model P w) A (pyIter (.ref it)) Q E s
abbrev TI:=St->Hp->(It->Hp->Prop)->Prop
def PIE(X:Cx)(pins:List (Addr×Obj))(σ:St)(tg:Expr)(R:It->Hp->Prop)(itv:Value)(s2:Shared):Prop:=
 ∃(it:Addr)(fp:List Addr)(tn:Nat->Heap->Prop)(J:It)(H':Hp),itv=.ref it/\Inv X pins σ H' s2/\Turn X.prog X.w X.K tg J fp it tn/\tn 0 s2.heap/\(∀b∈fp,qR X pins H' b)/\R J H'
def PI(X:Cx)(tg iter:Expr)(wi:TI):Prop:=
 ∀(pins:List (Addr×Obj))(s:Shared)(σ:St)(H:Hp)(R:It->Hp->Prop),Inv X pins σ H s->wi σ H R->
  wpAny (model X.prog X.w) X.A (eval iter X.env) (fun v s1=>wpAny (model X.prog X.w) X.A (pyIter v) (PIE X pins σ tg R) X.xe s1) X.xe s
theorem aAm{M:Model}{A:Around}{E:Value->Shared->Prop}{tg:Expr}{it:Addr}{u:Value}{o:Obj}{n:String}{vs:Array Value}{Q:Unit->Shared->Prop}(ho:s.heap.get? it=some o)(hc:o.cls=.type n)(hd:o.data=.fields vs)
 (hn:["enumerate","zip","dict_itemiterator","dict_reverseitemiterator","odict_iterator","itertools.zip_longest","itertools.pairwise"].contains n=false) (hQ:Q () s):wpAny M A (letOwnedTupleGo tg (.ref it) u) Q E s:=by
 unfold letOwnedTupleGo
 cases tg<;>first
  |exact A6 hQ
  |(cases u<;>first
   |exact A6 hQ
   | (refine A3 (wpAny_load ho ?_)
      rw[hc,hd];show wpAny M A (if (["enumerate","zip","dict_itemiterator","dict_reverseitemiterator","odict_iterator","itertools.zip_longest","itertools.pairwise"].contains n&&vs[0]?==some (rawInt _))=true then _ else _) Q E s;rw[B2 (by intro h;rw[hn,A0o]at h;cases h)];exact A6 hQ))
def Itl(K:Fg)(a:Addr):It:=
 ⟨fun i H=>∃xs x,SqL K H a xs/\xs[i]?=some x,fun i H x H'=>H'=H/\∀xs,SqL K H a xs->xs[i]?=some x,fun i H=>∃xs,SqL K H a xs/\xs.length<=i⟩
def Itt(K:Fg)(a:Addr):It:=
 ⟨fun i H=>∃xs x,SqT K H a xs/\xs[i]?=some x,fun i H x H'=>H'=H/\∀xs,SqT K H a xs->xs[i]?=some x,fun i H=>∃xs,SqT K H a xs/\xs.length<=i⟩
def Itr(lo:Int)(n:Nat):It:=⟨fun i _=>i<n,fun i H x H'=>H'=H/\x=.int (lo+i),fun i _=>n<=i⟩
theorem UD{P:Program}{w:World}{tg:Expr}(a it:Addr):Turn P w K tg (Itl K a) [it] it (fun i h=>h.IsListIter it a i) where
 mem:=by simp
 obj:=fun i h st b hb=>by
  have e:b=it:=by simpa using hb
  subst e;obtain⟨o,e,c,d⟩:=st;exact⟨o,e,fun v z=>by rw[d]at z;cases z⟩
 keep:=fun i h h' st k=>st.at fun o e=>k it (by simp) o e
 item:=by
  intro X hP hw hK hc i pins s σ H E I hf st hg;subst hP hw hK;obtain⟨xs,x,hq,hx⟩:=hg;obtain⟨its,rv,p,hz⟩:=I.list hq;obtain⟨u,hu,ru⟩:=rv.get hx;obtain⟨f0,f1,f2,f3,f4,f5⟩:=hf it (by simp);refine wpAny_pyNext_list_item st p.isList (x:=u) (by simpa using hu) fun h' st' sb=>?_;have I1:Inv X pins σ H { s with heap:=h' }:=I.turned (t':=s.toks) (fun b o hb e=>(sb.2 b hb).trans e) f0 f1 f3 f4 f5;obtain⟨o,e,c,d⟩:=id st';exact⟨u,rfl,aAm (s:={ s with heap:=h' }) e c d (by decide) ⟨x,H,I1,ru,⟨rfl,fun ys hy=>by rw[I.list_inj hy hq];exact hx⟩,st',fun b hb=>(hf b hb).1⟩⟩
 done:=by
  intro X hP hw hK hc i pins s σ H E I hf st hg;subst hP hw hK;obtain⟨xs,hq,hx⟩:=hg;obtain⟨its,rv,p,hz⟩:=I.list hq;obtain⟨f0,f1,f2,f3,f4,f5⟩:=hf it (by simp);have hl:=rv.length;exact wpAny_pyNext_list_end (I.ok.hd hc) st p.isList (by simp;omega) fun h' eb=>⟨rfl,I.turned (t':=s.toks) (fun b o hb e=>eb b o hb e) f0 f1 f3 f4 f5⟩
 self:=fun _ _ _ _ _ st h=>wpAny_pyIter_listiter st h
theorem NT{P:Program}{w:World}{tg:Expr}(a it:Addr):Turn P w K tg (Itt K a) [it] it (fun i h=>h.IsTupleIter it a i) where
 mem:=by simp
 obj:=fun i h st b hb=>by
  have e:b=it:=by simpa using hb
  subst e;obtain⟨o,e,c,d⟩:=st;exact⟨o,e,fun v z=>by rw[d]at z;cases z⟩
 keep:=fun i h h' st k=>st.at fun o e=>k it (by simp) o e
 item:=by
  intro X hP hw hK hc i pins s σ H E I hf st hg;subst hP hw hK;obtain⟨xs,x,hq,hx⟩:=hg;obtain⟨its,rv,p,hz⟩:=I.tuple hq;obtain⟨u,hu,ru⟩:=rv.get hx;obtain⟨f0,f1,f2,f3,f4,f5⟩:=hf it (by simp);refine wpAny_pyNext_tuple_item st (show s.heap.IsTuple a its.toArray from p) (x:=u) (by simpa using hu) fun h' st' sb=>?_;have I1:Inv X pins σ H { s with heap:=h' }:=I.turned (t':=s.toks) (fun b o hb e=>(sb.2 b hb).trans e) f0 f1 f3 f4 f5;obtain⟨o,e,c,d⟩:=id st';exact⟨u,rfl,aAm (s:={ s with heap:=h' }) e c d (by decide) ⟨x,H,I1,ru,⟨rfl,fun ys hy=>by rw[I.tuple_inj hy hq];exact hx⟩,st',fun b hb=>(hf b hb).1⟩⟩
 done:=by
  intro X hP hw hK hc i pins s σ H E I hf st hg;subst hP hw hK;obtain⟨xs,hq,hx⟩:=hg;obtain⟨its,rv,p,hz⟩:=I.tuple hq;obtain⟨f0,f1,f2,f3,f4,f5⟩:=hf it (by simp);have hl:=rv.length;exact wpAny_pyNext_tuple_end (I.ok.hd hc) st (show s.heap.IsTuple a its.toArray from p) (by simp;omega) fun h' eb=>⟨rfl,I.turned (t':=s.toks) (fun b o hb e=>eb b o hb e) f0 f1 f3 f4 f5⟩
 self:=fun _ _ _ _ _ st h=>wpAny_pyIter_tupleiter st h
theorem NL{P:Program}{w:World}{tg:Expr}(it:Addr)(lo:Int)(n:Nat):Turn P w K tg (Itr lo n) [it] it (fun i h=>IsRangeIter h it (lo+(i:Nat)*1) ((n:Int)-(i:Nat)) 1) where
 mem:=by simp
 obj:=fun i h st b hb=>by
  have e:b=it:=by simpa using hb
  subst e
  exact⟨_,st,fun v z=>by
   have z':Data.fields _=Data.cell v:=z;cases z'⟩
 keep:=fun i h h' st k=>k it (by simp) _ st
 item:=by
  intro X hP hw hK hc i pins s σ H E I hf st hg;subst hP hw hK;obtain⟨f0,f1,f2,f3,f4,f5⟩:=hf it (by simp);have W:=Walks.range (prog:=X.prog) (w:=X.w) (I.ok.hd hc) it lo 1 n;refine W.item i s _ _ hg st fun v h' tk hv st' kk=>?_;obtain⟨t,rfl⟩:=hv;have I1:Inv X pins σ H { s with heap:=h',toks:=tk }:=I.turned (fun b o hb e=>kk b o (by simpa using hb) e) f0 f1 f3 f4 f5;refine⟨_,rfl,aAm (s:={ s with heap:=h',toks:=tk }) (n:="range_iterator") st' rfl rfl (by decide) ⟨.int (lo+i),H,I1,⟨t,?_⟩,⟨rfl,rfl⟩,st',fun b hb=>(hf b hb).1⟩⟩;rw[Int.mul_one]
 done:=by
  intro X hP hw hK hc i pins s σ H E I hf st hg;subst hP hw hK;obtain⟨f0,f1,f2,f3,f4,f5⟩:=hf it (by simp);exact wpAny_pyNext_range_end (I.ok.hd hc) st (by have:n<=i:=hg;omega) fun h' eb=>⟨rfl,I.turned (t':=s.toks) (fun b o hb e=>eb b o hb e) f0 f1 f3 f4 f5⟩
 self:=fun _ _ _ _ _ st h=>wpAny_pyIter_rangeiter st h
section
variable{X:Cx}{tg:Expr}
theorem LK{pins:List (Addr×Obj)}{R:It->Hp->Prop}{E:Value->Shared->Prop}{lo hi:Int}{t u v:Tok}{tk:Nat}(I:Inv X pins σ H s)(h1:-(2 ^ 62)<=lo)(h2:lo<2 ^ 62)(h3:-(2 ^ 62)<=hi)(h4:hi<2 ^ 62)
 (q:R (Itr lo (hi-lo).toNat) H):wpAny (model X.prog X.w) X.A (pyIter (.ref s.heap.objs.size)) (PIE X pins σ tg R) E { s with heap:=s.heap.push { cls:=.type "range",data:=.fields #[.int lo t,.int hi u,.int 1 v] },toks:=tk }:=by
 refine wpAny_pyIter_range (IsRange.new ..) (small_one h1 h2 h3 h4) ?_;have I1:Inv X pins σ H { s with heap:=s.heap.push { cls:=.type "range",data:=.fields #[.int lo t,.int hi u,.int 1 v] },toks:=tk }:=I.kept fun b o e=>A4 _ e
 refine⟨(s.heap.push { cls:=.type "range",data:=.fields #[.int lo t,.int hi u,.int 1 v] }).objs.size,[(s.heap.push { cls:=.type "range",data:=.fields #[.int lo t,.int hi u,.int 1 v] }).objs.size],_,_,H,rfl,
  I1.kept (t':=tk) fun b o e=>A4 _ e,NL _ lo (hi-lo).toNat,?_,fun b hb=>?_,q⟩
 .have e1:lo+((0:Nat):Int)*1=lo:=by simp
  have e2:(((hi-lo).toNat:Nat):Int)-((0:Nat):Int)=Builtin.Range.rangeSize lo hi 1:=by rw[rangeSize_one];split<;>omega
  show IsRangeIter _ _ (lo+((0:Nat):Int)*1) ((((hi-lo).toNat:Nat):Int)-((0:Nat):Int)) 1;rw[e1,e2];exact B6 _ rfl
 .have e:b=(s.heap.push { cls:=.type "range",data:=.fields #[.int lo t,.int hi u,.int 1 v] }).objs.size:=by simpa using hb
  subst e;exact I1.fpOk (B0 _) (I1.hok.fresh (B0 _))
def aDW(ta:TA):TI:=fun σ H R=>ta σ H fun vs H1=>∃j:Int,vs=[.int j]/\-(2 ^ 62)<=j/\j<2 ^ 62/\R (Itr 0 j.toNat) H1
def aDS(ta:TA):TI:=fun σ H R=>ta σ H fun vs H1=>∃i j:Int,vs=[.int i,.int j]/\(-(2 ^ 62)<=i/\i<2 ^ 62/\-(2 ^ 62)<=j/\j<2 ^ 62)/\R (Itr i (j-i).toNat) H1
theorem TK{a:Expr}{ta:TA}{p:Pos}(hg:Gl X "range")(hm:X.mg "range"=none)(ha:PA X [a] ta)(hs:starEach [a] X.env=[(false,eval a X.env)]:=by rfl):PI X tg (.Call (.Name "range" p) [a] [] pos) (aDW ta):=by
 intro pins s σ H R I h;refine Call_ (iR I hg hm boot_range (F7 (thn (ha pos pins s σ H _ I h) fun us s1 ⟨vs,H1,I1,r1,q1⟩=>?_) hs rfl));obtain⟨j,e,q1,q2,q⟩:=q1;subst e;cases r1 with
 |cons r rr=>
  cases rr;obtain⟨t,rfl⟩:=r;exact call_range_1 (LK I1 (by omega) (by omega) q1 q2 (by simpa using q))
theorem UR{a b:Expr}{ta:TA}{p pos:Pos}(hg:Gl X "range")(hm:X.mg "range"=none)(ha:PA X [a,b] ta)(hs:starEach [a,b] X.env=[(false,eval a X.env),(false,eval b X.env)]:=by rfl)(hs2:starEach [b] X.env=[(false,eval b X.env)]:=by rfl):
 PI X tg (.Call (.Name "range" p) [a,b] [] pos) (aDS ta):=by
 intro pins s σ H R I h;refine Call_ (iR I hg hm boot_range (F7 (thn (ha pos pins s σ H _ I h) fun us s1 ⟨vs,H1,I1,r1,q1⟩=>?_) (by rw[hs,hs2]) (by rw[hs2];rfl)));obtain⟨i,j,e,⟨q1,q2,q3,q4⟩,q⟩:=q1;subst e;cases r1 with
 |cons r rr=>
  cases rr with
  |cons r' rr=>
   cases rr;obtain⟨t,rfl⟩:=r;obtain⟨t',rfl⟩:=r';exact call_range_2 (LK I1 q1 q2 q3 q4 q)
def aIl(wi:TI)(g:TG)(tb:TS):TS:=fun D σ H=>wi σ H fun J H1=>∃W:Nat->Nat->St->Hp->Prop,(∃m,W 0 m σ H1)/\∀i m σ H,W i m σ H->
 (J.stop i H/\D.nx σ H)\/(J.go i H/\∃N:St->Hp->Prop,(∀σ' H',N σ' H'->∃m',m'<m/\W (i+1) m' σ' H')/\∀x H',J.yld i H x H'->g x σ H' fun σ2 H2=>tb { D with nx:=N,ct:=N,bk:=D.nx } σ2 H2)
def vR(fp:List Addr)(h:Heap):List (Addr×Obj):=fp.filterMap fun b=>(h.get? b).map fun o=>(b,o)
theorem iQ{fp:List Addr}{h:Heap}{b:Addr}{o:Obj}(hb:b∈fp)(e:h.get? b=some o):(b,o)∈vR fp h:=List.mem_filterMap.mpr ⟨b,hb,by rw[e];rfl⟩
theorem RU{fp:List Addr}{h:Heap}{p:Addr×Obj}(hp:p∈vR fp h):p.1∈fp/\h.get? p.1=some p.2:=by
 obtain⟨b,hb,e⟩:=List.mem_filterMap.mp hp;cases q:h.get? b with
 |none=>rw[q]at e;cases e
 |some o=>
  rw[q]at e;have e':(b,o)=p:=E2 e;subst e';exact⟨hb,q⟩
theorem Inv.pinned{pins:List (Addr×Obj)}{fp:List Addr}(I:Inv X pins σ H s)(hf:∀b∈fp,qR X pins H b)(ho:∀b∈fp,∃o,s.heap.get? b=some o/\∀v,o.data≠.cell v):Inv X (pins++vR fp s.heap) σ H s:=
 I.pins_of fun p hp=>(List.mem_append.mp hp).elim (fun z=>I.pin p (D5 _ z)) fun z=>by
  obtain⟨hb,e⟩:=RU z;obtain⟨f0,f1,f2,_⟩:=hf p.1 hb;obtain⟨o,e',d⟩:=ho p.1 hb;rw[e]at e';cases e';exact⟨e,f0,f1,f2,d⟩
theorem Inv.unpinned{pins pl:List (Addr×Obj)}(I:Inv X (pins++pl) σ H s):Inv X pins σ H s:=I.pins_of fun p hp=>I.pin p (D5 _ (L5 _ hp))
theorem aGN{iter:Expr}{body:List Stmt}{wi:TI}{g:TG}{tb:TS}{pos:Pos}(hp:PassesOwn (model X.prog X.w) X.A X.env X.xe)(hc:X.calm=true)(hi:PI X tg iter wi)(hg:PG X tg g)(hb:PSs X body tb)
 (hs:∀x,foldedSetIterable iter X.env x=pure x:=by intro _;rfl):PS X (.For tg iter body [] pos) (aIl wi g tb):=by
 intro pins s σ H D I h;refine wpAny_For (thn (hi pins s σ H _ I h) fun v s1 h1=>thn h1 fun itv s2 h2=>?_) hs;obtain⟨it,fp,tn,J,H2,e,I2,T,st2,f2,W,⟨m0,w0⟩,turn⟩:=h2;subst e;have stat:∀{H':Hp},(∀b∈fp,H' b=none)->∀b∈fp,qR X pins H' b:=fun hn b hb=>⟨hn b hb,(f2 b hb).2⟩;refine codeAny_forLoop_any (fun n s'=>∃i σ' H',Inv X pins σ' H' s'/\tn i s'.heap/\(∀b∈fp,H' b=none)/\W i n σ' H') ?_ m0 ⟨0,σ,H2,I2,st2,fun b hb=>(f2 b hb).1,w0⟩;rintro n s3 ⟨i,σ3,H3,I3,st3,fr3,w3⟩;rcases turn i n σ3 H3 w3 with⟨stop,qn⟩|⟨go,N,hN,step⟩
 .refine Y9 hp (thn (T.done X rfl rfl rfl hc i pins s3 σ3 H3 X.xe I3 (stat fr3) st3 stop) fun r s4 ⟨hr,I4⟩=>?_);subst hr;exact A0r ⟨σ3,H3,I4,qn⟩
 .refine Y9 hp (thn (T.item X rfl rfl rfl hc i pins s3 σ3 H3 X.xe I3 (stat fr3) st3 go) fun r s4 ⟨u,hr,h4⟩=>?_);subst hr;refine Y9 hp (thn h4 fun _ s5 ⟨x,H5,I5,r5,y5,st5,fr5⟩=>?_);have I5':=I5.pinned (stat fr5) (T.obj _ _ st5);refine Y9 hp (thn (hg _ s5 σ3 H5 x u _ I5' r5 (step x H5 y5)) fun _ s6 ⟨σ6,H6,I6,q6⟩=>?_);refine Y9 hp (thn (hb _ s6 σ6 H6 _ I6 q6) fun f s7 q7=>?_)
  have again:∀{σ7:St}{H7:Hp},Inv X (pins++vR fp s5.heap) σ7 H7 s7->N σ7 H7->∃m,m<n/\∃i σ' H',Inv X pins σ' H' s7/\tn i s7.heap/\(∀b∈fp,H' b=none)/\W i m σ' H':=fun{σ7 H7} I7 n7=>by
   obtain⟨m',hm,w7⟩:=hN σ7 H7 n7;refine⟨m',hm,i+1,σ7,H7,I7.unpinned,T.keep _ _ _ st5 fun b hb o e=>(I7.pin (b,o) (D5 _ (D5 _ (iQ hb e)))).1,fun b hb=>?_,w7⟩;obtain⟨o,e,d⟩:=T.obj _ _ st5 b hb;exact(I7.pin (b,o) (D5 _ (D5 _ (iQ hb e)))).2.1
  cases f with
  |next=>obtain⟨σ7,H7,I7,n7⟩:=q7;exact again I7 n7
  |cont=>obtain⟨σ7,H7,I7,n7⟩:=q7;exact again I7 n7
  |brk=>obtain⟨σ7,H7,I7,q7⟩:=q7;exact⟨σ7,H7,I7.unpinned,q7⟩
  |ret v=>obtain⟨x7,σ7,H7,I7,r7,q7⟩:=q7;exact⟨x7,σ7,H7,I7.unpinned,r7,q7⟩
end
abbrev R2:=V->V->Hp->VK->Prop
def OpR(X:Cx)(f:Value->Value->Sem Value)(r:R2):Prop:=
 ∀(pins:List (Addr×Obj))(s:Shared)(σ:St)(H:Hp)(x y:V)(v u:Value)(Q:VK),Inv X pins σ H s->RelV x v->RelV y u->r x y H Q->
  wpAny (model X.prog X.w) X.A (f v u) (EP X pins σ Q) X.xe s
def UnR(X:Cx)(f:Value->Sem Value)(r:V->Hp->VK->Prop):Prop:=
 ∀(pins:List (Addr×Obj))(s:Shared)(σ:St)(H:Hp)(x:V)(v:Value)(Q:VK),Inv X pins σ H s->RelV x v->r x H Q->
  wpAny (model X.prog X.w) X.A (f v) (EP X pins σ Q) X.xe s
def eU(X:Cx)(f:Value)(r:List V->Hp->VK->Prop):Prop:=
 ∀(pins:List (Addr×Obj))(s:Shared)(σ:St)(H:Hp)(xs:List V)(us:List Value)(Q:VK),Inv X pins σ H s->aW xs us->r xs H Q->
  wpAny (model X.prog X.w) X.A (call f us) (EP X pins σ Q) X.xe s
def aJJ(X:Cx)(r:V->Hp->(Bool->Hp->Prop)->Prop):Prop:=
 ∀(pins:List (Addr×Obj))(s:Shared)(σ:St)(H:Hp)(x:V)(v:Value)(Q:Bool->Hp->Prop),Inv X pins σ H s->RelV x v->r x H Q->
  wpAny (model X.prog X.w) X.A (truthy v) (TP X pins σ Q) X.xe s
def tOp(r:R2)(ta tb:TE):TE:=fun σ H Q=>ta σ H fun x H1=>tb σ H1 fun y H2=>r x y H2 Q
def tUn(r:V->Hp->VK->Prop)(ta:TE):TE:=fun σ H Q=>ta σ H fun x H1=>r x H1 Q
def rI(C:Int->Int->Prop)(g:Int->Int->V):R2:=fun x y H Q=>∃i j,x=.int i/\y=.int j/\C i j/\Q (g i j) H
def rI0(g:Int->Int->V):R2:=fun x y H Q=>∃i j,x=.int i/\y=.int j/\Q (g i j) H
def rU(g:Int->V):V->Hp->VK->Prop:=fun x H Q=>∃i,x=.int i/\Q (g i) H
section
variable{X:Cx}{a b c:Expr}{ta tb tc:TE}{pos:Pos}
theorem aFG(ha:PE X a ta)(hb:PE X b tb){pins:List (Addr×Obj)}{R:V->V->Hp->Prop}(I:Inv X pins σ H s)
 (h:ta σ H fun x H1=>tb σ H1 fun y H2=>R x y H2) {Q:Value->Shared->Prop} {f:Value->Value->Sem Value}
 (hf:∀v u s2 x y H2,Inv X pins σ H2 s2->RelV x v->RelV y u->R x y H2->wpAny (model X.prog X.w) X.A (f v u) Q X.xe s2):
 wpAny (model X.prog X.w) X.A (eval a X.env) (fun v s₁=>wpAny (model X.prog X.w) X.A (eval b X.env) (fun u s₂=>wpAny (model X.prog X.w) X.A (f v u) Q X.xe s₂) X.xe s₁) X.xe s:=by
 refine thn (ha pins s σ H _ I h) fun v s1 ⟨x,H1,I1,r1,q1⟩=>?_;refine thn (hb pins s1 σ H1 _ I1 q1) fun u s2 ⟨y,H2,I2,r2,q2⟩=>?_;exact hf v u s2 x y H2 I2 r1 r2 q2
theorem aIV{op:Operator}{r:R2}(ho:OpR X (binaryOp op) r)(ha:PE X a ta)(hb:PE X b tb):PE X (.BinOp a op b pos) (tOp r ta tb):=by
 intro pins s σ H Q I h;exact wpAny_BinOp (aFG ha hb I h fun v u s2 x y H2 I2 rx ry q=>ho pins s2 σ H2 x y v u Q I2 rx ry q)
theorem aIz{op:UnaryOp}{r:V->Hp->VK->Prop}(ho:UnR X (unaryOp op) r)(ha:PE X a ta):PE X (.UnaryOp op a pos) (tUn r ta):=by
 intro pins s σ H Q I h;exact UnaryOp_ (thn (ha pins s σ H _ I h) fun v s1 ⟨x,H1,I1,r1,q1⟩=>ho pins s1 σ H1 x v Q I1 r1 q1)
theorem opI{f:Value->Value->Sem Value}{C:Int->Int->Prop}{g:Int->Int->Int}
 (rule:∀(i j:Int)(t u:Tok)(s:Shared)(Q:Value->Shared->Prop)(E:Value->Shared->Prop),C i j->Q (.int (g i j) s.toks) { s with toks:=s.toks+1 }->wpAny (model X.prog X.w) X.A (f (.int i t) (.int j u)) Q E s):
 OpR X f (rI C fun i j=>.int (g i j)):=by
 intro pins s σ H x y v u Q I rx ry h;obtain⟨i,j,rfl,rfl,hc,q⟩:=h;obtain⟨t,rfl⟩:=rx;obtain⟨t',rfl⟩:=ry;exact rule i j t t' s _ _ hc ⟨.int (g i j),H,I.tok _,⟨_,rfl⟩,q⟩
theorem aIG{f:Value->Value->Sem Value}{g:Int->Int->Int}
 (rule:∀(i j:Int)(t u:Tok)(s:Shared)(Q:Value->Shared->Prop)(E:Value->Shared->Prop),Q (.int (g i j) s.toks) { s with toks:=s.toks+1 }->wpAny (model X.prog X.w) X.A (f (.int i t) (.int j u)) Q E s):
 OpR X f (rI0 fun i j=>.int (g i j)):=by
 intro pins s σ H x y v u Q I rx ry h;obtain⟨i,j,rfl,rfl,q⟩:=h;obtain⟨t,rfl⟩:=rx;obtain⟨t',rfl⟩:=ry;exact rule i j t t' s _ _ ⟨.int (g i j),H,I.tok _,⟨_,rfl⟩,q⟩
theorem aBf{f:Value->Value->Sem Value}{g:Int->Int->Bool}
 (rule:∀(i j:Int)(t u:Tok)(s:Shared)(Q:Value->Shared->Prop)(E:Value->Shared->Prop),Q (.bool (g i j)) s->wpAny (model X.prog X.w) X.A (f (.int i t) (.int j u)) Q E s):
 OpR X f (rI0 fun i j=>.bl (g i j)):=by
 intro pins s σ H x y v u Q I rx ry h;obtain⟨i,j,rfl,rfl,q⟩:=h;obtain⟨t,rfl⟩:=rx;obtain⟨t',rfl⟩:=ry;exact rule i j t t' s _ _ ⟨.bl (g i j),H,I,rfl,q⟩
def aJf(i j:Int):Prop:=0<=j/\j<=1000000/\i.natAbs<2 ^ 64
def aGq(i j:Int):Prop:=(-(2 ^ 64)<i/\i<2 ^ 64)\/(-(2 ^ 64)<j/\j<2 ^ 64)
theorem aGq.ok{i j:Int}(h:aGq i j):IntMulOk i j:=by
 rcases h with⟨h1,h2⟩|⟨h1,h2⟩
 .exact .of_left (intBits_le_64 h1 h2)
 .exact .of_right (intBits_le_64 h1 h2)
theorem op_add:OpR X (binaryOp .Add) (rI0 fun i j=>.int (i+j)):=aIG fun _ _ _ _ _ _ _ q=>add_int q
theorem aFg:OpR X (binaryOp .Sub) (rI0 fun i j=>.int (i-j)):=aIG fun _ _ _ _ _ _ _ q=>sub_int q
theorem aGQ:OpR X (binaryOp .Mod) (rI (fun _ j=>0<j) fun i j=>.int (i % j)):=opI fun i j _ _ _ _ _ hc q=>by
 have h1:(0:Int)<j:=hc;exact mod_int' (by omega) (by rw[Int.fmod_eq_emod_of_nonneg i (by omega)];exact q)
theorem aGa:OpR X (binaryOp .Pow) (rI aJf fun i j=>.int (i ^ j.toNat)):=opI fun _ _ _ _ _ _ _ hc q=>pow_int_small hc.1 hc.2.1 hc.2.2 q
theorem unI{f:Value->Sem Value}{g:Int->Int}
 (rule:∀(i:Int)(t:Tok)(s:Shared)(Q:Value->Shared->Prop)(E:Value->Shared->Prop),Q (.int (g i) s.toks) { s with toks:=s.toks+1 }->wpAny (model X.prog X.w) X.A (f (.int i t)) Q E s):
 UnR X f (rU fun i=>.int (g i)):=by
 intro pins s σ H x v Q I rx h;obtain⟨i,rfl,q⟩:=h;obtain⟨t,rfl⟩:=rx;exact rule i t s _ _ ⟨.int (g i),H,I.tok _,⟨_,rfl⟩,q⟩
theorem aGt:UnR X (unaryOp .USub) (rU fun i=>.int (-i)):=unI fun _ _ _ _ _ q=>neg_int q
end
def aIo:V->V->Bool
 |.non,.non=>true|.non,.int _=>true|.int _,.non=>true|.non,.bl _=>true|.bl _,.non=>true|.non,.str _=>true|.str _,.non=>true
 |.int _,.int _=>true|.bl _,.bl _=>true|.str _,.str _=>true|.byt _,.byt _=>true
 |.int _,.str _=>true|.str _,.int _=>true|.bl _,.str _=>true|.str _,.bl _=>true
 |_,_=>false
def rEq:R2:=fun x y H Q=>aIo x y=true/\Q (.bl (decide (x=y))) H
def rNe:R2:=fun x y H Q=>aIo x y=true/\Q (.bl (!decide (x=y))) H
theorem RK{i j:Int}:decide (V.int i=V.int j)=(i==j):=by
 rw[Z5];simp
theorem aAT{i j:Bool}:decide (V.bl i=V.bl j)=(i==j):=by
 rw[Z5];simp
theorem PZ{i j:Str}:decide (V.str i=V.str j)=(i==j):=by
 rw[Z5];simp
theorem RG{i j:Array UInt8}:decide (V.byt i=V.byt j)=(i.toList==j.toList):=by
 rw[Z5];cases i;cases j;simp
section
variable{X:Cx}{a b c:Expr}{ta tb tc:TE}{pos:Pos}
theorem bO{pins:List (Addr×Obj)}{Q:VK}{k k':Bool}(I:Inv X pins σ H s)(q:Q (.bl k) H)(e:k=k'):EP X pins σ Q (.bool k') s:=by
 subst e;exact⟨.bl k,H,I,rfl,q⟩
theorem op_eq:OpR X (compareOp .Eq) rEq:=by
 intro pins s σ H x y v u Q I rx ry h;obtain⟨hs,q⟩:=h;cases x with
 |non=>
  cases rx;cases y with
  |non=>cases ry;exact PySem.EqNone.eq_none_none (bO I q (by simp))
  |bl j=>cases ry;exact PySem.EqNone.eq_none_bool (bO I q (by simp))
  |int j=>obtain⟨t',rfl⟩:=ry;exact PySem.EqNone.eq_none_int (bO I q (by simp))
  |str j=>obtain⟨t',rfl⟩:=ry;exact PySem.EqNone.eq_none_str (bO I q (by simp))
  |_=>exact absurd (show false=true from hs) B1
 |bl i=>
  cases rx;cases y with
  |non=>cases ry;exact PySem.EqNone.eq_bool_none (bO I q (by simp))
  |bl j=>cases ry;exact eq_bool (bO I q aAT)
  |str j=>obtain⟨t',rfl⟩:=ry;exact PySem.EqMixed.eq_bool_str (bO I q (by simp))
  |_=>exact absurd (show false=true from hs) B1
 |int i=>
  obtain⟨t,rfl⟩:=rx;cases y with
  |non=>cases ry;exact PySem.EqNone.eq_int_none (bO I q (by simp))
  |int j=>obtain⟨t',rfl⟩:=ry;exact eq_int (bO I q RK)
  |str j=>obtain⟨t',rfl⟩:=ry;exact PySem.EqMixed.eq_int_str (bO I q (by simp))
  |_=>exact absurd (show false=true from hs) B1
 |str i=>
  obtain⟨t,rfl⟩:=rx;cases y with
  |non=>cases ry;exact PySem.EqNone.eq_str_none (bO I q (by simp))
  |bl j=>cases ry;exact PySem.EqMixed.eq_str_bool (bO I q (by simp))
  |int j=>obtain⟨t',rfl⟩:=ry;exact PySem.EqMixed.eq_str_int (bO I q (by simp))
  |str j=>obtain⟨t',rfl⟩:=ry;exact eq_str (bO I q PZ)
  |_=>exact absurd (show false=true from hs) B1
 |byt i=>
  obtain⟨t,rfl⟩:=rx;cases y with
  |byt j=>obtain⟨t',rfl⟩:=ry;exact PySem.W.eq_bytes (bO I q RG)
  |_=>exact absurd (show false=true from hs) B1
 |_=>cases y<;>exact absurd (show false=true from hs) B1
theorem op_ne:OpR X (compareOp .NotEq) rNe:=by
 intro pins s σ H x y v u Q I rx ry h;obtain⟨hs,q⟩:=h;cases x with
 |non=>
  cases rx;cases y with
  |non=>cases ry;exact PySem.EqNone.ne_none_none (bO I q (by simp))
  |bl j=>cases ry;exact PySem.EqNone.ne_none_bool (bO I q (by simp))
  |int j=>obtain⟨t',rfl⟩:=ry;exact PySem.EqNone.ne_none_int (bO I q (by simp))
  |str j=>obtain⟨t',rfl⟩:=ry;exact PySem.EqNone.ne_none_str (bO I q (by simp))
  |_=>exact absurd (show false=true from hs) B1
 |bl i=>
  cases rx;cases y with
  |non=>cases ry;exact PySem.EqNone.ne_bool_none (bO I q (by simp))
  |bl j=>cases ry;exact ne_bool (bO I q (Y0 not aAT))
  |str j=>obtain⟨t',rfl⟩:=ry;exact PySem.EqMixed.ne_bool_str (bO I q (by simp))
  |_=>exact absurd (show false=true from hs) B1
 |int i=>
  obtain⟨t,rfl⟩:=rx;cases y with
  |non=>cases ry;exact PySem.EqNone.ne_int_none (bO I q (by simp))
  |int j=>obtain⟨t',rfl⟩:=ry;exact ne_int (bO I q (Y0 not RK))
  |str j=>obtain⟨t',rfl⟩:=ry;exact PySem.EqMixed.ne_int_str (bO I q (by simp))
  |_=>exact absurd (show false=true from hs) B1
 |str i=>
  obtain⟨t,rfl⟩:=rx;cases y with
  |non=>cases ry;exact PySem.EqNone.ne_str_none (bO I q (by simp))
  |bl j=>cases ry;exact PySem.EqMixed.ne_str_bool (bO I q (by simp))
  |int j=>obtain⟨t',rfl⟩:=ry;exact PySem.EqMixed.ne_str_int (bO I q (by simp))
  |str j=>obtain⟨t',rfl⟩:=ry;exact ne_str (bO I q (Y0 not PZ))
  |_=>exact absurd (show false=true from hs) B1
 |byt i=>
  obtain⟨t,rfl⟩:=rx;cases y with
  |byt j=>obtain⟨t',rfl⟩:=ry;exact PySem.W.ne_bytes (bO I q (Y0 not RG))
  |_=>exact absurd (show false=true from hs) B1
 |_=>cases y<;>exact absurd (show false=true from hs) B1
theorem aJz:OpR X (compareOp .Lt) (rI0 fun i j=>.bl (decide (i<j))):=aBf fun _ _ _ _ _ _ _ q=>lt_int q
theorem aIL:OpR X (compareOp .LtE) (rI0 fun i j=>.bl (decide (i<=j))):=aBf fun _ _ _ _ _ _ _ q=>le_int q
theorem aIk:OpR X (compareOp .Gt) (rI0 fun i j=>.bl (decide (j<i))):=aBf fun _ _ _ _ _ _ _ q=>gt_int q
theorem aJv:OpR X (compareOp .GtE) (rI0 fun i j=>.bl (decide (j<=i))):=aBf fun _ _ _ _ _ _ _ q=>ge_int q
theorem OpR.or{f:Value->Value->Sem Value}{r r':R2}(h:OpR X f r)(h':OpR X f r'):OpR X f (fun x y H Q=>r x y H Q\/r' x y H Q):=by
 intro pins s σ H x y v u Q I rx ry q;rcases q with q|q
 .exact h pins s σ H x y v u Q I rx ry q
 .exact h' pins s σ H x y v u Q I rx ry q
theorem aDM{op:CmpOp}{r:R2}(ho:OpR X (compareOp op) r)(ha:PE X a ta)(hb:PE X b tb)(hm:behindInMarks op b=false):PE X (.Compare a [op] [b] pos) (tOp r ta tb):=by
 intro pins s σ H Q I h;exact wpAny_Compare1 (aFG ha hb I h fun v u s2 x y H2 I2 rx ry q=>ho pins s2 σ H2 x y v u Q I2 rx ry q) hm
def aEm(t:TE):TT:=fun σ H Q=>t σ H fun x H'=>∃k,x=.bl k/\Q k H'
theorem aDw{op:CmpOp}{r:R2}(ho:OpR X (compareOp op) r)(ha:PE X a ta)(hb:PE X b tb)(hm:behindInMarks op b=false):PT X (.Compare a [op] [b] pos) (aEm (tOp r ta tb)):=by
 intro pins s σ H Q I h
 refine wpAny_isTrue_Compare1 (thn (ha pins s σ H _ I h) fun v s1 ⟨x,H1,I1,r1,q1⟩=>thn (hb pins s1 σ H1 _ I1 q1) fun u s2 ⟨y,H2,I2,r2,q2⟩=>
  thn (ho pins s2 σ H2 x y v u _ I2 r1 r2 q2) fun c s3 ⟨z,H3,I3,r3,k,e,q3⟩=>?_) hm
 subst e;cases r3;exact S5 ⟨H3,I3,q3⟩
def aAK(r r':R2)(ta tb tc:TE):TE:=fun σ H Q=>ta σ H fun x H1=>tb σ H1 fun y H2=>r x y H2 fun z H3=>∃k,z=.bl k /\
 (if k=true then tc σ H3 fun w' H4=>r' y w' H4 Q else Q (.bl false) H3)
theorem ZI{op op':CmpOp}{r r':R2}(ho:OpR X (compareOp op) r)(ho':OpR X (compareOp op') r')(ha:PE X a ta)(hb:PE X b tb)(hc:PE X c tc)
 (hm:lastMarks [op,op'] [b,c]=false:=by with_unfolding_all rfl):PE X (.Compare a [op,op'] [b,c] pos) (aAK r r' ta tb tc):=by
 intro pins s σ H Q I h
 refine Compare_chain (thn (ha pins s σ H _ I h) fun v s1 ⟨x,H1,I1,r1,q1⟩=>chain_link (thn (hb pins s1 σ H1 _ I1 q1) fun u s2 ⟨y,H2,I2,r2,q2⟩=>
  thn (ho pins s2 σ H2 x y v u _ I2 r1 r2 q2) fun d s3 ⟨z,H3,I3,r3,k,e,q3⟩=>?_)) hm
 subst e;cases r3;refine S5 ?_;cases k with
 |false=>exact ite_ff ⟨.bl false,H3,I3,rfl,q3⟩
 |true=>exact ite_tt (chain_last (thn (hc pins s3 σ H3 _ I3 q3) fun w' s4 ⟨z',H4,I4,r4,q4⟩=>ho' pins s4 σ H4 y z' u w' Q I4 r2 r4 q4))
def aDr(K:Fg)(x:V)(H:Hp)(k:Bool):Prop:=
 match x with
 |.non=>k=false
 |.bl b=>k=b
 |.int i=>k=(i != 0)
 |.str y=>y.length<=sizeLine/\k=((y.length:Int) != 0)
 |.byt y=>y.size<=sizeLine/\k=((y.size:Int) != 0)
 |.ref p=>(∃xs,SqL K H p xs/\k=!xs.isEmpty)\/(∃xs,SqT K H p xs/\k=!xs.isEmpty)\/∃kvs,H p=some (.dK kvs)/\k=!kvs.isEmpty
 |_=>False
theorem MB{κ:Type}{kvs:List (κ×V)}{vs:List (κ×Value)}(r:KV kvs vs):(!vs.isEmpty)=!kvs.isEmpty:=by
 cases r<;>rfl
theorem zX{xs:List V}{its:List Value}(r:aW xs its):(!its.toArray.isEmpty)=!xs.isEmpty:=by
 cases r<;>simp
theorem vU:(sizeLine:Nat)<2 ^ 63:=by rw[F0];decide
theorem aHh:aJJ X (fun x H Q=>∃k,aDr X.K x H k/\Q k H):=by
 intro pins s σ H x v Q I rx h;obtain⟨k,e,q⟩:=h;have hl:=vU;have hs:sizeLine=16777216:=F0;cases x with
 |non=>
  cases rx;have e':k=false:=e;subst e';exact truthy_none ⟨H,I,q⟩
 |bl b=>
  cases rx;have e':k=b:=e;subst e';exact S5 ⟨H,I,q⟩
 |int i=>
  obtain⟨t,rfl⟩:=rx;have e':k=(i != 0):=e;subst e';exact PySem.P.truthy_int ⟨H,I,q⟩
 |str y=>
  obtain⟨t,rfl⟩:=rx;obtain⟨hy,e'⟩:y.length<=sizeLine/\k=((y.length:Int) != 0):=e;subst e';exact PySem.P.truthy_str (by omega) ⟨H,I.tok _,q⟩
 |byt y=>
  obtain⟨t,rfl⟩:=rx;obtain⟨hy,e'⟩:y.size<=sizeLine/\k=((y.size:Int) != 0):=e;subst e';exact PySem.W.truthy_bytes (by omega) ⟨H,I.tok _,q⟩
 |ref p=>
  cases rx;have e':(∃xs,SqL X.K H p xs/\k=!xs.isEmpty)\/(∃xs,SqT X.K H p xs/\k=!xs.isEmpty)\/∃kvs,H p=some (.dK kvs)/\k=!kvs.isEmpty:=e;rcases e' with⟨xs,hx,e'⟩|⟨xs,hx,e'⟩|⟨kvs,hx,e'⟩
  .subst e';obtain⟨its,r,pl,hz⟩:=I.list hx;have hlen:=r.length;exact wpAny_truthy_list pl.isList (by simp only[List.size_toArray];omega) ⟨H,I.tok _,by rw[zX r];exact q⟩
  .subst e';obtain⟨its,r,pl,hz⟩:=I.tuple hx;have hlen:=r.length;exact truthy_tuple pl (by simp only[List.size_toArray];omega) ⟨H,I.tok _,by rw[zX r];exact q⟩
  .subst e';obtain⟨hz,hS,vs,r,m⟩:kvs.length<=sizeLine/\(p==sysModules)=false/\∃vs,KV kvs vs/\s.heap.DictOf (dA X.prog X.w) p vs:=I.hok p _ hx;have hlen:kvs.length=vs.length:=A0m r;exact wpAny_truthy_dict hS m (by omega) ⟨H,I.tok _,by rw[MB r];exact q⟩
 |_=>exact(show False from e).elim
theorem aAi(ha:PE X a ta)(he:∀whole,isTrue a X.env whole=(do let v <- whole;standAt a.pos;holding [v] (truthy v))):
 PT X a (fun σ H Q=>ta σ H fun x H'=>∃k,aDr X.K x H' k/\Q k H'):=by
 intro pins s σ H Q I h;exact isTrue_plain (thn (ha pins s σ H _ I h) fun v s1 ⟨x,H1,I1,r1,q1⟩=>aHh pins s1 σ H1 x v Q I1 r1 q1) (he _)
theorem vals1{x:V}{us:List Value}(r:aW [x] us):∃u,us=[u]/\RelV x u:=by
 cases r with
 |cons r1 r2=>cases r2;exact⟨_,rfl,r1⟩
theorem vals2{x y:V}{us:List Value}(r:aW [x,y] us):∃u w',us=[u,w']/\RelV x u/\RelV y w':=by
 cases r with
 |cons r1 r2=>
  cases r2 with
  |cons r3 r4=>cases r4;exact⟨_,_,rfl,r1,r3⟩
theorem UT(hc:X.calm=true):eU X (.builtin "max") (fun xs H Q=>∃i j,xs=[.int i,.int j]/\Q (.int (if j > i then j else i)) H):=by
 intro pins s σ H xs us Q I r h;obtain⟨i,j,rfl,q⟩:=h;obtain⟨u,w',rfl,⟨t,rfl⟩,⟨t',rfl⟩⟩:=vals2 r;refine max_two_ints (I.ok.hd hc) fun h' tk k=>⟨_,H,I.kept k,?_,q⟩;by_cases hj:j > i
 .rw[A9 hj,A9 hj];exact⟨_,rfl⟩
 .rw[B2 hj,B2 hj];exact⟨_,rfl⟩
theorem TL(hc:X.calm=true):eU X (.builtin "min") (fun xs H Q=>∃i j,xs=[.int i,.int j]/\Q (.int (if j<i then j else i)) H):=by
 intro pins s σ H xs us Q I r h;obtain⟨i,j,rfl,q⟩:=h;obtain⟨u,w',rfl,⟨t,rfl⟩,⟨t',rfl⟩⟩:=vals2 r;refine min_two_ints (I.ok.hd hc) fun h' tk k=>⟨_,H,I.kept k,?_,q⟩;by_cases hj:j<i
 .rw[A9 hj,A9 hj];exact⟨_,rfl⟩
 .rw[B2 hj,B2 hj];exact⟨_,rfl⟩
end
structure SC(h:Heap)(x dx C:Addr)(mA:Str->Option Value):Prop where
 obj:h.get? x=some (PySem.W.instObj C dx)
 ns:h.Ns1 dx mA
 ne:dx≠x
theorem SZ{h:Heap}{dx:Addr}{mA:Str->Option Value}(n:h.Ns1 dx mA):∃od,h.get? dx=some od/\∀name,PySem.W.lookIn name od=some (mA name):=by
 obtain⟨o,es,ep,ho,hd,hk,_,hm⟩:=n;refine⟨o,ho,fun name=>?_⟩;have e:=hm name;unfold nsFind findBy at e;rw[<- Array.find?_toList]at e;unfold PySem.W.lookIn;rw[hd];dsimp only;split
 .rename_i y q;rw[q]at e;exact Y0 some e
 .rename_i q;rw[q]at e
  have a:es.toList.any (·.refKey)=false:=by
   rw[List.any_eq_false];intro y hy;obtain⟨z,t,hkey⟩:=hk y (Array.mem_toList_iff.mp hy);simp[DictEntry.refKey,hkey]
  have a':¬es.toList.any (·.refKey)=true:=by rw[a];exact B1
  rw[B2 a'];exact Y0 some e
theorem SC.look{h:Heap}{x dx C:Addr}{mA:Str->Option Value}(I:SC h x dx C mA):∃od,PySem.W.InstAt h x (PySem.W.instObj C dx) C (some od)/\∀name,PySem.W.lookIn name od=some (mA name):=
 let⟨od,ho,hl⟩:=SZ I.ns
 ⟨od,⟨I.obj,rfl,rfl,ho⟩,hl⟩
section
variable{prog:Program}{w:World}{A:Around}{E:Value->Shared->Prop}{s:Shared}{K:Fg}{x dx C f:Addr}{mA:Str->Option Value}{name:Str}{v:Value}
theorem get_map{expr:Bool}{Q:Value->Shared->Prop}(X:K.In s.heap)(I:SC s.heap x dx C mA)(hg:PySem.W.plainGet K C name=true)(hh:PySem.W.hasDictIn K C=true)
 (ha:PySem.W.findIn K (.ref C) name=some none) (hv:mA name=some v) (hv':PySem.W.handedIn v=true) (h:Q v { s with toks:=s.toks+1 }):
 wpAny (model prog w) A (getAttr (.ref x) name expr) Q E s:=by
 obtain⟨od,J,hl⟩:=I.look;exact PySem.W.get_value X J (PySem.W.plainGet_of hg).1 (PySem.W.findObj_own hh ha rfl (by rw[hl,hv])) hv' h
theorem aCD{ns:List Str}{Q:Unit->Shared->Prop}(X:K.In s.heap)(I:SC s.heap x dx C mA)
 (hs:PySem.W.findIn K (.ref C) "__setattr__"=some (some (.builtin "object.__setattr__"))) (hp:PySem.W.plainOver K C=true) (ht:PySem.W.takerIn K C name=some none) (hh:PySem.W.hasDictIn K C=true)
 (hw:PySem.Within mA ns) (hsz:ns.length<=sizeLine)
 (h:∀h',SC h' x dx C (fun y=>if y=name then some v else mA y)->Heap.SameBut dx s.heap h'->Q () { s with heap:=h',toks:=s.toks+2 }):
 wpAny (model prog w) A (setAttr (.ref x) name v) Q E s:=by
 obtain⟨od,J,hl⟩:=I.look;refine PySem.W.set_plain X J hs (PySem.W.osa_open (s:={ s with toks:=s.toks+1 }) (r:=none) X J hp ht fun b=>?_);obtain⟨cd,hc,hd'⟩:=PySem.W.any_some hh;have hx:s.heap.get? x=some ⟨.ref C,some dx,.plain,#[]⟩:=I.obj;refine A3 (A6 (A3 (A3 (wpAny_loadPart hx (A3 (PySem.W.Looks.here (s:={ s with toks:=s.toks+1 }) (PySem.W.looks_clsIn X hc) ?_))))));rw[hd'];refine A6 (a:=some dx) (A3 (A6 (A3 ?_)));refine wpAny_nsSet1 (s:={ s with toks:=s.toks+1 }) I.ns fun h' hn2 hs2=>?_;obtain⟨oD,esD,epD,hoD,hdD,hcD⟩:=hn2.count (PySem.Within.cons name v hw);refine A3 (wpAny_lookBehind hoD (by rw[hdD];exact pastItsLine_dict (D0 hcD (by rw[E9];omega))) ?_);exact A6 (h _ ⟨(hs2.2 _ (L6 I.ne)).trans I.obj,hn2,I.ne⟩ hs2)
theorem aAV{R:Result->Shared->Prop}{vs:List Value}{kw:List (Str×Value)}(X:K.In s.heap)(hm:PySem.W.makesIn K C=true)
 (hi:PySem.W.findIn K (.ref C) "__init__"=some (some (.ref f))) (hf:PySem.W.typeIn K (.ref f)=some (.type "function"))
 (h:codeAny (model prog w) (A.under (.builtin "type.__call__" ⟨.ref C::vs,kw⟩)) (.call (.ref f) ⟨.ref (s.heap.objs.size+1)::vs,kw⟩) (PySem.W.InitBack (s.heap.objs.size+1) R)
  { s with heap:=(s.heap.push PySem.W.emptyDict).push (PySem.W.instObj C s.heap.objs.size) }):
 codeAny (model prog w) A (.call (.ref C) ⟨vs,kw⟩) R s:=by
 obtain⟨hh,g,d,t,os⟩:=s;exact PySem.W.make_core (PySem.W.makes_of X hm) (PySem.W.looks_findIn X hi) (fun self=>PySem.W.bind_fn X self hf) (.inl rfl) h
end
def nQ(f:Str)(v:V):List (Str×V)->List (Str×V)
 |[]=>[(f,v)]
 |(g,x)::r=>if g=f then(g,v)::r else(g,x)::nQ f v r
theorem wQ(f g:Str)(v:V):∀fs:List (Str×V),(nQ f v fs).lookup g=if g=f then some v else fs.lookup g
 |[]=>by
  show List.lookup g [(f,v)]=_;by_cases h:g=f
  .have hb:(g==f)=true:=beq_iff_eq.mpr h;simp only[List.lookup,hb,if_pos h]
  .have hb:(g==f)=false:=beq_eq_false_iff_ne.mpr h;simp only[List.lookup,hb,if_neg h]
 |(k,x)::r=>by
  have ih:=wQ f g v r;rw[show nQ f v ((k,x)::r)=(if k=f then(k,v)::r else(k,x)::nQ f v r)from rfl];by_cases hk:k=f
  .rw[A9 hk];by_cases h:g=k
   .have hb:(g==k)=true:=beq_iff_eq.mpr h;simp only[List.lookup,hb,if_pos (h.trans hk)]
   .have hb:(g==k)=false:=beq_eq_false_iff_ne.mpr h;simp only[List.lookup,hb,if_neg (fun e:g=f=>h (e.trans hk.symm))]
  .rw[B2 hk];by_cases h:g=k
   .have hb:(g==k)=true:=beq_iff_eq.mpr h;simp only[List.lookup,hb,if_neg (fun e:g=f=>hk (h.symm.trans e))]
   .have hb:(g==k)=false:=beq_eq_false_iff_ne.mpr h;simp only[List.lookup,hb];exact ih
theorem wN(f:Str)(v:V):∀fs:List (Str×V),f∈(nQ f v fs).map (·.1)/\∀g,g∈fs.map (·.1)->g∈(nQ f v fs).map (·.1)
 |[]=>⟨by simp[nQ],fun g h=>by simp at h⟩
 |(k,x)::r=>by
  obtain⟨i1,i2⟩:=wN f v r;rw[show nQ f v ((k,x)::r)=(if k=f then(k,v)::r else(k,x)::nQ f v r)from rfl];by_cases hk:k=f
  .rw[A9 hk];subst hk;exact⟨by simp,fun g h=>by simpa using h⟩
  .rw[B2 hk];refine⟨?_,fun g h=>?_⟩
   .rw[C7];exact B3 _ i1
   .rw[C7]at h ⊢;rcases List.mem_cons.mp h with e|e
    .exact List.mem_cons.mpr (.inl e)
    .exact B3 _ (i2 g e)
theorem xE(f:Str)(v:V):∀fs:List (Str×V),(nQ f v fs).length<=fs.length+1
 |[]=>by simp[nQ]
 |(k,x)::r=>by
  have ih:=xE f v r;rw[show nQ f v ((k,x)::r)=(if k=f then(k,v)::r else(k,x)::nQ f v r)from rfl];by_cases hk:k=f
  .rw[A9 hk,E9,E9];omega
  .rw[B2 hk,E9,E9];omega
theorem wM.some_of{v:V}{o:Option Value}(r:wM (some v) o):∃u,o=some u/\RelV v u:=by
 cases o with
 |none=>exact(show False from r).elim
 |some u=>exact⟨u,rfl,r⟩
theorem SM{v:V}{u:Value}(r:RelV v u):PySem.W.handedIn u=true:=by
 cases v with
 |non=>cases (show u=Value.none from r);rfl
 |bl b=>cases (show u=Value.bool b from r);rfl
 |int i=>obtain⟨t,e⟩:=(show ∃t,u=Value.int i t from r);cases e;rfl
 |str x=>obtain⟨t,e⟩:=(show ∃t,u=Value.str x t from r);cases e;rfl
 |byt b=>obtain⟨t,e⟩:=(show ∃t,u=Value.bytes b t from r);cases e;rfl
 |flt b=>obtain⟨t,e⟩:=(show ∃t,u=Value.float b t from r);cases e;rfl
 |ref a=>cases (show u=Value.ref a from r);rfl
 |ty n=>cases (show u=Value.type n from r);rfl
section
variable{P:Program}{w:World}{H H':Hp}{h h':Heap}{a C dx:Addr}{fs fs':List (Str×V)}
theorem PJ(hok:HOk P w H h)(e:H a=some (.ins C dx fs)):∃mA,SC h a dx C mA/\(∀f,wM (fs.lookup f) (mA f))/\PySem.Within mA (fs.map (·.1))/\fs.length<=1000/\H dx=some (.own a):=by
 obtain⟨d,z,ne,ob,mA,n,r,q⟩:=(show cP P w H h a (.ins C dx fs)from hok a _ e);exact⟨mA,⟨ob,n,ne⟩,r,q,z,d⟩
end
structure Cls(K:Fg)(C:Addr):Prop where
 pg:PySem.W.plainGet K C Str.empty=true
 hd:PySem.W.hasDictIn K C=true
 po:PySem.W.plainOver K C=true
 sa:PySem.W.findIn K (.ref C) "__setattr__"=some (some (.builtin "object.__setattr__"))
theorem Cls.get{C:Addr}(c:Cls K C)(f:Str):PySem.W.plainGet K C f=true:=c.pg
def iJ(K:Fg)(C:Addr)(f:Str):Prop:=PySem.W.findIn K (.ref C) f=some none
theorem iJ.taker{C:Addr}{f:Str}(n:iJ K C f):PySem.W.takerIn K C f=some none:=by
 unfold PySem.W.takerIn;rw[show PySem.W.findIn K (.ref C) f=some none from n];rfl
section
variable{X:Cx}{pins:List (Addr×Obj)}{σ:St}{H:Hp}{s:Shared}{a C dx:Addr}{fs:List (Str×V)}{f:Str}{v:V}{A:Around}{E:Value->Shared->Prop}
theorem LS{b:Bool}{Q:Value->Shared->Prop}(I:Inv X pins σ H s)(e:H a=some (.ins C dx fs))(c:Cls X.K C)(n:iJ X.K C f)(l:fs.lookup f=some v)
 (h:∀u s',Inv X pins σ H s'->RelV v u->Q u s'):wpAny (model X.prog X.w) A (getAttr (.ref a) f b) Q E s:=by
 obtain⟨mA,O,r,_,_,_⟩:=PJ I.hok e;obtain⟨u,hu,ru⟩:=wM.some_of (v:=v) (o:=mA f) (by rw[<- l];exact r f);exact get_map I.kIn O (c.get f) c.hd n hu (SM ru) (h u _ (I.tok _) ru)
theorem NQ{y:V}{u:Value}{Q:Unit->Shared->Prop}(I:Inv X pins σ H s)(e:H a=some (.ins C dx fs))(c:Cls X.K C)(n:iJ X.K C f)(hl:fs.length<1000)(ry:RelV y u)
 (h:∀s',Inv X pins σ (upd H a (.ins C dx (nQ f y fs))) s'->Q () s'):wpAny (model X.prog X.w) A (setAttr (.ref a) f u) Q E s:=by
 obtain⟨mA,O,r,wi,_,ho⟩:=PJ I.hok e;have hz:(fs.map (·.1)).length<=sizeLine:=by rw[A7,F0];omega
 refine aCD I.kIn O c.sa c.po n.taker c.hd wi hz fun h' O' sb=>h _ ?_;have hd:∃o,h'.get? dx=some o:=let⟨o,_,_,e',_⟩:=O'.ns;⟨o,e'⟩;refine I.write (x:=a) (e:=dx) (by rw[e];exact True.intro) (.inr ho) (fun b q hb z=>(sb.2 b hb).trans z) hd ?_;refine⟨by rw[aL O.ne];exact ho,?_,O.ne,O'.obj,_,O'.ns,fun g=>?_,fun g hg=>?_⟩
 .have:=xE f y fs;omega
 .show wM ((nQ f y fs).lookup g) (if g=f then some u else mA g);rw[wQ];by_cases q:g=f
  .rw[A9 q,A9 q];exact ry
  .rw[B2 q,B2 q];exact r g
 .by_cases q:g=f
  .rw[q];exact(wN f y fs).1
  .refine(wN f y fs).2 g (wi g fun z=>hg ?_);show(if g=f then some u else mA g)=none;rw[B2 q];exact z
theorem Inv.made(I:Inv X pins σ H s):Inv X pins σ (upd (upd H s.heap.objs.size (.own (s.heap.objs.size+1))) (s.heap.objs.size+1) (.ins C s.heap.objs.size []))
 { s with heap:=(s.heap.push PySem.W.emptyDict).push (PySem.W.instObj C s.heap.objs.size) }:=by
 have e1:(s.heap.push PySem.W.emptyDict).get? s.heap.objs.size=some PySem.W.emptyDict:=B6 s.heap rfl
 have e2:((s.heap.push PySem.W.emptyDict).push (PySem.W.instObj C s.heap.objs.size)).get? (s.heap.objs.size+1)=some (PySem.W.instObj C s.heap.objs.size):=by
  have:=B6 (s.heap.push PySem.W.emptyDict) (o:=PySem.W.instObj C s.heap.objs.size) rfl
  rwa [O6]at this
 have e3:(s.heap.push PySem.W.emptyDict).Ns s.heap.objs.size (fun _=>none):=⟨PySem.W.emptyDict,#[],_,e1,rfl,(fun e he=>absurd he (by simp)),fun _=>rfl⟩;have I1:=I.laid (a:=s.heap.objs.size) (o:=.own (s.heap.objs.size+1)) (h':=s.heap.push PySem.W.emptyDict) (t':=s.toks) (fun b u q=>A4 _ q) (B0 _) ⟨_,e1⟩;refine I1.laid (a:=s.heap.objs.size+1) (o:=.ins C s.heap.objs.size []) (t':=s.toks) (fun b u q=>A4 _ q) (Nat.le_of_eq (O6 _ _)) ?_;have ne:s.heap.objs.size≠s.heap.objs.size+1:=B8 (J9 _);refine⟨by rw[aL ne,aO],J4 _,ne,e2,fun _=>none,(Heap.Ns1.of_empty e3).at fun o q=>A4 _ q,fun _=>True.intro,fun y hy=>absurd rfl hy⟩
theorem aCm{prog:Program}{w:World}{env:Env}{e:Expr}{f:Str}{pos:Pos}{s:Shared}{Q:Value->Shared->Prop}(hb:attributeBase e f env (eval e env)=eval e env)
 (h:wpAny (model prog w) A (eval e env) (fun o s₁=>wpAny (model prog w) A (getAttr o f true) Q E s₁) E s):wpAny (model prog w) A (eval (.Attribute e f pos) env) Q E s:=
 Attribute_any_ h (by rw[arm_eval_Attribute,hb])
end
def aIj(K:Fg)(ta:TE)(f:Str):TE:=fun σ H Q=>ta σ H fun x H1=>∃a C dx fs v,x=.ref a/\H1 a=some (.ins C dx fs)/\Cls K C/\iJ K C f/\fs.lookup f=some v/\Q v H1
def aHV(K:Fg)(ta tv:TE)(f:Str):TS:=fun D σ H=>tv σ H fun y H1=>ta σ H1 fun x H2=>∃a C dx fs,x=.ref a/\H2 a=some (.ins C dx fs)/\Cls K C/\iJ K C f/\fs.length<1000 /\
 D.nx σ (upd H2 a (.ins C dx (nQ f y fs)))
section
variable{X:Cx}{o e value:Expr}{f:Str}{pos pos' tpos:Pos}{ta tv:TE}
theorem aHn(he:PE X e ta)(hb:attributeBase e f X.env (eval e X.env)=eval e X.env):PE X (.Attribute e f pos) (aIj X.K ta f):=by
 intro pins s σ H Q I h;refine aCm hb (thn (he pins s σ H _ I h) fun u s1 ⟨x,H1,I1,rx,a,C,dx,fs,v,ex,ea,c,n,l,q⟩=>?_);subst ex;obtain rfl:u=Value.ref a:=rx;exact LS I1 ea c n l fun u' s2 I2 ru=>⟨v,H1,I2,ru,q⟩
theorem aGO(ha:PE X o ta)(hv:PE X value tv)(hs:swapsWith value (some (.Attribute o f pos')) pos.line X.env=pure false):PS X (.Assign [.Attribute o f pos'] value pos) (aHV X.K ta tv f):=by
 intro pins s σ H D I h;refine plainObj_wpAny_Assign_Attribute (thn (hv pins s σ H _ I h) fun u s1 ⟨y,H1,I1,ry,q⟩=>thn (ha pins s1 σ H1 _ I1 q) fun ov s2 ⟨x,H2,I2,rx,a,C,dx,fs,ex,ea,c,n,l,q2⟩=>?_) hs;subst ex;obtain rfl:ov=Value.ref a:=rx;exact NQ I2 ea c n l ry fun s3 I3=>⟨σ,_,I3,q2⟩
end
structure cA(k:Nat)(A:Around)(q:Bool:=true):Prop where
 hd:q=true->A.handled=none
 dp:A.depth+3*k+5<recursionLimit
 un:A.units+16*k+200<cLine
 gd:A.guards=some []
theorem cA.mono{j k:Nat}{q:Bool}(r:cA k A q)(h:j<=k):cA j A q:=⟨r.hd,by have:=r.dp;omega,by have:=r.un;omega,r.gd⟩
theorem cA.deeper{k:Nat}{q:Bool}(r:cA (k+1) A q)(env:Env):cA k (A.deeper env) q:=
 ⟨r.hd,by have:=r.dp;show A.depth+1+3*k+5<_;omega,by have:=r.un;show A.units+3+16*k+200<_;omega,r.gd⟩
theorem OA{C:Addr}{us:List Value}{kw:List (Str×Value)}:(A.under (.builtin "type.__call__" ⟨.ref C::us,kw⟩)).depth=A.depth+1:=by
 first|rfl|simp[Around.under,Code.weight,Code.isCreation,Code.isGuard,Code.isCaller,Code.frames,Code.isFrame,guardIds]
theorem MR{C:Addr}{us:List Value}{kw:List (Str×Value)}:(A.under (.builtin "type.__call__" ⟨.ref C::us,kw⟩)).units=A.units+1:=by
 first|rfl|simp[Around.under,Code.cUnits,Code.frames,Code.isFrame]
theorem JV{C:Addr}{us:List Value}{kw:List (Str×Value)}:(A.under (.builtin "type.__call__" ⟨.ref C::us,kw⟩)).guards=A.guards:=by
 first|rfl|simp[Around.under,Code.guards,pushGuards,Code.isGuard,guardIds]|(unfold Around.under;cases A.guards<;>rfl)
theorem cA.make{k:Nat}{q:Bool}(r:cA (k+1) A q)(C:Addr)(us:List Value)(kw:List (Str×Value)):cA k (A.under (.builtin "type.__call__" ⟨.ref C::us,kw⟩)) q:=
 ⟨r.hd,by have:=r.dp;rw[OA];omega,by have:=r.un;rw[MR];omega,by rw[JV];exact r.gd⟩
theorem cA.depth{k:Nat}{q:Bool}(r:cA k A q):A.depth<recursionLimit:=by have:=r.dp;omega
theorem cA.units{k:Nat}{q:Bool}(r:cA k A q):A.units+64<cLine:=by have:=r.un;omega
def UE:TA:=fun _ H Q=>Q [] H
def sP(ta:TE)(tr:TA):TA:=fun σ H Q=>ta σ H fun x H1=>tr σ H1 fun xs H2=>Q (x::xs) H2
section
variable{X:Cx}{e:Expr}{es:List Expr}{te:TE}{t:TA}{pos:Pos}
theorem zE:PA X [] UE:=fun _ _ _ _ H Q I h=>Calls.spliced_nil ⟨[],H,I,.nil,h⟩
theorem jU(ha:PE X e te)(hr:PA X es t)(hs:starEach (e::es) X.env=(false,eval e X.env)::starEach es X.env:=by rfl):PA X (e::es) (sP te t):=by
 intro pos pins s σ H Q I h;rw[hs];show wpAny _ _ (spliced ((false,eval e X.env)::backTo pos (starEach es X.env))) _ _ s;refine A0s (thn (ha pins s σ H _ I h) fun u s1 ⟨x,H1,I1,r1,q1⟩=>?_);exact thn (hr pos pins s1 σ H1 _ I1 q1) fun us s2 ⟨xs,H2,I2,r2,q2⟩=>⟨x::xs,H2,I2,.cons r1 r2,q2⟩
def ZN(t:TA):TE:=fun σ H Q=>t σ H fun xs H1=>xs.length<=sizeLine/\∀p,H1 p=none->Q (.ref p) (upd H1 p (.tup xs))
def aHN(t:TA):TE:=fun σ H Q=>t σ H fun xs H1=>xs.length<=sizeLine/\∀p,H1 p=none->Q (.ref p) (upd H1 p (.lst xs))
theorem GL{x1}(h:PA X es t):PE X (.Tuple es x1 pos) (ZN t):=by
 intro pins s σ H Q I hq;refine wpAny_Tuple_spliced (thn (h pos pins s σ H _ I hq) fun us s1 ⟨xs,H1,I1,r,z,q⟩=>⟨by rw[<- r.length];exact z,?_⟩);have hf:H1 s1.heap.objs.size=none:=I1.hok.fresh (B0 _);refine⟨.ref s1.heap.objs.size,upd H1 s1.heap.objs.size (.tup xs),I1.laid (t':=s1.toks) (fun b u e=>A4 _ e) (B0 _) ?_,rfl,q _ hf⟩;exact⟨z,us,r,⟨_,B6 _ rfl,rfl,_,rfl⟩⟩
theorem aAD(h:PA X es t):PE X (.List es pos) (aHN t):=by
 intro pins s σ H Q I hq;refine wpAny_List_spliced (thn (h pos pins s σ H _ I hq) fun us s1 ⟨xs,H1,I1,r,z,q⟩=>⟨by rw[<- r.length];exact z,?_⟩);have hf:H1 s1.heap.objs.size=none:=I1.hok.fresh (B0 _);refine⟨.ref s1.heap.objs.size,upd H1 s1.heap.objs.size (.lst xs),I1.laid (t':=s1.toks) (fun b u e=>A4 _ e) (B0 _) ?_,rfl,q _ hf⟩;exact⟨z,us,0,r,B6 _ rfl⟩
end
abbrev Sp:=List V->Hp->VK->XK->Prop
abbrev CXT:=List Env->Hp->Shared->XK->Value->Shared->Prop
structure OG(P:Program)(w:World)(K:Fg)(mg:Str->Option Value)(base:Heap)(A:Around)(outer:List Env)(s:Shared)(H:Hp):Prop where
 frames:A.frames=some outer
 mod:Mod K mg base
 bs:∀b o,base.get? b=some o->s.heap.get? b=some o/\H b=none
 bsz:base.objs.size<=s.heap.objs.size
 funs:s.heap.FunFrames base outer
 frf:∀b∈frs outer,H b=none
 hok:HOk P w H s.heap
 bare:AllBare s.gens
def CE(outer:List Env)(P:Program)(w:World)(H:Hp)(s:Shared)(Q:VK)(u:Value)(s':Shared):Prop:=
 ∃v H',s'.os=s.os/\AllBare s'.gens/\Un (frs outer) [] H H' s.heap s'.heap/\HOk P w H' s'.heap/\RelV v u/\Q v H'
def CR(CX:CXT)(outer:List Env)(P:Program)(w:World)(H:Hp)(s:Shared)(Q:VK)(E:XK)(r:Result)(s':Shared):Prop:=
 match r with
 |.ok (.ret u)=>CE outer P w H s Q u s'
 |.ok _=>False
 |.error e=>CX outer H s E e s'
structure kW(P:Program)(w:World)(K:Fg)(mg:Str->Option Value)(base:Heap)(CX:CXT)(k:Nat)(f:Addr)(fd:FuncData)(ps:List Str)(sp:Sp)(q:Bool:=true):Prop where
 len:∀vs H Q E,sp vs H Q E->vs.length=ps.length
 run:∀(A:Around)(outer:List Env)(s:Shared)(H:Hp)(args:Args)(us:List Value)(vs:List V)(Q:VK)(E:XK),cA k A q->OG P w K mg base A outer s H->BindsTo s fd args (ps.zip us)->aW vs us->sp vs H Q E->
  codeAny (model P w) A (.call (.ref f) args) (CR CX outer P w H s Q E) s
theorem kW.mono{P:Program}{w:World}{mg:Str->Option Value}{base:Heap}{CX:CXT}{j k:Nat}{f:Addr}{fd:FuncData}{ps:List Str}{sp:Sp}{q:Bool}(F:kW P w K mg base CX j f fd ps sp q)(h:j<=k):
 kW P w K mg base CX k f fd ps sp q:=⟨F.len,fun A outer s H args us vs Q E hr=>F.run A outer s H args us vs Q E (hr.mono h)⟩
theorem OG.make{P:Program}{w:World}{mg:Str->Option Value}{base:Heap}{outer:List Env}(e:OG P w K mg base A outer s H)(C:Addr)(us:List Value)(kw:List (Str×Value)):
 OG P w K mg base (A.under (.builtin "type.__call__" ⟨.ref C::us,kw⟩)) outer s H:=⟨by first|exact e.frames|(simpa[Around.under,Code.envs,Code.isFrame,pushEnvs]using e.frames),e.mod,e.bs,e.bsz,e.funs,e.frf,e.hok,e.bare⟩
section
variable{X:Cx}{pins:List (Addr×Obj)}{σ:St}{H:Hp}{s s':Shared}
theorem Inv.env0(I:Inv X pins σ H s):OG X.prog X.w X.K X.mg X.base X.A X.stack s H:=
 ⟨I.ok.frames,I.ok.mod,I.bs,D0 I.ok.bsz I.sz,I.stack,I.stkFree,I.hok,I.bare⟩
theorem Inv.after{Q:VK}{u:Value}(I:Inv X pins σ H s)(h:CE X.stack X.prog X.w H s Q u s'):EP X pins σ Q u s':=by
 obtain⟨v,H',os,bare,un,hok,r,q⟩:=h;obtain⟨hh,g,d,t,os'⟩:=s';obtain rfl:os'=s.os:=os;exact⟨v,H',I.call (h':=hh) (g':=g) (d':=d) (t':=t) (ch:=[]) un hok bare (fun b z=>absurd z (by simp)),r,q⟩
end
def aAk(sp:Sp)(dvs:List V)(E:XK)(t:TA):TE:=fun σ H Q=>t σ H fun vs H1=>sp (vs++dvs) H1 Q E
def aEd(C:Addr)(sp:Sp)(dvs:List V)(E:XK)(t:TA):TE:=fun σ H Q=>t σ H fun vs H1=>∀x dx,H1 x=none->H1 dx=none->dx≠x->
 sp (.ref x::(vs++dvs)) (upd (upd H1 dx (.own x)) x (.ins C dx [])) (fun v H2=>v=.non/\Q (.ref x) H2) E
def Binds(K:Fg)(fd:FuncData)(ps:List Str)(ds:List Value):Prop:=
 ∀(s:Shared)(us:List Value),K.In s.heap->(us++ds).length=ps.length->BindsTo s fd ⟨us,[]⟩ (ps.zip (us++ds))
theorem Binds.all{fd:FuncData}{ps:List Str}(h:∀us:List Value,us.length=ps.length->bindArgs fd ⟨us,[]⟩=pure (ps.zip us)):Binds K fd ps []:=fun s us _ hl=>by
 rw[F4]at hl ⊢;exact .of_eq (h us hl)
def GZ(CX:CXT)(X:Cx)(E:XK):Prop:=∀(pins:List (Addr×Obj))(σ:St)(H:Hp)(s:Shared)(e:Value)(s':Shared),Inv X pins σ H s->CX X.stack H s E e s'->X.xe e s'
section
variable{X:Cx}{CX:CXT}{k:Nat}{f C:Addr}{fd:FuncData}{ps:List Str}{sp:Sp}{dvs:List V}{ds:List Value}{E:XK}{x m:Str}{p pos apos:Pos}{e o:Expr}{es:List Expr}{ta:TE}{t:TA}
theorem aHG{pins:List (Addr×Obj)}{σ:St}{H:Hp}{s:Shared}{Q:VK}{us:List Value}{vs:List V}{q:Bool}(F:kW X.prog X.w X.K X.mg X.base CX k f fd ps sp q)(hr:cA k X.A q)(hb:Binds X.K fd ps ds)(hd:aW dvs ds)(hx:GZ CX X E)
 (I:Inv X pins σ H s) (r:aW vs us) (h:sp (vs++dvs) H Q E):wpAny (model X.prog X.w) X.A (call (.ref f) us) (EP X pins σ Q) X.xe s:=by
 have r2:aW (vs++dvs) (us++ds):=r.append hd;have hl:(us++ds).length=ps.length:=by rw[<- r2.length];exact F.len _ _ _ _ h
 refine wpAny_call (Y6 (F.run X.A X.stack s H ⟨us,[]⟩ (us++ds) (vs++dvs) Q E hr I.env0 (hb s us I.kIn hl) r2 h) fun r s' hq=>?_);cases r with
 |error e=>exact hx pins σ H s e s' I hq
 |ok fl=>
  cases fl with
  |ret u=>exact I.after hq
  |next=>exact False.elim hq
  |brk=>exact False.elim hq
  |cont=>exact False.elim hq
theorem OU{q:Bool}(F:kW X.prog X.w X.K X.mg X.base CX k f fd ps sp q)(hr:cA k X.A q)(hg:Gl X x)(hm:X.mg x=some (.ref f))(hk:PySem.W.keepIn X.K (.ref f)=true)(hb:Binds X.K fd ps ds)(hd:aW dvs ds)(hx:GZ CX X E)
 (ha:PA X (e::es) t) (hdb:(x==("__debug__":Str))=false:=by decide) (he:starEach (e::es) X.env=(false,eval e X.env)::starEach es X.env:=by rfl) (hpl:(backTo pos (starEach es X.env)).any (·.1)=false:=by rfl):
 PE X (.Call (.Name x p) (e::es) [] pos) (aAk sp dvs E t):=by
 intro pins s σ H Q I h;refine L7 (rO I hg hm ?_ hdb);refine A0p (h₀:=X.base) I.ok.mod.kin hk (thn (ha pos pins s σ H _ I h) fun us s1 ⟨vs,H1,I1,r,q⟩=>⟨I1.kIn,?_⟩) he hpl;exact aHG F hr hb hd hx I1 r q
structure Mk(K:Fg)(C f:Addr):Prop where
 makes:PySem.W.makesIn K C=true
 init:PySem.W.findIn K (.ref C) "__init__"=some (some (.ref f))
 fn:PySem.W.isFn K (.ref f)=true
 kp:PySem.W.keepIn K (.ref C)=true
theorem WV{pins:List (Addr×Obj)}{σ:St}{H:Hp}{s:Shared}{Q:VK}{us:List Value}{vs:List V}(M:Mk X.K C f)(F:kW X.prog X.w X.K X.mg X.base CX k f fd ps sp)(hr:cA (k+1) X.A)(hb:Binds X.K fd ps ds)(hd:aW dvs ds)
 (hx:∀H s e s',Inv X pins σ H s->CX X.stack H s E e s'->X.xe e s') (I:Inv X pins σ H s) (r:aW vs us)
 (h:∀x dx,H x=none->H dx=none->dx≠x->sp (.ref x::(vs++dvs)) (upd (upd H dx (.own x)) x (.ins C dx [])) (fun v H2=>v=.non/\Q (.ref x) H2) E):
 wpAny (model X.prog X.w) X.A (call (.ref C) us) (EP X pins σ Q) X.xe s:=by
 have hq:=h (s.heap.objs.size+1) s.heap.objs.size (I.hok.fresh (A0f _)) (I.hok.fresh (B0 _)) (B8 (J9 _));have I2:=Inv.made (C:=C) I;have r2:aW (V.ref (s.heap.objs.size+1)::(vs++dvs)) (Value.ref (s.heap.objs.size+1)::(us++ds)):=.cons rfl (r.append hd)
 have hl:(Value.ref (s.heap.objs.size+1)::us++ds).length=ps.length:=by
  have e:=r2.length;rw[F.len _ _ _ _ hq]at e;exact e.symm
 refine wpAny_call (aAV (f:=f) I.kIn M.makes M.init (beq_iff_eq.mp M.fn) (Y6 (F.run _ X.stack _ _ ⟨Value.ref (s.heap.objs.size+1)::us,[]⟩ (Value.ref (s.heap.objs.size+1)::(us++ds)) _ _ E (hr.make C us [])
  (I2.env0.make C us []) (hb _ (Value.ref (s.heap.objs.size+1)::us) I2.kIn hl) r2 hq) fun r s' hq'=>?_))
 cases r with
 |error e=>exact hx _ _ e s' I2 hq'
 |ok fl=>
  cases fl with
  |ret u=>
   obtain⟨v,H',I3,rv,ev,q3⟩:=I2.after hq';subst ev;exact⟨rv,⟨V.ref (s.heap.objs.size+1),H',I3,rfl,q3⟩⟩
  |next=>exact False.elim hq'
  |brk=>exact False.elim hq'
  |cont=>exact False.elim hq'
theorem aCu(M:Mk X.K C f)(F:kW X.prog X.w X.K X.mg X.base CX k f fd ps sp)(hr:cA (k+1) X.A)(hg:Gl X x)(hm:X.mg x=some (.ref C))(hb:Binds X.K fd ps ds)(hd:aW dvs ds)(hx:GZ CX X E)
 (ha:PA X (e::es) t) (hdb:(x==("__debug__":Str))=false:=by decide) (he:starEach (e::es) X.env=(false,eval e X.env)::starEach es X.env:=by rfl) (hpl:(backTo pos (starEach es X.env)).any (·.1)=false:=by rfl):
 PE X (.Call (.Name x p) (e::es) [] pos) (aEd C sp dvs E t):=by
 intro pins s σ H Q I h;refine L7 (rO I hg hm ?_ hdb);refine A0p (h₀:=X.base) I.ok.mod.kin M.kp (thn (ha pos pins s σ H _ I h) fun us s1 ⟨vs,H1,I1,r,q⟩=>⟨I1.kIn,?_⟩) he hpl;exact WV M F hr hb hd (hx pins σ) I1 r q
end
structure aQ(N P:List Str)(sc:Scope):Prop where
 kind:sc.kind=.function
 co:sc.isCoroutine=false
 gen:sc.isGenerator=false
 nd:N.Nodup
 pre:N.take P.length=P
 par:∀x∈P,sc.names.lookup x=some .local\/sc.names.lookup x=some .cell
 nofree:∀y∈sc.names,y.2≠.free
theorem DU{kindOf:Str->Option NameKind}{x:Str}:∀{binds:List (Str×Value)}{m:Str->Option Value},(∀v,(x,v)∉binds)->bindL kindOf binds m x=m x
 |[],_=>fun _=>rfl
 |(n,v)::r,m=>fun h=>by
  unfold bindL;rw[DU fun w hw=>h w (B3 _ hw)];split
  .have:x≠n:=by rintro rfl;exact h v B5
   simp[this]
  .rfl
theorem DJ{kindOf:Str->Option NameKind}{x:Str}:∀{binds:List (Str×Value)}{m:Str->Option Value},(∀v,(x,v)∉binds)->bindC kindOf binds m x=m x
 |[],_=>fun _=>rfl
 |(n,v)::r,m=>fun h=>by
  unfold bindC;rw[DJ fun w hw=>h w (B3 _ hw)];split
  .rfl
  .have:x≠n:=by rintro rfl;exact h v B5
   simp[this]
theorem ED{kindOf:Str->Option NameKind}{x:Str}{v:Value}:∀{P:List Str}{vs:List Value}{i:Nat}{m:Str->Option Value},P.Nodup->P[i]?=some x->vs[i]?=some v->kindOf x=some .local->
 bindL kindOf (P.zip vs) m x=some v
 |[],_,_,_=>fun _ h _ _=>by simp at h
 |_::_,[],_,_=>fun _ _ h _=>by simp at h
 |p::P,w::vs,0,m=>fun nd h1 h2 hk=>by
  simp at h1 h2;subst h1;subst h2;show bindL kindOf ((p,w)::P.zip vs) m p=_;unfold bindL;rw[DU fun v hv=>(List.nodup_cons.mp nd).1 (List.of_mem_zip hv).1,A9 hk];simp
 |p::P,w::vs,i+1,m=>fun nd h1 h2 hk=>by
  show bindL kindOf ((p,w)::P.zip vs) m x=_;unfold bindL;exact ED (i:=i) (List.nodup_cons.mp nd).2 (by simpa using h1) (by simpa using h2) hk
theorem DB{kindOf:Str->Option NameKind}{x:Str}{v:Value}:∀{P:List Str}{vs:List Value}{i:Nat}{m:Str->Option Value},P.Nodup->P[i]?=some x->vs[i]?=some v->kindOf x≠some .local->
 bindC kindOf (P.zip vs) m x=some v
 |[],_,_,_=>fun _ h _ _=>by simp at h
 |_::_,[],_,_=>fun _ _ h _=>by simp at h
 |p::P,w::vs,0,m=>fun nd h1 h2 hk=>by
  simp at h1 h2;subst h1;subst h2;show bindC kindOf ((p,w)::P.zip vs) m p=_;unfold bindC;rw[DJ fun v hv=>(List.nodup_cons.mp nd).1 (List.of_mem_zip hv).1,B2 hk];simp
 |p::P,w::vs,i+1,m=>fun nd h1 h2 hk=>by
  show bindC kindOf ((p,w)::P.zip vs) m x=_;unfold bindC;exact DB (i:=i) (List.nodup_cons.mp nd).2 (by simpa using h1) (by simpa using h2) hk
def start(N:List Str)(vs:List V):St:=vs.map some++List.replicate (N.length-vs.length) none
def mL(CX:CXT)(P:Program)(w:World)(K:Fg)(mg:Str->Option Value)(base:Heap)(N:List Str)(qual:Str)(scope:Scope)(f:Addr)(cd:Value)(A:Around)(outer:List Env)(s:Shared)(H:Hp)(E:XK)(q:Bool:=true):Cx where
 prog:=P
 w:=w
 K:=K
 mg:=mg
 base:=base
 A:=A.deeper (envOfC qual scope s.heap.objs.size f cd)
 N:=N
 s₀:=s
 H₀:=H
 env:=envOfC qual scope s.heap.objs.size f cd
 outer:=outer
 stack:=envOfC qual scope s.heap.objs.size f cd::outer
 ex:=[]
 calm:=q
 fn:=fun _=>true
 pn:=[]
 xe:=fun e s'=>wpAny (model P w) (A.deeper (envOfC qual scope s.heap.objs.size f cd)) (leaving (envOfC qual scope s.heap.objs.size f cd) e) (fun _ s''=>CX outer H s E e s'') (fun e' s''=>CX outer H s E e' s'') s'
theorem HZ{sc:Scope}{n:Nat}{x:Str}(h:sc.names.lookup x=some .cell):∃c,(cellsFrom n sc.names []).lookup x=some c:=by
 have q:=PySem.W.cellsFrom_some sc.names n [] (.inl h);exact Option.isSome_iff_exists.mp q
theorem SQ{CX:CXT}{P:Program}{w:World}{K:Fg}{mg:Str->Option Value}{base:Heap}{N ps:List Str}{qual:Str}{scope:Scope}{f:Addr}{cd:Value}{A:Around}{outer:List Env}{s s1:Shared}{H:Hp}{E:XK}{us:List Value}{vs:List V}{q:Bool}
 (S:aQ N ps scope) (hd:q=true->A.handled=none) (e0:OG P w K mg base A outer s H) (hl:vs.length=ps.length) (r:aW vs us)
 (x:InCallC s s.heap.objs.size (bindL (envOfC qual scope s.heap.objs.size f cd).kindOf (ps.zip us) fun _=>none) (cellsFrom (s.heap.objs.size+1) scope.names []) (bindC (envOfC qual scope s.heap.objs.size f cd).kindOf (ps.zip us) fun _=>none) s1):
 Inv (mL CX P w K mg base N qual scope f cd A outer s H E q) [] (start N vs) H s1:=by
 have hpl:ps.length<=N.length:=by have:=Y0 List.length S.pre;rw[List.length_take]at this;omega
 obtain⟨h1,tk,rfl,hk⟩:=x.done;have noA:∀b:Addr,b∉(mL CX P w K mg base N qual scope f cd A outer s H E q).ex:=fun b z=>absurd (show b∈([]:List Addr)from z) (by simp)
 refine⟨⟨e0.mod,S.kind,rfl,rfl,B0 _,fun y z c h1 h2=>?_,fun y hy=>?_,fun y c _ h=>?_,hd,Around.frames_deeper e0.frames,.inr ⟨rfl,rfl⟩,fun b z=>absurd z (noA b),e0.bs,e0.bsz,fun b _ _=>noA b,fun b z=>absurd z (noA b),e0.funs,e0.frf⟩,
  rfl,e0.bare,Un.kept hk,⟨_,x.toInCall.ns,fun i y v h1 h2 h3=>?_⟩,fun y c h=>⟨_,x.cell y c h⟩,e0.hok.fresh (B0 _),fun y c h=>?_,fun p hp=>absurd (show p∈([]:List (Addr×Obj))from hp) (by simp),e0.hok.kept hk,?_⟩
 .exact name_of_addr x.apart (F8 h1) (F8 h2)
 .have hy:scope.names.lookup y=some .cell\/scope.names.lookup y=some .free:=hy;rcases hy with hy|hy
  .exact HZ hy
  .exact absurd rfl (S.nofree _ (F8 hy))
 .exact Z8 (x.above y c (F8 h))
 .have hi:i<vs.length:=by
   unfold start at h2;by_cases hi:i<vs.length
   .exact hi
   .rw[I0 (by simpa using hi)]at h2;rw[List.getElem?_replicate]at h2;split at h2<;>cases h2
  have ha:vs[i]?=some v:=by
   unfold start at h2;rw[U1 (by simpa using hi),C8]at h2;cases e:vs[i]? with
   |none=>rw[e]at h2;cases h2
   |some a=>rw[e]at h2;cases h2;rfl
  obtain⟨u,hu,rv⟩:=r.get ha
  have hp:ps[i]?=some y:=by
   rw[<- S.pre,List.getElem?_take_of_lt (by omega)];exact h1
  have ndP:ps.Nodup:=by rw[<- S.pre];exact S.nd.sublist (List.take_sublist _ _)
  refine⟨u,rv,?_⟩;rcases S.par y (O9 hp)with k|k
  .exact .inl ⟨k,ED ndP hp hu k⟩
  .obtain⟨c,e⟩:=HZ (n:=s.heap.objs.size+1) k;refine .inr ⟨.inl k,c,e,?_⟩;have q:=x.cell y c e;rw[DB ndP hp hu (by show scope.names.lookup y≠_;rw[k];decide)]at q;exact q
 .exact e0.hok.fresh (Z8 (x.above y c (F8 h)))
 .unfold start;show _=N.length;rw[C3,A7,List.length_replicate];omega
theorem aEE{CX:CXT}{P:Program}{w:World}{K:Fg}{mg:Str->Option Value}{base:Heap}{k:Nat}{f:Addr}{name qual:Str}{params:Arguments}{body:List Stmt}{scope:Scope}{dV kV doc pm cdv ct oc:Value}{an od:Option Addr}
 {osl:Array (Option Value)} {N ps:List Str} {sp:Sp} {q:Bool} (lk:K.lookup f=some ⟨oc,od,.func (PySem.W.fnOf name qual params body scope dV kV doc pm an cdv ct),osl⟩) (hcd:PySem.W.codeIn K cdv qual=true) (S:aQ N ps scope)
 (len:∀vs H Q E,sp vs H Q E->vs.length=ps.length)
 (hbody:∀(A:Around)(outer:List Env)(s:Shared)(H:Hp)(vs:List V)(Q:VK)(E:XK),cA k (A.deeper (envOfC qual scope s.heap.objs.size f cdv)) q->sp vs H Q E->
  ∃t,PSs (mL CX P w K mg base N qual scope f cdv A outer s H E q) body t/\t { nx:=fun _ H'=>Q .non H',rt:=Q } (start N vs) H):
 kW P w K mg base CX (k+1) f (PySem.W.fnOf name qual params body scope dV kV doc pm an cdv ct) ps sp q:=by
 refine⟨len,fun A outer s H args us vs Q E hr e0 hb r hsp=>?_⟩;have hl:=len _ _ _ _ hsp;have KX:K.In s.heap:=e0.mod.kin.keeps fun b o e=>(e0.bs b o e).1;have lim:s.heap.NoLimit:=e0.mod.nolimit.keeps fun b o e=>(e0.bs b o e).1
 have hkind:∀y∈ps.zip us,scope.names.lookup y.1=some .local\/(scope.names.lookup y.1=some .cell/\((cellsFrom (s.heap.objs.size+1) scope.names []).lookup y.1).isSome=true):=fun⟨n,v⟩ hy=>by
  rcases S.par n (List.of_mem_zip hy).1 with q|q
  .exact .inl q
  .exact .inr ⟨q,PySem.W.cellsFrom_some _ _ _ (.inl q)⟩
 refine codeAny_call_function hr.depth (KX _ _ lk) rfl S.co S.gen rfl (PySem.W.codeRec_of KX hcd) (hb _ _ _ _ ?_);refine wpAny_newFunctionEnv_cells S.kind hkind fun env he s1 x=>?_;subst he;refine⟨lim.keeps x.toInCall.keep,codeAny_func ?_⟩;obtain⟨t,ht,hq⟩:=hbody A outer s H vs Q E (hr.deeper _) hsp;have I:Inv (mL CX P w K mg base N qual scope f cdv A outer s H E q) [] (start N vs) H s1:=SQ S hr.hd e0 hl r x;refine E3 (ht [] s1 (start N vs) H _ I hq) (fun fl s' hs=>?_) fun e s' hs=>hs
 have fin:∀{σ':St}{H':Hp}{v:V}{u:Value},Inv (mL CX P w K mg base N qual scope f cdv A outer s H E q) [] σ' H' s'->RelV v u->Q v H'->CE outer P w H s Q u s':=
  fun{σ' H' v u} J rv q=>⟨v,H',J.os,J.bare,J.base,J.hok,rv,q⟩
 cases fl with
 |ret u=>
  obtain⟨v,σ',H',J,rv,q⟩:=hs;exact fin J rv q
 |next=>
  obtain⟨σ',H',J,q⟩:=hs;exact fin (v:=V.non) (u:=Value.none) J rfl q
 |brk=>
  obtain⟨_,_,_,q⟩:=hs;exact False.elim q
 |cont=>
  obtain⟨_,_,_,q⟩:=hs;exact False.elim q
section
variable{X:Cx}{x:Str}{p pos:Pos}{e:Expr}{es:List Expr}{t:TA}{id T:String}{r:List V->Hp->VK->Prop}
def tCB(r:List V->Hp->VK->Prop)(t:TA):TE:=fun σ H Q=>t σ H fun vs H1=>r vs H1 Q
theorem uF(hc:eU X (.builtin id) r)(hg:Gl X x)(hm:X.mg x=none)(hv:bootBuiltins x=some (.builtin id))(ha:PA X (e::es) t)(hn:x≠"__name__":=by decide)(hdb:(x==("__debug__":Str))=false:=by decide)
 (he:starEach (e::es) X.env=(false,eval e X.env)::starEach es X.env:=by rfl) (hpl:(backTo pos (starEach es X.env)).any (·.1)=false:=by rfl):PE X (.Call (.Name x p) (e::es) [] pos) (tCB r t):=by
 intro pins s σ H Q I h;refine L7 (iR I hg hm hv ?_ hn hdb);exact A0e (thn (ha pos pins s σ H _ I h) fun us s1 ⟨vs,H1,I1,r1,q1⟩=>hc pins s1 σ H1 vs us Q I1 r1 q1) he hpl
theorem RM(hc:eU X (.type T) r)(hg:Gl X x)(hm:X.mg x=none)(hv:bootBuiltins x=some (.type T))(ha:PA X (e::es) t)(hn:x≠"__name__":=by decide)(hdb:(x==("__debug__":Str))=false:=by decide)
 (he:starEach (e::es) X.env=(false,eval e X.env)::starEach es X.env:=by rfl) (hpl:(backTo pos (starEach es X.env)).any (·.1)=false:=by rfl):PE X (.Call (.Name x p) (e::es) [] pos) (tCB r t):=by
 intro pins s σ H Q I h;refine L7 (iR I hg hm hv ?_ hn hdb);exact F7 (thn (ha pos pins s σ H _ I h) fun us s1 ⟨vs,H1,I1,r1,q1⟩=>hc pins s1 σ H1 vs us Q I1 r1 q1) he hpl
end
end L2
namespace HT
open PySem PyProof.Rows
def lexLt:List Int->List Int->Bool
 |[],[]=>false
 |[],_::_=>true
 |_::_,[]=>false
 |x::xs,y::ys=>if x=y then lexLt xs ys else decide (x<y)
theorem NX(x y:Int)(xs ys:List Int):lexLt (x::xs) (y::ys)=if x=y then lexLt xs ys else decide (x<y):=rfl
theorem CK:lexLt [] []=false:=rfl
theorem zO(y:Int)(ys:List Int):lexLt [] (y::ys)=true:=rfl
theorem yT(x:Int)(xs:List Int):lexLt (x::xs) []=false:=rfl
theorem aAL(A:Around)(s:Shared)(a:Int)(t:Tok)(c:Int)(u:Tok):∃e,SeqAt.EqAt A s (.int a t) (.int c u) e/\(e=true↔a=c):=
 ⟨(a==c),SeqAt.EqAt.int_int a t c u,by simp⟩
theorem YT(A:Around)(s:Shared)(a:Int)(t:Tok)(c:Int)(u:Tok)(prog:Program)(w:World)(E:Value->Shared->Prop)(Q:Value->Shared->Prop)(h:Q (.bool (decide (a<c))) s):
 wpAny (model prog w) A (richCompare .Lt (.int a t) (.int c u)) Q E s:=
 (PyProof.Rows.lt_int h:wpAny (model prog w) A (compareOp .Lt (.int a t) (.int c u)) Q E s)
section
open PySem.SeqAt
open PySem.AutoSeq1 (wpAny_loadPart')
open PySem.MeetsSeq PySem.MeetsSeq2 PySem.MeetsSeq3
theorem CM(l b:Addr)(items items2:Array Value)(n n2:Nat)(dd dd2:Option Addr)(sl sl2:Array (Option Value))(ns ms:List Int)(hi:IntsAre items.toList ns)(hj:IntsAre items2.toList ms):
 Meets (Builtin.«tuple.__lt__» ⟨[.ref l,.ref b],[]⟩)
  (fun _ R s=>s.heap.get? l=some { cls:=.type "tuple",dict:=dd,data:=.seq items n,slots:=sl }/\s.heap.get? b=some { cls:=.type "tuple",dict:=dd2,data:=.seq items2 n2,slots:=sl2 } /\
   R (.ok (.ret (.bool (lexLt ns ms)))) s):=
 .of_wp fun prog w A R s h=>by
  obtain⟨hp,g,d,tk,os⟩:=s;obtain⟨hl,hb,h⟩:=h;have f2:=AutoSeq1.sub_tuple_tuple;have z1:items.size=ns.length:=by rw[<- hi.length];simp
  have z2:items2.size=ms.length:=by rw[<- hj.length];simp
  wp_walk using A0b hl,A0b hb,wpAny_forIn_list _ (fun rest b s'=>b.1=none/\s'=⟨hp,g,d,tk,os⟩/\∃(vs ws:List Value)(ns' ms':List Int),rest=vs.zip ws /\
   IntsAre vs ns'/\IntsAre ws ms'/\ns'.length+items2.size=ms'.length+items.size/\R (.ok (.ret (.bool (lexLt ns' ms')))) ⟨hp,g,d,tk,os⟩) _
  case turn=>
   rintro⟨y,x⟩ rest b s' ⟨hb',rfl,vs,ws,ns',ms',hz,hvi,hwi,hlen,hR⟩;cases hvi with
   |nil=>rw[List.zip_nil_left]at hz;cases hz
   |cons a t hvi'=>
    cases hwi with
    |nil=>rw[List.zip_nil_right]at hz;cases hz
    |cons c u hwi'=>
     rw[List.zip_cons_cons]at hz;injection hz with hyx hrest
     injection hyx with hy hx
     subst hy hx;rw[NX]at hR;simp only[List.length_cons]at hlen;obtain⟨e,he,hiff⟩:=aAL A.in1 ⟨hp,g,d,tk,os⟩ a t c u;refine A3 (he prog w _ _ ?_);cases e with
     |true=>
      rw[A9 (hiff.mp rfl)]at hR
      wp_walk
      exact⟨rfl,rfl,_,_,_,_,hrest,hvi',hwi',by omega,hR⟩
     |false=>
      rw[B2 (fun q=>absurd (hiff.mpr q) B1)]at hR;have hri:=YT A.in1 ⟨hp,g,d,tk,os⟩ a t c u prog w
      wp_walk using hri
      exact⟨_,rfl,by simpa using hR⟩
  case fin=>
   rintro⟨b1,b2⟩ s' ⟨hb',rfl,vs,ws,ns',ms',hz,hvi,hwi,hlen,hR⟩;simp only at hb';subst hb'
   have hv:lexLt ns' ms'=decide (items.size<items2.size):=by
    cases hvi with
    |nil=>
     cases hwi with
     |nil=>
      simp only[List.length_nil]at hlen;rw[CK];exact(D8 (by omega)).symm
     |cons c u hw=>
      simp only[List.length_nil,List.length_cons]at hlen;rw[zO];exact(D3 (by omega)).symm
    |cons a t hv=>
     cases hwi with
     |nil=>
      simp only[List.length_nil,List.length_cons]at hlen;rw[yT];exact(D8 (by omega)).symm
     |cons c u hw=>
      rw[List.zip_cons_cons]at hz;cases hz
   rw[hv]at hR
   wp_walk
   exact⟨_,rfl,by simpa[Builtin.Tuple.tupleCompareSizes]using hR⟩
  case h=>
   exact⟨rfl,rfl,items.toList,items2.toList,ns,ms,rfl,hi,hj,by omega,h⟩
end
section
variable{prog:Program}{w:World}{A:Around}{E:Value->Shared->Prop}{s:Shared}
theorem lt_tupInts{l b:Addr}{items items2:Array Value}{ns ms:List Int}{Q:Value->Shared->Prop}(hl:IsTup s.heap l items)(hb:IsTup s.heap b items2)(hi:IntsAre items.toList ns)(hj:IntsAre items2.toList ms)
 (hu:A.units<cLine) (h:Q (.bool (lexLt ns ms)) s):wpAny (model prog w) A (compareOp .Lt (.ref l) (.ref b)) Q E s:=by
 obtain⟨⟨cls,dd,data,sl⟩,ho,hc,n,hd⟩:=id hl;obtain⟨⟨cls2,dd2,data2,sl2⟩,ho2,hc2,n2,hd2⟩:=id hb;simp only at hc hd hc2 hd2;subst hc hd hc2 hd2
 exact richCompare_meets_room (op:=.Lt) ⟨_,ho,rfl⟩ ⟨_,ho2,rfl⟩ PySem.F.slot_tuple_lt PySem.F.entry_tuple_lt (PySem.F.args_tuple_lt_2 _ _) (CM l b items items2 n n2 dd dd2 sl sl2 ns ms hi hj)
  ⟨ho,ho2,show Value.bool (lexLt ns ms)≠Value.notImplemented/\Q (.bool (lexLt ns ms)) s from⟨(fun x=>nomatch x),h⟩⟩ hu
theorem cat_tup{t b:Addr}{vs ws:List Value}{Q:Value->Shared->Prop}(ht:IsTup s.heap t vs.toArray)(hb:IsTup s.heap b ws.toArray)(hv:vs≠[])
 (h1:ws=[]->Q (.ref t) s) (h2:ws≠[]->Q (.ref s.heap.objs.size) { s with heap:=s.heap.push { cls:=.type "tuple",data:=.seq (vs++ws).toArray } })
 (hsz:vs.length+ws.length<=sizeLine):wpAny (model prog w) A (binaryOp .Add (.ref t) (.ref b)) Q E s:=by
 obtain⟨⟨cls,dd,data,sl⟩,ho,hc,n,hd⟩:=id ht;obtain⟨⟨cls2,dd2,data2,sl2⟩,ho2,hc2,n2,hd2⟩:=id hb;simp only at hc hd hc2 hd2;subst hc hd hc2 hd2;have e:vs.toArray++ws.toArray=(vs++ws).toArray:=by simp
 by_cases hw:ws=[]
 .exact concat_meets ⟨_,ho,rfl⟩ ⟨_,ho2,rfl⟩ noFill_tuple_add seq_tuple_add PySem.F.slot_tuple_add PySem.F.entry_tuple_add (PySem.F.args_tuple_add_2 _ _)
   (tuple_addW1 t b vs.toArray ws.toArray n n2 dd dd2 sl sl2 (by simpa using hv) (by simp[hw])) ⟨ho,ho2,h1 hw⟩
 .refine concat_meets ⟨_,ho,rfl⟩ ⟨_,ho2,rfl⟩ noFill_tuple_add seq_tuple_add PySem.F.slot_tuple_add PySem.F.entry_tuple_add (PySem.F.args_tuple_add_2 _ _)
   (tuple_addW2 t b vs.toArray ws.toArray n n2 dd dd2 sl sl2 (by simpa using hv) (by simpa using hw) (by rw[C0,C0];exact hsz)) ⟨ho,ho2,?_⟩
  rw[e];exact h2 hw
def sIx(n d:Nat):Option Int->Nat
 |none=>d
 |some v=>if v<0 then(v+(n:Int)).toNat else min v.toNat n
theorem sIx_none(n d:Nat):sIx n d none=d:=rfl
theorem sIx_nat(n d k:Nat):sIx n d (some (k:Int))=min k n:=by
 show(if (k:Int)<0 then((k:Int)+(n:Int)).toNat else min (k:Int).toNat n)=min k n;rw[B2 (by omega),L3]
theorem aGD(n d:Nat)(hd:d<=n)(o:Option Int):sIx n d o<=n:=by
 cases o with
 |none=>exact hd
 |some v=>
  show(if v<0 then(v+(n:Int)).toNat else min v.toNat n)<=n;by_cases hv:v<0
  .rw[A9 hv];omega
  .rw[B2 hv];exact Nat.min_le_right _ _
theorem QC(v:Int)(n d:Nat):(if v<0 then max (v+(n:Int)) 0 else min v (n:Int))=((sIx n d (some v):Nat):Int):=by
 show(if v<0 then max (v+(n:Int)) 0 else min v (n:Int))=(((if v<0 then(v+(n:Int)).toNat else min v.toNat n):Nat):Int);by_cases hv:v<0
 .simp only[if_pos hv];omega
 .simp only[if_neg hv];omega
theorem NJ(lo hi:Option Int)(n:Nat):Builtin.Slice.sliceAdjust lo hi 1 (n:Int)=(((sIx n 0 lo:Nat):Int),((sIx n n hi:Nat):Int)):=by
 have h1:¬((1:Int)<0):=by omega
 unfold Builtin.Slice.sliceAdjust;simp only[h1,if_false];refine Prod.ext ?_ ?_
 .cases lo with
  |none=>rfl
  |some v=>exact QC v n 0
 .cases hi with
  |none=>rfl
  |some v=>exact QC v n n
theorem NZ(i j:Nat):Builtin.Slice.slicePlaces (i:Int) (j:Int) 1=j-i:=by
 unfold Builtin.Slice.slicePlaces;have h1:(1:Int) > 0:=by omega
 simp only[h1,if_true,Int.ediv_one];split<;>omega
theorem sY{v:Value}{o:Option Int}{Q:Option Int->Shared->Prop}(p:IsPart v o)(h:Q o s):wpAny (model prog w) A (Builtin.Slice.slicePartIndex v) Q E s:=by
 cases p with
 |none=>exact slicePart_none h
 |int i t=>exact slicePart_int h
theorem nI{sl:Addr}{vl vu:Value}{lo hi:Option Int}{n:Nat}{Q:Int×Int×Nat->Shared->Prop}(hs:s.heap.IsSliceOf sl vl vu .none)(pl:IsPart vl lo)(pu:IsPart vu hi)
 (h:Q (((sIx n 0 lo:Nat):Int),1,sIx n n hi-sIx n 0 lo) s):wpAny (model prog w) A (Builtin.Slice.sliceApplied (.ref sl) (pure (n:Int))) Q E s:=by
 obtain⟨os,hos,hcs,hds⟩:=id hs;unfold Builtin.Slice.sliceApplied Builtin.Slice.sliceFields;refine A3 (A3 (D7 hos hds (x:=vl) rfl (A3 (D7 hos hds (x:=vu) rfl (A3 (D7 hos hds (x:=.none) rfl (A6 ?_)))))));refine A3 (slicePart_none ?_);show wpAny _ _ (if ((1:Int)==0)=true then _ else _) _ _ s;rw[B2 (by decide)];refine A3 (sY pl (A3 (sY pu (A3 (A6 ?_)))));show wpAny _ _ (match Builtin.Slice.sliceAdjust lo hi 1 (n:Int)with|(lo,hi)=>pure (lo,(1:Int),Builtin.Slice.slicePlaces lo hi 1)) _ _ s;rw[NJ lo hi n];show wpAny _ _ (pure (((sIx n 0 lo:Nat):Int),(1:Int),Builtin.Slice.slicePlaces ((sIx n 0 lo:Nat):Int) ((sIx n n hi:Nat):Int) 1)) _ _ s;rw[NZ];exact A6 h
theorem aAE(xs:Array Value)(i k:Nat):((List.range k).filterMap fun(m:Nat)=>xs[((i:Int)+(m:Int)*1).toNat]?).toArray=((xs.toList.drop i).take k).toArray:=by
 have e:(fun(m:Nat)=>xs[((i:Int)+(m:Int)*1).toNat]?)=fun m=>xs[i+m]?:=by
  funext m;have:((i:Int)+(m:Int)*1).toNat=i+m:=by omega
  rw[this]
 rw[e];have:=pick_run xs i k;rw[List.filterMap_map]at this;have e2:((fun x=>xs[x]?) ∘ fun x=>i+x)=fun m=>xs[i+m]?:=rfl;rw[e2]at this;rw[this]
theorem getItem_tuple_cut{t sl:Addr}{items:Array Value}{vl vu:Value}{lo hi:Option Int}{Q:Value->Shared->Prop}(ht:IsTup s.heap t items)(hs:s.heap.IsSliceOf sl vl vu .none)(pl:IsPart vl lo)(pu:IsPart vu hi)
 (hw:¬(sIx items.size 0 lo=0/\sIx items.size items.size hi=items.size))
 (h:Q (.ref s.heap.objs.size) { s with heap:=s.heap.push { cls:=.type "tuple",data:=.seq ((items.toList.drop (sIx items.size 0 lo)).take (sIx items.size items.size hi-sIx items.size 0 lo)).toArray } })
 (hsz:items.size<=sizeLine):wpAny (model prog w) A (getItem (.ref t) (.ref sl)) Q E s:=by
 have htake:sizeOk (.seq ((items.toList.drop (sIx items.size 0 lo)).take (sIx items.size items.size hi-sIx items.size 0 lo)).toArray):=by
  show((items.toList.drop (sIx items.size 0 lo)).take (sIx items.size items.size hi-sIx items.size 0 lo)).toArray.size<=sizeLine;rw[C0,List.length_take,List.length_drop,C6];omega
 have hj:sIx items.size items.size hi<=items.size:=aGD _ _ (B0 _) hi;obtain⟨os,hos,hcs,hds⟩:=id hs;have hTs:s.TypeIs (.ref sl) "slice":=⟨os,hos,hcs⟩;unfold getItem
 try with_reducible refine E7 ?_
 first|refine A3 (A6 ?_)|skip
 refine A3 (wpAny_sequenceKey ht.typeIs (by decide) ?_)
 refine A3 (E6 (name:=Str.ofString "__getitem__") ht.typeIs J8
  (E4 J8 ht.typeIs entry_tuple_getitem ?_ (args_tuple_getitem _ _)))
 show wpAny _ _ (Builtin.Tuple.tupleItemsOf (.ref t) >>= _) _ _ s;refine A3 (tupleItemsOf_ ht ?_);refine A3 (Y7 hTs ?_);rw[A9 (by decide)];refine A3 (nI hs pl pu ?_)
 have hno:¬((((sIx items.size 0 lo:Nat):Int)==0&&(1:Int)==1&&(sIx items.size items.size hi-sIx items.size 0 lo)==items.size)=true):=by
  intro q;rw[B7,B7]at q;have q1:((sIx items.size 0 lo:Nat):Int)=0:=eq_of_beq q.1.1;have q2:sIx items.size items.size hi-sIx items.size 0 lo=items.size:=eq_of_beq q.2;exact hw ⟨by omega,by omega⟩
 show wpAny _ _ (if (((sIx items.size 0 lo:Nat):Int)==0&&(1:Int)==1&&(sIx items.size items.size hi-sIx items.size 0 lo)==items.size)=true then _ else _) _ _ s;rw[B2 hno,aAE]
 first
  |exact A3 (m:=Builtin.Tuple.tupleExact _) (C4 (A6 ⟨_,rfl,A6 h⟩) htake)
  |exact A3 (m:=Builtin.Tuple.tupleExact _) (C4 (A3 (A6 (A6 ⟨_,rfl,A6 h⟩))) htake)
  |exact A3 (A3 (m:=Builtin.Tuple.tupleExact _) (C4 (A6 (A6 ⟨_,rfl,A6 h⟩)) htake))
  |exact A3 (A3 (m:=Builtin.Tuple.tupleExact _) (C4 (A6 ⟨_,rfl,A6 h⟩) htake))
end
end HT
namespace L2
variable{H:Hp}{σ:St}{s:Shared}{pos:Pos}
open PySem PySem.Spec PyProof.Rows
abbrev TO:=St->Hp->(Option Int->Hp->Prop)->Prop
def PO(X:Cx)(e:Option Expr)(t:TO):Prop:=
 ∀(pins:List (Addr×Obj))(s:Shared)(σ:St)(H:Hp)(Q:Option Int->Hp->Prop),Inv X pins σ H s->t σ H Q->
  wpAny (model X.prog X.w) X.A (evalPart e X.env) (fun u s'=>∃o H',Inv X pins σ H' s'/\IsPart u o/\Q o H') X.xe s
def QM:TO:=fun _ H Q=>Q none H
def aEt(t:TE):TO:=fun σ H Q=>t σ H fun x H1=>∃i,x=.int i/\Q (some i) H1
theorem intsAre_of{ns:List Int}:∀{us:List Value},aW (ns.map V.int) us->IntsAre us ns:=by
 induction ns with
 |nil=>intro us r;rw[List.map_nil]at r;cases r;exact .nil
 |cons n ns ih=>
  intro us r;rw[C7]at r;cases r with
  |cons r1 r2=>
   obtain⟨t,e⟩:=r1;subst e;exact .cons n t (ih r2)
section
variable{X:Cx}{e:Expr}{te:TE}{lo hi:Option Expr}{tl th:TO}{pos p2:Pos}
theorem aDg:PO X none QM:=by
 intro pins s σ H Q I h;rw[evalPart_none];exact A6 ⟨none,H,I,.none,h⟩
theorem aBI(h:PE X e te):PO X (some e) (aEt te):=by
 intro pins s σ H Q I hw;rw[evalPart_some];refine thn (h pins s σ H _ I hw) fun u s1 ⟨x,H1,I1,r1,q1⟩=>?_;obtain⟨i,rfl,q⟩:=q1;obtain⟨t,rfl⟩:=r1;exact⟨some i,H1,I1,.int i t,q⟩
def SlR(X:Cx)(r:V->Option Int->Option Int->Hp->VK->Prop):Prop:=
 ∀(pins:List (Addr×Obj))(s:Shared)(σ:St)(H:Hp)(x:V)(v vl vu:Value)(lo hi:Option Int)(sl:Addr)(Q:VK),Inv X pins σ H s->RelV x v->s.heap.IsSliceOf sl vl vu .none->IsPart vl lo->IsPart vu hi->r x lo hi H Q->
  ∃T id,typeLookup (.type T) "__getitem__"=pure (some (.builtin id))/\s.TypeIs v T/\wpAny (model X.prog X.w) X.A (getItem v (.ref sl)) (EP X pins σ Q) X.xe s
theorem SlR.or{r r':V->Option Int->Option Int->Hp->VK->Prop}(h:SlR X r)(h':SlR X r'):SlR X (fun x lo hi H Q=>r x lo hi H Q\/r' x lo hi H Q):=by
 intro pins s σ H x v vl vu lo hi sl Q I rx hs pl pu q;rcases q with q|q
 .exact h pins s σ H x v vl vu lo hi sl Q I rx hs pl pu q
 .exact h' pins s σ H x v vl vu lo hi sl Q I rx hs pl pu q
def tSl(r:V->Option Int->Option Int->Hp->VK->Prop)(te:TE)(tl th:TO):TE:=fun σ H Q=>te σ H fun x H1=>tl σ H1 fun l H2=>th σ H2 fun u H3=>r x l u H3 Q
theorem XU{r:V->Option Int->Option Int->Hp->VK->Prop}(hr:SlR X r)(he:PE X e te)(hl:PO X lo tl)(hu:PO X hi th):PE X (.Subscript e (.Slice lo hi none p2) pos) (tSl r te tl th):=by
 intro pins s σ H Q I h;refine Subscript_ (thn (he pins s σ H _ I h) fun v s1 ⟨x,H1,I1,r1,q1⟩=>?_);refine wpAny_Slice (thn (hl pins s1 σ H1 _ I1 q1) fun vl s2 ⟨l,H2,I2,pl,q2⟩=>thn (hu pins s2 σ H2 _ I2 q2) fun vu s3 ⟨u,H3,I3,pu,q3⟩=>?_);rw[evalPart_none];refine A6 ?_;have I4:Inv X pins σ H3 { s3 with heap:=s3.heap.push { cls:=.type "slice",data:=.fields #[vl,vu,.none] } }:=I3.kept (t':=s3.toks) fun b ob q=>A4 _ q;obtain⟨T,id,hT,ht,hg⟩:=hr pins { s3 with heap:=s3.heap.push { cls:=.type "slice",data:=.fields #[vl,vu,.none] } } σ H3 x v vl vu l u s3.heap.objs.size Q I4 r1 (Heap.IsSliceOf.new ..) pl pu q3;show wpAny (model X.prog X.w) X.A (subscriptTail e (.Slice lo hi none p2) v (.ref s3.heap.objs.size)) (EP X pins σ Q) X.xe { s3 with heap:=s3.heap.push { cls:=.type "slice",data:=.fields #[vl,vu,.none] } };exact tail_any (ops:=[.ref s3.heap.objs.size,v]) ht hT hg (by with_unfolding_all rfl)
def wG(xs:List V)(lo hi:Option Int):List V:=(xs.drop (HT.sIx xs.length 0 lo)).take (HT.sIx xs.length xs.length hi-HT.sIx xs.length 0 lo)
theorem xG(xs:List V)(lo hi:Option Int):(wG xs lo hi).length<=xs.length:=by
 unfold wG;rw[List.length_take,List.length_drop];omega
def aJc(K:Fg):V->Option Int->Option Int->Hp->VK->Prop:=fun x lo hi H Q=>∃a xs,x=.ref a/\SqT K H a xs /\
 ¬(HT.sIx xs.length 0 lo=0/\HT.sIx xs.length xs.length hi=xs.length)/\∀p,H p=none->Q (.ref p) (upd H p (.tup (wG xs lo hi)))
theorem sl_tup:SlR X (aJc X.K):=by
 intro pins s σ H x v vl vu lo hi sl Q I rx hs pl pu h;obtain⟨a,xs,rfl,hx,hw,q⟩:=h;cases rx;obtain⟨its,r,ht,hz⟩:=I.tuple hx;have hlen:its.toArray.size=xs.length:=by rw[C0];exact r.length.symm
 refine⟨"tuple",_,PyProof.Rows.slot_tuple_getitem.lookup,ht.typeIs,?_⟩;refine HT.getItem_tuple_cut ht hs pl pu (by rw[hlen];exact hw) ?_ (by rw[hlen];exact hz);rw[hlen];refine⟨.ref s.heap.objs.size,_,I.laid (t':=s.toks) (o:=.tup (wG xs lo hi)) (fun b ob q=>A4 _ q) (B0 _) ?_,rfl,q _ (I.hok.fresh (B0 _))⟩;exact⟨D0 (xG xs lo hi) hz,_,(r.drop (HT.sIx xs.length 0 lo)).take (HT.sIx xs.length xs.length hi-HT.sIx xs.length 0 lo),IsTup.new _ _⟩
def WA(K:Fg):R2:=fun x y H Q=>∃a b xs ys,x=.ref a/\y=.ref b/\SqT K H a xs/\SqT K H b ys/\xs≠[]/\xs.length+ys.length<=sizeLine /\
 (ys=[]->Q (.ref a) H)/\(ys≠[]->∀p,H p=none->Q (.ref p) (upd H p (.tup (xs++ys))))
theorem aW.nil_iff{xs:List V}{us:List Value}(r:aW xs us):us=[]↔xs=[]:=by
 cases r with
 |nil=>simp
 |cons _ _=>simp
theorem aDF:OpR X (binaryOp .Add) (WA X.K):=by
 intro pins s σ H x y v u Q I rx ry h;obtain⟨a,b,xs,ys,rfl,rfl,ha,hb,hx,hz,q1,q2⟩:=h;cases rx;cases ry;obtain⟨its,r1,p1,_⟩:=I.tuple ha;obtain⟨its2,r2,p2,_⟩:=I.tuple hb;refine HT.cat_tup p1 p2 (fun z=>hx (r1.nil_iff.mp z)) (fun z=>⟨.ref a,H,I,rfl,q1 (r2.nil_iff.mp z)⟩) (fun z=>?_) (by rw[<- r1.length,<- r2.length];exact hz);refine⟨.ref s.heap.objs.size,_,I.laid (t':=s.toks) (o:=.tup (xs++ys)) (fun b ob q=>A4 _ q) (B0 _) ?_,rfl,q2 (fun w=>z (r2.nil_iff.mpr w)) _ (I.hok.fresh (B0 _))⟩;exact⟨by rw[C3];exact hz,_,r1.append r2,IsTup.new _ _⟩
end
def ixN(n:Nat)(i:Int):Option Nat:=if 0<=i then(if i<n then some i.toNat else none)else if -(n:Int)<=i then some (i+n).toNat else none
def atI{α:Type}(xs:List α)(i:Int):Option α:=(ixN xs.length i).bind fun j=>xs[j]?
theorem QU{n:Nat}{i:Int}{j:Nat}(h:ixN n i=some j):seqIndex? i n=some j/\j<n/\-(n:Int)<=i/\i<n:=by
 unfold ixN at h;by_cases h0:0<=i
 .rw[A9 h0]at h;by_cases h1:i<n
  .rw[A9 h1]at h;have e:i.toNat=j:=E2 h;exact⟨by rw[seqIndex_of h0 h1,e],by omega,by omega,h1⟩
  .rw[B2 h1]at h;cases h
 .rw[B2 h0]at h;by_cases h1:-(n:Int)<=i
  .rw[A9 h1]at h;have e:(i+n).toNat=j:=E2 h;exact⟨by rw[seqIndex_neg (by omega) h1,e],by omega,h1,by omega⟩
  .rw[B2 h1]at h;cases h
theorem FC{α:Type}{xs:List α}{i:Int}{v:α}(h:atI xs i=some v):∃j,seqIndex? i xs.length=some j/\xs[j]?=some v/\j<xs.length/\-(xs.length:Int)<=i/\i<xs.length:=by
 unfold atI at h;cases e:ixN xs.length i with
 |none=>rw[e]at h;cases h
 |some j=>
  rw[e]at h;obtain⟨h1,h2,h3,h4⟩:=QU e;exact⟨j,h1,h,h2,h3,h4⟩
theorem xZ{α:Type}{xs:List α}{j:Nat}{v:α}(h:xs[j]?=some v):atI xs (j:Int)=some v:=by
 have hj:j<xs.length:=(List.getElem?_eq_some_iff.mp h).1
 have e:ixN xs.length (j:Int)=some j:=by
  unfold ixN;rw[A9 (by omega),A9 (by omega)];simp
 unfold atI;rw[e];exact h
def PU(b:Expr):Prop:=∀o i,subscripted b false o i=operate [o,i] (getItem o i)
def IxR(X:Cx)(r:R2):Prop:=
 ∀(value slice:Expr)(pins:List (Addr×Obj))(s:Shared)(σ:St)(H:Hp)(x y:V)(v u:Value)(Q:VK),Inv X pins σ H s->RelV x v->RelV y u->r x y H Q->
  subscripted slice false v u=operate [v,u] (getItem v u)->wpAny (model X.prog X.w) X.A (subscriptTail value slice v u) (EP X pins σ Q) X.xe s
def MtR(X:Cx)(id:String)(r:V->List V->Hp->VK->Prop):Prop:=
 ∀(pins:List (Addr×Obj))(s:Shared)(σ:St)(H:Hp)(x:V)(xs:List V)(v:Value)(us:List Value)(Q:VK),Inv X pins σ H s->RelV x v->aW xs us->r x xs H Q->
  wpAny (model X.prog X.w) X.A (call (.builtin id) (v::us)) (EP X pins σ Q) X.xe s
section
variable{X:Cx}{a b:Expr}{ta tb:TE}{pos:Pos}
theorem IxR.or{r r':R2}(h:IxR X r)(h':IxR X r'):IxR X (fun x y H Q=>r x y H Q\/r' x y H Q):=by
 intro value slice pins s σ H x y v u Q I rx ry q hs;rcases q with q|q
 .exact h value slice pins s σ H x y v u Q I rx ry q hs
 .exact h' value slice pins s σ H x y v u Q I rx ry q hs
theorem aIE{r:R2}(hr:IxR X r)(ha:PE X a ta)(hb:PE X b tb)(hs:PU b):PE X (.Subscript a b pos) (tOp r ta tb):=by
 intro pins s σ H Q I h;exact Subscript_ (aFG ha hb I h fun v u s2 x y H2 I2 rx ry q=>hr a b pins s2 σ H2 x y v u Q I2 rx ry q (hs _ _))
def aJA(K:Fg):R2:=fun x y H Q=>∃p xs i v,x=.ref p/\y=.int i/\SqL K H p xs/\atI xs i=some v/\Q v H
def aIq(K:Fg):R2:=fun x y H Q=>∃p xs i v,x=.ref p/\y=.int i/\SqT K H p xs/\atI xs i=some v/\Q v H
def aIh:R2:=fun x y H Q=>∃z i c,x=.str z/\y=.int i/\z.length<=sizeLine/\atI z.cps.toList i=some c/\Q (.str ⟨#[c]⟩) H
theorem ix_list:IxR X (aJA X.K):=by
 intro value slice pins s σ H x y v u Q I rx ry h hs;obtain⟨p,xs,i,z,rfl,rfl,hq,he,q⟩:=h;cases rx;obtain⟨t,rfl⟩:=ry;obtain⟨its,r,pl,hz⟩:=I.list hq;obtain⟨j,h1,h2,h3,h4,h5⟩:=FC he;obtain⟨w,ew,rw'⟩:=r.get h2;have hl:=r.length;have hn:=vU;have fin:EP X pins σ Q w s:=⟨z,H,I,rw',q⟩;by_cases h0:0<=i
 .have hj:i.toNat=j:=by
   rw[seqIndex_of h0 h5]at h1;exact E2 h1
  exact item_listR pl.isList h0 (by omega) (by rw[hj];simpa using ew) fin hs
 .have hj:(i+(its.toArray.size:Int)).toNat=j:=by
   rw[seqIndex_neg (by omega) h4]at h1;rw[C0,<- hl];exact E2 h1
  exact subscriptTail_builtinR (x:=w) pl.isList.typeIs slot_list_getitem.lookup
   (wpAny_getItem_list_neg (Q:=fun r s'=>r=w/\EP X pins σ Q r s') pl.isList (by omega) (by rw[C0]<;>omega) (by omega) (by rw[hj];simpa using ew) ⟨rfl,fin⟩) hs
theorem ix_tup:IxR X (aIq X.K):=by
 intro value slice pins s σ H x y v u Q I rx ry h hs;obtain⟨p,xs,i,z,rfl,rfl,hq,he,q⟩:=h;cases rx;obtain⟨t,rfl⟩:=ry;obtain⟨its,r,pl,hz⟩:=I.tuple hq;obtain⟨j,h1,h2,h3,h4,h5⟩:=FC he;obtain⟨w,ew,rw'⟩:=r.get h2;have hl:=r.length;have hn:=vU;have fin:EP X pins σ Q w s:=⟨z,H,I,rw',q⟩
 exact subscriptTail_builtinR (x:=w) pl.typeIs slot_tuple_getitem.lookup
  (getItem_tuple (j:=j) (Q:=fun r s'=>r=w/\EP X pins σ Q r s') pl (by omega) (by omega) (by rw[C0,<- hl];exact h1) (by simpa using ew) ⟨rfl,fin⟩) hs
theorem aHC:IxR X aIh:=by
 intro value slice pins s σ H x y v u Q I rx ry h hs;obtain⟨z,i,c,rfl,rfl,hz,he,q⟩:=h;obtain⟨t,rfl⟩:=rx;obtain⟨t',rfl⟩:=ry;obtain⟨j,h1,h2,h3,h4,h5⟩:=FC he;have hl:z.cps.toList.length=z.length:=by simp[Str.length]
 rw[hl]at h1 h4 h5;have hn:=vU
 exact tail_any (typeIs_str s z t) slot_str_getitem.lookup (getItem_str (c:=c) (by
  have e1:decide (i < -(2 ^ 63:Int))=false:=D8 (by omega);have e2:decide (i>=2 ^ 63)=false:=D8 (by omega);rw[e1,e2,Bool.or_false]) (by rw[h1];simpa using h2) ⟨.str ⟨#[c]⟩,H,I.tok _,⟨_,rfl⟩,q⟩) hs
def rIx(K:Fg):R2:=fun x y H Q=>aJA K x y H Q\/aIq K x y H Q\/aIh x y H Q
theorem aGb:IxR X (rIx X.K):=ix_list.or (ix_tup.or aHC)
theorem OI(its:List Value)(n j:Nat)(u:Value):Obj.mapSeq (·.setIfInBounds j u) { cls:=.type "list",data:=.seq its.toArray n }={ cls:=.type "list",data:=.seq (its.set j u).toArray n }:=by
 simp[Obj.mapSeq]
theorem Inv.lst{pins:List (Addr×Obj)}{p:Addr}{xs:List V}(I:Inv X pins σ H s)(h:H p=some (.lst xs)):
 ∃(its:List Value)(n:Nat),aW xs its/\s.heap.get? p=some { cls:=.type "list",data:=.seq its.toArray n }/\xs.length<=sizeLine:=by
 obtain⟨z,its,n,r,e⟩:=I.hok p _ h;exact⟨its,n,r,e,z⟩
theorem Inv.lstUpd{pins:List (Addr×Obj)}{p:Addr}{xs ys:List V}{its its':List Value}{n n':Nat}{f:Obj->Obj}(I:Inv X pins σ H s)(h:H p=some (.lst xs))
 (ho:s.heap.get? p=some { cls:=.type "list",data:=.seq its.toArray n }) (hf:f { cls:=.type "list",data:=.seq its.toArray n }={ cls:=.type "list",data:=.seq its'.toArray n' }) (r:aW ys its') (hz:ys.length<=sizeLine) (t:Nat):
 Inv X pins σ (upd H p (.lst ys)) { s with heap:=s.heap.update p f,toks:=t }:=by
 have e:(s.heap.update p f).get? p=some { cls:=.type "list",data:=.seq its'.toArray n' }:=by
  rw[E8 f ho (by rw[hf]<;>rfl),hf]
 refine I.write (x:=p) (e:=p) (by rw[h];trivial) (.inl rfl) (fun b u hb q=>(J2 _ _ (L6 hb)).trans q) ⟨_,e⟩ ?_;exact⟨hz,its',n',r,e⟩
def aEe:V->V->V->Hp->(Hp->Prop)->Prop:=fun o i v H Q=>∃p xs k j,o=.ref p/\i=.int k/\H p=some (.lst xs)/\ixN xs.length k=some j/\Q (upd H p (.lst (xs.set j v)))
theorem set_list:aFR X aEe:=by
 intro pins s σ H o i v ov iv u Q I ro ri rv h;obtain⟨p,xs,k,j,rfl,rfl,hp,hj,q⟩:=h;cases ro;obtain⟨t,rfl⟩:=ri;obtain⟨its,n,r,ho,hz⟩:=I.lst hp;obtain⟨h1,h2,h3,h4⟩:=QU hj;have hl:=r.length;have hn:=vU
 have I':Inv X pins σ (upd H p (.lst (xs.set j v))) { s with heap:=s.heap.update p (Obj.mapSeq (·.setIfInBounds j u)) }:=
  I.lstUpd hp ho (OI its n j u) (r.set rv j) (by rw[U2];exact hz) s.toks
 by_cases h0:0<=k
 .have hk:k.toNat=j:=by
   rw[seqIndex_of h0 h4]at h1;exact E2 h1
  exact PySem.W.ki_setAt ho h0 (by omega) (by rw[C0,<- hl];exact h4) (by rw[hk];exact⟨_,I',q⟩)
 .have hk:(k+(its.toArray.size:Int)).toNat=j:=by
   rw[seqIndex_neg (by omega) h3]at h1;rw[C0,<- hl];exact E2 h1
  exact PySem.W.ki_setBack ho (by omega) (by rw[C0,<- hl];exact h3) (by omega) (by rw[hk];exact⟨_,I',q⟩)
theorem FP(lo hi:Option Int)(n:Nat):(sliceBounds lo hi none n).1=((HT.sIx n 0 lo:Nat):Int)/\(sliceBounds lo hi none n).2.1=((HT.sIx n n hi:Nat):Int)/\(sliceBounds lo hi none n).2.2=1:=by
 refine⟨?_,?_,rfl⟩
 .cases lo with
  |none=>simp[sliceBounds,HT.sIx]
  |some i=>
   simp only[sliceBounds,HT.sIx,Option.getD_none,show(1:Int) > 0 by decide,if_true];by_cases h:i<0
   .simp only[h,if_true]<;>omega
   .simp only[h,if_false]<;>omega
 .cases hi with
  |none=>simp[sliceBounds,HT.sIx]
  |some i=>
   simp only[sliceBounds,HT.sIx,Option.getD_none,show(1:Int) > 0 by decide,if_true];by_cases h:i<0
   .simp only[h,if_true]<;>omega
   .simp only[h,if_false]<;>omega
theorem CH(its:List Value)(lo hi:Option Int):slicePick its.toArray lo hi none=((its.drop (HT.sIx its.length 0 lo)).take (HT.sIx its.length its.length hi-HT.sIx its.length 0 lo)).toArray:=by
 obtain⟨h1,h2,h3⟩:=FP lo hi its.toArray.size;unfold slicePick;rw[h1,h2,h3];simp only[sliceRange_one,pick_run,List.size_toArray]<;>rfl
def aIX(K:Fg):V->Option Int->Option Int->Hp->VK->Prop:=fun x lo hi H Q=>∃a xs,x=.ref a/\SqL K H a xs/\∀p,H p=none->Q (.ref p) (upd H p (.lst (wG xs lo hi)))
theorem sl_list:SlR X (aIX X.K):=by
 intro pins s σ H x v vl vu lo hi sl Q I rx hs pl pu h;obtain⟨a,xs,rfl,hx,q⟩:=h;cases rx;obtain⟨its,r,ht,hz⟩:=I.list hx;have hlen:=r.length;refine⟨"list",_,slot_list_getitem.lookup,ht.isList.typeIs,?_⟩;refine wpAny_getItem_list_slice ht.isList hs pl pu .none (by simp) ?_ (by rw[C0]<;>omega);rw[CH,<- hlen];refine⟨.ref s.heap.objs.size,_,I.laid (t':=s.toks) (o:=.lst (wG xs lo hi)) (fun b ob q=>A4 _ q) (B0 _) ?_,rfl,q _ (I.hok.fresh (B0 _))⟩;exact⟨D0 (xG xs lo hi) hz,_,0,(r.drop (HT.sIx xs.length 0 lo)).take (HT.sIx xs.length xs.length hi-HT.sIx xs.length 0 lo),B6 _ rfl⟩
theorem GK:eU X (.builtin "len") (fun xs H Q=>∃p ys,xs=[.ref p]/\(SqL X.K H p ys\/SqT X.K H p ys)/\Q (.int ys.length) H):=by
 intro pins s σ H xs us Q I r h;obtain⟨p,ys,rfl,hq,q⟩:=h;obtain⟨u,rfl,rx⟩:=vals1 r;cases rx;have hn:=vU;rcases hq with hq|hq
 .obtain⟨its,r',pl,hz⟩:=I.list hq;have hlen:=r'.length;exact Calls.call_len_list pl.isList (by simp only[List.size_toArray]<;>omega) ⟨.int ys.length,H,I.tok _,⟨s.toks+1,by rw[C0,hlen]⟩,q⟩
 .obtain⟨its,r',pl,hz⟩:=I.tuple hq;have hlen:=r'.length;exact len_tuple pl (by simp only[List.size_toArray]<;>omega) ⟨.int ys.length,H,I.tok _,⟨s.toks+1,by rw[C0,hlen]⟩,q⟩
theorem FI:eU X (.type "list") (fun xs H Q=>∃p ys,xs=[.ref p]/\(SqL X.K H p ys\/SqT X.K H p ys)/\∀l,H l=none->Q (.ref l) (upd H l (.lst ys))):=by
 intro pins s σ H xs us Q I r h;obtain⟨p,ys,rfl,hq,q⟩:=h;obtain⟨u,rfl,rx⟩:=vals1 r;cases rx
 have fin:∀(its:List Value),aW ys its->ys.length<=sizeLine->∀(h':Heap)(c':Nat),(∀b o',s.heap.get? b=some o'->h'.get? b=some o')->
  h'.get? s.heap.objs.size=some { cls:=.type "list",dict:=none,data:=.seq its.toArray c',slots:=#[] }->EP X pins σ Q (.ref s.heap.objs.size) { s with heap:=h' }:=fun its r' hz h' c' kp e=>
  ⟨.ref s.heap.objs.size,_,I.laid (t':=s.toks) kp (B0 _) (show cP X.prog X.w _ h' _ (.lst ys)from⟨hz,its,c',r',e⟩),rfl,q _ (I.hok.fresh (B0 _))⟩
 rcases hq with hq|hq
 .obtain⟨its,r',pl,hz⟩:=I.list hq;have hlen:=r'.length;obtain⟨o,ho,hc,n,hd⟩:=pl.isList;exact call_list_seq p (.inl rfl) ho hc hd (fun h' c' kp e=>fin its r' hz h' c' kp e) (by simp only[List.size_toArray]<;>omega)
 .obtain⟨its,r',pl,hz⟩:=I.tuple hq;have hlen:=r'.length;obtain⟨o,ho,hc,n,hd⟩:=pl;exact call_list_seq p (.inr rfl) ho hc hd (fun h' c' kp e=>fin its r' hz h' c' kp e) (by simp only[List.size_toArray]<;>omega)
theorem BP:eU X (.type "tuple") (fun xs H Q=>∃p ys,xs=[.ref p]/\((SqL X.K H p ys/\∀l,H l=none->Q (.ref l) (upd H l (.tup ys)))\/(SqT X.K H p ys/\Q (.ref p) H))):=by
 intro pins s σ H xs us Q I r h;obtain⟨p,ys,rfl,h⟩:=h;obtain⟨u,rfl,rx⟩:=vals1 r;cases rx;rcases h with⟨hq,q⟩|⟨hq,q⟩
 .obtain⟨its,r',pl,hz⟩:=I.list hq;have hlen:=r'.length;refine call_tuple_list pl.isList (fun h' kp=>?_) (by simp only[List.size_toArray]<;>omega);have I1:Inv X pins σ H { s with heap:=h' }:=I.kept (t':=s.toks) kp
  have I2:Inv X pins σ (upd H h'.objs.size (.tup ys)) { s with heap:=h'.push { cls:=.type "tuple",data:=.seq its.toArray } }:=
   I1.laid (t':=s.toks) (fun b o e=>A4 _ e) (B0 _) (show cP X.prog X.w _ _ _ (.tup ys)from⟨hz,its,r',IsTup.new _ _⟩)
  exact⟨.ref h'.objs.size,_,I2,rfl,q _ (I1.hok.fresh (B0 _))⟩
 .obtain⟨its,r',pl,hz⟩:=I.tuple hq;exact call_tuple_same pl ⟨.ref p,H,I,rfl,q⟩
def tyV(K:Fg)(T:String)(x:V)(H:Hp):Prop:=match x with
 |.str _=>T="str"
 |.int _=>T="int"
 |.ref p=>(T="list"/\∃xs,SqL K H p xs)\/(T="tuple"/\∃o,K.lookup p=some o/\o.cls=.type "tuple"/\o.dict=none) \/
  (T="dict"/\((∃kvs,H p=some (.dK kvs))\/∃kvs,H p=some (.dT kvs)))\/(T="set"/\∃S n,H p=some (.set S n))
 |_=>False
theorem aAZ{pins:List (Addr×Obj)}{T:String}{x:V}{v:Value}(I:Inv X pins σ H s)(r:RelV x v)(ty:tyV X.K T x H):
 s.TypeIs v T/\∀a,v=.ref a->∃ob,s.heap.get? a=some ob/\ob.dict=none:=by
 cases x with
 |str z=>
  obtain⟨t,rfl⟩:=r;cases (show T="str" from ty);exact⟨typeIs_str s z t,fun _ e=>nomatch e⟩
 |int i=>
  obtain⟨t,rfl⟩:=r;cases (show T="int" from ty);exact⟨typeIs_int s i t,fun _ e=>nomatch e⟩
 |ref p=>
  cases r;rcases ty with⟨rfl,xs,hq⟩|⟨rfl,o,hk,hc,hd⟩|⟨rfl,hk⟩|⟨rfl,S,n,hk⟩
  .obtain⟨its,_,pl,_⟩:=I.list hq;refine⟨pl.isList.typeIs,fun a e=>?_⟩;cases e;obtain⟨o,n,e,c,hd,_⟩:=pl;exact⟨o,e,hd⟩
  .refine⟨⟨o,I.kIn p o hk,hc⟩,fun a e=>?_⟩;cases e;exact⟨o,I.kIn _ o hk,hd⟩
  .have z:∃o,s.heap.get? p=some o/\o.ExactDict:=by
    rcases hk with⟨kvs,hk⟩|⟨kvs,hk⟩
    .obtain⟨_,_,_,_,o,_,_,e,ex,_⟩:=I.hok p _ hk;exact⟨o,e,ex⟩
    .obtain⟨_,_,_,_,o,_,_,e,ex,_⟩:=I.hok p _ hk;exact⟨o,e,ex⟩
   obtain⟨o,e,ex⟩:=z;refine⟨⟨o,e,ex.1⟩,fun a e2=>?_⟩;cases e2;exact⟨o,e,ex.2.1⟩
  .obtain⟨o,_,_,_,e,ex,_⟩:=I.hok p _ hk;refine⟨⟨o,e,ex.1⟩,fun a e2=>?_⟩;cases e2;exact⟨o,e,ex.2.1⟩
 |_=>exact False.elim ty
def aIf(K:Fg)(T:String)(r:V->List V->Hp->VK->Prop)(to:TE):TE:=fun σ H Q=>to σ H fun x H1=>tyV K T x H1/\r x [] H1 Q
def tBM(K:Fg)(T:String)(r:V->List V->Hp->VK->Prop)(to:TE)(t:TA):TE:=fun σ H Q=>to σ H fun x H1=>tyV K T x H1/\t σ H1 fun xs H2=>r x xs H2 Q
variable{o e:Expr}{es:List Expr}{to:TE}{t:TA}{name:Str}{apos cpos:Pos}{T id:String}{r:V->List V->Hp->VK->Prop}
theorem YD(pa:PlainAttrs T)(slot:Slot T name id)(hty:typeOf (.builtin id)=pure (.type "method_descriptor"))(hm:MtR X id r)(ho:PE X o to)
 (hbase:attributeBase o name X.env (eval o X.env)=eval o X.env:=by rfl) (hline:(apos.endLine==cpos.line)=true:=by rfl):PE X (.Call (.Attribute o name apos) [] [] cpos) (aIf X.K T r to):=by
 intro pins s σ H Q I h;refine wpAny_Call_method0_late hbase hline (thn (ho pins s σ H _ I h) fun v s1 ⟨x,H1,I1,r1,ty,q1⟩=>?_);obtain⟨h1,h2⟩:=aAZ I1 r1 ty;exact⟨T,id,pa,slot,hty,h1,h2,Calls.callWith_builtin rfl (PySem.evalArgs_none (hm pins s1 σ H1 x [] v [] Q I1 r1 .nil q1))⟩
theorem aJb(pa:PlainAttrs T)(slot:Slot T name id)(hty:typeOf (.builtin id)=pure (.type "method_descriptor"))(hm:MtR X id r)(ho:PE X o to)(ha:PA X (e::es) t)
 (hbase:attributeBase o name X.env (eval o X.env)=eval o X.env:=by rfl)
 (hfew:((backTo cpos (starEach (e::es) X.env)).all (fun x=>!x.1)&&(backToKw cpos (keywordEach [] X.env)).all (fun x=>x.1.isSome)
  && decide ((e::es).length+([]:List Keyword).length+(if ([]:List Keyword).isEmpty then 0 else 1)<30))=true:=by rfl)
 (hline:(apos.endLine==cpos.line)=true:=by rfl) (hs:starEach (e::es) X.env=(false,eval e X.env)::starEach es X.env:=by rfl) (hplain:(backTo cpos (starEach es X.env)).any (·.1)=false:=by rfl):
 PE X (.Call (.Attribute o name apos) (e::es) [] cpos) (tBM X.K T r to t):=by
 intro pins s σ H Q I h;refine wpAny_Call_method_late hbase hfew hline rfl (thn (ho pins s σ H _ I h) fun v s1 ⟨x,H1,I1,r1,ty,q1⟩=>?_);obtain⟨h1,h2⟩:=aAZ I1 r1 ty;refine⟨T,id,pa,slot,hty,h1,h2,?_⟩;have hA:=ha cpos pins s1 σ H1 _ I1 q1;rw[hs]at hA ⊢;refine Calls.callWith_builtin (by show(false || (backTo cpos (starEach es X.env)).any (·.1))=false;rw[hplain]<;>rfl) (Calls.evalArgs_plain ?_);exact thn hA fun us s2 ⟨vs,H2,I2,r2,q2⟩=>hm pins s2 σ H2 x vs v us Q I2 r1 r2 q2
end
def MtM(X:Cx)(id:String)(r:V->List V->Hp->VK->Prop):Prop:=
 ∀(pins:List (Addr×Obj))(s:Shared)(σ:St)(H:Hp)(x:V)(xs:List V)(v:Value)(us:List Value)(Q:VK),Inv X pins σ H s->RelV x v->aW xs us->r x xs H Q->
  wpAny (model X.prog X.w) X.A (call (.builtin id) (v::us)) (EP X pins σ Q) X.xe s
theorem aW.one:∀{x:V}{us:List Value},aW [x] us->∃u,us=[u]/\RelV x u
 |_,_,.cons r .nil=>⟨_,rfl,r⟩
theorem aW.zero:∀{us:List Value},aW [] us->us=[]
 |_,.nil=>rfl
theorem aW.dropLast{xs:List V}{us:List Value}(h:aW xs us):aW xs.dropLast us.dropLast:=by
 induction h with
 |nil=>exact .nil
 |cons r t ih=>
  cases t with
  |nil=>exact .nil
  |cons q t'=>exact .cons r ih
theorem aW.reverse{xs:List V}{us:List Value}(h:aW xs us):aW xs.reverse us.reverse:=by
 induction h with
 |nil=>exact .nil
 |cons r t ih=>rw[S3,S3];exact aW.append ih (.cons r .nil)
theorem NP{α:Type}(l:List α):l.eraseIdx (l.length-1)=l.dropLast:=by
 induction l with
 |nil=>rfl
 |cons a r ih=>
  cases r with
  |nil=>rfl
  |cons b r=>
   have e:(a::b::r).length-1=((b::r).length-1)+1:=by
    have h1:(a::b::r).length=r.length+2:=rfl;have h2:(b::r).length=r.length+1:=rfl;omega
   rw[e,List.eraseIdx_cons_succ,ih]
   all_goals rfl
section
variable{X:Cx}{pins:List (Addr×Obj)}{σ:St}{H:Hp}{s:Shared}{l b:Addr}{xs ys zs:List V}
theorem Inv.lset{its its':List Value}{n:Nat}{f:Array Value->Array Value}{t':Nat}(I:Inv X pins σ H s)(hH:H l=some (.lst xs))
 (e:s.heap.get? l=some { cls:=.type "list",data:=.seq its.toArray n }) (hf:f its.toArray=its'.toArray) (hv:aW ys its') (hz:ys.length<=sizeLine):
 Inv X pins σ (upd H l (.lst ys)) { s with heap:=s.heap.update l (Obj.mapSeq f),toks:=t' }:=by
 have q:=PySem.IsL.update e f;rw[hf]at q;refine I.write (x:=l) (e:=l) (by rw[hH];exact trivial) (.inl rfl) (fun b' u hb hu=>(J2 s.heap (Obj.mapSeq f) (L6 hb)).trans hu) ⟨_,q⟩ ?_;exact⟨hz,its',_,hv,q⟩
theorem Inv.lnew{its:List Value}{t':Nat}(I:Inv X pins σ H s)(hv:aW ys its)(hz:ys.length<=sizeLine):
 Inv X pins σ (upd H s.heap.objs.size (.lst ys)) { s with heap:=s.heap.push { cls:=.type "list",data:=.seq its.toArray },toks:=t' }:=
 I.laid (fun _ _ q=>A4 _ q) (B0 _) ⟨hz,its,0,hv,B6 _ rfl⟩
theorem Inv.fresh(I:Inv X pins σ H s):H s.heap.objs.size=none:=I.hok.fresh (B0 _)
theorem Inv.lstM(I:Inv X pins σ H s)(hH:H l=some (.lst xs)):xs.length<=sizeLine/\∃(its:List Value)(n:Nat),aW xs its/\xs.length=its.length/\s.heap.get? l=some { cls:=.type "list",data:=.seq its.toArray n }:=by
 obtain⟨z,its,n,r,e⟩:=I.hok l _ hH;exact⟨z,its,n,r,r.length,e⟩
end
section
variable{X:Cx}
def QD:V->List V->Hp->VK->Prop:=fun x vs H Q=>∃l xs y,x=.ref l/\vs=[y]/\H l=some (.lst xs)/\xs.length<sizeLine/\Q .non (upd H l (.lst (xs++[y])))
theorem UQ:MtM X "list.append" QD:=by
 intro pins s σ H x vs v us Q I rx rv h;obtain⟨l,xs,y,rfl,rfl,hH,hz,q⟩:=h;cases rx;obtain⟨u,rfl,ru⟩:=rv.one;obtain⟨z,its,n,r,hl,e⟩:=I.lstM hH;refine call_meets F.slot_list_append ⟨_,e,rfl⟩ F.entry_list_append (F.args_list_append_2 _ _) (PySem.list_append l its.toArray n u (by rw[C0];omega)) ⟨e,?_⟩;refine⟨.non,_,I.lset (its':=its++[u]) hH e (by simp) (r.append (.cons ru .nil)) ?_,rfl,q⟩;rw[C3,J5];omega
def aJy:V->List V->Hp->VK->Prop:=fun x vs H Q=>∃l xs y,x=.ref l/\vs=[]/\H l=some (.lst xs)/\xs[xs.length-1]?=some y/\Q y (upd H l (.lst xs.dropLast))
theorem aFD:MtM X "list.pop" aJy:=by
 intro pins s σ H x vs v us Q I rx rv h;obtain⟨l,xs,y,rfl,rfl,hH,hy,q⟩:=h;cases rx;have hus:=rv.zero;subst hus;obtain⟨z,its,n,r,hl,e⟩:=I.lstM hH;obtain⟨u,hu,ru⟩:=r.get hy
 have hy':its.toArray[its.toArray.size-1]?=some u:=by
  show its.toArray[its.length-1]?=some u;rw[<- E1,<- hl];exact hu
 refine call_meets F.slot_list_pop ⟨_,e,rfl⟩ F.entry_list_pop (F.args_list_pop_1 _) (MeetsSeq.list_pop_last l its.toArray n u hy' (by rw[C0];omega)) ⟨e,?_⟩;refine⟨y,_,I.lset (its':=its.dropLast) hH e ?_ r.dropLast ?_,ru,q⟩
 .show its.toArray.eraseIdxIfInBounds (its.toArray.size-1)=its.dropLast.toArray;rw[C0,List.eraseIdxIfInBounds_toArray,NP]
 .rw[List.length_dropLast];omega
def KL:V->List V->Hp->VK->Prop:=fun x vs H Q=>∃l xs,x=.ref l/\vs=[]/\H l=some (.lst xs)/\Q .non (upd H l (.lst xs.reverse))
theorem NG:MtM X "list.reverse" KL:=by
 intro pins s σ H x vs v us Q I rx rv h;obtain⟨l,xs,rfl,rfl,hH,q⟩:=h;cases rx;have hus:=rv.zero;subst hus;obtain⟨z,its,n,r,hl,e⟩:=I.lstM hH;refine call_meets F.slot_list_reverse ⟨_,e,rfl⟩ F.entry_list_reverse (F.args_list_reverse_1 _) (AutoSeq1.list_reverse_list_0 l its.toArray n (by rw[C0];omega)) ⟨e,?_⟩;refine⟨.non,_,I.lset (its':=its.reverse) hH e (by simp) r.reverse ?_,rfl,q⟩;rw[U8];omega
end
section
variable{κ:Type}[DecidableEq κ]
def iL(kvs:List (κ×V))(k:κ):Option V:=(kvs.find? fun kv=>decide (kv.1=k)).map (·.2)
def putK(kvs:List (κ×V))(k:κ)(v:V):List (κ×V):=
 if (kvs.any fun kv=>decide (kv.1=k))=true then kvs.map (fun kv=>if kv.1=k then(kv.1,v)else kv)else kvs++[(k,v)]
theorem yU{p:κ×V}{r:List (κ×V)}{k:κ}(e:p.1=k):iL (p::r) k=some p.2:=by simp[iL,List.find?_cons,e]
theorem AK{p:κ×V}{r:List (κ×V)}{k:κ}(e:¬p.1=k):iL (p::r) k=iL r k:=by simp[iL,List.find?_cons,e]
theorem BA(k:κ):∀kvs:List (κ×V),(kvs.any fun kv=>decide (kv.1=k))=(iL kvs k).isSome
 |[]=>rfl
 |p::r=>by
  rw[U7];by_cases e:p.1=k
  .simp only[yU e,decide_eq_true e,Bool.true_or,Option.isSome_some]
  .rw[AK e,D8 e,Bool.false_or];exact BA k r
theorem jA(kvs:List (κ×V))(k:κ)(v:V):(putK kvs k v).length<=kvs.length+1:=by
 unfold putK;split
 .rw[A7];omega
 .rw[C3,E9,List.length_nil];omega
theorem WN{kvs:List (κ×V)}{k:κ}(v:V)(h:iL kvs k=none):putK kvs k v=kvs++[(k,v)]:=by
 unfold putK;rw[BA,h];exact B2 (by decide)
theorem wM.isSome_eq{o:Option V}{u:Option Value}(r:wM o u):o.isSome=u.isSome:=by
 cases o with
 |none=>cases u with
  |none=>rfl
  |some _=>exact(show False from r).elim
 |some _=>cases u with
  |none=>exact(show False from r).elim
  |some _=>rfl
theorem KV.val{kvs:List (κ×V)}{vs:List (κ×Value)}(r:KV kvs vs)(k:κ):wM (iL kvs k) (valueAt vs k):=by
 unfold KV at r
 induction r with
 |nil=>exact True.intro
 |@cons p q ps qs h t ih=>
  obtain⟨h1,h2⟩:=h;by_cases e:p.1=k
  .have e':q.1=k:=h1.symm.trans e;have b:valueAt (q::qs) k=some q.2:=by simp[valueAt,List.find?_cons,e']
   rw[yU e,b];exact h2
  .have e':¬q.1=k:=fun z=>e (h1.trans z);have b:valueAt (q::qs) k=valueAt qs k:=by simp[valueAt,List.find?_cons,e']
   rw[AK e,b];exact ih
theorem KV.any{kvs:List (κ×V)}{vs:List (κ×Value)}(r:KV kvs vs)(k:κ):(kvs.any fun kv=>decide (kv.1=k))=vs.any fun kv=>decide (kv.1=k):=by
 unfold KV at r
 induction r with
 |nil=>rfl
 |cons h t ih=>rw[U7,U7,ih,h.1]
theorem KV.repl{kvs:List (κ×V)}{vs:List (κ×Value)}(r:KV kvs vs)(k:κ){y:V}{u:Value}(ry:RelV y u):
 KV (kvs.map fun kv=>if kv.1=k then(kv.1,y)else kv) (vs.map fun kv=>if kv.1=k then(kv.1,u)else kv):=by
 unfold KV at r ⊢
 induction r with
 |nil=>exact .nil
 |@cons p q ps qs h t ih=>
  rw[C7,C7];refine .cons ?_ ih;obtain⟨h1,h2⟩:=h;by_cases e:p.1=k
  .rw[A9 e,A9 (h1.symm.trans e)];exact⟨h1,ry⟩
  .rw[B2 e,B2 (fun z=>e (h1.trans z))];exact⟨h1,h2⟩
theorem KV.put{kvs:List (κ×V)}{vs:List (κ×Value)}(r:KV kvs vs)(k:κ){y:V}{u:Value}(ry:RelV y u):KV (putK kvs k y) (stored vs k u):=by
 unfold putK stored;rw[r.any k];by_cases e:(vs.any fun kv=>decide (kv.1=k))=true
 .rw[A9 e,A9 e];exact r.repl k ry
 .rw[B2 e,B2 e];exact Paired.snoc r ⟨rfl,ry⟩
theorem KV.length{kvs:List (κ×V)}{vs:List (κ×Value)}(r:KV kvs vs):kvs.length=vs.length:=A0m r
end
theorem CZ{P:Program}{w:World}{k:Key}{u:Value}(r:RelV (kV k) u):(dA P w).is k u=true:=by
 cases k with
 |inl i=>obtain⟨t,e⟩:=(show ∃t,u=Value.int i t from r);subst e;exact IZ P w i t
 |inr x=>obtain⟨t,e⟩:=(show ∃t,u=Value.str x t from r);subst e;exact IF P w x t
theorem EB{P:Program}{w:World}:∀{ks:List Key}{us:List Value},aW (ks.map kV) us->ItemsAre (dA P w) ks us
 |[],_=>fun r=>by rw[List.map_nil]at r;cases r;exact .nil
 |k::ks,_=>fun r=>by
  rw[C7]at r;cases r with
  |cons h t=>exact .cons (CZ h) (EB t)
abbrev KT(H:Hp):List (List Key×V)->List (List Key×Addr×Value)->Prop:=Paired fun p q=>p.1=q.1/\H q.2.1=some (.tup (p.1.map kV))/\RelV p.2 q.2.2
theorem KT.val{kvs:List (List Key×V)}{xs:List (List Key×Addr×Value)}(r:KT H kvs xs)(k:List Key):wM (iL kvs k) ((atKey xs k).map (·.2)):=by
 induction r with
 |nil=>exact True.intro
 |@cons p q ps qs h t ih=>
  obtain⟨h1,_,h2⟩:=h;by_cases e:p.1=k
  .have e':q.1=k:=h1.symm.trans e;have b:atKey (q::qs) k=some q.2:=by simp[atKey,List.find?_cons,e']
   rw[yU e,b];exact h2
  .have e':¬q.1=k:=fun z=>e (h1.trans z);have b:atKey (q::qs) k=atKey qs k:=by simp[atKey,List.find?_cons,e']
   rw[AK e,b];exact ih
theorem KT.repl{kvs:List (List Key×V)}{xs:List (List Key×Addr×Value)}(r:KT H kvs xs)(k:List Key){y:V}{u:Value}(ry:RelV y u):
 KT H (kvs.map fun kv=>if kv.1=k then(kv.1,y)else kv) (xs.map (putAt k u)):=by
 induction r with
 |nil=>exact .nil
 |@cons p q ps qs h t ih=>
  rw[C7,C7];refine .cons ?_ ih;obtain⟨h1,h2,h3⟩:=h;unfold putAt;by_cases e:p.1=k
  .rw[A9 e,A9 (h1.symm.trans e)];exact⟨h1,h2,ry⟩
  .rw[B2 e,B2 (fun z=>e (h1.trans z))];exact⟨h1,h2,h3⟩
theorem KT.put{kvs:List (List Key×V)}{xs:List (List Key×Addr×Value)}(r:KT H kvs xs)(k:List Key){b:Addr}{y:V}{u:Value}(hb:H b=some (.tup (k.map kV)))(ry:RelV y u):
 KT H (putK kvs k y) (storedH xs k b u):=by
 have e:(kvs.any fun kv=>decide (kv.1=k))=(atKey xs k).isSome:=by
  rw[BA,(r.val k).isSome_eq,Option.isSome_map]
 unfold putK storedH;rw[e];by_cases q:(atKey xs k).isSome=true
 .rw[A9 q,A9 q];exact r.repl k ry
 .rw[B2 q,B2 q];exact Paired.snoc r ⟨rfl,hb,ry⟩
theorem KT.keeps{H':Hp}{kvs:List (List Key×V)}{xs:List (List Key×Addr×Value)}(r:KT H kvs xs)(ht:∀b ys,H b=some (.tup ys)->H' b=some (.tup ys)):KT H' kvs xs:=
 Paired.mapP r fun _ _ z=>⟨z.1,ht _ _ z.2.1,z.2.2⟩
section
variable{P:Program}{w:World}{H:Hp}{h:Heap}{a:Addr}
theorem aEC{u:HO}(ok:HOk P w H h)(e:Rd H a u):cP P w H h a u:=e.ok ok
theorem QB{kvs:List (Key×V)}(ok:HOk P w H h)(e:Rd H a (.dK kvs)):kvs.length<=sizeLine/\(a==sysModules)=false/\∃vs,KV kvs vs/\h.DictOf (dA P w) a vs:=
 show cP P w H h a (.dK kvs)from aEC ok e
theorem WX{kvs:List (Key×V)}(ok:HOk P w H h)(e:H a=some (.dK kvs)):kvs.length<=sizeLine/\(a==sysModules)=false/\∃vs,KV kvs vs/\h.DictOf (dA P w) a vs:=QB ok (.inl e)
theorem AM{ks:List Key}(ok:HOk P w H h)(e:H a=some (.tup (ks.map kV))):(tupleKind (dA P w)).is h ks a:=by
 obtain⟨_,its,r,o,h1,h2,n,h3⟩:=(show cP P w H h a (.tup (ks.map kV))from ok a _ e);exact⟨o,its.toArray,n,h1,h2,h3,by simpa using EB r⟩
theorem QK{kvs:List (List Key×V)}(ok:HOk P w H h)(e:Rd H a (.dT kvs)):kvs.length<=sizeLine/\(a==sysModules)=false /\
 ∃xs,KT H kvs xs/\h.DictOfH (tupleKind (dA P w)) a xs:=by
 obtain⟨z,y,xs,r,o,es,ep,h1,h2,h3,h4,h5⟩:=(show cP P w H h a (.dT kvs)from aEC ok e);refine⟨z,y,xs,r,o,es,ep,h1,h2,h3,h4,fun x hx=>?_,h5⟩
 have all:∀{l:List (List Key×V)}{m:List (List Key×Addr×Value)},KT H l m->∀x∈m,(tupleKind (dA P w)).is h x.1 x.2.1:=by
  intro l m q
  induction q with
  |nil=>intro x hx;exact nomatch hx
  |@cons p q ps qs hq t ih=>
   intro x hx;rcases List.mem_cons.mp hx with e|hx
   .subst e;exact AM ok (by rw[<- hq.1];exact hq.2.1)
   .exact ih x hx
 exact all r x hx
theorem aEx{kvs:List (List Key×V)}(ok:HOk P w H h)(e:H a=some (.dT kvs)):kvs.length<=sizeLine/\(a==sysModules)=false /\
 ∃xs,KT H kvs xs/\h.DictOfH (tupleKind (dA P w)) a xs:=QK ok (.inl e)
end
def xJ(H:Hp)(a:Addr)(y:V)(r:Option V):Prop:=
 (∃kvs k,Rd H a (.dK kvs)/\y=kV k/\r=iL kvs k)\/∃kvs k b,Rd H a (.dT kvs)/\y=.ref b/\H b=some (.tup (k.map kV))/\r=iL kvs k
def zI(H:Hp)(a:Addr)(y v:V)(H':Hp):Prop:=
 (∃kvs k,H a=some (.dK kvs)/\y=kV k/\kvs.length<sizeLine/\H'=upd H a (.dK (putK kvs k v))) \/
 ∃kvs k b,H a=some (.dT kvs)/\y=.ref b/\H b=some (.tup (k.map kV))/\kvs.length<sizeLine/\H'=upd H a (.dT (putK kvs k v))
theorem xJ.k{a:Addr}{kvs:List (Key×V)}{k:Key}(e:H a=some (.dK kvs)):xJ H a (kV k) (iL kvs k):=.inl ⟨kvs,k,.inl e,rfl,rfl⟩
theorem xJ.t{a b:Addr}{kvs:List (List Key×V)}{k:List Key}(e:H a=some (.dT kvs))(eb:H b=some (.tup (k.map kV))):xJ H a (.ref b) (iL kvs k):=.inr ⟨kvs,k,b,.inl e,rfl,eb,rfl⟩
theorem zI.k{a:Addr}{kvs:List (Key×V)}{k:Key}{v:V}(e:H a=some (.dK kvs))(hl:kvs.length<sizeLine):zI H a (kV k) v (upd H a (.dK (putK kvs k v))):=.inl ⟨kvs,k,e,rfl,hl,rfl⟩
theorem zI.t{a b:Addr}{kvs:List (List Key×V)}{k:List Key}{v:V}(e:H a=some (.dT kvs))(eb:H b=some (.tup (k.map kV)))(hl:kvs.length<sizeLine):
 zI H a (.ref b) v (upd H a (.dT (putK kvs k v))):=.inr ⟨kvs,k,b,e,rfl,eb,hl,rfl⟩
section
variable{X:Cx}{pins:List (Addr×Obj)}{σ:St}{H:Hp}{s:Shared}{a:Addr}{y v:V}{u r:Value}{o:Option V}{A:Around}{E:Value->Shared->Prop}
theorem Inv.big(I:Inv X pins σ H s):sysModules<s.heap.objs.size:=by
 have h:mainGlobals<s.heap.objs.size:=(I.mod.glob.keeps I.bk).lt;exact U3 (by decide) h
theorem RV{Q:Value->Shared->Prop}(hu:A.units+1<cLine)(I:Inv X pins σ H s)(g:xJ H a y (some v))(ry:RelV y u)(h:∀w' s',Inv X pins σ H s'->RelV v w'->Q w' s'):
 wpAny (model X.prog X.w) A (getItem (.ref a) u) Q E s:=by
 rcases g with⟨kvs,k,e,ey,l⟩|⟨kvs,k,b,e,ey,eb,l⟩
 .subst ey;obtain⟨z,hd,vs,rel,dd⟩:=QB I.hok e;obtain⟨w',hw,rw'⟩:=wM.some_of (v:=v) (o:=valueAt vs k) (by rw[l];exact rel.val k);exact wpAny_getItem_of (CZ ry) dd.mapOf hw (h w' _ (I.tok _) rw')
 .subst ey;cases (show u=Value.ref b from ry);obtain⟨z,hd,xs,rel,dd⟩:=QK I.hok e;obtain⟨w',hw,rw'⟩:=wM.some_of (v:=v) (o:=(atKey xs k).map (·.2)) (by rw[l];exact rel.val k);obtain⟨p,hp,hp2⟩:=Option.map_eq_some_iff.mp hw;refine wpAny_getItem_heap (tupleKind_room_in1 hu) (AM I.hok eb) dd hp ?_;rw[hp2];exact h w' _ (I.tok _) rw'
theorem aJU{Q:Value->Shared->Prop}(hu:A.units+1<cLine)(I:Inv X pins σ H s)(g:xJ H a y o)(ry:RelV y u)(h:∀s',Inv X pins σ H s'->Q (.bool o.isSome) s'):
 wpAny (model X.prog X.w) A (compareOp .In u (.ref a)) Q E s:=by
 rcases g with⟨kvs,k,e,ey,l⟩|⟨kvs,k,b,e,ey,eb,l⟩
 .subst ey;obtain⟨z,hd,vs,rel,dd⟩:=QB I.hok e;refine wpAny_in_of (CZ ry) hd dd.mapOf ?_;rw[<- (rel.val k).isSome_eq,<- l];exact h _ (I.tok _)
 .subst ey;cases (show u=Value.ref b from ry);obtain⟨z,hd,xs,rel,dd⟩:=QK I.hok e;refine wpAny_in_heap (tupleKind_room_in1 hu) (AM I.hok eb) hd dd ?_;have q:=(rel.val k).isSome_eq;rw[Option.isSome_map]at q;rw[<- q,<- l];exact h _ (I.tok _)
theorem uQ{h':Heap}{t':Nat}{ob:HO}(I:Inv X pins σ H s)(mu:Mut (H a))(hs:Heap.SameBut a s.heap h')(he:∃q,h'.get? a=some q)(new:cP X.prog X.w (upd H a ob) h' a ob):
 Inv X pins σ (upd H a ob) { s with heap:=h',toks:=t' }:=
 I.write (x:=a) (e:=a) mu (.inl rfl) (fun b q hb z=>(hs.2 b hb).trans z) he new
theorem LR{P:Program}{w:World}{H':Hp}{h':Heap}{kvs:List (Key×V)}{vs:List (Key×Value)}(z:kvs.length<=sizeLine)(hd:(a==sysModules)=false)(rel:KV kvs vs)(dd:h'.DictOf (dA P w) a vs):
 cP P w H' h' a (.dK kvs):=⟨z,hd,vs,rel,dd⟩
theorem RY{H':Hp}{Q:Unit->Shared->Prop}(hu:A.units+1<cLine)(I:Inv X pins σ H s)(g:zI H a y v H')(ry:RelV y u)(rv:RelV v r)(h:∀s',Inv X pins σ H' s'->Q () s'):
 wpAny (model X.prog X.w) A (setItem (.ref a) u r) Q E s:=by
 rcases g with⟨kvs,k,e,ey,l,eH⟩|⟨kvs,k,b,e,ey,eb,l,eH⟩
 .subst ey eH;obtain⟨z,hd,vs,rel,dd⟩:=WX I.hok e;have hz:vs.length<=sizeLine:=by rw[<- rel.length];exact z
  have hl:(putK kvs k v).length<=sizeLine:=by have:=jA kvs k v;omega
  refine wpAny_setItem_pairs (hsz:=hz) (CZ ry) dd fun h' dd' hs=>h _ ?_;have he:∃q,h'.get? a=some q:=let⟨q,_,_,hq,_⟩:=dd';⟨q,hq⟩;exact uQ I (by rw[e];exact True.intro) hs he (LR hl hd (rel.put k rv) dd')
 .subst ey eH;cases (show u=Value.ref b from ry);obtain⟨z,hd,xs,rel,dd⟩:=aEx I.hok e;have hz:xs.length<=sizeLine:=by rw[<- A0m rel];exact z
  have hl:(putK kvs k v).length<=sizeLine:=by have:=jA kvs k v;omega
  refine wpAny_setItem_heap (hsz:=hz) (tupleKind_room_in1 hu) (AM I.hok eb) dd fun h' dd' hs=>h _ ?_;obtain⟨q,es,ep,hq,h2,h3,h4,_,h5⟩:=dd';refine uQ I (by rw[e];exact True.intro) hs ⟨q,hq⟩ ⟨hl,hd,_,(rel.put k eb rv).keeps fun c ys ec=>?_,q,es,ep,hq,h2,h3,h4,h5⟩;rw[aL (aEq ec e (fun z=>nomatch z))];exact ec
end
def aFN(i:Expr):Prop:=∀ov iv,subscripted i false ov iv=operate [ov,iv] (getItem ov iv)
theorem aCh{prog:Program}{w:World}{A:Around}{E:Value->Shared->Prop}{s:Shared}{env:Env}{value slice:Expr}{pos:Pos}{T id:String}{Q:Value->Shared->Prop}
 (hl:typeLookup (.type T) "__getitem__"=pure (some (.builtin id))) (hs:aFN slice)
 (h:wpAny (model prog w) A (eval value env) (fun o s₁=>wpAny (model prog w) A (eval slice env) (fun i s₂=>s₂.TypeIs o T/\wpAny (model prog w) A (getItem o i) Q E s₂) E s₁) E s):
 wpAny (model prog w) A (eval (.Subscript value slice pos) env) Q E s:=by
 refine Subscript_ (E3 h (fun o s₁ h₁=>E3 h₁ (fun i s₂ h₂=>?_) fun _ _ x=>x) fun _ _ x=>x);obtain⟨hT,h₂⟩:=h₂;unfold subscriptTail;refine A3 ?_;rw[getitemInPython_of_ne hT.not_modules];refine A3 (wpAny_specialOf hT hl ?_)
 have fin:wpAny (model prog w) A (subscripted slice false o i) (fun r s₃=>wpAny (model prog w) A (letTemporaryGo value o r >>= fun _=>pure r) Q E s₃) E s₂:=by
  rw[hs o i];exact wpAny_operating (E3 h₂ (fun r s₃ h₃=>A3 (wpAny_letTemporaryGo (A6 h₃))) fun _ _ x=>x)
 first
  |exact A6 (A3 fin)
  |exact A3 (A6 (A3 fin))
  |exact A3 fin
theorem LJ{X:Cx}{pins:List (Addr×Obj)}{a:Addr}{y:V}{o:Option V}(I:Inv X pins σ H s)(g:xJ H a y o):s.TypeIs (.ref a) "dict":=by
 rcases g with⟨kvs,k,e,_,_⟩|⟨kvs,k,b,e,_,_,_⟩
 .obtain⟨_,_,vs,_,dd⟩:=QB I.hok e;exact dd.typeIs
 .obtain⟨_,_,xs,_,dd⟩:=QK I.hok e;exact dd.typeIs
def aEH(td ty:TE):TE:=fun σ H Q=>td σ H fun x H1=>ty σ H1 fun y H2=>∃a v,x=.ref a/\xJ H2 a y (some v)/\Q v H2
def aIC(ty td:TE):TE:=fun σ H Q=>ty σ H fun y H1=>td σ H1 fun x H2=>∃a o,x=.ref a/\xJ H2 a y o/\Q (.bl o.isSome) H2
def aDT(td ty tv:TE):TS:=fun D σ H=>tv σ H fun v H1=>td σ H1 fun x H2=>ty σ H2 fun y H3=>∃a H4,x=.ref a/\zI H3 a y v H4/\D.nx σ H4
section
variable{X:Cx}{o i e value:Expr}{pos pos' tpos:Pos}{td ty tv:TE}
theorem aDu(hu:X.A.units+1<cLine)(ho:PE X o td)(hi:PE X i ty)(hs:aFN i):PE X (.Subscript o i pos) (aEH td ty):=by
 intro pins s σ H Q I h;refine aCh PySem.F.slot_dict_getitem.lookup hs (thn (ho pins s σ H _ I h) fun u s1 ⟨x,H1,I1,rx,q1⟩=>thn (hi pins s1 σ H1 _ I1 q1) fun iv s2 ⟨y,H2,I2,ry,a,v,ex,g,q2⟩=>?_);subst ex;obtain rfl:u=Value.ref a:=rx;exact⟨LJ I2 g,RV hu I2 g ry fun w' s3 I3 rw'=>⟨v,H2,I3,rw',q2⟩⟩
theorem ZX(hu:X.A.units+1<cLine)(hi:PE X i ty)(ho:PE X o td):PC X .In i o (aIC ty td):=by
 intro pins s σ H Q I h;refine thn (hi pins s σ H _ I h) fun iv s1 ⟨y,H1,I1,ry,q1⟩=>thn (ho pins s1 σ H1 _ I1 q1) fun u s2 ⟨x,H2,I2,rx,a,ov,ex,g,q2⟩=>?_;subst ex;obtain rfl:u=Value.ref a:=rx;exact aJU hu I2 g ry fun s3 I3=>⟨.bl ov.isSome,H2,I3,rfl,q2⟩
theorem aCc(hu:X.A.units+1<cLine)(ho:PE X o td)(hi:PE X i ty)(hv:PE X value tv)(hs:swapsWith value (some (.Subscript o i pos')) pos.line X.env=pure false):
 PS X (.Assign [.Subscript o i pos'] value pos) (aDT td ty tv):=by
 intro pins s σ H D I h;refine wpAny_Assign_Subscript (thn (hv pins s σ H _ I h) fun r s1 ⟨v,H1,I1,rv,q1⟩=>thn (ho pins s1 σ H1 _ I1 q1) fun u s2 ⟨x,H2,I2,rx,q2⟩=>thn (hi pins s2 σ H2 _ I2 q2) fun iv s3 ⟨y,H3,I3,ry,a,H4,ex,g,q3⟩=>?_) hs;subst ex;obtain rfl:u=Value.ref a:=rx;exact RY hu I3 g ry rv fun s4 I4=>⟨σ,H4,I4,q3⟩
end
theorem yZ{P:Program}{w:World}(h:Heap)(hb:sysModules<h.objs.size):cP P w H (h.push { cls:=.type "dict",data:=.dict #[] }) h.objs.size (.dK []):=
 ⟨J4 _,beq_eq_false_iff_ne.mpr (L6 (B8 hb)),[],.nil,Heap.DictOf.new h⟩
theorem KG{P:Program}{w:World}(h:Heap)(hb:sysModules<h.objs.size):cP P w H (h.push { cls:=.type "dict",data:=.dict #[] }) h.objs.size (.dT []):=
 ⟨J4 _,beq_eq_false_iff_ne.mpr (L6 (B8 hb)),[],.nil,_,#[],0,B6 _ rfl,⟨rfl,rfl,rfl⟩,rfl,rfl,List.nodup_nil⟩
def WB:TE:=fun _ H Q=>∀p,H p=none->Q (.ref p) (upd H p (.dK []))
def aBc:TE:=fun _ H Q=>∀p,H p=none->Q (.ref p) (upd H p (.dT []))
section
variable{X:Cx}{pos:Pos}
theorem aAR:PE X (.Dict [] [] pos) WB:=fun pins s σ H Q I h=>
 wpAny_Dict_empty ⟨.ref s.heap.objs.size,_,I.laid (a:=s.heap.objs.size) (o:=.dK []) (t':=s.toks) (fun _ _ q=>A4 _ q) (B0 _) (yZ s.heap I.big),rfl,h _ (I.hok.fresh (B0 _))⟩
theorem ZL:PE X (.Dict [] [] pos) aBc:=fun pins s σ H Q I h=>
 wpAny_Dict_empty ⟨.ref s.heap.objs.size,_,I.laid (a:=s.heap.objs.size) (o:=.dT []) (t':=s.toks) (fun _ _ q=>A4 _ q) (B0 _) (KG s.heap I.big),rfl,h _ (I.hok.fresh (B0 _))⟩
end
def FG:List (TE×TE)->St->Hp->(List (V×V)->Hp->Prop)->Prop
 |[],_,H,Q=>Q [] H
 |(tk,tv)::r,σ,H,Q=>tk σ H fun x H1=>tv σ H1 fun y H2=>FG r σ H2 fun ps H3=>Q ((x,y)::ps) H3
abbrev VV:List (V×V)->List (Value×Value)->Prop:=Paired fun p q=>RelV p.1 q.1/\RelV p.2 q.2
def PPs(X:Cx)(pos:Pos)(keys:List (Option Expr))(values:List Expr)(trs:List (TE×TE)):Prop:=
 ∀(pins:List (Addr×Obj))(s:Shared)(σ:St)(H:Hp)(Q:List (V×V)->Hp->Prop),Inv X pins σ H s->FG trs σ H Q->
  wpAny (model X.prog X.w) X.A (evalPairs (pairTrees keys values X.env pos)) (fun vs s'=>∃ps H',Inv X pins σ H' s'/\VV ps vs/\Q ps H') X.xe s
theorem aDd{X:Cx}:PPs X pos [] [] []:=fun pins s σ H Q I h=>pairTrees_nil_walk ⟨[],H,I,.nil,h⟩
theorem ZE{X:Cx}{k v:Expr}{ks:List (Option Expr)}{vs:List Expr}{tk tv:TE}{trs:List (TE×TE)}(hk:PE X k tk)(hv:PE X v tv)(hr:PPs X pos ks vs trs):
 PPs X pos (some k::ks) (v::vs) ((tk,tv)::trs):=fun pins s σ H Q I h=>
 pairTrees_cons_walk (thn (hk pins s σ H _ I h) fun u s1 ⟨x,H1,I1,rx,q1⟩=>thn (hv pins s1 σ H1 _ I1 q1) fun w2 s2 ⟨y,H2,I2,ry,q2⟩=>
  thn (hr pins s2 σ H2 _ I2 q2) fun ws s3 ⟨ps,H3,I3,rel,q3⟩=>⟨(x,y)::ps,H3,I3,.cons ⟨rx,ry⟩ rel,q3⟩)
def qG(kvs more:List (Key×V)):List (Key×V):=more.foldl (fun acc kv=>putK acc kv.1 kv.2) kvs
theorem KV.merge:∀{more:List (Key×V)}{rs:List (Key×Value)}{kvs:List (Key×V)}{vs:List (Key×Value)},KV more rs->KV kvs vs->KV (qG kvs more) (merged vs rs):=by
 intro more rs kvs vs r;unfold KV at r
 induction r generalizing kvs vs with
 |nil=>intro q;exact q
 |@cons p q ps qs h t ih=>
  intro r0
  have e:KV (putK kvs p.1 p.2) (stored vs q.1 q.2):=by
   have:=r0.put p.1 h.2;rw[<- h.1];exact this
  exact ih e
theorem sL:∀(more kvs:List (Key×V)),(qG kvs more).length<=kvs.length+more.length
 |[]=>fun kvs=>by show kvs.length<=kvs.length+0;omega
 |p::r=>fun kvs=>by
  have h1:=sL r (putK kvs p.1 p.2);have h2:=jA kvs p.1 p.2;show(qG (putK kvs p.1 p.2) r).length<=_;rw[E9];omega
theorem AO{P:Program}{w:World}:∀{kvs:List (Key×V)}{ws:List (Value×Value)},VV (kvs.map fun kv=>(kV kv.1,kv.2)) ws->∃rs,Carries (dA P w) ws rs/\KV kvs rs
 |[],_=>fun r=>by rw[List.map_nil]at r;cases r;exact⟨[],True.intro,.nil⟩
 |p::kvs,_=>fun r=>by
  rw[C7]at r;cases r with
  |@cons a b as bs h t=>
   obtain⟨rs,c,q⟩:=AO (P:=P) (w:=w) t;obtain⟨b1,b2⟩:=b;exact⟨(p.1,b2)::rs,⟨CZ h.1,rfl,c⟩,.cons ⟨rfl,h.2⟩ q⟩
def aDZ(trs:List (TE×TE)):TE:=fun σ H Q=>∀p,H p=none->FG trs σ (upd H p (.dK [])) fun ps H2=>H2 p=some (.dK [])/\∃kvs:List (Key×V),ps=kvs.map (fun kv=>(kV kv.1,kv.2))/\kvs.length<=15/\Q (.ref p) (upd H2 p (.dK (qG [] kvs)))
theorem aBM{X:Cx}{keys:List (Option Expr)}{values:List Expr}{trs:List (TE×TE)}(h:PPs X pos keys values trs)(hall:keys.all (·.isSome)=true)(hl:keys.length=values.length)(h0:keys≠[])
 (h15:keys.length<=15):PE X (.Dict keys values pos) (aDZ trs):=by
 intro pins s σ H Q I q;have hn:=I.hok.fresh (B0 s.heap.objs.size);have I1:=I.laid (a:=s.heap.objs.size) (o:=.dK []) (h':=s.heap.push { cls:=.type "dict",data:=.dict #[] }) (t':=s.toks) (fun _ _ q=>A4 _ q) (B0 _) (yZ s.heap I.big);refine wpAny_Dict_walk (knd:=dA X.prog X.w) hall hl h0 h15 (thn (h pins _ σ _ _ I1 (q _ hn)) fun ws s2 ⟨ps,H2,I2,rel,e,kvs,ep,lk,q2⟩=>?_);subst ep;obtain⟨rs,c,rk⟩:=AO (P:=X.prog) (w:=X.w) rel;obtain⟨z,hd,vs0,r0,dd⟩:=WX I2.hok e;cases r0;refine⟨rs,c,dd,fun h' dd' hs=>⟨.ref s.heap.objs.size,_,?_,rfl,q2⟩⟩
 have hz:(qG [] kvs).length<=sizeLine:=by
  have h1:=sL kvs [];rw[List.length_nil]at h1;rw[F0];omega
 have he:∃q,h'.get? s.heap.objs.size=some q:=let⟨q,_,_,hq,_⟩:=dd';⟨q,hq⟩;exact uQ I2 (by rw[e];exact True.intro) hs he (LR hz hd (rk.merge .nil) dd')
structure M1(X:Cx)(o:Expr)(m:Str)(apos:Pos)(e:Expr)(cpos:Pos):Prop where
 base:attributeBase o m X.env (eval o X.env)=eval o X.env
 few:((backTo cpos (starEach [e] X.env)).all (fun x=>!x.1)&&(backToKw cpos (keywordEach [] X.env)).all (fun x=>x.1.isSome)
  && decide (([e]:List Expr).length+([]:List Keyword).length+(if ([]:List Keyword).isEmpty then 0 else 1)<30))=true
 line:(apos.endLine==cpos.line)=true
 trees:backTo cpos (starEach [e] X.env)=[(false,eval e X.env)]
structure M2(X:Cx)(o:Expr)(m:Str)(apos:Pos)(e f:Expr)(cpos:Pos):Prop where
 base:attributeBase o m X.env (eval o X.env)=eval o X.env
 few:((backTo cpos (starEach [e,f] X.env)).all (fun x=>!x.1)&&(backToKw cpos (keywordEach [] X.env)).all (fun x=>x.1.isSome)
  && decide (([e,f]:List Expr).length+([]:List Keyword).length+(if ([]:List Keyword).isEmpty then 0 else 1)<30))=true
 line:(apos.endLine==cpos.line)=true
 trees:backTo cpos (starEach [e,f] X.env)=[(false,eval e X.env),(false,eval f X.env)]
end L2
namespace Att
open PySem PySem.W PySem.Calls PyProof.Rows
theorem xW{P:Params}{h:Heap}:∀(ns:List Int)(vs:List Value),WellAll P h vs (ns.map WData.int)->IntsAre vs ns:=by
 intro ns
 induction ns with
 |nil=>
  intro vs w;rw[List.map_nil]at w;cases w;exact .nil
 |cons n ns ih=>
  intro vs w;rw[C7]at w;cases w with
  |cons a b=>
   cases a;exact .cons _ _ (ih _ b)
theorem SD{l:OpenLaw}{n:Nat}(hn:l.most=some n){P:Params}{h:Heap}{args:List WData}{vals:List Value}
 (hpre:l.row.toRowW.claim.pre args=true) (hwl:WellAll P h vals args):
 ∃a vs ns,vals=[Value.ref a]/\args=[WData.list (ns.map WData.int)]/\h.get? a=some { cls:=.type "list",data:=.seq vs.toArray }/\IntsAre vs ns/\ns.length<=n:=by
 have hsh:WShape.hasAll [] args [.list .int]=true:=(pre_splitW hpre).1;have hc:l.pre.holds [] { args:=args }=true:=(pre_splitW hpre).2;obtain⟨d,r,rfl,h1,h2⟩:=hasAllW_cons hsh;obtain rfl:=hasAllW_nil h2;obtain⟨xs,rfl,h3⟩:=hasW_list h1;obtain⟨ns,rfl⟩:=items_int h3
 have hlen:ns.length<=n:=by
  unfold OpenLaw.pre at hc
  have h4:(WTm.not (.lt (.lit (.int (n:Int))) (.len (.arg 0)))).holds [] { args:=[.list (ns.map .int)] }=true:=by
   have h4:=(holds_andW hc).1;rw[hn]at h4;exact h4
  have h5:=condW_of h4 (w_not (w_lt w_lit (w_len_list (w_arg rfl))));rw[A7]at h5;refine Nat.le_of_not_lt fun q=>?_;have q':(n:Int)<((ns.length:Nat):Int):=by omega
  first
   |(rw[D3 q']at h5;exact absurd h5 (by decide))
   |(simp at h5;omega)
 cases hwl with
 |cons w1 w2=>
  cases w2;cases w1 with
  |list ho hall=>exact⟨_,_,ns,rfl,rfl,ho,xW ns _ hall,hlen⟩
theorem UF(l:OpenLaw)(args:List WData):l.row.toRowW.claim.post args (.bool true) args=true:=
 postW_of (r:=l.row.toRowW) (X:=(true==true))
  (show WShape.has [] (.bool true) .bool=true by first|rfl|decide|simp[WShape.has,WShape.arms,WShape.armsAll])
  (show(WTm.eq .res (.lit (.bool true))).value [] { args:=args,res:=some (.bool true),after:=args }=some (.bool (true==true))from w_eq_bool (w_res rfl) w_lit) rfl
theorem attach_call{l:OpenLaw}{n:Nat}{q:Program}{loose:List Str}{XP:(Str->Option Value)->Heap->Prop}{YP:World->Heap->Prop}{d:DefRec}
 (hn:l.most=some n) (hdf:d.params.defaults=[])
 (call:∀(w:World)(s₀ s₁:Shared)(mg mb:Str->Option Value)(fa:Addr)(o:Obj)(pm cd doc:Value)(a:Addr)(vs:List Value)(ns:List Int),
  Ground q loose [] XP w s₀ mg mb s₁.heap->YP w s₁.heap->
  s₁.heap.get? fa=some o->o.data=.func (docDef d.name d.params d.body d.scope pm cd doc)->s₁.heap.CodeRec cd d.name->mg d.name=some (.ref fa)->
  s₁.heap.get? a=some { cls:=.type "list",data:=.seq vs.toArray }->IntsAre vs ns->ns.length<=n->s₁.gens=#[]->
  codeAny (model l.prog w) callerA (.call (.ref fa) ⟨[.ref a],[]⟩) (fun r s'=>r=.ok (.ret (.bool true))/\OldK s₁.heap s'.heap/\s'.os=s₁.os/\AllBare s'.gens) s₁):
 WalkO q loose XP YP l.row.toRowW d [] (fun f vs=>PySem.call f vs):=by
 intro w s₀ s₁ mg mb G Y fa o pm cd doc dV kV ho hd hcd hD hmg hg args vals as hpre hlay hrd hwl hlo;obtain rfl:dV=.none:=Dflts.none hD hdf;obtain rfl:kV=.none:=Dflts.noKw hD;obtain⟨a,vs,ns,rfl,rfl,hobj,hints,hlen⟩:=SD hn hpre hwl;refine enter_call (Y6 (call w s₀ s₁ mg mb fa o pm cd doc a vs ns G Y ho (fd_plain hd) hcd hmg hobj hints hlen hg) fun r s' hq=>?_);obtain⟨rfl,h2,h3,h4⟩:=hq;exact⟨.inl ⟨.bool true,.bool true,[],rfl,fun _=>rfl,.bool true,UF l _,fun _=>⟨List.Pairwise.nil,fun _ hm=>(nomatch hm)⟩⟩,h2,h3,h4⟩
section
variable{prog:Program}{w:World}{A:Around}{E:Value->Shared->Prop}{s:Shared}{K:Frag}
end
end Att
namespace L2
open PySem PySem.Spec PyProof.Rows
theorem EG:∀{vs:List Value}{ns:List Int},IntsAre vs ns->aW (ns.map V.int) vs
 |_,_,.nil=>.nil
 |_,_,.cons n t h=>.cons ⟨t,rfl⟩ (EG h)
def aGv(H:Hp):Prop:=∀b,H b=none\/∃o xs,H b=some (.frz o (.lst xs))
theorem aAW{P:Program}{w:World}{K:Fg}{mg mb:Str->Option Value}{CX:CXT}{k:Nat}{fa a:Addr}{fd:FuncData}{x:Str}{sp:Sp}{s₁:Shared}{vs:List Value}{ns:List Int}
 (KX:K.In s₁.heap) (hns:s₁.heap.Ns mainGlobals mg) (hb:s₁.heap.Ns builtinsNs mb) (hbb:∀x:Str,x≠"__name__"->mb x=bootBuiltins x) (hlim:s₁.heap.NoLimit) (hsm:∃mm,s₁.heap.Ns sysModules mm) (hg:s₁.gens=#[])
 (ha:s₁.heap.get? a=some { cls:=.type "list",data:=.seq vs.toArray }) (hi:IntsAre vs ns) (hl:ns.length<=sizeLine) (hr:cA k callerA)
 (F:∀base:Heap,K.In base->base.Ns mainGlobals mg->kW P w K mg base CX k fa fd [x] sp) (hbind:∀(s:Shared)(u:Value),BindsTo s fd ⟨[u],[]⟩ [(x,u)])
 (hsp:∀H:Hp,aGv H->SqL K H a (ns.map V.int)->sp [.ref a] H (fun v _=>v=.bl true) fun _ _ _=>False)
 (hCX:∀H e s',CX [] H s₁ (fun _ _ _=>False) e s'->False):
 codeAny (model P w) callerA (.call (.ref fa) ⟨[.ref a],[]⟩) (fun r s'=>r=.ok (.ret (.bool true))/\OldK s₁.heap s'.heap/\s'.os=s₁.os/\AllBare s'.gens) s₁:=by
 have rv:=EG hi;have lenV:=hi.length
 have core:∀H:Hp,aGv H->SqL K H a (ns.map V.int)->HOk P w H s₁.heap->(∀b,H b≠none->b=a)->(H a≠none->K.lookup a=none)->
  codeAny (model P w) callerA (.call (.ref fa) ⟨[.ref a],[]⟩) (fun r s'=>r=.ok (.ret (.bool true))/\OldK s₁.heap s'.heap/\s'.os=s₁.os/\AllBare s'.gens) s₁:=by
  intro H hO hS hok hA hK;have base_of:∀{b:Addr}{o:Obj},s₁.heap.get? b=some o->H b=none->(HG s₁.heap H).get? b=some o:=fun e n=>VM e n
  have noA:∀{b:Addr}{o:Obj}{es:Array DictEntry}{ep:Nat},s₁.heap.get? b=some o->o.data=.dict es ep->H b=none:=fun{b o es ep} e d=>by
   cases q:H b with
   |none=>rfl
   |some u=>
    have e':b=a:=hA b (by rw[q];simp);subst e';rw[ha]at e;cases e;have d':Data.seq vs.toArray _=Data.dict es ep:=d;cases d'
  have nsK:∀{b:Addr}{m:Str->Option Value},s₁.heap.Ns b m->(HG s₁.heap H).Ns b m:=fun{b m} ⟨o,es,ep,e,d,r⟩=>⟨o,es,ep,base_of e (noA e d),d,r⟩
  have hKb:K.In (HG s₁.heap H):=fun b o e=>base_of (KX b o e) (by
   cases q:H b with
   |none=>rfl
   |some u=>
    have e':b=a:=hA b (by rw[q];simp);subst e';rw[hK (by rw[q];simp)]at e;cases e)
  have hM:Mod K mg (HG s₁.heap H):=⟨hKb,nsK hns,⟨mb,nsK hb,hbb⟩,(let⟨mc,h1,h2⟩:=hlim;⟨mc,nsK h1,h2⟩),(let⟨mm,hmm⟩:=hsm;let⟨o,es,ep,h1,h2,_⟩:=nsK hmm;⟨o,es,ep,h1,h2⟩)⟩;have e0:OG P w K mg (HG s₁.heap H) callerA [] s₁ H:=⟨rfl,hM,fun b o e=>aCF e,Nat.le_of_eq (UW _ _),trivial,fun b hb=>absurd (show b∈([]:List Addr)from hb) (by simp),hok,.of_eq hg⟩;refine Y6 ((F _ hKb (nsK hns)).run callerA [] s₁ H ⟨[.ref a],[]⟩ [.ref a] [.ref a] _ _ hr e0 (hbind s₁ (.ref a)) (.cons rfl .nil) (hsp H hO hS)) fun r s' h=>?_;cases r with
  |error e=>exact(hCX H e s' h).elim
  |ok fl=>
   cases fl with
   |next=>exact False.elim h
   |brk=>exact False.elim h
   |cont=>exact False.elim h
   |ret u=>
    obtain⟨v,H',os,bare,un,hok',r',q⟩:=h;have q':v=.bl true:=q;subst q';obtain rfl:u=Value.bool true:=r';refine⟨rfl,OldK.of_keep fun b o e=>?_,os,bare⟩;cases q:H b with
    |none=>exact un.keep b o e q (by intro z;exact absurd (show b∈([]:List Addr)from z) (by simp)) (by simp)
    |some u=>
     rcases hO b with z|⟨ob,xs,z⟩
     .rw[q]at z;cases z
     .have z2:=un.frzs b ob _ z;obtain⟨e1,_⟩:=hok b _ z;obtain⟨e2,_⟩:=hok' b _ z2;rw[e]at e1;cases e1;exact e2
 cases hk:K.lookup a with
 |some o=>
  have e:=KX a o hk;rw[ha]at e;cases e;refine core (fun _=>none) (fun _=>.inl rfl) (.inr ⟨_,vs.toArray,_,hk,rfl,rfl,rfl,by rw[C0,lenV];exact hl,by simpa using rv⟩) (fun b u z=>by have z':(none:Option HO)=some u:=z;cases z') (fun b z=>absurd rfl z) fun z=>absurd rfl z
 |none=>
  refine core (fun b=>if b=a then some (.frz { cls:=.type "list",data:=.seq vs.toArray } (.lst (ns.map V.int)))else none) (fun b=>?_) (.inl (.inr ⟨{ cls:=.type "list",data:=.seq vs.toArray },A9 rfl⟩)) (fun b u z=>?_) (fun b z=>?_) fun _=>hk
  .by_cases hb:b=a
   .exact .inr ⟨_,_,A9 hb⟩
   .exact .inl (B2 hb)
  .by_cases hb:b=a
   .have z':=(A9 hb).symm.trans z;cases z';subst hb;exact⟨ha,by rw[A7];exact hl,vs,_,rv,ha⟩
   .have z':=(B2 hb).symm.trans z;cases z'
  .by_cases hb:b=a
   .exact hb
   .exact absurd (B2 hb) z
abbrev KOf{K:Fg}{h:Heap}(_:K.In h):Fg:=K
theorem walk_of{l:PySem.W.OpenLaw}{n k:Nat}{q:Program}(hq:PyProof.Rows.importsNone q=true){loose:List Str}{XP:(Str->Option Value)->Heap->Prop}{YP:World->Heap->Prop}{d:DefRec}{K:Params->Fg}{CX:World->CXT}{sp:World->Sp}{x:Str}
 (hn:l.most=some n) (hn2:n<=sizeLine) (hdf:d.params.defaults=[]) (hr:cA k callerA)
 (hY:∀(w:World)(h:Heap),YP w h->(K w.params).In h)
 (F:∀(w:World)(mg:Str->Option Value)(fa:Addr)(h:Heap),(K w.params).In h->h.Ns mainGlobals mg->mg d.name=some (.ref fa)->
  ∃fd:FuncData,(∀(s:Shared)(u:Value),BindsTo s fd ⟨[u],[]⟩ [(x,u)]) /\
   ∀base:Heap,(K w.params).In base->base.Ns mainGlobals mg->kW l.prog w (K w.params) mg base (CX w) k fa fd [x] (sp w))
 (hsp:∀(w:World)(H:Hp)(a:Addr)(ns:List Int),ns.length<=n->aGv H->SqL (K w.params) H a (ns.map V.int)->sp w [.ref a] H (fun v _=>v=.bl true) fun _ _ _=>False)
 (hCX:∀(w:World)(H:Hp)(s:Shared)(e:Value)(s':Shared),CX w [] H s (fun _ _ _=>False) e s'->False):
 PySem.W.WalkO q loose XP YP l.row.toRowW d [] (fun f vs=>PySem.call f vs):=by
 refine Att.attach_call hn hdf fun w s₀ s₁ mg mb fa o pm cd doc a vs ns G Y ho hd hcd hmg hobj hints hlen hg=>?_;have KX:=hY w _ Y;obtain⟨fd,hb,hF⟩:=F w mg fa _ KX G.T.g hmg;exact aAW KX G.T.g G.T.b G.T.builtins G.T.nolimit (let⟨mm,hmm,_⟩:=(G.T.seer hq).mods;⟨mm,hmm⟩) hg hobj hints (D0 hlen hn2) hr hF hb (fun H hO hS=>hsp w H a ns hlen hO hS) fun H e s'=>hCX w H s₁ e s'
end L2
namespace L2
variable{H H':Hp}{W:Wd}{M M':Sto}{γ:Ga}{K:Fg}
open PySem PySem.Spec PyProof.Rows
def inClass(s:Stmt)(j:Nat):Stmt:=match s with
 |.ClassDef _ _ _ body _ _ _ _ _ _ _=>body.getD j (.Pass ⟨0,0,0,0⟩)
 |_=>.Pass ⟨0,0,0,0⟩
def eG(s:Stmt):Arguments:=match s with
 |.FunctionDef _ a _ _ _ _ _ _ _ _=>a
 |_=>{ posonlyargs:=[],args:=[],vararg:=none,kwonlyargs:=[],kw_defaults:=[],kwarg:=none,defaults:=[] }
def bJ(s:Stmt):List Stmt:=match s with
 |.FunctionDef _ _ b _ _ _ _ _ _ _=>b
 |_=>[]
def aF(s:Stmt):Scope:=match s with
 |.FunctionDef _ _ _ _ _ _ sc _ _ _=>sc
 |_=>{ kind:=.function,names:=[],isGenerator:=false,isCoroutine:=false }
abbrev CX0:CXT:=fun _ _ _ _ _ _=>False
abbrev E0:XK:=fun _ _ _=>False
theorem aEF{X:Cx}:GZ CX0 X E0:=fun _ _ _ _ _ _ _ h=>h.elim
structure Fun(K:Fg)(x qual:Str)(st:Stmt)(f:Addr)(fd:FuncData):Prop where
 ex:∃(oc:Value)(od:Option Addr)(kV doc pm:Value)(an:Option Addr)(cdv ct:Value)(osl:Array (Option Value)),
  fd=PySem.W.fnOf x qual (eG st) (bJ st) (aF st) .none kV doc pm an cdv ct/\K.lookup f=some ⟨oc,od,.func fd,osl⟩/\PySem.W.codeIn K cdv qual=true
 kp:PySem.W.keepIn K (.ref f)=true
section
variable{P:Program}{w:World}{K:Fg}{mg:Str->Option Value}{base:Heap}
theorem Fun.ok{x qual:Str}{st:Stmt}{f:Addr}{fd:FuncData}{N ps:List Str}{k:Nat}{sp:Sp}{q:Bool}(F:Fun K x qual st f fd)(S:aQ N ps (aF st))(len:∀vs H Q E,sp vs H Q E->vs.length=ps.length)
 (hbody:∀(cdv:Value)(A:Around)(outer:List Env)(s:Shared)(H:Hp)(vs:List V)(Q:VK)(E:XK),cA k (A.deeper (envOfC qual (aF st) s.heap.objs.size f cdv)) q->sp vs H Q E->
  ∃t,PSs (mL CX0 P w K mg base N qual (aF st) f cdv A outer s H E q).nox (bJ st) t/\t { nx:=fun _ H'=>Q .non H',rt:=Q } (start N vs) H):kW P w K mg base CX0 (k+1) f fd ps sp q:=by
 obtain⟨oc,od,kV,doc,pm,an,cdv,ct,osl,rfl,lk,hcd⟩:=F.ex;refine aEE lk hcd S len fun A outer s H vs Q E hr hsp=>?_;obtain⟨t,h,z⟩:=hbody cdv A outer s H vs Q E hr hsp;exact⟨t,h.nox,z⟩
theorem Fun.binds{x qual:Str}{st:Stmt}{f:Addr}{fd:FuncData}{ps:List Str}(F:Fun K x qual st f fd)
 (h:∀(kV doc pm:Value)(an:Option Addr)(cdv ct:Value)(us:List Value),us.length=ps.length->bindArgs (PySem.W.fnOf x qual (eG st) (bJ st) (aF st) .none kV doc pm an cdv ct) ⟨us,[]⟩=pure (ps.zip us)):Binds K fd ps []:=by
 obtain⟨oc,od,kV,doc,pm,an,cdv,ct,osl,rfl,lk,hcd⟩:=F.ex;exact .all (h kV doc pm an cdv ct)
theorem ZT{x qual:Str}{st:Stmt}{f:Addr}{oc:Value}{od an:Option Addr}{osl:Array (Option Value)}{kV doc pm cdv ct:Value}(l:K.lookup f=some ⟨oc,od,.func (PySem.W.fnOf x qual (eG st) (bJ st) (aF st) .none kV doc pm an cdv ct),osl⟩)
 (c:PySem.W.codeIn K cdv qual=true) (k:PySem.W.keepIn K (.ref f)=true):Fun K x qual st f (PySem.W.fnOf x qual (eG st) (bJ st) (aF st) .none kV doc pm an cdv ct):=⟨⟨oc,od,kV,doc,pm,an,cdv,ct,osl,rfl,l,c⟩,k⟩
end
def iN(H H':Hp):Prop:=∀b o,H b=some o->H' b=some o
theorem iN.refl(H:Hp):iN H H:=fun _ _ h=>h
theorem iN.trans{H1 H2:Hp}(a:iN H H1)(b:iN H1 H2):iN H H2:=fun c o h=>b c o (a c o h)
theorem iN.free(e:iN H H'){l:Addr}(h:H' l=Option.none):H l=Option.none:=by
 cases q:H l with
 |none=>rfl
 |some o=>
  rw[e l o q]at h;cases h
theorem iN.seq{a:Addr}{xs:List V}(e:iN H H')(h:SqL K H a xs):SqL K H' a xs:=by
 rcases h with(h|⟨o,h⟩)|h
 .exact .inl (.inl (e _ _ h))
 .exact .inl (.inr ⟨o,e _ _ h⟩)
 .exact .inr h
def eI(env:Env):List (Str×NameKind)->List (Str×Addr)->List (Str×Addr)
 |[],cs=>cs
 |y::r,cs=>eI env r (if (y.2==NameKind.free)=true then(y.1,(env.cells.lookup y.1).getD 0)::cs else cs)
theorem tS{env:Env}:∀(l:List (Str×NameKind))(cs:List (Str×Addr)),(∀y∈l,y.2=.free->∃c,env.cells.lookup y.1=some c)->
 (forIn l cs fun(x:Str×NameKind)(r:List (Str×Addr))=>if (x.2==NameKind.free)=true then(do
  let a <- cellOf env x.1
  pure (ForInStep.yield ((x.1,a)::r)))else pure (ForInStep.yield r))=(pure (eI env l cs):Sem (List (Str×Addr)))
 |[]=>fun cs _=>rfl
 |y::l=>fun cs h=>by
  rw[List.forIn_cons];by_cases hk:(y.2==NameKind.free)=true
  .obtain⟨c,hc⟩:=h y B5 (by simpa using hk);have e1:cellOf env y.1=pure c:=by unfold cellOf;rw[hc]
   rw[A9 hk,e1];show(forIn l ((y.1,c)::cs) _:Sem _)=_;rw[tS l _ fun z hz=>h z (B3 _ hz)]
   conv=>rhs;unfold eI
   rw[A9 hk,hc];rfl
  .rw[B2 hk];show(forIn l cs _:Sem _)=_;rw[tS l _ fun z hz=>h z (B3 _ hz)]
   conv=>rhs;unfold eI
   rw[B2 hk]
theorem zD{scope:Scope}{env:Env}(h:∀y∈scope.names,y.2=.free->∃c,env.cells.lookup y.1=some c):closureFor scope env=pure (eI env scope.names []):=by
 have e:=tS (env:=env) scope.names [] h;unfold closureFor
 show((forIn scope.names ([]:List (Str×Addr)) fun(x:Str×NameKind)(r:List (Str×Addr))=>if (x.2==NameKind.free)=true then(do
  let a <- cellOf env x.1
  pure (ForInStep.yield ((x.1,a)::r)))else pure (ForInStep.yield r)) >>= fun z=>pure z:Sem (List (Str×Addr)))=_
 rw[e];rfl
theorem DA{env:Env}:∀(l:List (Str×NameKind))(cs:List (Str×Addr)),(∀y∈l,y.2=.free->∃c,env.cells.lookup y.1=some c)->(∀x c,cs.lookup x=some c->env.cells.lookup x=some c)->
 ∀x c,(eI env l cs).lookup x=some c->env.cells.lookup x=some c
 |[]=>fun cs _ h x c e=>h x c e
 |y::l=>fun cs hf h x c e=>by
  unfold eI at e;refine DA l _ (fun z hz=>hf z (B3 _ hz)) ?_ x c e;intro z d ez;by_cases hk:(y.2==NameKind.free)=true
  .rw[A9 hk]at ez;obtain⟨c',hc'⟩:=hf y B5 (by simpa using hk);rw[hc']at ez;rw[D9]at ez;by_cases hz:(z==y.1)=true
   .rw[hz]at ez;have hz':z=y.1:=by simpa using hz
    rw[hz',hc'];exact ez
   .have hz':(z==y.1)=false:=by simpa using hz
    rw[hz']at ez;exact h z d ez
  .rw[B2 hk]at ez;exact h z d ez
theorem vZ{env:Env}:∀(l:List (Str×NameKind))(cs:List (Str×Addr))(x:Str),((x,NameKind.free)∈l\/∃c,cs.lookup x=some c)->∃c,(eI env l cs).lookup x=some c
 |[]=>fun cs x h=>by
  rcases h with h|h
  .exact absurd h (by simp)
  .exact h
 |y::l=>fun cs x h=>by
  unfold eI;refine vZ l _ x ?_;rcases h with h|⟨c,hc⟩
  .rcases List.mem_cons.mp h with e|e
   .subst e;refine .inr ?_;rw[A9 (by rfl)];exact⟨(env.cells.lookup x).getD 0,by rw[D9];simp⟩
   .exact .inl e
  .refine .inr ?_;by_cases hk:(y.2==NameKind.free)=true
   .rw[A9 hk,D9];by_cases hz:(x==y.1)=true
    .rw[hz];exact⟨_,rfl⟩
    .have hz':(x==y.1)=false:=by simpa using hz
     rw[hz'];exact⟨c,hc⟩
   .rw[B2 hk];exact⟨c,hc⟩
theorem tN{env:Env}:∀{names:List (Str×NameKind)}{x:Str}{k:NameKind},
 (names.map fun(y:Str×NameKind)=>if (y.2==NameKind.free&&env.scope.kind==.function&&env.kindOf y.1==some .cell)=true then(y.1,NameKind.cell)else(y.1,y.2)).lookup x=some k->
 (names.lookup x=some k)\/(names.lookup x=some .free/\k=.cell)
 |[],x,k=>fun h=>by simp at h
 |y::r,x,k=>fun h=>by
  rw[C7]at h;by_cases hx:(x==y.1)=true
  .by_cases hc:(y.2==NameKind.free&&env.scope.kind==.function&&env.kindOf y.1==some .cell)=true
   .rw[A9 hc,D9,hx]at h;rw[D9,hx];have:y.2=.free:=by simp at hc;exact hc.1.1
    refine .inr ⟨by rw[this],?_⟩;cases h;rfl
   .rw[B2 hc,D9,hx]at h;rw[D9,hx];exact .inl h
  .have hx':(x==y.1)=false:=by simpa using hx
   have h':(r.map fun(y:Str×NameKind)=>if (y.2==NameKind.free&&env.scope.kind==.function&&env.kindOf y.1==some .cell)=true then(y.1,NameKind.cell)else(y.1,y.2)).lookup x=some k:=by
    by_cases hc:(y.2==NameKind.free&&env.scope.kind==.function&&env.kindOf y.1==some .cell)=true
    .rw[A9 hc,D9,hx']at h;exact h
    .rw[B2 hc,D9,hx']at h;exact h
   rw[D9,hx'];exact tN h'
theorem zT{env:Env}:∀{names:List (Str×NameKind)}{x:Str},names.lookup x=some .free->
 (names.map fun(y:Str×NameKind)=>if (y.2==NameKind.free&&env.scope.kind==.function&&env.kindOf y.1==some .cell)=true then(y.1,NameKind.cell)else(y.1,y.2)).lookup x=some .cell \/
 (names.map fun(y:Str×NameKind)=>if (y.2==NameKind.free&&env.scope.kind==.function&&env.kindOf y.1==some .cell)=true then(y.1,NameKind.cell)else(y.1,y.2)).lookup x=some .free
 |[],x=>fun h=>by simp at h
 |y::r,x=>fun h=>by
  rw[C7];by_cases hx:(x==y.1)=true
  .rw[D9,hx]at h;have hy:y.2=.free:=E2 h;by_cases hc:(y.2==NameKind.free&&env.scope.kind==.function&&env.kindOf y.1==some .cell)=true
   .rw[A9 hc,D9,hx];exact .inl rfl
   .rw[B2 hc,D9,hx];exact .inr (by rw[hy])
  .have hx':(x==y.1)=false:=by simpa using hx
   rw[D9,hx']at h;have ih:=zT (env:=env) h;by_cases hc:(y.2==NameKind.free&&env.scope.kind==.function&&env.kindOf y.1==some .cell)=true
   .rw[A9 hc,D9,hx'];exact ih
   .rw[B2 hc,D9,hx'];exact ih
def JT(X:Cx)(ifs:List Expr)(t:TT):Prop:=
 ∀(pins:List (Addr×Obj))(s:Shared)(σ:St)(H:Hp)(Q:Bool->Hp->Prop),Inv X pins σ H s->t σ H Q->
  wpAny (model X.prog X.w) X.A (forIn ifs true fun c r=>if r=true then(do
   let ok <- isTrue c X.env (eval c X.env)
   pure (ForInStep.yield ok))else pure (ForInStep.yield r)) (TP X pins σ Q) X.xe s
def aJw:TT:=fun _ H Q=>Q true H
theorem WG{X:Cx}:JT X [] aJw:=fun _ _ _ H _ I h=>wpAny_tests_nil ⟨H,I,h⟩
theorem XI{X:Cx}{c:Expr}{t:TT}(h:PT X c t):JT X [c] t:=fun pins s σ H Q I hq=>wpAny_tests_one (h pins s σ H Q I hq)
section
variable{prog:Program}{w:World}{A:Around}{R:Result->Shared->Prop}{s:Shared}
theorem aBx{elt target iter:Expr}{ifs:List Expr}{scope:Scope}{pos:Pos}{it acc:Value}{env:Env}(I:Nat->Shared->Prop)
 (turn:∀n s,I n s->wpAny (model prog w) A (pyNext it) (fun r s1=>(r=none/\R (.ok .next) s1)\/∃v,r=some v /\
  wpAny (model prog w) A (letOwnedTupleGo target it v) (fun _ s2=>wpAny (model prog w) A (assign target env v) (fun _ s3=>
   wpAny (model prog w) A (forIn ifs true fun c r=>if r=true then(do
    let ok <- isTrue c env (eval c env)
    pure (ForInStep.yield ok))else pure (ForInStep.yield r)) (fun ok s4=>
     (ok=true/\wpAny (model prog w) A (eval elt env) (fun x s5=>wpAny (model prog w) A (call (.builtin "list.append") [acc,x]) (fun _ s6=>∃m,m<n/\I m s6) (fun _ _=>False) s5) (fun _ _=>False) s4) \/
     (ok=false/\∃m,m<n/\I m s4)) (fun _ _=>False) s3) (fun _ _=>False) s2) (fun _ _=>False) s1) (fun _ _=>False) s)
 (n:Nat) (h:I n s):codeAny (model prog w) A (.compLoop (.ListComp elt [⟨target,iter,ifs,0⟩] scope pos) 0 it acc env) R s:=by
 refine codeAny_loop rfl I (fun n s hI=>?_) n h
 show wpAny _ A ((compTurn (.ListComp elt [⟨target,iter,ifs,0⟩] scope pos) 0 it acc env).onRaise fun x=>do
  noteFrame x env
  theTreesLotGoes x) _ _ s
 refine wpAny_noted ?_;rw[compTurn_list];refine A3 (A0n (A3 (E3 (turn n s hI) (fun r s1 h1=>?_) fun _ _ f=>f.elim)));rcases h1 with⟨rfl,h1⟩|⟨v,rfl,h1⟩
 .exact A6 h1
 .refine A3 (E3 h1 (fun _ s2 h2=>?_) fun _ _ f=>f.elim);refine A3 (E3 h2 (fun _ s3 h3=>?_) fun _ _ f=>f.elim);refine A3 (E3 h3 (fun ok s4 h4=>?_) fun _ _ f=>f.elim);rcases h4 with⟨rfl,h4⟩|⟨rfl,h4⟩
  .refine A3 (A3 (E3 h4 (fun x s5 h5=>?_) fun _ _ f=>f.elim));exact A3 (E3 h5 (fun _ s6 h6=>A6 (A6 ⟨rfl,h6⟩)) fun _ _ f=>f.elim)
  .exact A6 ⟨rfl,h4⟩
end
def eZ(X:Cx)(N':List Str)(scope:Scope)(C:Addr)(s2:Shared)(H2:Hp)(fp:List Addr)(pn:List (Addr×Obj)):Cx:=
 { X with N:=N',s₀:=s2,H₀:=H2,env:=compEnvC scope (eI X.env scope.names []) C X.env,outer:=X.stack,stack:=X.stack,ex:=fp,fn:=fun _=>false,pn:=X.pn++pn,xe:=fun _ _=>False }
def xQ(cap:List (Option Nat))(σ:St):St:=cap.map fun o=>o.bind fun j=>(σ[j]?).join
structure pX(X:Cx)(N':List Str)(cap:List (Option Nat))(scope:Scope):Prop where
 nocell:∀y∈scope.names,y.2≠.cell
 kind:scope.kind=.function
 names:∀y∈scope.names,y.2=.local->scope.names.lookup y.1=some .local
 frees:∀y∈scope.names,y.2=.free->X.env.kindOf y.1=some .cell\/X.env.kindOf y.1=some .free
 len:cap.length=N'.length
 cap:∀(i j:Nat),cap[i]?=some (some j)->∃x,N'[i]?=some x/\X.N[j]?=some x/\scope.names.lookup x=some .free
section
variable{X:Cx}{N':List Str}{cap:List (Option Nat)}{scope:Scope}{pins:List (Addr×Obj)}{σ:St}{H:Hp}{s:Shared}
theorem pX.cells(S:pX X N' cap scope)(ok:X.Ok):∀y∈scope.names,y.2=.free->∃c,X.env.cells.lookup y.1=some c:=fun y hy hk=>ok.has y.1 (S.frees y hy hk)
theorem pX.sub(S:pX X N' cap scope)(ok:X.Ok):∀x c,(eI X.env scope.names []).lookup x=some c->X.env.cells.lookup x=some c:=
 DA scope.names [] (S.cells ok) fun x c e=>by simp at e
theorem pX.kinds(S:pX X N' cap scope){C:Addr}{cl:List (Str×Addr)}{x:Str}(h:(compEnvC scope cl C X.env).kindOf x=some .cell\/(compEnvC scope cl C X.env).kindOf x=some .free):scope.names.lookup x=some .free:=by
 rcases h with h|h
 .rcases tN (names:=scope.names) h with q|⟨q,_⟩
  .exact absurd rfl (S.nocell _ (F8 q))
  .exact q
 .rcases tN (names:=scope.names) h with q|⟨q,_⟩
  .exact q
  .exact q
theorem Inv.stkAll(I:Inv X pins σ H s){b:Addr}(h1:b≠X.env.locals)(h2:b∉X.fs):b∉frs X.stack:=fun hb=>(List.mem_cons.mp (I.stkSub b hb)).elim h1 h2
theorem JP(S:pX X N' cap scope)(I:Inv X pins σ H s){fp:List Addr}{h4:Heap}{C:Addr}{tk:Nat}(hf:∀b∈fp,qR X pins H b)(hlt:∀b∈fp,b<s.heap.objs.size)
 (hC:s.heap.objs.size<=C) (hn:h4.Ns C fun _=>none) (hk:∀b o,s.heap.get? b=some o->h4.get? b=some o):
 Inv (eZ X N' scope C s H fp pins) [] (xQ cap σ) H { s with heap:=h4,toks:=tk }:=by
 have cellLt:∀x c,X.env.cells.lookup x=some c->c<s.heap.objs.size:=fun x c e=>by
  obtain⟨v,q⟩:=I.cell x c e;exact q.lt
 have fresh:H C=none:=I.hok.fresh hC
 have ok:(eZ X N' scope C s H fp pins).Ok:=by
  refine⟨I.ok.mod,S.kind,I.ok.glob,I.ok.blt,hC,fun x y c h1 h2=>?_,fun x hx=>?_,fun x c hx _=>?_,I.ok.hd,I.ok.frames,.inl rfl,fun b hb=>⟨?_,fun x c e=>?_⟩,I.bs,D0 I.ok.bsz I.sz,fun b o e hb=>?_,fun b hb=>?_,I.stack,I.stkFree⟩
  .exact I.ok.inj x y c (S.sub I.ok x c h1) (S.sub I.ok y c h2)
  .exact vZ scope.names [] x (.inl (F8 (S.kinds hx)))
  .exact absurd hx (by show ¬(false=true);decide)
  .exact B8 (C2 (hlt b hb) hC)
  .exact(hf b hb).2.2.2.2.1 x c (S.sub I.ok x c e)
  .rcases (hf b hb).2.2.2.1 with z|z
   .exact I.ok.noex b o e z
   .exact absurd (C2 (A8 (I.ok.bs b o e).1) z) (J1 _)
  .exact I.stkAll (hf b hb).2.1 (hf b hb).2.2.1
 refine⟨ok,rfl,I.bare,Un.kept hk,⟨_,hn,fun i x v h1 h2 h3=>?_⟩,fun x c e=>?_,fresh,fun x c e=>I.freeC x c (S.sub I.ok x c e),fun p hp=>?_,I.hok.kept hk,?_⟩
 .-- a name that is caught
  have h2':(cap[i]?).map (fun o=>o.bind fun j=>(σ[j]?).join)=some (some v):=by
   have:(xQ cap σ)[i]?=some (some v):=h2;unfold xQ at this;rw[C8]at this;exact this
  cases e:cap[i]? with
  |none=>rw[e]at h2';simp at h2'
  |some o=>
   cases o with
   |none=>rw[e]at h2';simp at h2'
   |some j=>
    rw[e]at h2';obtain⟨x',a1,a2,a3⟩:=S.cap i j e
    have ex:x'=x:=by
     have:N'[i]?=some x:=h1;rw[a1]at this;exact E2 this
    subst ex
    have sv:σ[j]?=some (some v):=by
     have q:(σ[j]?).join=some v:=E2 h2';cases f:σ[j]? with
     |none=>rw[f]at q;simp at q
     |some o=>rw[f]at q;cases o with
      |none=>simp at q
      |some v'=>simp at q;rw[q]
    have hv:X.env.kindOf x'=some .cell\/X.env.kindOf x'=some .free:=S.frees _ (F8 a3) rfl;obtain⟨m,hm,hl⟩:=I.loc;obtain⟨u,r,l⟩:=hl j x' v a2 sv (hv.elim (fun z=>.inr (.inl z)) fun z=>.inr (.inr z));refine⟨u,r,.inr ⟨?_,?_⟩⟩
    .exact zT (env:=X.env) (names:=scope.names) a3
    .rcases l with⟨hk',_⟩|⟨_,c,hc,o,ho,hd⟩
     .rcases hv with z|z<;>rw[z]at hk'<;>cases hk'
     .obtain⟨c',hc'⟩:=vZ (env:=X.env) scope.names [] x' (.inl (F8 a3));have:=S.sub I.ok x' c' hc';rw[hc]at this;cases this;exact⟨c,hc',o,hk c o ho,hd⟩
 .obtain⟨v,o,ho,hd⟩:=I.cell x c (S.sub I.ok x c e);exact⟨v,o,hk c o ho,hd⟩
 .have hp':p∈X.pn++pins:=by
   rcases List.mem_append.mp hp with z|z
   .exact z
   .exact absurd z (by simp)
  obtain⟨e,n,ne,nf,d⟩:=I.pin p hp';exact⟨hk _ _ e,n,B8 (C2 (A8 e) hC),I.stkAll ne nf,d⟩
 .show(xQ cap σ).length=N'.length;unfold xQ;rw[A7];exact S.len
end
def tLc(cap:List (Option Nat))(wi:TI)(g:TG)(tc:TT)(te:TE):TE:=fun σ H Q=>wi σ H fun J H1=>∃W:Nat->Nat->List V->St->Hp->Prop,(∃m,W 0 m [] (xQ cap σ) H1)/\∀i m acc σ' H',W i m acc σ' H'->
 (J.stop i H'/\∀p,H' p=none->Q (.ref p) (upd H' p (.lst acc))) \/
 (J.go i H'/\acc.length<sizeLine/\∃N:List V->St->Hp->Prop,(∀acc' σ2 H2,N acc' σ2 H2->∃m',m'<m/\W (i+1) m' acc' σ2 H2)/\∀x H2,J.yld i H' x H2->g x σ' H2 fun σ2 H3=>tc σ2 H3 fun b H4=>(b=true/\te σ2 H4 fun v H5=>N (acc++[v]) σ2 H5)\/(b=false/\N acc σ2 H4))
section
variable{X:Cx}{N':List Str}{cap:List (Option Nat)}{scope:Scope}
theorem XE{elt tg iter:Expr}{ifs:List Expr}{pos:Pos}{wi:TI}{g:TG}{tc:TT}{te:TE}(hc:X.calm=true)(S:pX X N' cap scope)(hi:PI X tg iter wi)
 (hg:∀C s H fp pn,PG (eZ X N' scope C s H fp pn) tg g) (hif:∀C s H fp pn,JT (eZ X N' scope C s H fp pn) ifs tc) (he:∀C s H fp pn,PE (eZ X N' scope C s H fp pn) elt te)
 (hs:∀x,foldedSetIterable iter X.env x=pure x) {pins:List (Addr×Obj)} {s:Shared} {σ:St} {H:Hp} {Q:VK} (I:Inv X pins σ H s) (h:tLc cap wi g tc te σ H Q)
 {use:Option (Value->Sem Unit)} {QQ:Value->Shared->Prop}
 (post:∀(D C:Addr)(H':Hp)(acc:List V)(s':Shared),D≠C->(∃m,s'.heap.Ns C m)->(∀h',Heap.SameBut C s'.heap h'->Inv X pins σ (upd H' D (.lst acc)) { s' with heap:=h' })->qR X pins (upd H' D (.lst acc)) C->Q (.ref D) (upd H' D (.lst acc))->compPost (model X.prog X.w) X.A X.xe use QQ (.ref D) C (.ok .next) s'):
 wpAny (model X.prog X.w) X.A (comprehension (.ListComp elt [⟨tg,iter,ifs,0⟩] scope pos) scope X.env (firstIterPos [⟨tg,iter,ifs,0⟩] pos) (newList []) false (firstIter [⟨tg,iter,ifs,0⟩] X.env) use) QQ X.xe s:=by
 refine wpAny_comprehension_free (e:=.ListComp elt [⟨tg,iter,ifs,0⟩] scope pos) (g:=⟨tg,iter,ifs,0⟩) (gs:=[]) rfl hs (zD (S.cells I.ok)) S.kind S.names ?_;refine thn (hi pins s σ H _ I h) fun v s1 h1=>thn h1 fun itv s2 h2=>?_;obtain⟨it,fp,tn,J,H2,e,I2,T,st2,f2,W,⟨m0,w0⟩,turn⟩:=h2;subst e
 have fplt:∀b∈fp,b<s2.heap.objs.size:=fun b hb=>by
  obtain⟨o,e,_⟩:=T.obj _ _ st2 b hb;exact A8 e
 refine C4 (wpAny_newFunctionEnv S.nocell (fun y hy=>by simp at hy) (fun h1' hns hsb=>?_) S.kind);dsimp only at hns hsb ⊢;generalize hP:s2.heap.push { cls:=.type "list",dict:=none,data:=.seq ([]:List Value).toArray }=P2 at hns hsb ⊢;have hsz:P2.objs.size=s2.heap.objs.size+1:=by rw[<- hP,O6]
 have hDC:s2.heap.objs.size≠P2.objs.size:=by rw[hsz];exact B8 (J9 _)
 have hC:s2.heap.objs.size<=P2.objs.size:=by rw[hsz];exact A0f _
 have keepP:∀b o,P2.get? b=some o->b≠P2.objs.size->h1'.get? b=some o:=fun b o e hb=>hsb.extBut b o hb (A4 _ e);have old:∀b o,s2.heap.get? b=some o->h1'.get? b=some o:=fun b o e=>keepP b o (by rw[<- hP];exact A4 _ e) (B8 (C2 (A8 e) hC));have hD0:h1'.get? s2.heap.objs.size=some { cls:=.type "list",data:=.seq #[] 0 }:=keepP _ _ (by rw[<- hP];exact B6 _ rfl) hDC
 have I4:Inv (eZ X N' scope P2.objs.size s2 H2 fp pins) [] (xQ cap σ) H2 { s2 with heap:=h1',toks:=s2.toks+([]:List (Str×Value)).length }:=
  JP S I2 f2 fplt hC (by simpa using hns) old
 have loop:∀s4:Shared,s4={ s2 with heap:=h1',toks:=s2.toks+([]:List (Str×Value)).length }->
  codeAny (model X.prog X.w) X.A (.compLoop (.ListComp elt [⟨tg,iter,ifs,0⟩] scope pos) 0 (.ref it) (.ref s2.heap.objs.size) (compEnvC scope (eI X.env scope.names []) P2.objs.size X.env)) (compPost (model X.prog X.w) X.A X.xe use QQ (.ref s2.heap.objs.size) P2.objs.size) s4:=by
  rintro s4 rfl
  have hfrD:s2.heap.objs.size∉frs X.stack:=fun hb=>by
   obtain⟨_,o,ho,_⟩:=I2.stack.mem hb;exact absurd (A8 ho) (J1 _)
  have cne:∀x c,(eI X.env scope.names []).lookup x=some c->c<s2.heap.objs.size:=fun x c e=>by
   obtain⟨v,q⟩:=I2.cell x c (S.sub I2.ok x c e);exact q.lt
  have stat:∀{Hx:Hp}{ob:Obj},(∀b∈fp,Hx b=none)->∀b∈fp,qR (eZ X N' scope P2.objs.size s2 H2 fp pins) [(s2.heap.objs.size,ob)] Hx b:=fun{Hx ob} hn b hb=>by
   refine⟨hn b hb,B8 (C2 (fplt b hb) hC),I2.stkAll (f2 b hb).2.1 (f2 b hb).2.2.1,.inl hb,fun x c e=>(f2 b hb).2.2.2.2.1 x c (S.sub I2.ok x c e),fun p hp=>?_⟩;rcases List.mem_append.mp hp with z|z
   .exact(f2 b hb).2.2.2.2.2 p z
   .rw[List.mem_singleton.mp z];exact J0 (fplt b hb)
  refine aBx (fun n s'=>∃(i:Nat)(σ':St)(H':Hp)(acc:List V)(its:List Value)(nn:Nat),Inv (eZ X N' scope P2.objs.size s2 H2 fp pins) [] σ' H' s'/\tn i s'.heap/\(∀b∈fp,H' b=none)/\H' s2.heap.objs.size=none /\
   s'.heap.get? s2.heap.objs.size=some { cls:=.type "list",data:=.seq its.toArray nn }/\aW acc its/\acc.length<=sizeLine/\W i n acc σ' H') ?_ m0
   ⟨0,xQ cap σ,H2,[],[],0,I4,T.keep _ _ _ st2 fun b _ o e=>old b o e,fun b hb=>(f2 b hb).1,I2.hok.fresh (B0 _),hD0,.nil,J4 _,w0⟩
  rintro n s5 ⟨i,σ',H',acc,its,nn,I5,t5,fr5,d5,g5,va,la,w5⟩
  have I5p:Inv (eZ X N' scope P2.objs.size s2 H2 fp pins) [(s2.heap.objs.size,{ cls:=.type "list",data:=.seq its.toArray nn })] σ' H' s5:=I5.pins_of fun p hp=>by
   rw[List.mem_singleton.mp hp];exact⟨g5,d5,hDC,hfrD,fun v z=>by cases z⟩
  rcases turn i n acc σ' H' w5 with⟨stop,q⟩|⟨go,lt,N,hN,step⟩
  .refine thn (T.done (eZ X N' scope P2.objs.size s2 H2 fp pins) rfl rfl rfl hc i _ s5 σ' H' _ I5p (stat fr5) t5 stop) fun r s6 ⟨hr,I6⟩=>.inl ⟨hr,?_⟩;have d6:=(I6.pin (s2.heap.objs.size,{ cls:=.type "list",data:=.seq its.toArray nn }) (by simp)).1;have nC:H' P2.objs.size=none:=I6.free;refine post _ _ H' acc s6 hDC (let⟨m,hn,_⟩:=I6.loc;⟨m,hn⟩) (fun h' hs'=>?_) (I2.fpOk hC (by rw[aL hDC.symm];exact nC)) (q _ d5);have up:∀b o,b≠P2.objs.size->s6.heap.get? b=some o->h'.get? b=some o:=fun b o hb e=>hs'.extBut b o hb e;have ltC:∀b o,s2.heap.get? b=some o->b≠P2.objs.size/\b≠s2.heap.objs.size:=fun b o e=>⟨B8 (C2 (A8 e) hC),B8 (A8 e)⟩;have u6:Un (frs X.stack) fp H2 H' s2.heap s6.heap:=I6.base
   have u7:Un (frs X.stack) fp H2 (upd H' s2.heap.objs.size (.lst acc)) s2.heap h':=by
    refine⟨fun b o e n hb hx=>up b o (ltC b o e).1 (u6.keep b o e n hb hx),fun b o e n hb hx=>?_,fun b o e n hx=>?_,fun b o e hx=>?_,fun b xs e=>?_,fun b o u e=>?_,fun b ps e=>?_⟩
    .obtain⟨sl,q⟩:=u6.slot b o e n hb hx;exact⟨sl,up b _ (ltC b o e).1 q⟩
    .rw[aL (ltC b o e).2];exact u6.free b o e n hx
    .obtain⟨o',q⟩:=u6.there b o e hx;exact⟨o',up b o' (ltC b o e).1 q⟩
    .have z:=u6.tups b xs e;rw[aL (aP z d5)];exact z
    .have z:=u6.frzs b o u e;rw[aL (aP z d5)];exact z
    .obtain⟨more,z⟩:=u6.tbls b ps e;exact⟨more,by rw[aL (aP z d5)];exact z⟩
   have ok7:HOk X.prog X.w (upd H' s2.heap.objs.size (.lst acc)) h':=fun b u e=>by
    by_cases hb:b=s2.heap.objs.size
    .subst hb;rw[aO]at e;cases e;exact⟨la,its,nn,va,up _ _ hDC d6⟩
    .rw[aL hb]at e;refine(I6.hok b u e).stay (fun c v hc' z=>up c v ?_ z) (fun c z=>by rw[aL (aP z d5)];exact z) fun c xs z=>by rw[aL (aP z d5)];exact z
     rcases hc' with rfl|z
     .exact aP e nC
     .exact aP z nC
   have os6:s6.os=s2.os:=I6.os;have ba6:=I6.bare;obtain⟨hh,gg,dd,tt,oo⟩:=s6;subst os6;have z7:=I2.call (s:=s2) (h':=h') (g':=gg) (d':=dd) (t':=tt) (ch:=fp) u7 ok7 ba6 fun b hb=>⟨(f2 b hb).2.2.2.1,(f2 b hb).2.1,(f2 b hb).2.2.2.2.1,(f2 b hb).2.2.2.2.2⟩;exact z7
  .refine thn (T.item (eZ X N' scope P2.objs.size s2 H2 fp pins) rfl rfl rfl hc i _ s5 σ' H' _ I5p (stat fr5) t5 go) fun r s6 ⟨u,hr,h6⟩=>.inr ⟨u,hr,?_⟩;refine thn h6 fun _ s7 ⟨x,H7,I7,r7,y7,t7,fr7⟩=>?_;have I7':=I7.pinned (stat fr7) (T.obj _ _ t7)
   have back:∀{σx:St}{Hx:Hp}{sx:Shared},Inv (eZ X N' scope P2.objs.size s2 H2 fp pins) ([(s2.heap.objs.size,{ cls:=.type "list",data:=.seq its.toArray nn })]++vR fp s7.heap) σx Hx sx->
    (∀b∈fp,∀o,s7.heap.get? b=some o->sx.heap.get? b=some o)/\(∀b∈fp,Hx b=none)/\sx.heap.get? s2.heap.objs.size=some { cls:=.type "list",data:=.seq its.toArray nn }/\Hx s2.heap.objs.size=none:=fun{σx Hx sx} Ix=>by
    refine⟨fun b hb o e=>(Ix.pin (b,o) (D5 _ (D5 _ (iQ hb e)))).1,fun b hb=>?_,?_,?_⟩
    .obtain⟨o,e,_⟩:=T.obj _ _ t7 b hb;exact(Ix.pin (b,o) (D5 _ (D5 _ (iQ hb e)))).2.1
    .exact(Ix.pin (s2.heap.objs.size,_) (D5 _ (L5 _ (List.mem_singleton.mpr rfl)))).1
    .exact(Ix.pin (s2.heap.objs.size,{ cls:=.type "list",data:=.seq its.toArray nn }) (D5 _ (L5 _ (List.mem_singleton.mpr rfl)))).2.1
   refine thn (hg _ _ _ _ _ _ s7 σ' H7 x u _ I7' r7 (step x H7 y7)) fun _ s8 ⟨σ8,H8,I8,q8⟩=>?_;refine thn (hif _ _ _ _ _ _ s8 σ8 H8 _ I8 q8) fun b s9 ⟨H9,I9,q9⟩=>?_;rcases q9 with⟨rfl,q9⟩|⟨rfl,n9⟩
   .refine .inl ⟨rfl,thn (he _ _ _ _ _ _ s9 σ8 H9 _ I9 q9) fun uv s10 ⟨v,H10,I10,rv,n10⟩=>?_⟩;obtain⟨m',hm,w10⟩:=hN _ _ _ n10;obtain⟨b1,b2,b3,b4⟩:=back I10;refine wpAny_list_append_plain ⟨nn,b3⟩ (fun h' hp hs'=>?_) (by rw[C0,<- va.length];exact la);obtain⟨n2,e2⟩:=hp;have up:∀b o,b≠s2.heap.objs.size->s10.heap.get? b=some o->h'.get? b=some o:=fun b o hb e=>hs'.extBut b o hb e;have I10':Inv (eZ X N' scope P2.objs.size s2 H2 fp pins) [] σ8 H10 s10:=I10.pins_of fun p hp=>absurd hp (by simp);refine⟨m',hm,i+1,σ8,H10,acc++[v],its++[uv],n2,I10'.turned (t':=s10.toks) up b4 hDC (.inr (B0 _)) (fun x c e=>B8 (cne x c e)) (fun p hp=>?_),T.keep _ _ _ t7 fun b hb o e=>up b o (B8 (fplt b hb)) (b1 b hb o e),b2,b4,?_,va.append (.cons rv .nil),?_,w10⟩
    .have hp':p∈X.pn++pins:=by
      rcases List.mem_append.mp hp with z|z
      .exact z
      .exact absurd z (by simp)
     exact B8 (A8 (I2.pin p hp').1)
    .rw[e2];simp
    .rw[C3,J5];exact lt
   .obtain⟨m',hm,w9⟩:=hN _ _ _ n9;obtain⟨b1,b2,b3,b4⟩:=back I9;exact .inr ⟨rfl,m',hm,i+1,σ8,H9,acc,its,nn,I9.pins_of fun p hp=>absurd hp (by simp),T.keep _ _ _ t7 b1,b2,b4,b3,va,la,w9⟩
 exact codeAny_compStart_list (loop _ rfl) (T.self _ 0 _ _ _ (T.keep _ _ _ st2 fun b _ o e=>old b o e) (loop _ rfl))
theorem aIe{elt tg iter:Expr}{ifs:List Expr}{pos:Pos}{wi:TI}{g:TG}{tc:TT}{te:TE}(hc:X.calm=true)(S:pX X N' cap scope)(hi:PI X tg iter wi)
 (hg:∀C s H fp pn,PG (eZ X N' scope C s H fp pn) tg g) (hif:∀C s H fp pn,JT (eZ X N' scope C s H fp pn) ifs tc) (he:∀C s H fp pn,PE (eZ X N' scope C s H fp pn) elt te)
 (hs:∀x,foldedSetIterable iter X.env x=pure x:=by intro _;rfl):PE X (.ListComp elt [⟨tg,iter,ifs,0⟩] scope pos) (tLc cap wi g tc te):=by
 intro pins s σ H Q I h;rw[eval_ListComp];refine XE (use:=none) (Q:=Q) hc S hi hg hif he hs I h fun D C H' acc s' hDC ⟨m,hn⟩ hI _ hq=>⟨m,hn,fun h' hs'=>?_⟩;exact⟨.ref D,_,hI h' hs',rfl,hq⟩
theorem WD{i:Nat}{x:Str}{elt tg iter:Expr}{ifs:List Expr}{pos pos' pos'':Pos}{wi:TI}{g:TG}{tc:TT}{te:TE}(hN:X.N.Nodup)(hix:X.N[i]?=some x)(hc:X.calm=true)(S:pX X N' cap scope)(hi:PI X tg iter wi)
 (hg:∀C s H fp pn,PG (eZ X N' scope C s H fp pn) tg g) (hif:∀C s H fp pn,JT (eZ X N' scope C s H fp pn) ifs tc) (he:∀C s H fp pn,PE (eZ X N' scope C s H fp pn) elt te)
 (hsw:swapsWith (.ListComp elt [⟨tg,iter,ifs,0⟩] scope pos) (some (.Name x pos')) pos''.line X.env=pure true:=by rfl) (hx:X.env.scope.names.lookup x=some .local:=by rfl)
 (hs:∀x,foldedSetIterable iter X.env x=pure x:=by intro _;rfl):PS X (.Assign [.Name x pos'] (.ListComp elt [⟨tg,iter,ifs,0⟩] scope pos) pos'') (aBk (tLc cap wi g tc te) (IK i)):=by
 intro pins s σ H D I h;rw[exec_Assign_Name_used _ _ _ _ hsw];refine A3 (A0n (A3 ?_));show wpAny _ _ (comprehension (.ListComp elt [⟨tg,iter,ifs,0⟩] scope pos) scope X.env _ (newList []) false (firstIter [⟨tg,iter,ifs,0⟩] X.env) (some (assign (.Name x pos') X.env)) >>= fun _=>pure ()) _ _ s;refine A3 (thn (XE (use:=some (assign (.Name x pos') X.env)) (QQ:=fun _ s'=>∃σ' H',Inv X pins σ' H' s'/\D.nx σ' H') (Q:=fun v H1=>IK i v σ H1 D.nx) hc S hi hg hif he hs I h fun E C H' acc s' hDC ⟨m,hn⟩ hI fC hq=>?_) fun _ s' hz=>A6 (A6 hz));have I1:Inv X pins σ (upd H' E (.lst acc)) s':=hI s'.heap (Heap.SameBut.refl ..);have I1:Inv X pins σ (upd H' E (.lst acc)) s':=I1;refine wpAny_assign_Name (DH (M:=model X.prog X.w) (A:=X.A) (E:=X.xe) I1 hN hix (.inl hx) (v:=.ref E) (u:=.ref E) rfl (fun s2 I2 hsb=>?_) (.inr hx));obtain⟨a,hs2,ha⟩:=hsb
 have hne:C≠a:=by
  rcases ha with z|z
  .rw[z];exact fC.2.1
  .exact fun w=>fC.2.2.2.2.1 x a z w.symm
 refine⟨m,hn.extBut hs2.extBut hne,fun h' hs'=>?_⟩;exact⟨_,_,I2.turned (t':=s2.toks) (fun b o hb e=>hs'.extBut b o hb e) fC.1 fC.2.1 fC.2.2.2.1 fC.2.2.2.2.1 fC.2.2.2.2.2,hq⟩
end
def tY:Key->PyData
 |.inl i=>.int i
 |.inr x=>.str x
mutual
def Rep(K:Fg)(H:Hp):PyData->V->Prop
 |.none,v=>v=.non
 |.bool b,v=>v=.bl b
 |.int i,v=>v=.int i
 |.str x,v=>v=.str x
 |.list xs,v=>∃a vs,v=.ref a/\SqL K H a vs/\aJ K H xs vs
 |.tuple xs,v=>∃a vs,v=.ref a/\SqT K H a vs/\aJ K H xs vs
 |.dict kvs,v=>∃a ks,v=.ref a/\H a=some (.dK ks)/\nK K H kvs ks
def aJ(K:Fg)(H:Hp):List PyData->List V->Prop
 |[],vs=>vs=[]
 |d::ds,vs=>∃v r,vs=v::r/\Rep K H d v/\aJ K H ds r
def nK(K:Fg)(H:Hp):List (PyData×PyData)->List (Key×V)->Prop
 |[],ks=>ks=[]
 |(k,d)::kvs,ks=>∃k' v r,ks=(k',v)::r/\k=tY k'/\Rep K H d v/\nK K H kvs r
end
theorem iN.seqT{a:Addr}{xs:List V}(e:iN H H')(h:SqT K H a xs):SqT K H' a xs:=by
 rcases h with h|h
 .refine .inl ?_;rcases h with h|⟨o,h⟩
  .exact .inl (e _ _ h)
  .exact .inr ⟨o,e _ _ h⟩
 .exact .inr h
mutual
theorem Rep.same{K:Fg}{H H':Hp}(e:iN H H'):∀(d:PyData)(v:V),Rep K H d v->Rep K H' d v
 |.none=>fun v h=>h
 |.bool b=>fun v h=>h
 |.int i=>fun v h=>h
 |.str x=>fun v h=>h
 |.list xs=>fun v h=>by
  obtain⟨a,vs,h1,h2,h3⟩:=h;exact⟨a,vs,h1,e.seq h2,aJ.same e xs vs h3⟩
 |.tuple xs=>fun v h=>by
  obtain⟨a,vs,h1,h2,h3⟩:=h;exact⟨a,vs,h1,e.seqT h2,aJ.same e xs vs h3⟩
 |.dict kvs=>fun v h=>by
  obtain⟨a,ks,h1,h2,h3⟩:=h;exact⟨a,ks,h1,e _ _ h2,nK.same e kvs ks h3⟩
theorem aJ.same{K:Fg}{H H':Hp}(e:iN H H'):∀(ds:List PyData)(vs:List V),aJ K H ds vs->aJ K H' ds vs
 |[]=>fun vs h=>h
 |d::ds=>fun vs h=>by
  obtain⟨v,r,h1,h2,h3⟩:=h;exact⟨v,r,h1,Rep.same e d v h2,aJ.same e ds r h3⟩
theorem nK.same{K:Fg}{H H':Hp}(e:iN H H'):∀(kvs:List (PyData×PyData))(ks:List (Key×V)),nK K H kvs ks->nK K H' kvs ks
 |[]=>fun ks h=>h
 |(k,d)::kvs=>fun ks h=>by
  obtain⟨k',v,r,h1,h2,h3,h4⟩:=h;exact⟨k',v,r,h1,h2,Rep.same e d v h3,nK.same e kvs r h4⟩
end
theorem aJ.length{K:Fg}{H:Hp}:∀{ds:List PyData}{vs:List V},aJ K H ds vs->ds.length=vs.length
 |[],vs=>fun h=>by rw[show vs=[]from h];rfl
 |d::ds,vs=>fun h=>by
  obtain⟨v,r,h1,_,h3⟩:=h;rw[h1,E9,E9,aJ.length h3]
theorem aJ.get{K:Fg}{H:Hp}:∀{ds:List PyData}{vs:List V}{i:Nat}{v:V},aJ K H ds vs->vs[i]?=some v->∃d,ds[i]?=some d/\Rep K H d v
 |[],vs,i,v=>fun h e=>by rw[show vs=[]from h]at e;simp at e
 |d::ds,vs,0,v=>fun h e=>by
  obtain⟨w,r,h1,h2,h3⟩:=h;rw[h1]at e;simp at e;subst e;exact⟨d,rfl,h2⟩
 |d::ds,vs,i+1,v=>fun h e=>by
  obtain⟨w,r,h1,h2,h3⟩:=h;rw[h1]at e;exact aJ.get (i:=i) h3 (by simpa using e)
theorem aJ.app{K:Fg}{H:Hp}:∀{ds es:List PyData}{vs ws:List V},aJ K H ds vs->aJ K H es ws->aJ K H (ds++es) (vs++ws)
 |[],es,vs,ws=>fun h k=>by rw[show vs=[]from h];exact k
 |d::ds,es,vs,ws=>fun h k=>by
  obtain⟨v,r,h1,h2,h3⟩:=h;exact⟨v,r++ws,by rw[h1];rfl,h2,aJ.app h3 k⟩
section
variable{X:Cx}{pins:List (Addr×Obj)}{σ:St}{H:Hp}{s:Shared}
theorem Inv.sysN(I:Inv X pins σ H s):H sysModules=none:=by
 obtain⟨o,es,ep,h,_⟩:=I.mod.sysm;exact(I.bs _ _ h).2
theorem Inv.sysL(I:Inv X pins σ H s){a:Addr}{xs:List V}(h:SqL X.K H a xs):sysModules≠a:=by
 intro e;subst e;have hn:=I.sysN;rcases h with(h|⟨o,h⟩)|⟨o,its,n,hk,_,_,hd,_⟩
 .rw[hn]at h;cases h
 .rw[hn]at h;cases h
 .obtain⟨o',es,ep,h',hd'⟩:=I.mod.sysm;have:=I.mod.kin _ _ hk;rw[h']at this;cases this;rw[hd]at hd';cases hd'
mutual
theorem Rep.reads'(I:Inv X pins σ H s):∀(d:PyData)(v:V)(u:Value),Rep X.K H d v->RelV v u->∃as,Reads s.heap u d as/\sysModules∉as
 |.none=>fun v u r q=>by
  rw[show v=.non from r]at q;rw[show u=Value.none from q];exact⟨_,.none,by simp⟩
 |.bool b=>fun v u r q=>by
  rw[show v=.bl b from r]at q;rw[show u=Value.bool b from q];exact⟨_,.bool b,by simp⟩
 |.int i=>fun v u r q=>by
  rw[show v=.int i from r]at q;obtain⟨t,rfl⟩:=(show ∃t,u=Value.int i t from q);exact⟨_,.int i t,by simp⟩
 |.str x=>fun v u r q=>by
  rw[show v=.str x from r]at q;obtain⟨t,rfl⟩:=(show ∃t,u=Value.str x t from q);exact⟨_,.str x t,by simp⟩
 |.list xs=>fun v u r q=>by
  obtain⟨a,vs,rfl,h2,h3⟩:=r;rw[show u=Value.ref a from q];obtain⟨its,hv,⟨o,n,hg,hc,_,hd⟩,_⟩:=I.list h2;obtain⟨as,ha,hs⟩:=aJ.reads' I xs vs its h3 hv;exact⟨_,.list hg hc hd (by simpa using ha),fun z=>(List.mem_cons.mp z).elim (I.sysL h2) hs⟩
 |.tuple xs=>fun v u r q=>by
  obtain⟨a,vs,rfl,h2,h3⟩:=r;rw[show u=Value.ref a from q];obtain⟨its,hv,⟨o,hg,hc,n,hd⟩,_⟩:=I.tuple h2;obtain⟨as,ha,hs⟩:=aJ.reads' I xs vs its h3 hv;exact⟨_,.tuple hg hc hd (by simpa using ha),hs⟩
 |.dict kvs=>fun v u r q=>by
  obtain⟨a,ks,rfl,h2,h3⟩:=r;rw[show u=Value.ref a from q];obtain⟨_,hS,vs,hkv,o,es,ep,hg,hex,hd,_,hp,_⟩:=(show cP X.prog X.w H s.heap a (.dK ks)from I.hok a _ h2);obtain⟨as,bs,h4,h5,n1,n2⟩:=nK.reads' I kvs ks vs es.toList h3 hkv hp;refine⟨_,.dict hg hex.1 hd h4 h5,fun z=>?_⟩;rcases List.mem_append.mp z with z|z
  .rcases List.mem_cons.mp z with z|z
   .rw[z]at hS;simp at hS
   .exact n1 z
  .exact n2 z
theorem aJ.reads'(I:Inv X pins σ H s):∀(ds:List PyData)(vs:List V)(us:List Value),aJ X.K H ds vs->aW vs us->∃as,ReadsAll s.heap us ds as/\sysModules∉as
 |[]=>fun vs us r q=>by
  rw[show vs=[]from r]at q;cases q;exact⟨_,.nil,by simp⟩
 |d::ds=>fun vs us r q=>by
  obtain⟨v,t,rfl,h2,h3⟩:=r;cases q with
  |cons q1 q2=>
   obtain⟨as,ha,n1⟩:=Rep.reads' I d v _ h2 q1;obtain⟨bs,hb,n2⟩:=aJ.reads' I ds t _ h3 q2;exact⟨_,.cons ha hb,fun z=>(List.mem_append.mp z).elim n1 n2⟩
theorem nK.reads'(I:Inv X pins σ H s):∀(kvs:List (PyData×PyData))(ks:List (Key×V))(vs:List (Key×Value))(es:List DictEntry),nK X.K H kvs ks->KV ks vs->Pairs (dA X.prog X.w) es vs->
 ∃as bs,ReadsAll s.heap (es.map (·.key)) (kvs.map (·.1)) as/\ReadsAll s.heap (es.map (·.val)) (kvs.map (·.2)) bs/\sysModules∉as/\sysModules∉bs
 |[]=>fun ks vs es r q p=>by
  rw[show ks=[]from r]at q;cases q;cases p;exact⟨_,_,.nil,.nil,by simp,by simp⟩
 |(k,d)::kvs=>fun ks vs es r q p=>by
  obtain⟨k',v,t,rfl,h1,h2,h3⟩:=r;cases q with
  |@cons _ kv _ vs' q1 q2=>
   cases p with
   |@cons e _ es' _ p1 p2 p3=>
    obtain⟨as,bs,ha,hb,n1,n2⟩:=nK.reads' I kvs t _ _ h3 q2 p3;obtain⟨cs,hc,n3⟩:=Rep.reads' I d v _ h2 q1.2
    have hkey:Reads s.heap e.key k []:=by
     rw[h1];have p1':yH kv.1 e.key=true:=p1;rw[<- show k'=kv.1 from q1.1]at p1';rcases cR p1' with⟨i,t',rfl,he⟩|⟨x,t',rfl,he⟩
     .rw[he];exact .int i t'
     .rw[he];exact .str x t'
    refine⟨_,_,.cons hkey ha,.cons (show Reads s.heap e.val d cs by rw[p2];exact hc) hb,by simpa using n1,fun z=>(List.mem_append.mp z).elim n3 n2⟩
end
theorem Rep.reads(I:Inv X pins σ H s)(d:PyData)(v:V)(u:Value)(r:Rep X.K H d v)(q:RelV v u):∃as,Reads s.heap u d as:=let⟨as,h,_⟩:=Rep.reads' I d v u r q;⟨as,h⟩
theorem aJ.reads(I:Inv X pins σ H s)(ds:List PyData)(vs:List V)(us:List Value)(r:aJ X.K H ds vs)(q:aW vs us):∃as,ReadsAll s.heap us ds as:=let⟨as,h,_⟩:=aJ.reads' I ds vs us r q;⟨as,h⟩
end
section
variable{X:Cx}
def OD(K:Fg)(neg:Bool):R2:=fun x y H Q=>∃dx dy,Rep K H dx x/\Rep K H dy y/\SeqAt.shaped dx=true/\SeqAt.shaped dy=true/\Q (.bl (if neg then !PyData.eqv dx dy else PyData.eqv dx dy)) H
theorem ZY(hu:X.A.units+64<cLine):OpR X (compareOp .Eq) (OD X.K false):=by
 intro pins s σ H x y v u Q I rx ry h;obtain⟨dx,dy,hx,hy,sx,sy,q⟩:=h;obtain⟨as,ha⟩:=Rep.reads I dx x v hx rx;obtain⟨bs,hb⟩:=Rep.reads I dy y u hy ry;exact eq_dataH ha hb sx sy hu ⟨.bl _,H,I,rfl,q⟩
theorem aGS(hu:X.A.units+64<cLine):OpR X (compareOp .NotEq) (OD X.K true):=by
 intro pins s σ H x y v u Q I rx ry h;obtain⟨dx,dy,hx,hy,sx,sy,q⟩:=h;obtain⟨as,ha⟩:=Rep.reads I dx x v hx rx;obtain⟨bs,hb⟩:=Rep.reads I dy y u hy ry;exact ne_dataH ha hb sx sy hu ⟨.bl _,H,I,rfl,q⟩
open Classical in
noncomputable def sC(h:Heap)(dv:PyData)(u:Value):Bool:=if ∃d as,Reads h u d as/\PyData.eqv d dv=true then true else false
theorem aCL{h:Heap}{dv d:PyData}{u:Value}{as:List Addr}(r:Reads h u d as)(hc:d.canLay0=true):sC h dv u=PyData.eqv d dv:=by
 unfold sC;by_cases e:PyData.eqv d dv=true
 .rw[A9 ⟨d,as,r,e⟩,e]
 .rw[B2,Bool.eq_false_iff.mpr e];rintro⟨d',as',r',e'⟩;have:=SeqAt.Reads.unique d d' u as as' hc r r';subst this;exact e e'
theorem pQ{A:Around}{s:Shared}{v:Value}{dv:PyData}{av:List Addr}(hv:Reads s.heap v dv av)(sv:SeqAt.shaped dv=true)(hu:A.units+64<cLine):
 ∀(us:List Value)(ds:List PyData)(as:List Addr),ReadsAll s.heap us ds as->ds.all SeqAt.shaped=true->(∀y∈us,SeqAt.EqAt A s y v (sC s.heap dv y))/\us.any (sC s.heap dv)=ds.any fun d=>PyData.eqv d dv
 |[]=>fun ds as r _=>by
  cases r;exact⟨fun y hy=>absurd hy (by simp),rfl⟩
 |y::us=>fun ds as r hs=>by
  cases r with
  |@cons _ _ d ds' as1 bs1 r1 r2=>
   rw[Y5,B7]at hs;obtain⟨h1,h2⟩:=pQ hv sv hu us _ _ r2 hs.2;have e:=aCL (dv:=dv) r1 (Y8 hs.1);have hy:SeqAt.EqAt A s y v (PyData.eqv d dv):=SeqAt.eqAt_reads d dv A s y v _ _ r1 hv (Y8 hs.1) (Y8 sv) (SeqAt.room_of_shaped hs.1 hu);refine⟨fun z hz=>?_,by rw[U7,U7,e,h2]⟩;rcases List.mem_cons.mp hz with q|q
   .rw[q,e];exact hy
   .exact h1 z q
def YK(K:Fg)(neg:Bool):R2:=fun x y H Q=>∃dx ds p vs,Rep K H dx x/\y=.ref p/\(SqL K H p vs\/SqT K H p vs)/\aJ K H ds vs/\SeqAt.shaped dx=true/\ds.all SeqAt.shaped=true /\
 Q (.bl (if neg then !ds.any fun d=>PyData.eqv d dx else ds.any fun d=>PyData.eqv d dx)) H
theorem aHo(hu:X.A.in1.units+64<cLine):OpR X (compareOp .In) (YK X.K false):=by
 intro pins s σ H x y v u Q I rx ry h;obtain⟨dx,ds,p,vs,hx,rfl,hp,hds,sx,sds,q⟩:=h;cases ry;obtain⟨as,ha⟩:=Rep.reads I dx x v hx rx;rcases hp with hp|hp
 .obtain⟨its,r,pl,hz⟩:=I.list hp;obtain⟨bs,hb⟩:=aJ.reads I ds vs its hds r;obtain⟨h1,h2⟩:=pQ (A:=X.A.in1) ha sx hu its ds bs hb sds;refine SeqAt.in_listAt (sC s.heap dx) pl.isList (fun w hw=>h1 w (by simpa using hw)) ⟨.bl _,H,I,rfl,?_⟩;rw[show its.toArray.any (sC s.heap dx)=its.any (sC s.heap dx)by simp,h2];exact q
 .obtain⟨its,r,pl,hz⟩:=I.tuple hp;obtain⟨bs,hb⟩:=aJ.reads I ds vs its hds r;obtain⟨h1,h2⟩:=pQ (A:=X.A.in1) ha sx hu its ds bs hb sds;refine SeqAt.in_tupleAt (sC s.heap dx) pl (fun w hw=>h1 w (by simpa using hw)) ⟨.bl _,H,I,rfl,?_⟩;rw[show its.toArray.any (sC s.heap dx)=its.any (sC s.heap dx)by simp,h2];exact q
theorem RP(hu:X.A.in1.units+64<cLine):OpR X (compareOp .NotIn) (YK X.K true):=by
 intro pins s σ H x y v u Q I rx ry h;obtain⟨dx,ds,p,vs,hx,rfl,hp,hds,sx,sds,q⟩:=h;cases ry;obtain⟨as,ha⟩:=Rep.reads I dx x v hx rx;rcases hp with hp|hp
 .obtain⟨its,r,pl,hz⟩:=I.list hp;obtain⟨bs,hb⟩:=aJ.reads I ds vs its hds r;obtain⟨h1,h2⟩:=pQ (A:=X.A.in1) ha sx hu its ds bs hb sds;refine SeqAt.notIn_listAt (sC s.heap dx) pl.isList (fun w hw=>h1 w (by simpa using hw)) ⟨.bl _,H,I,rfl,?_⟩;rw[show its.toArray.any (sC s.heap dx)=its.any (sC s.heap dx)by simp,h2];exact q
 .obtain⟨its,r,pl,hz⟩:=I.tuple hp;obtain⟨bs,hb⟩:=aJ.reads I ds vs its hds r;obtain⟨h1,h2⟩:=pQ (A:=X.A.in1) ha sx hu its ds bs hb sds;refine SeqAt.notIn_tupleAt (sC s.heap dx) pl (fun w hw=>h1 w (by simpa using hw)) ⟨.bl _,H,I,rfl,?_⟩;rw[show its.toArray.any (sC s.heap dx)=its.any (sC s.heap dx)by simp,h2];exact q
theorem aW.types:∀{Ts:List String}{its:List Value},aW (Ts.map V.ty) its->its=Ts.map Value.type
 |[],_=>fun h=>by cases h;rfl
 |t::Ts,its=>fun h=>by
  cases h with
  |cons r1 r2=>rw[show _=Value.type t from r1,aW.types r2];rfl
theorem aW.bools:∀{bs:List Bool}{its:List Value},aW (bs.map V.bl) its->its=bs.map Value.bool
 |[],_=>fun h=>by cases h;rfl
 |b::bs,its=>fun h=>by
  cases h with
  |cons r1 r2=>rw[show _=Value.bool b from r1,aW.bools r2];rfl
theorem all_range(bs:List Bool):(List.range bs.length).all (fun i=>bs.getD i false)=bs.all id:=by
 rw[Z5];simp only[List.all_eq_true,List.mem_range,id];constructor
 .intro h b hb;obtain⟨i,hi,rfl⟩:=List.mem_iff_getElem.mp hb;have:=h i hi;rw[D4,B9 hi]at this;exact this
 .intro h i hi;rw[D4,B9 hi];exact h _ (Y1 hi)
theorem HV{prog:Program}{w:World}{A:Around}{bs:List Bool}:TruthOf prog w A (fun i v=>(bs.map Value.bool).toArray[i]?=some v) (fun i=>bs.getD i false):=by
 intro i v s Q E hP hQ;rw[S8,C8]at hP;cases e:bs[i]? with
 |none=>rw[e]at hP;cases hP
 |some b=>
  rw[e]at hP;cases hP;have hb:bs.getD i false=b:=by rw[D4,e];rfl
  have hQ':Q (bs.getD i false) s:=hQ;rw[hb]at hQ';exact S5 hQ'
def xI:Nat:=2 ^ 8000
def XF(i:Int):Prop:=i.natAbs<xI
theorem KD{j:Int}(h:XF j):j.natAbs.log2<9000:=by
 by_cases h0:j.natAbs=0
 .rw[h0];decide +kernel
 .exact U3 ((Nat.log2_lt h0).mpr h) (by decide)
def aIJ(i j:Int):Prop:=XF i/\XF j
theorem DI{j:Int}(h:XF j):Builtin.Int.intBits j<=2 ^ 20:=by
 unfold Builtin.Int.intBits;by_cases h0:(j==0)=true
 .rw[A9 h0];exact J4 _
 .rw[B2 h0];have:=KD h;omega
end
structure Callee(P:Program)(w:World)(K:Fg)(mg:Str->Option Value)(base:Heap)(k:Nat)(x:Str)(ps:List Str)(sp:Sp)(q:Bool:=true):Prop where
 ex:∃f fd,kW P w K mg base CX0 k f fd ps sp q/\mg x=some (.ref f)/\PySem.W.keepIn K (.ref f)=true/\Binds K fd ps []
structure Def(K:Fg)(mg:Str->Option Value)(x:Str)(st:Stmt):Prop where
 ex:∃f fd,Fun K x x st f fd/\mg x=some (.ref f)
section
variable{P:Program}{w:World}{K:Fg}{mg:Str->Option Value}{base:Heap}{X:Cx}
theorem Def.ok{x:Str}{st:Stmt}{N ps:List Str}{k:Nat}{sp:Sp}{q:Bool}(D:Def K mg x st)(S:aQ N ps (aF st))
 (hb:∀(kV doc pm:Value)(an:Option Addr)(cdv ct:Value)(us:List Value),us.length=ps.length->bindArgs (PySem.W.fnOf x x (eG st) (bJ st) (aF st) .none kV doc pm an cdv ct) ⟨us,[]⟩=pure (ps.zip us))
 (len:∀vs H Q E,sp vs H Q E->vs.length=ps.length)
 (hbody:∀(f:Addr)(cdv:Value)(A:Around)(outer:List Env)(s:Shared)(H:Hp)(vs:List V)(Q:VK)(E:XK),cA k (A.deeper (envOfC x (aF st) s.heap.objs.size f cdv)) q->sp vs H Q E->
  ∃t,PSs (mL CX0 P w K mg base N x (aF st) f cdv A outer s H E q).nox (bJ st) t/\t { nx:=fun _ H'=>Q .non H',rt:=Q } (start N vs) H):Callee P w K mg base (k+1) x ps sp q:=by
 obtain⟨f,fd,F,m⟩:=D.ex;exact⟨f,fd,F.ok S len fun cdv A outer s H vs Q E hr h=>hbody f cdv A outer s H vs Q E hr h,m,F.kp,F.binds hb⟩
theorem def_mk{x:Str}{st:Stmt}{h:Heap}{f:Addr}{oc:Value}{od an:Option Addr}{osl:Array (Option Value)}{kV doc pm cdv ct:Value}(X:K.In h)(G:h.Ns mainGlobals mg)(a:PySem.W.nsIn K mainGlobals x=some (some (.ref f)))
 (l:K.lookup f=some ⟨oc,od,.func (PySem.W.fnOf x x (eG st) (bJ st) (aF st) .none kV doc pm an cdv ct),osl⟩) (c:PySem.W.codeIn K cdv x=true) (k:PySem.W.keepIn K (.ref f)=true):Def K mg x st:=
 ⟨f,_,ZT l c k,O8 X G a⟩
theorem aEY{k:Nat}{x:Str}{ps:List Str}{sp:Sp}{p pos:Pos}{e:Expr}{es:List Expr}{t:TA}{q:Bool}(C:Callee X.prog X.w X.K X.mg X.base k x ps sp q)(hr:cA k X.A q)(ha:PA X (e::es) t)(hg:Gl X x:=by rfl)
 (hdb:(x==("__debug__":Str))=false:=by decide) (he:starEach (e::es) X.env=(false,eval e X.env)::starEach es X.env:=by rfl) (hpl:(backTo pos (starEach es X.env)).any (·.1)=false:=by rfl):
 PE X (.Call (.Name x p) (e::es) [] pos) (aAk sp [] E0 t):=by
 obtain⟨f,fd,F,m,kp,b⟩:=C.ex;exact OU F hr hg m kp b .nil aEF ha hdb he hpl
theorem cA.units1{k:Nat}{A:Around}(r:cA k A):A.in1.units+64<cLine:=by have:=r.un;show A.units+1+64<_;omega
def SR(mg:Str->Option Value)(xs:List Str):Prop:=∀x∈xs,mg x=none
theorem SR.of{xs:List Str}(h:SR mg xs)(x:Str)(hx:x∈xs:=by decide +kernel):mg x=none:=h x hx
theorem aAw:SR mg []:=fun _ h=>absurd h (by simp)
theorem bL{x:Str}{xs:List Str}(h:mg x=none)(hr:SR mg xs):SR mg (x::xs):=fun y hy=>(List.mem_cons.mp hy).elim (fun e=>e▸h) (hr y)
def IW(i j:Int):Prop:=aGq i j\/aIJ i j
theorem IW.ok{i j:Int}(h:IW i j):IntMulOk i j:=by
 rcases h with h|h
 .exact h.ok
 .exact IntMulOk.of_bits (DI h.1) (DI h.2)
theorem aDy:OpR X (binaryOp .Mult) (rI IW fun i j=>.int (i*j)):=opI fun _ _ _ _ _ _ _ hc q=>mul_int q hc.ok
def aEy(_ j:Int):Prop:=0<j/\XF j
theorem ZV:OpR X (binaryOp .FloorDiv) (rI aEy fun i j=>.int (i / j)):=opI fun i j _ _ _ _ _ hc q=>by
 refine floordiv_int (Int.ne_of_gt hc.1) ?_ (.inl (PyProof.noPylong_of_log2 (KD hc.2)));rw[Int.fdiv_eq_ediv_of_nonneg _ (Int.le_of_lt hc.1)];exact q
end
def aEa(sc0:Scope)(N N':List Str)(cap:List (Option Nat))(scope:Scope):Bool:=
 scope.names.all (fun y=>y.2 != .cell)&&(scope.kind==.function)&&scope.names.all (fun y=>y.2 != .local || scope.names.lookup y.1==some .local) &&
 scope.names.all (fun y=>y.2 != .free || (sc0.names.lookup y.1==some .cell || sc0.names.lookup y.1==some .free))&&(cap.length==N'.length) &&
 (List.range cap.length).all fun i=>match cap[i]? with
  |some (some j)=>(match N'[i]?,N[j]? with
   |some x,some y=>x==y&&scope.names.lookup x==some .free
   |_,_=>false)
  |_=>true
theorem cJ{X:Cx}{sc0 scope:Scope}{N N':List Str}{cap:List (Option Nat)}(h1:X.env.scope=sc0)(h2:X.N=N)(h:aEa sc0 N N' cap scope=true):pX X N' cap scope:=by
 unfold aEa at h;simp only[Bool.and_eq_true,List.all_eq_true,beq_iff_eq,bne_iff_ne,ne_eq,Bool.or_eq_true,List.mem_range]at h;obtain⟨⟨⟨⟨⟨a,b⟩,c⟩,d⟩,e⟩,f⟩:=h;refine⟨a,b,fun y hy hk=>?_,fun y hy hk=>?_,e,fun i j hij=>?_⟩
 .rcases c y hy with z|z
  .exact absurd hk z
  .exact z
 .show X.env.scope.names.lookup y.1=_\/X.env.scope.names.lookup y.1=_;rw[h1];rcases d y hy with z|z
  .exact absurd hk z
  .exact z
 .have hi:i<cap.length:=(List.getElem?_eq_some_iff.mp hij).1;have g:=f i hi;rw[hij]at g;dsimp only at g;rw[h2];split at g
  .rename_i x y ex ey;rw[B7,beq_iff_eq,beq_iff_eq]at g;exact⟨x,ex,by rw[ey,g.1],g.2⟩
  .cases g
def tyName:PyData->String
 |.none=>"NoneType"
 |.bool _=>"bool"
 |.int _=>"int"
 |.str _=>"str"
 |.list _=>"list"
 |.tuple _=>"tuple"
 |.dict _=>"dict"
def asked:List String:=["int","bool","str","list","tuple","dict"]
def isT(T S:String):Bool:=T==S || (T=="int"&&S=="bool")
def xO(T:String)(d:PyData):Bool:=isT T (tyName d)
def aIr(S T:String):Option Bool:=if (Value.type S==Value.type T)=true then some true else if PySem.W.kitMeta T=true then(PySem.fastBuiltinMro S).map (·.contains (Value.type T))else none
theorem aAA:(["NoneType","bool","int","str","list","tuple","dict"].all fun S=>asked.all fun T=>aIr S T==some (isT T S))=true:=by decide +kernel
theorem XG{T:String}{d:PyData}(h:T∈asked):PySem.W.kitOne K (.type (tyName d)) (.type T)=some (xO T d):=by
 have e:PySem.W.kitOne K (.type (tyName d)) (.type T)=aIr (tyName d) T:=rfl;rw[e];have hk:=aAA;rw[List.all_eq_true]at hk;have h1:=hk (tyName d) (by cases d<;>simp[tyName]);rw[List.all_eq_true]at h1;exact eq_of_beq (h1 T h)
theorem QY{K:Fg}{d:PyData}:∀{Ts:List String},(∀T∈Ts,T∈asked)->PySem.W.kitAny K (.type (tyName d)) (Ts.map Value.type)=some (Ts.any fun T=>xO T d)
 |[]=>fun _=>rfl
 |T::Ts=>fun h=>by
  rw[C7];unfold PySem.W.kitAny;rw[XG (h T B5),U7];cases xO T d with
  |true=>rfl
  |false=>rw[Bool.false_or];exact QY fun U hU=>h U (B3 _ hU)
section
variable{X:Cx}
theorem QJ{pins:List (Addr×Obj)}{σ:St}{H:Hp}{s:Shared}(I:Inv X pins σ H s):∀{d:PyData}{v:V}{u:Value},Rep X.K H d v->RelV v u->∃Hc:Heap->Prop,PySem.W.KitX X.K u (.type (tyName d)) Hc/\Hc s.heap/\u≠.builtin "__main__.__loader__#opaque"
 |.none,v,u=>fun h r=>by
  rw[show v=.non from h]at r;cases (show u=Value.none from r);exact⟨_,PySem.W.kitx_none,True.intro,fun z=>nomatch z⟩
 |.bool b,v,u=>fun h r=>by
  rw[show v=.bl b from h]at r;cases (show u=Value.bool b from r);exact⟨_,PySem.W.kitx_bool,True.intro,fun z=>nomatch z⟩
 |.int i,v,u=>fun h r=>by
  rw[show v=.int i from h]at r;obtain⟨t,q⟩:=(show ∃t,u=Value.int i t from r);cases q;exact⟨_,PySem.W.kitx_int,True.intro,fun z=>nomatch z⟩
 |.str x,v,u=>fun h r=>by
  rw[show v=.str x from h]at r;obtain⟨t,q⟩:=(show ∃t,u=Value.str x t from r);cases q;exact⟨_,PySem.W.kitx_str,True.intro,fun z=>nomatch z⟩
 |.list xs,v,u=>fun h r=>by
  obtain⟨a,vs,rfl,h2,_⟩:=h;cases (show u=Value.ref a from r);obtain⟨its,hv,⟨o,n,hg,hc,_,hd⟩,_⟩:=I.list h2;exact⟨_,PySem.W.kitx_list,⟨o,hg,hc⟩,fun z=>nomatch z⟩
 |.tuple xs,v,u=>fun h r=>by
  obtain⟨a,vs,rfl,h2,_⟩:=h;cases (show u=Value.ref a from r);obtain⟨its,hv,⟨o,hg,hc,n,hd⟩,_⟩:=I.tuple h2;exact⟨_,PySem.W.kitx_tuple,⟨o,hg,hc⟩,fun z=>nomatch z⟩
 |.dict kvs,v,u=>fun h r=>by
  obtain⟨a,ks,rfl,h2,_⟩:=h;cases (show u=Value.ref a from r);obtain⟨_,_,vs,_,o,es,ep,h1,hx,_⟩:=(show cP X.prog X.w H s.heap a (.dK ks)from I.hok a _ h2);exact⟨_,PySem.W.kitx_dict,⟨o,h1,hx.1⟩,fun z=>nomatch z⟩
def aHz(K:Fg):List V->Hp->VK->Prop:=fun xs H Q=>∃x T d,xs=[x,.ty T]/\T∈asked/\Rep K H d x/\Q (.bl (xO T d)) H
theorem UO:eU X (.builtin "isinstance") (aHz X.K):=by
 intro pins s σ H xs us Q I r h;obtain⟨x,T,d,rfl,hT,hd,q⟩:=h;obtain⟨u,u',rfl,ru,ru'⟩:=vals2 r;cases (show u'=Value.type T from ru');obtain⟨Hc,Z,hh,hne⟩:=QJ I hd ru;exact PySem.W.kia_one Z I.kIn hh (XG hT) hne fun tk=>⟨.bl _,H,I.tok tk,rfl,q⟩
def VX(K:Fg):List V->Hp->VK->Prop:=fun xs H Q=>∃(x:V)(p:Addr)(Ts:List String)(d:PyData),xs=[x,.ref p]/\H p=some (.tup (Ts.map V.ty))/\(∀T∈Ts,T∈asked)/\Rep K H d x/\Q (.bl (Ts.any fun T=>xO T d)) H
theorem OM:eU X (.builtin "isinstance") (VX X.K):=by
 intro pins s σ H xs us Q I r h;obtain⟨x,p,Ts,d,rfl,hp,hT,hd,q⟩:=h;obtain⟨u,u',rfl,ru,ru'⟩:=vals2 r;cases (show u'=Value.ref p from ru');obtain⟨_,its,rv,o,hg,hcl,n,hd'⟩:=(show cP X.prog X.w H s.heap p (.tup (Ts.map V.ty))from I.hok p _ hp);have hits:its=Ts.map Value.type:=aW.types rv;subst hits;obtain⟨oc,od,odt,osl⟩:=o;dsimp only at hcl hd';subst hcl hd';obtain⟨Hc,Z,hh,hne⟩:=QJ I hd ru;exact PySem.W.kia_tup Z I.kIn hh hg (QY hT) hne fun tk=>⟨.bl _,H,I.tok tk,rfl,q⟩
end
theorem iN.upd{p:Addr}{o:HO}(h:H p=none):iN H (upd H p o):=fun b u e=>by rw[aL (aP e h)];exact e
def bE:PyData->Option (List PyData)
 |.list xs=>some xs
 |.tuple xs=>some xs
 |_=>none
theorem lW{K:Fg}{H:Hp}:∀{d:PyData}{v:V}{ds:List PyData},Rep K H d v->bE d=some ds->∃a vs,v=.ref a/\(SqL K H a vs\/SqT K H a vs)/\aJ K H ds vs
 |.list xs,v,ds=>fun h e=>by
  obtain⟨a,vs,h1,h2,h3⟩:=h;cases e;exact⟨a,vs,h1,.inl h2,h3⟩
 |.tuple xs,v,ds=>fun h e=>by
  obtain⟨a,vs,h1,h2,h3⟩:=h;cases e;exact⟨a,vs,h1,.inr h2,h3⟩
 |.none,_,_=>fun _ e=>by cases e
 |.bool _,_,_=>fun _ e=>by cases e
 |.int _,_,_=>fun _ e=>by cases e
 |.str _,_,_=>fun _ e=>by cases e
 |.dict _,_,_=>fun _ e=>by cases e
section
variable{X:Cx}{tg:Expr}
def aCz(K:Fg)(tl:TE):TI:=fun σ H R=>tl σ H fun x H1=>∃a,x=.ref a/\((∃xs,SqL K H1 a xs/\R (Itl K a) H1)\/(∃xs,SqT K H1 a xs/\R (Itt K a) H1))
theorem aEX{l:Expr}{tl:TE}(hl:PE X l tl):PI X tg l (aCz X.K tl):=by
 intro pins s σ H R I h;refine thn (hl pins s σ H _ I h) fun v s1 hz=>?_;obtain⟨x,H1,I1,r1,a,e,q1⟩:=hz;subst e;cases r1
 have fp:∀b∈[s1.heap.objs.size],qR X pins H1 b:=fun b hb=>by
  have e:b=s1.heap.objs.size:=List.mem_singleton.mp hb;subst e;exact I1.fpOk (B0 _) (I1.hok.fresh (B0 _))
 rcases q1 with⟨xs,hq,q⟩|⟨xs,hq,q⟩
 .obtain⟨its,rv,p,hz⟩:=I1.list hq;refine wpAny_pyIter_list p.isList ?_;exact⟨s1.heap.objs.size,[s1.heap.objs.size],_,_,H1,rfl,I1.kept (t':=s1.toks) fun b o e=>A4 _ e,UD a _,⟨_,B6 _ rfl,rfl,rfl⟩,fp,q⟩
 .obtain⟨its,rv,p,hz⟩:=I1.tuple hq;refine U4 (show s1.heap.IsTuple a its.toArray from p) ?_;exact⟨s1.heap.objs.size,[s1.heap.objs.size],_,_,H1,rfl,I1.kept (t':=s1.toks) fun b o e=>A4 _ e,NT a _,⟨_,B6 _ rfl,rfl,rfl⟩,fp,q⟩
end
inductive CD where
 |d (x:PyData)
 |c (n:Nat)
 |t (xs:List (PyData ⊕ Nat))
 |f (kvs:List (List Key×PyData))
 |g (nm:Str)
inductive Cell where
 |lst (xs:List CD)
 |dk (kvs:List (Key×CD))
 |dt (kvs:List (List Key×CD))
 |obj (nm:Str) (fs:List (Str×CD))
 |exc (fr:Bool) (nm:Str) (fs:List (Str×CD))
 |dead
structure Wd where
 F:Hp
 α:Nat->Addr
 n:Nat
structure Wd.Ext(W W':Wd):Prop where
 ff:iN W.F W'.F
 ln:W.n<=W'.n
 al:∀i,i<W.n->W'.α i=W.α i
theorem Wd.Ext.refl(W:Wd):W.Ext W:=⟨iN.refl _,B0 _,fun _ _=>rfl⟩
theorem Wd.Ext.trans{W1 W2:Wd}(a:W.Ext W1)(b:W1.Ext W2):W.Ext W2:=⟨a.ff.trans b.ff,D0 a.ln b.ln,fun i h=>(b.al i (C2 h a.ln)).trans (a.al i h)⟩
def UX(K:Fg)(W:Wd):PyData ⊕ Nat->V->Prop
 |.inl x,v=>Rep K W.F x v
 |.inr i,v=>i<W.n/\v=.ref (W.α i)
def cdA:PyData ⊕ Nat->CD
 |.inl x=>.d x
 |.inr i=>.c i
def bC(K:Fg)(nm:Str):Addr:=match PySem.W.nsIn K mainGlobals nm with
 |some (some (.ref C))=>C
 |_=>0
def bK(K:Fg)(W:Wd):CD->V->Prop
 |.d x,v=>Rep K W.F x v
 |.c i,v=>i<W.n/\v=.ref (W.α i)
 |.t xs,v=>∃a vs,v=.ref a/\W.F a=some (.tup vs)/\Paired (UX K W) xs vs
 |.f kvs,v=>∃a o us,v=.ref a/\W.F a=some (.frz o (.dT us))/\Paired (fun p q=>p.1=q.1/\Rep K W.F p.2 q.2) kvs us
 |.g nm,v=>v=.ref (bC K nm)
abbrev bP(K:Fg)(W:Wd):List CD->List V->Prop:=Paired (bK K W)
def II(K:Fg)(W:Wd):Option CD->Option V->Prop
 |none,none=>True
 |some x,some v=>bK K W x v
 |_,_=>False
abbrev cH(K:Fg)(W:Wd):List (Option CD)->St->Prop:=Paired (II K W)
def ID(a:Addr)(c:Value)(dx:Option Addr)(fr:Bool)(h:Heap):Prop:=∃o vs,h.get? a=some o/\o.cls=c/\o.dict=dx/\o.data=.fields vs/\(fr=true->1<vs.size/\vs[1]?=some .none)
def JO(K:Fg)(W:Wd)(dx:Option Addr)(fs:List (Str×CD)):Prop:=match dx with
 |none=>fs=[]
 |some d=>fs≠[]/\∃us,W.F d=some (.xd us)/\Paired (fun p q=>p.1=q.1/\bK K W p.2 q.2) fs us
def SB(K:Fg)(W:Wd)(a:Addr):Cell->HO->Prop
 |.lst xs,.lst vs=>bP K W xs vs
 |.dk kvs,.dK us=>Paired (fun p q=>p.1=q.1/\bK K W p.2 q.2) kvs us
 |.dt kvs,.dT us=>Paired (fun p q=>p.1=q.1/\bK K W p.2 q.2) kvs us
 |.obj nm fs,.ins C _ us=>C=bC K nm/\Paired (fun p q=>p.1=q.1/\bK K W p.2 q.2) fs us
 |.exc fr nm fs,.ext φ=>∃dx,φ=ID a (.ref (bC K nm)) dx fr/\JO K W dx fs
 |_,_=>False
structure Good(K:Fg)(W:Wd)(M:List Cell)(H:Hp):Prop where
 fh:iN W.F H
 n:W.n=M.length
 cs:∀i c,M[i]?=some c->c≠.dead->W.F (W.α i)=none/\∃o,H (W.α i)=some o/\SB K W (W.α i) c o
 inj:∀i j c c',M[i]?=some c->M[j]?=some c'->c≠.dead->c'≠.dead->W.α i=W.α j->i=j
section
variable{K:Fg}{W W':Wd}{M M':List Cell}{H H':Hp}
theorem UX.up{x:PyData ⊕ Nat}{v:V}(h:UX K W x v)(e:W.Ext W'):UX K W' x v:=by
 cases x with
 |inl x=>exact Rep.same e.ff _ _ h
 |inr i=>exact⟨C2 h.1 e.ln,by rw[e.al i h.1];exact h.2⟩
theorem bK.up{x:CD}{v:V}(h:bK K W x v)(e:W.Ext W'):bK K W' x v:=by
 cases x with
 |d x=>exact Rep.same e.ff _ _ h
 |c i=>exact⟨C2 h.1 e.ln,by rw[e.al i h.1];exact h.2⟩
 |t xs=>
  obtain⟨a,vs,h1,h2,h3⟩:=h;exact⟨a,vs,h1,e.ff _ _ h2,Paired.mapP h3 fun _ _ r=>UX.up r e⟩
 |f kvs=>
  obtain⟨a,o,us,h1,h2,h3⟩:=h;exact⟨a,o,us,h1,e.ff _ _ h2,Paired.mapP h3 fun _ _ r=>⟨r.1,Rep.same e.ff _ _ r.2⟩⟩
 |g nm=>exact h
theorem bP.up{xs:List CD}{vs:List V}(h:bP K W xs vs)(e:W.Ext W'):bP K W' xs vs:=Paired.mapP h fun _ _ r=>bK.up r e
theorem cH.up{γ:List (Option CD)}{σ:St}(h:cH K W γ σ)(e:W.Ext W'):cH K W' γ σ:=Paired.mapP h fun a b r=>by
 cases a<;>cases b
 .exact True.intro
 .exact False.elim r
 .exact False.elim r
 .exact bK.up r e
theorem JO.up{dx:Option Addr}{fs:List (Str×CD)}(h:JO K W dx fs)(e:W.Ext W'):JO K W' dx fs:=by
 cases dx with
 |none=>exact h
 |some d=>
  obtain⟨h0,us,h1,h2⟩:=h;exact⟨h0,us,e.ff _ _ h1,Paired.mapP h2 fun _ _ r=>⟨r.1,bK.up r.2 e⟩⟩
theorem SB.up{a:Addr}{c:Cell}{o:HO}(h:SB K W a c o)(e:W.Ext W'):SB K W' a c o:=by
 cases c<;>cases o<;>first|exact(let⟨dx,h1,h2⟩:=h;⟨dx,h1,h2.up e⟩)|exact False.elim h|exact bP.up h e|exact Paired.mapP h fun _ _ r=>⟨r.1,bK.up r.2 e⟩|exact⟨h.1,Paired.mapP h.2 fun _ _ r=>⟨r.1,bK.up r.2 e⟩⟩
theorem Good.lay(g:Good K W M H){p:Addr}{o:HO}(hp:H p=none):W.Ext { W with F:=upd W.F p o }/\Good K { W with F:=upd W.F p o } M (upd H p o):=by
 have fp:W.F p=none:=g.fh.free hp;have e:W.Ext { W with F:=upd W.F p o }:=⟨iN.upd fp,B0 _,fun _ _=>rfl⟩;refine⟨e,?_,g.n,fun i c hi hc=>?_,g.inj⟩
 .intro b u hb;have hb:upd W.F p o b=some u:=hb;by_cases q:b=p
  .subst q;rw[aO]at hb;rw[aO];exact hb
  .rw[aL q]at hb;rw[aL q];exact g.fh b u hb
 .obtain⟨h1,o',h2,h3⟩:=g.cs i c hi hc;have ne:W.α i≠p:=aP h2 hp;exact⟨by show upd W.F p o (W.α i)=none;rw[aL ne];exact h1,o',by rw[aL ne];exact h2,h3.up e⟩
def Wd.more(W:Wd)(p:Addr):Wd:={ W with α:=fun i=>if i=W.n then p else W.α i,n:=W.n+1 }
theorem Wd.ext_more(W:Wd)(p:Addr):W.Ext (W.more p):=⟨iN.refl _,A0f _,fun i h=>B2 (B8 h)⟩
theorem Good.new(g:Good K W M H){p:Addr}{c:Cell}{o:HO}(hp:H p=none)(r:SB K W p c o):Good K (W.more p) (M++[c]) (upd H p o):=by
 have e:=W.ext_more p
 have at_:∀i c',(M++[c])[i]?=some c'->(i<M.length/\M[i]?=some c')\/(i=M.length/\c'=c):=fun i c' h=>by
  by_cases q:i<M.length
  .rw[U1 q]at h;exact .inl ⟨q,h⟩
  .rw[I0 (Nat.le_of_not_lt q)]at h
   have h':i-M.length=0:=by
    cases k:i-M.length with
    |zero=>rfl
    |succ m=>rw[k]at h;simp at h
   rw[h']at h;refine .inr ⟨by omega,?_⟩;simpa using h.symm
 have al:∀i,i<M.length->(W.more p).α i=W.α i:=fun i h=>e.al i (by rw[g.n];exact h);have an:(W.more p).α M.length=p:=by show(if M.length=W.n then p else _)=p;rw[A9 g.n.symm]
 have nep:∀i c',M[i]?=some c'->c'≠.dead->W.α i≠p:=fun i c' h hc=>by
  obtain⟨_,o',h2,_⟩:=g.cs i c' h hc;exact aP h2 hp
 refine⟨?_,?_,fun i c' hi hc=>?_,fun i j c1 c2 hi hj d1 d2 he=>?_⟩
 .intro b u hb;have:=g.fh b u hb;rw[aL (aP this hp)];exact this
 .show W.n+1=_;rw[g.n,C3];rfl
 .rcases at_ i c' hi with⟨q,h⟩|⟨rfl,rfl⟩
  .obtain⟨h1,o',h2,h3⟩:=g.cs i c' h hc;rw[al i q];exact⟨h1,o',by rw[aL (nep i c' h hc)];exact h2,h3.up e⟩
  .rw[an];exact⟨g.fh.free hp,o,aO,r.up e⟩
 .rcases at_ i c1 hi with⟨q,h⟩|⟨rfl,rfl⟩
  .rcases at_ j c2 hj with⟨q',h'⟩|⟨rfl,rfl⟩
   .rw[al i q,al j q']at he;exact g.inj i j c1 c2 h h' d1 d2 he
   .rw[al i q,an]at he;exact absurd he (nep i c1 h d1)
  .rcases at_ j c2 hj with⟨q',h'⟩|⟨rfl,rfl⟩
   .rw[an,al j q']at he;exact absurd he.symm (nep j c2 h' d2)
   .rfl
theorem Good.set(g:Good K W M H){i:Nat}{c c':Cell}{o':HO}(hi:M[i]?=some c)(hc:c≠.dead)(r:SB K W (W.α i) c' o'):Good K W (M.set i c') (upd H (W.α i) o'):=by
 obtain⟨h1,o,h2,h3⟩:=g.cs i c hi hc;have lt:i<M.length:=(List.getElem?_eq_some_iff.mp hi).1
 have at_:∀j d,(M.set i c')[j]?=some d->(j=i/\d=c')\/(j≠i/\M[j]?=some d):=fun j d h=>by
  by_cases q:i=j
  .subst q;rw[F5 lt]at h;exact .inl ⟨rfl,(E2 h).symm⟩
  .rw[F6 q]at h;exact .inr ⟨fun z=>q z.symm,h⟩
 refine⟨?_,by rw[g.n,U2],fun j d hj hd=>?_,fun j k d1 d2 hj hk e1 e2 he=>?_⟩
 .intro b u hb;rw[aL (aP hb h1)];exact g.fh b u hb
 .rcases at_ j d hj with⟨rfl,rfl⟩|⟨q,h⟩
  .exact⟨h1,o',aO,r⟩
  .obtain⟨k1,u,k2,k3⟩:=g.cs j d h hd;have ne:W.α j≠W.α i:=fun z=>q (g.inj j i d c h hi hd hc z);exact⟨k1,u,by rw[aL ne];exact k2,k3⟩
 .rcases at_ j d1 hj with⟨rfl,rfl⟩|⟨q,h⟩<;>rcases at_ k d2 hk with⟨rfl,rfl⟩|⟨q',h'⟩
  .rfl
  .exact g.inj _ k c d2 hi h' hc e2 he
  .exact g.inj j _ d1 c h hi e1 hc he
  .exact g.inj j k d1 d2 h h' e1 e2 he
end
abbrev Ga:=List (Option CD)
abbrev Sto:=List Cell
abbrev EF:=Ga->Sto->Option (CD×Sto)
abbrev TF:=Ga->Sto->Option (Bool×Sto)
abbrev AF:=Ga->Sto->Option (List CD×Sto)
inductive Out where
 |nx (γ:Ga)|bk (γ:Ga)|ct (γ:Ga)|rt (x:CD)
abbrev SF:=Ga->Sto->Option (Out×Sto)
abbrev GF:=CD->Ga->Sto->Option (Ga×Sto)
abbrev GsF:=List CD->Ga->Sto->Option (Ga×Sto)
abbrev F1:=CD->Sto->Option (CD×Sto)
abbrev F2:=CD->CD->Sto->Option (CD×Sto)
abbrev FN:=List CD->Sto->Option (CD×Sto)
section
variable(K:Fg)
def SE(t:TE)(f:EF):Prop:=∀γ M x M',f γ M=some (x,M')->∀(W:Wd)(H:Hp)(σ:St)(Q:VK),Good K W M H->cH K W γ σ->(∀v W' H',W.Ext W'->Good K W' M' H'->bK K W' x v->Q v H')->t σ H Q
def STt(t:TT)(f:TF):Prop:=∀γ M b M',f γ M=some (b,M')->∀(W:Wd)(H:Hp)(σ:St)(Q:Bool->Hp->Prop),Good K W M H->cH K W γ σ->(∀W' H',W.Ext W'->Good K W' M' H'->Q b H')->t σ H Q
def SA(t:TA)(f:AF):Prop:=∀γ M xs M',f γ M=some (xs,M')->∀(W:Wd)(H:Hp)(σ:St)(Q:List V->Hp->Prop),Good K W M H->cH K W γ σ->(∀vs W' H',W.Ext W'->Good K W' M' H'->bP K W' xs vs->Q vs H')->t σ H Q
def XW(D:Ends)(W:Wd)(H:Hp):Out->Prop
 |.nx γ=>∀σ,cH K W γ σ->D.nx σ H
 |.bk γ=>∀σ,cH K W γ σ->D.bk σ H
 |.ct γ=>∀σ,cH K W γ σ->D.ct σ H
 |.rt x=>∀v,bK K W x v->D.rt v H
def SS(t:TS)(f:SF):Prop:=∀γ M o M',f γ M=some (o,M')->∀(W:Wd)(H:Hp)(σ:St)(D:Ends),Good K W M H->cH K W γ σ->(∀W' H',W.Ext W'->Good K W' M' H'->XW K D W' H' o)->t D σ H
def SG(t:TG)(f:GF):Prop:=∀x γ M γ' M',f x γ M=some (γ',M')->∀(W:Wd)(H:Hp)(σ:St)(v:V)(Q:St->Hp->Prop),Good K W M H->cH K W γ σ->bK K W x v->(∀σ' W' H',W.Ext W'->Good K W' M' H'->cH K W' γ' σ'->Q σ' H')->t v σ H Q
def SGs(t:TGs)(f:GsF):Prop:=∀xs γ M γ' M',f xs γ M=some (γ',M')->∀(W:Wd)(H:Hp)(σ:St)(vs:List V)(Q:St->Hp->Prop),Good K W M H->cH K W γ σ->bP K W xs vs->(∀σ' W' H',W.Ext W'->Good K W' M' H'->cH K W' γ' σ'->Q σ' H')->t vs σ H Q
def P2(r:R2)(f:F2):Prop:=∀x y M z M',f x y M=some (z,M')->∀(W:Wd)(H:Hp)(v u:V)(Q:VK),Good K W M H->bK K W x v->bK K W y u->(∀w W' H',W.Ext W'->Good K W' M' H'->bK K W' z w->Q w H')->r v u H Q
def P1(r:V->Hp->VK->Prop)(f:F1):Prop:=∀x M z M',f x M=some (z,M')->∀(W:Wd)(H:Hp)(v:V)(Q:VK),Good K W M H->bK K W x v->(∀w W' H',W.Ext W'->Good K W' M' H'->bK K W' z w->Q w H')->r v H Q
def PN(r:List V->Hp->VK->Prop)(f:FN):Prop:=∀xs M z M',f xs M=some (z,M')->∀(W:Wd)(H:Hp)(vs:List V)(Q:VK),Good K W M H->bP K W xs vs->(∀w W' H',W.Ext W'->Good K W' M' H'->bK K W' z w->Q w H')->r vs H Q
def spM(f:FN):Sp:=fun vs H Q _=>∃xs M W y M',Good K W M H/\bP K W xs vs/\f xs M=some (y,M')/\∀v W' H',W.Ext W'->Good K W' M' H'->bK K W' y v->Q v H'
end
def aD(i:Nat):EF:=fun γ M=>match γ[i]? with
 |some (some x)=>some (x,M)
 |_=>none
def fC(x:PyData):EF:=fun _ M=>some (.d x,M)
def fOp(h:F2)(f g:EF):EF:=fun γ M=>(f γ M).bind fun r=>(g γ r.2).bind fun q=>h r.1 q.1 q.2
def fUn(h:F1)(f:EF):EF:=fun γ M=>(f γ M).bind fun r=>h r.1 r.2
def asB:CD->Option Bool
 |.d (.bool b)=>some b
 |_=>none
def jE(f g:EF):EF:=fun γ M=>(f γ M).bind fun r=>(asB r.1).bind fun b=>if b=true then g γ r.2 else some (.d (.bool false),r.2)
def fOr(f g:EF):EF:=fun γ M=>(f γ M).bind fun r=>(asB r.1).bind fun b=>if b=true then some (.d (.bool true),r.2)else g γ r.2
def SH(f:EF):EF:=fun γ M=>(f γ M).bind fun r=>(asB r.1).bind fun b=>some (.d (.bool (!b)),r.2)
def fIf(t:TF)(f g:EF):EF:=fun γ M=>(t γ M).bind fun r=>if r.1=true then f γ r.2 else g γ r.2
def XM(f g:TF):TF:=fun γ M=>(f γ M).bind fun r=>if r.1=true then g γ r.2 else some (false,r.2)
def gOr(f g:TF):TF:=fun γ M=>(f γ M).bind fun r=>if r.1=true then some (true,r.2)else g γ r.2
def nR(f:TF):TF:=fun γ M=>(f γ M).bind fun r=>some (!r.1,r.2)
def gB(f:EF):TF:=fun γ M=>(f γ M).bind fun r=>(asB r.1).bind fun b=>some (b,r.2)
def kQ(h h':F2)(f g e:EF):EF:=fun γ M=>(f γ M).bind fun r=>(g γ r.2).bind fun q=>(h r.1 q.1 q.2).bind fun z=>(asB z.1).bind fun b=>if b=true then(e γ z.2).bind fun w=>h' q.1 w.1 w.2 else some (.d (.bool false),z.2)
def aH:AF:=fun _ M=>some ([],M)
def aB(f:EF)(g:AF):AF:=fun γ M=>(f γ M).bind fun r=>(g γ r.2).bind fun q=>some (r.1::q.1,q.2)
def lB:List CD->Option (List PyData)
 |[]=>some []
 |.d x::r=>(lB r).map (x::·)
 |.c _::_=>none
 |.t _::_=>none
 |.f _::_=>none
 |.g _::_=>none
def bI(f:AF):EF:=fun γ M=>(f γ M).bind fun r=>(lB r.1).bind fun ds=>if ds.length<=sizeLine then some (.d (.tuple ds),r.2)else none
def gF(f:AF):EF:=fun γ M=>(f γ M).bind fun r=>(lB r.1).bind fun ds=>if ds.length<=sizeLine then some (.d (.list ds),r.2)else none
def sA(f:AF):EF:=fun γ M=>(f γ M).bind fun r=>if r.1.length<=sizeLine then some (.c r.2.length,r.2++[.lst r.1])else none
def aK(h:FN)(f:AF):EF:=fun γ M=>(f γ M).bind fun r=>h r.1 r.2
def cX:SF:=fun γ M=>some (.nx γ,M)
def aX(f g:SF):SF:=fun γ M=>(f γ M).bind fun r=>match r.1 with
 |.nx γ'=>g γ' r.2
 |o=>some (o,r.2)
def oY(f:EF):SF:=fun γ M=>(f γ M).bind fun r=>some (.nx γ,r.2)
def bS(f:EF):SF:=fun γ M=>(f γ M).bind fun r=>some (.rt r.1,r.2)
def aJl:SF:=fun _ M=>some (.rt (.d .none),M)
def sIf(c:TF)(f g:SF):SF:=fun γ M=>(c γ M).bind fun r=>if r.1=true then f γ r.2 else g γ r.2
def aV(f:EF)(g:GF):SF:=fun γ M=>(f γ M).bind fun r=>(g r.1 γ r.2).bind fun q=>some (.nx q.1,q.2)
def hName(i:Nat):GF:=fun x γ M=>some (γ.set i (some x),M)
def lA:GsF:=fun xs γ M=>match xs with
 |[]=>some (γ,M)
 |_=>none
def bG(f:GF)(g:GsF):GsF:=fun xs γ M=>match xs with
 |x::r=>(f x γ M).bind fun q=>g r q.1 q.2
 |[]=>none
def lD(n:Nat)(g:GsF):GF:=fun x γ M=>match x with
 |.d (.tuple ds)=>if ds.length=n then g (ds.map .d) γ M else none
 |.t xs=>if xs.length=n then g (xs.map cdA) γ M else none
 |_=>none
abbrev F3:=CD->CD->CD->Sto->Option Sto
def hSub(fo fi:EF)(s:F3):GF:=fun x γ M=>(fo γ M).bind fun r=>(fi γ r.2).bind fun q=>(s r.1 q.1 x q.2).bind fun M'=>some (γ,M')
def BM(i j:Nat)(f:AF):SF:=fun γ M=>(f γ M).bind fun r=>match r.1 with
 |[x,y]=>some (.nx ((γ.set i (some x)).set j (some y)),r.2)
 |_=>none
def nU(g:GF)(b:SF):List CD->Ga->Sto->Option (Out×Sto)
 |[],γ,M=>some (.nx γ,M)
 |x::xs,γ,M=>(g x γ M).bind fun r=>(b r.1 r.2).bind fun q=>match q.1 with
  |.nx γ'=>nU g b xs γ' q.2
  |.ct γ'=>nU g b xs γ' q.2
  |.bk γ'=>some (.nx γ',q.2)
  |.rt x=>some (.rt x,q.2)
def sE(f:AF)(g:GF)(b:SF):SF:=fun γ M=>(f γ M).bind fun r=>nU g b r.1 γ r.2
def fS(c:TF)(b:SF):Nat->Ga->Sto->Option (Out×Sto)
 |0,_,_=>none
 |n+1,γ,M=>(c γ M).bind fun r=>if r.1=true then(b γ r.2).bind fun q=>match q.1 with
  |.nx γ'=>fS c b n γ' q.2
  |.ct γ'=>fS c b n γ' q.2
  |.bk γ'=>some (.nx γ',q.2)
  |.rt x=>some (.rt x,q.2)else some (.nx γ,r.2)
open Classical in
noncomputable def tU(c:TF)(b:SF):SF:=fun γ M=>if h:∃n,(fS c b n γ M).isSome=true then fS c b h.choose γ M else none
def lcF(g:GF)(c:TF)(e:EF):List CD->Ga->Sto->Option (List CD×Sto)
 |[],γ,M=>some ([],M)
 |x::xs,γ,M=>(g x γ M).bind fun a=>(c a.1 a.2).bind fun b=>if b.1=true then(e a.1 b.2).bind fun r=>(lcF g c e xs a.1 r.2).bind fun q=>some (r.1::q.1,q.2)else lcF g c e xs a.1 b.2
def lC(cap:List (Option Nat))(γ:Ga):Ga:=cap.map fun o=>o.bind fun j=>(γ[j]?).join
def gO:TF:=fun _ M=>some (true,M)
def xA(cap:List (Option Nat))(f:AF)(g:GF)(c:TF)(e:EF):AF:=fun γ M=>(f γ M).bind fun r=>if r.1.length<=sizeLine then lcF g c e r.1 (lC cap γ) r.2 else none
def fLc(cap:List (Option Nat))(f:AF)(g:GF)(c:TF)(e:EF):EF:=gF (xA cap f g c e)
def HU(cap:List (Option Nat))(f:AF)(g:GF)(c:TF)(e:EF):EF:=sA (xA cap f g c e)
def fnF(ps N:Nat)(b:SF):FN:=fun xs M=>if xs.length=ps then(b (xs.map some++List.replicate (N-xs.length) none) M).bind fun r=>match r.1 with
 |.rt x=>some (x,r.2)
 |.nx _=>some (.d .none,r.2)
 |_=>none else none
theorem aI{α β:Type}{o:Option α}{k:α->Option β}{r:β}(h:o.bind k=some r):∃a,o=some a/\k a=some r:=by
 cases o with
 |none=>cases h
 |some a=>exact⟨a,rfl,h⟩
theorem Paired.get{α β:Type}{R:α->β->Prop}:∀{xs:List α}{ys:List β}{i:Nat}{x:α},Paired R xs ys->xs[i]?=some x->∃y,ys[i]?=some y/\R x y
 |_,_,_,_,.nil=>fun e=>by simp at e
 |_,_,0,_,.cons r _=>fun e=>by simp at e;subst e;exact⟨_,rfl,r⟩
 |_,_,i+1,x,.cons _ t=>fun e=>by
  obtain⟨u,h1,h2⟩:=Paired.get (i:=i) (x:=x) t (by simpa using e);exact⟨u,by simpa using h1,h2⟩
theorem Paired.set{α β:Type}{R:α->β->Prop}{x:α}{y:β}(r:R x y):∀{xs:List α}{ys:List β}(i:Nat),Paired R xs ys->Paired R (xs.set i x) (ys.set i y)
 |_,_,_,.nil=>.nil
 |_,_,0,.cons _ t=>.cons r t
 |_,_,i+1,.cons q t=>.cons q (Paired.set r i t)
theorem Paired.app{α β:Type}{R:α->β->Prop}:∀{xs xs':List α}{ys ys':List β},Paired R xs ys->Paired R xs' ys'->Paired R (xs++xs') (ys++ys')
 |_,_,_,_,.nil=>fun s=>s
 |_,_,_,_,.cons r t=>fun s=>.cons r (Paired.app t s)
theorem Paired.len{α β:Type}{R:α->β->Prop}{xs:List α}{ys:List β}(p:Paired R xs ys):xs.length=ys.length:=A0m p
section
variable{K:Fg}
theorem fL{W:Wd}:∀{xs:List CD}{ds:List PyData}{vs:List V},lB xs=some ds->bP K W xs vs->aJ K W.F ds vs
 |[],ds,vs=>fun e h=>by
  cases e;cases h;rfl
 |.c _::_,ds,vs=>fun e h=>by cases e
 |.t _::_,ds,vs=>fun e h=>by cases e
 |.f _::_,ds,vs=>fun e h=>by cases e
 |.g _::_,ds,vs=>fun e h=>by cases e
 |.d x::r,ds,vs=>fun e h=>by
  cases h with
  |@cons _ v _ vs' h1 h2=>
   unfold lB at e;cases q:lB r with
   |none=>rw[q]at e;cases e
   |some es=>
    rw[q]at e;cases e;exact⟨v,vs',rfl,h1,fL q h2⟩
theorem QA{xs:List (PyData ⊕ Nat)}{vs:List V}(h:Paired (UX K W) xs vs):bP K W (xs.map cdA) vs:=by
 induction h with
 |nil=>exact .nil
 |@cons x v _ _ r _ ih=>exact .cons (by cases x<;>exact r) ih
theorem gH{W:Wd}:∀{ds:List PyData}{vs:List V},aJ K W.F ds vs->bP K W (ds.map .d) vs
 |[],vs=>fun h=>by rw[show vs=[]from h];exact .nil
 |d::ds,vs=>fun h=>by
  obtain⟨v,r,rfl,h1,h2⟩:=h;exact .cons h1 (gH h2)
theorem HP:∀{xs:List CD}{ds:List PyData},lB xs=some ds->ds.length=xs.length
 |[],ds=>fun e=>by cases e;rfl
 |.c _::_,ds=>fun e=>by cases e
 |.t _::_,ds=>fun e=>by cases e
 |.f _::_,ds=>fun e=>by cases e
 |.g _::_,ds=>fun e=>by cases e
 |.d x::r,ds=>fun e=>by
  unfold lB at e;cases q:lB r with
  |none=>rw[q]at e;cases e
  |some es=>
   rw[q]at e;cases e;rw[E9,E9,HP q]
theorem aFy{i:Nat}:SE K (aJm i) (aD i):=by
 intro γ M x M' h W H σ Q g r k;unfold aD at h;cases e:γ[i]? with
 |none=>rw[e]at h;cases h
 |some o=>
  cases o with
  |none=>rw[e]at h;cases h
  |some y=>
   rw[e]at h;cases h;obtain⟨v,hv,rv⟩:=Paired.get r e;cases v with
   |none=>exact False.elim rv
   |some v=>exact⟨v,hv,k v W H (.refl _) g rv⟩
theorem aAb{i:Int}:SE K (tC (.int i)) (fC (.int i)):=by
 intro γ M x M' h W H σ Q g r k;cases h;exact k _ W H (.refl _) g rfl
theorem aHR{b:Bool}:SE K (tC (.bl b)) (fC (.bool b)):=by
 intro γ M x M' h W H σ Q g r k;cases h;exact k _ W H (.refl _) g rfl
theorem aHI:SE K (tC .non) (fC .none):=by
 intro γ M x M' h W H σ Q g r k;cases h;exact k _ W H (.refl _) g rfl
theorem aHa{x:Str}:SE K (tC (.str x)) (fC (.str x)):=by
 intro γ M x M' h W H σ Q g r k;cases h;exact k _ W H (.refl _) g rfl
variable{ta tb tc:TE}{f g e:EF}{tt uu:TT}{ft gt:TF}{tA:TA}{fa:AF}
theorem OV{r:R2}{h:F2}(p:P2 K r h)(a:SE K ta f)(b:SE K tb g):SE K (tOp r ta tb) (fOp h f g):=by
 intro γ M x M' hh W H σ Q G R k;obtain⟨⟨y,M1⟩,h1,hh⟩:=aI hh;obtain⟨⟨z,M2⟩,h2,hh⟩:=aI hh;refine a _ _ _ _ h1 W H σ _ G R fun v W1 H1 e1 G1 r1=>?_;refine b _ _ _ _ h2 W1 H1 σ _ G1 (R.up e1) fun u W2 H2 e2 G2 r2=>?_;exact p _ _ _ _ _ hh W2 H2 v u Q G2 (r1.up e2) r2 fun w W3 H3 e3 G3 r3=>k w W3 H3 ((e1.trans e2).trans e3) G3 r3
theorem aHW{r:V->Hp->VK->Prop}{h:F1}(p:P1 K r h)(a:SE K ta f):SE K (tUn r ta) (fUn h f):=by
 intro γ M x M' hh W H σ Q G R k;obtain⟨⟨y,M1⟩,h1,hh⟩:=aI hh;refine a _ _ _ _ h1 W H σ _ G R fun v W1 H1 e1 G1 r1=>?_;exact p _ _ _ _ hh W1 H1 v Q G1 r1 fun w W3 H3 e3 G3 r3=>k w W3 H3 (e1.trans e3) G3 r3
theorem GI{x:CD}{b:Bool}(h:asB x=some b):x=.d (.bool b):=by
 cases x with
 |c n=>cases h
 |t n=>cases h
 |f n=>cases h
 |g _=>cases h
 |d x=>cases x<;>first|cases h;rfl|cases h
theorem aEI(a:SE K ta f)(b:SE K tb g):SE K (aDX ta tb) (jE f g):=by
 intro γ M x M' hh W H σ Q G R k;obtain⟨⟨y,M1⟩,h1,hh⟩:=aI hh;obtain⟨c,h2,hh⟩:=aI hh;refine a _ _ _ _ h1 W H σ _ G R fun v W1 H1 e1 G1 r1=>?_;have hy:y=_:=GI h2;subst hy;refine⟨c,r1,?_⟩;cases c with
 |true=>rw[A9 rfl];rw[A9 rfl]at hh;exact b _ _ _ _ hh W1 H1 σ Q G1 (R.up e1) fun w W3 H3 e3 G3 r3=>k w W3 H3 (e1.trans e3) G3 r3
 |false=>
  rw[B2 B1];rw[B2 B1]at hh;cases hh;exact k _ W1 H1 e1 G1 rfl
theorem aFk(a:SE K ta f):SE K (aED ta) (SH f):=by
 intro γ M x M' hh W H σ Q G R k;obtain⟨⟨y,M1⟩,h1,hh⟩:=aI hh;obtain⟨c,h2,hh⟩:=aI hh;refine a _ _ _ _ h1 W H σ _ G R fun v W1 H1 e1 G1 r1=>?_;have hy:y=_:=GI h2;subst hy;cases hh;exact⟨c,r1,k _ W1 H1 e1 G1 rfl⟩
theorem aIg(t:STt K tt ft)(a:SE K ta f)(b:SE K tb g):SE K (tIf tt ta tb) (fIf ft f g):=by
 intro γ M x M' hh W H σ Q G R k;obtain⟨⟨c,M1⟩,h1,hh⟩:=aI hh;refine t _ _ _ _ h1 W H σ _ G R fun W1 H1 e1 G1=>?_;cases c with
 |true=>rw[A9 rfl];rw[A9 rfl]at hh;exact a _ _ _ _ hh W1 H1 σ Q G1 (R.up e1) fun w W3 H3 e3 G3 r3=>k w W3 H3 (e1.trans e3) G3 r3
 |false=>rw[B2 B1];rw[B2 B1]at hh;exact b _ _ _ _ hh W1 H1 σ Q G1 (R.up e1) fun w W3 H3 e3 G3 r3=>k w W3 H3 (e1.trans e3) G3 r3
theorem YW{r r':R2}{h h':F2}(p:P2 K r h)(p':P2 K r' h')(a:SE K ta f)(b:SE K tb g)(c:SE K tc e):SE K (aAK r r' ta tb tc) (kQ h h' f g e):=by
 intro γ M x M' hh W H σ Q G R k;obtain⟨⟨y,M1⟩,h1,hh⟩:=aI hh;obtain⟨⟨z,M2⟩,h2,hh⟩:=aI hh;obtain⟨⟨w,M3⟩,h3,hh⟩:=aI hh;obtain⟨q,h4,hh⟩:=aI hh;refine a _ _ _ _ h1 W H σ _ G R fun v W1 H1 e1 G1 r1=>?_;refine b _ _ _ _ h2 W1 H1 σ _ G1 (R.up e1) fun u W2 H2 e2 G2 r2=>?_;refine p _ _ _ _ _ h3 W2 H2 v u _ G2 (r1.up e2) r2 fun t W3 H3 e3 G3 r3=>?_;have hy:w=_:=GI h4;subst hy;refine⟨q,r3,?_⟩;have e13:=(e1.trans e2).trans e3;cases q with
 |true=>
  rw[A9 rfl];rw[A9 rfl]at hh;obtain⟨⟨m,M4⟩,h5,hh⟩:=aI hh;refine c _ _ _ _ h5 W3 H3 σ _ G3 (R.up e13) fun o W4 H4 e4 G4 r4=>?_;exact p' _ _ _ _ _ hh W4 H4 u o Q G4 (r2.up (e3.trans e4)) r4 fun w W5 H5 e5 G5 r5=>k w W5 H5 ((e13.trans e4).trans e5) G5 r5
 |false=>
  rw[B2 B1];rw[B2 B1]at hh;cases hh;exact k _ W3 H3 e13 G3 rfl
theorem aHm(a:STt K tt ft)(b:STt K uu gt):STt K (aIa tt uu) (XM ft gt):=by
 intro γ M x M' hh W H σ Q G R k;obtain⟨⟨c,M1⟩,h1,hh⟩:=aI hh;refine a _ _ _ _ h1 W H σ _ G R fun W1 H1 e1 G1=>?_;cases c with
 |true=>rw[A9 rfl];rw[A9 rfl]at hh;exact b _ _ _ _ hh W1 H1 σ Q G1 (R.up e1) fun W3 H3 e3 G3=>k W3 H3 (e1.trans e3) G3
 |false=>rw[B2 B1];rw[B2 B1]at hh;cases hh;exact k W1 H1 e1 G1
theorem aIO(a:STt K tt ft)(b:STt K uu gt):STt K (tOr tt uu) (gOr ft gt):=by
 intro γ M x M' hh W H σ Q G R k;obtain⟨⟨c,M1⟩,h1,hh⟩:=aI hh;refine a _ _ _ _ h1 W H σ _ G R fun W1 H1 e1 G1=>?_;cases c with
 |true=>rw[A9 rfl];rw[A9 rfl]at hh;cases hh;exact k W1 H1 e1 G1
 |false=>rw[B2 B1];rw[B2 B1]at hh;exact b _ _ _ _ hh W1 H1 σ Q G1 (R.up e1) fun W3 H3 e3 G3=>k W3 H3 (e1.trans e3) G3
theorem aGo(a:STt K tt ft):STt K (aIS tt) (nR ft):=by
 intro γ M x M' hh W H σ Q G R k;obtain⟨⟨c,M1⟩,h1,hh⟩:=aI hh;cases hh;exact a _ _ _ _ h1 W H σ _ G R fun W1 H1 e1 G1=>k W1 H1 e1 G1
theorem aFE(a:SE K ta f):STt K (tB ta) (gB f):=by
 intro γ M x M' hh W H σ Q G R k;obtain⟨⟨y,M1⟩,h1,hh⟩:=aI hh;obtain⟨c,h2,hh⟩:=aI hh;refine a _ _ _ _ h1 W H σ _ G R fun v W1 H1 e1 G1 r1=>?_;have hy:y=_:=GI h2;subst hy;cases hh;exact⟨_,r1,k W1 H1 e1 G1⟩
theorem aCx(a:SE K ta f):STt K (aEm ta) (gB f):=aFE a
theorem aGu:SA K UE aH:=by
 intro γ M x M' hh W H σ Q G R k;cases hh;exact k [] W H (.refl _) G .nil
theorem aCW(a:SE K ta f)(b:SA K tA fa):SA K (sP ta tA) (aB f fa):=by
 intro γ M x M' hh W H σ Q G R k;obtain⟨⟨y,M1⟩,h1,hh⟩:=aI hh;obtain⟨⟨ys,M2⟩,h2,hh⟩:=aI hh;cases hh;refine a _ _ _ _ h1 W H σ _ G R fun v W1 H1 e1 G1 r1=>?_;exact b _ _ _ _ h2 W1 H1 σ _ G1 (R.up e1) fun vs W2 H2 e2 G2 r2=>k _ W2 H2 (e1.trans e2) G2 (.cons (r1.up e2) r2)
theorem aGL(b:SA K tA fa):SE K (ZN tA) (bI fa):=by
 intro γ M x M' hh W H σ Q G R k;obtain⟨⟨ys,M1⟩,h1,hh⟩:=aI hh;obtain⟨ds,h2,hh⟩:=aI hh;by_cases hl:ds.length<=sizeLine
 .rw[A9 hl]at hh;cases hh;refine b _ _ _ _ h1 W H σ _ G R fun vs W1 H1 e1 G1 r1=>?_;have ra:=fL h2 r1;refine⟨by rw[<- ra.length];exact hl,fun p hp=>?_⟩;obtain⟨e2,G2⟩:=G1.lay (o:=.tup vs) hp;exact k _ _ _ (e1.trans e2) G2 ⟨p,vs,rfl,SqT.of aO,aJ.same e2.ff _ _ ra⟩
 .rw[B2 hl]at hh;cases hh
theorem aGC(b:SA K tA fa):SE K (aHN tA) (gF fa):=by
 intro γ M x M' hh W H σ Q G R k;obtain⟨⟨ys,M1⟩,h1,hh⟩:=aI hh;obtain⟨ds,h2,hh⟩:=aI hh;by_cases hl:ds.length<=sizeLine
 .rw[A9 hl]at hh;cases hh;refine b _ _ _ _ h1 W H σ _ G R fun vs W1 H1 e1 G1 r1=>?_;have ra:=fL h2 r1;refine⟨by rw[<- ra.length];exact hl,fun p hp=>?_⟩;obtain⟨e2,G2⟩:=G1.lay (o:=.lst vs) hp;exact k _ _ _ (e1.trans e2) G2 ⟨p,vs,rfl,SqL.of aO,aJ.same e2.ff _ _ ra⟩
 .rw[B2 hl]at hh;cases hh
theorem Good.newV(g:Good K W M H){p:Addr}:bK K (W.more p) (.c M.length) (.ref p):=by
 refine⟨?_,?_⟩
 .show M.length<W.n+1;rw[g.n];exact J9 _
 .show V.ref p=.ref (if M.length=W.n then p else W.α M.length);rw[A9 g.n.symm]
theorem aGF(b:SA K tA fa):SE K (aHN tA) (sA fa):=by
 intro γ M x M' hh W H σ Q G R k;obtain⟨⟨ys,M1⟩,h1,hh⟩:=aI hh;by_cases hl:ys.length<=sizeLine
 .have hh:(if ys.length<=sizeLine then some (CD.c M1.length,M1++[Cell.lst ys])else none)=some (x,M'):=hh;rw[A9 hl]at hh;cases hh;refine b _ _ _ _ h1 W H σ _ G R fun vs W1 H1 e1 G1 r1=>?_;refine⟨by rw[<- Paired.len r1];exact hl,fun p hp=>?_⟩;exact k _ _ _ (e1.trans (W1.ext_more p)) (G1.new hp (c:=.lst ys) (o:=.lst vs) r1) G1.newV
 .have hh:(if ys.length<=sizeLine then some (CD.c M1.length,M1++[Cell.lst ys])else none)=some (x,M'):=hh;rw[B2 hl]at hh;cases hh
theorem aBJ{h:FN}(b:SA K tA fa):SE K (aAk (spM K h) [] E0 tA) (aK h fa):=by
 intro γ M x M' hh W H σ Q G R k;obtain⟨⟨ys,M1⟩,h1,hh⟩:=aI hh;refine b _ _ _ _ h1 W H σ _ G R fun vs W1 H1 e1 G1 r1=>?_;rw[F4];exact⟨ys,M1,W1,x,M',G1,r1,hh,fun v W2 H2 e2 G2 r2=>k v W2 H2 (e1.trans e2) G2 r2⟩
theorem aEo{r:List V->Hp->VK->Prop}{h:FN}(p:PN K r h)(b:SA K tA fa):SE K (tCB r tA) (aK h fa):=by
 intro γ M x M' hh W H σ Q G R k;obtain⟨⟨ys,M1⟩,h1,hh⟩:=aI hh;refine b _ _ _ _ h1 W H σ _ G R fun vs W1 H1 e1 G1 r1=>?_;exact p _ _ _ _ hh W1 H1 vs Q G1 r1 fun v W2 H2 e2 G2 r2=>k v W2 H2 (e1.trans e2) G2 r2
end
section
variable{K:Fg}{ta tb tc:TE}{f g e:EF}{tt uu:TT}{ft gt:TF}{tA:TA}{fa:AF}{t u:TS}{p q:SF}{tg:TG}{hg:GF}{tgs:TGs}{hgs:GsF}
theorem aCy:SS K aDR cX:=by
 intro γ M o M' hh W H σ D G R k;cases hh;exact k W H (.refl _) G σ R
theorem aHQ(a:SS K t p)(b:SS K u q):SS K (aFd t u) (aX p q):=by
 intro γ M o M' hh W H σ D G R k;obtain⟨⟨o1,M1⟩,h1,hh⟩:=aI hh;refine a _ _ _ _ h1 W H σ _ G R fun W1 H1 e1 G1=>?_;cases o1 with
 |nx γ1=>
  intro σ1 R1;exact b _ _ _ _ hh W1 H1 σ1 D G1 R1 fun W2 H2 e2 G2=>k W2 H2 (e1.trans e2) G2
 |bk γ1=>cases hh;exact k W1 H1 e1 G1
 |ct γ1=>cases hh;exact k W1 H1 e1 G1
 |rt x=>cases hh;exact k W1 H1 e1 G1
theorem aDI(a:SE K ta f):SS K (VY ta) (oY f):=by
 intro γ M o M' hh W H σ D G R k;obtain⟨⟨y,M1⟩,h1,hh⟩:=aI hh;cases hh;exact a _ _ _ _ h1 W H σ _ G R fun v W1 H1 e1 G1 r1=>k W1 H1 e1 G1 σ (R.up e1)
theorem aEK(a:SE K ta f):SS K (aGl ta) (bS f):=by
 intro γ M o M' hh W H σ D G R k;obtain⟨⟨y,M1⟩,h1,hh⟩:=aI hh;cases hh;exact a _ _ _ _ h1 W H σ _ G R fun v W1 H1 e1 G1 r1=>k W1 H1 e1 G1 v r1
theorem aHZ(c:STt K tt ft)(a:SS K t p)(b:SS K u q):SS K (aEV tt t u) (sIf ft p q):=by
 intro γ M o M' hh W H σ D G R k;obtain⟨⟨c1,M1⟩,h1,hh⟩:=aI hh;refine c _ _ _ _ h1 W H σ _ G R fun W1 H1 e1 G1=>?_;cases c1 with
 |true=>rw[A9 rfl];rw[A9 rfl]at hh;exact a _ _ _ _ hh W1 H1 σ D G1 (R.up e1) fun W3 H3 e3 G3=>k W3 H3 (e1.trans e3) G3
 |false=>rw[B2 B1];rw[B2 B1]at hh;exact b _ _ _ _ hh W1 H1 σ D G1 (R.up e1) fun W3 H3 e3 G3=>k W3 H3 (e1.trans e3) G3
theorem NR(a:SE K ta f)(b:SG K tg hg):SS K (aBk ta tg) (aV f hg):=by
 intro γ M o M' hh W H σ D G R k;obtain⟨⟨y,M1⟩,h1,hh⟩:=aI hh;obtain⟨⟨γ1,M2⟩,h2,hh⟩:=aI hh;cases hh;refine a _ _ _ _ h1 W H σ _ G R fun v W1 H1 e1 G1 r1=>?_;exact b _ _ _ _ _ h2 W1 H1 σ v _ G1 (R.up e1) r1 fun σ' W2 H2 e2 G2 R2=>k W2 H2 (e1.trans e2) G2 σ' R2
theorem cH.set{σ:St}{x:CD}{v:V}(R:cH K W γ σ)(i:Nat)(r:bK K W x v):cH K W (γ.set i (some x)) (σ.set i (some v)):=Paired.set (R:=II K W) (show II K W (some x) (some v)from r) i R
theorem GU{i:Nat}:SG K (IK i) (hName i):=by
 intro x γ M γ' M' hh W H σ v Q G R r k;cases hh;exact k _ W H (.refl _) G (cH.set R i r)
theorem aBU:SGs K aIU lA:=by
 intro xs γ M γ' M' hh W H σ vs Q G R r k;cases r with
 |nil=>cases hh;exact⟨rfl,k σ W H (.refl _) G R⟩
 |cons _ _=>cases hh
theorem WH(a:SG K tg hg)(b:SGs K tgs hgs):SGs K (aEG tg tgs) (bG hg hgs):=by
 intro xs γ M γ' M' hh W H σ vs Q G R r k;cases r with
 |nil=>cases hh
 |@cons x v xs vs r1 r2=>
  obtain⟨⟨γ1,M1⟩,h1,hh⟩:=aI (show(hg x γ M).bind _=_ from hh);refine⟨v,vs,rfl,a _ _ _ _ _ h1 W H σ v _ G R r1 fun σ1 W1 H1 e1 G1 R1=>?_⟩;exact b _ _ _ _ _ hh W1 H1 σ1 vs _ G1 R1 (bP.up r2 e1) fun σ2 W2 H2 e2 G2 R2=>k σ2 W2 H2 (e1.trans e2) G2 R2
theorem aFb{n:Nat}(b:SGs K tgs hgs):SG K (aFz K n tgs) (lD n hgs):=by
 intro x γ M γ' M' hh W H σ v Q G R r k;cases x with
 |c _=>cases hh
 |f _=>cases hh
 |g _=>cases hh
 |t xs=>
  have hh:(if xs.length=n then hgs (xs.map cdA) γ M else none)=some (γ',M'):=hh;by_cases hl:xs.length=n
  .rw[A9 hl]at hh;obtain⟨a,vs,rfl,h2,h3⟩:=r;have hp:=QA h3;exact⟨a,vs,rfl,SqT.of (G.fh _ _ h2),by rw[<- hl];simpa using(Paired.len h3).symm,b _ _ _ _ _ hh W H σ vs Q G R hp k⟩
  .rw[B2 hl]at hh;cases hh
 |d x=>
  cases x with
  |tuple ds=>
   have hh:(if ds.length=n then hgs (ds.map .d) γ M else none)=some (γ',M'):=hh;by_cases hl:ds.length=n
   .rw[A9 hl]at hh;obtain⟨a,vs,rfl,h2,h3⟩:=(show ∃a vs,v=.ref a/\SqT K W.F a vs/\aJ K W.F ds vs from r);exact⟨a,vs,rfl,G.fh.seqT h2,by rw[<- h3.length];exact hl,b _ _ _ _ _ hh W H σ vs Q G R (gH h3) k⟩
   .rw[B2 hl]at hh;cases hh
  |_=>cases hh
def P3(K:Fg)(r:V->V->V->Hp->(Hp->Prop)->Prop)(f:F3):Prop:=∀x y z M M',f x y z M=some M'->∀(W:Wd)(H:Hp)(v u w:V)(Q:Hp->Prop),Good K W M H->bK K W x v->bK K W y u->bK K W z w->(∀W' H',W.Ext W'->Good K W' M' H'->Q H')->r v u w H Q
theorem aHH{r:aCE}{s:F3}(p:P3 K r s)(a:SE K ta f)(b:SE K tb g):SG K (aIi ta tb r) (hSub f g s):=by
 intro x γ M γ' M' hh W H σ v Q G R rv k;obtain⟨⟨o,M1⟩,h1,hh⟩:=aI hh;obtain⟨⟨i,M2⟩,h2,hh⟩:=aI hh;obtain⟨M3,h3,hh⟩:=aI hh;cases hh;refine a _ _ _ _ h1 W H σ _ G R fun v1 W1 H1 e1 G1 r1=>?_;refine b _ _ _ _ h2 W1 H1 σ _ G1 (R.up e1) fun v2 W2 H2 e2 G2 r2=>?_;exact p _ _ _ _ _ h3 W2 H2 v1 v2 v _ G2 (r1.up e2) r2 (rv.up (e1.trans e2)) fun W3 H3 e3 G3=>k σ W3 H3 ((e1.trans e2).trans e3) G3 (R.up ((e1.trans e2).trans e3))
theorem aGx{i j:Nat}(b:SA K tA fa):SS K (aJx i j tA) (BM i j fa):=by
 intro γ M o M' hh W H σ D G R k;obtain⟨⟨ys,M1⟩,h1,hh⟩:=aI hh;refine b _ _ _ _ h1 W H σ _ G R fun vs W1 H1 e1 G1 r1=>?_;rcases r1 with _|⟨a1,_|⟨a2,_|_⟩⟩
 .cases hh
 .cases hh
 .cases hh;exact⟨_,_,rfl,k W1 H1 e1 G1 _ (cH.set (cH.set (R.up e1) i a1) j a2)⟩
 .cases hh
def MM(K:Fg)(J:It)(xs:List CD)(W:Wd):Prop:=∀W' M' H',W.Ext W'->Good K W' M' H'->
 (∀i x,xs[i]?=some x->J.go i H'/\∀y H'',J.yld i H' y H''->∃W'',W'.Ext W''/\Good K W'' M' H''/\bK K W'' x y)/\J.stop xs.length H'
def SI(K:Fg)(wi:TI)(f:AF):Prop:=∀γ M xs M',f γ M=some (xs,M')->∀(W:Wd)(H:Hp)(σ:St)(R:It->Hp->Prop),Good K W M H->cH K W γ σ->(∀J W' H',W.Ext W'->Good K W' M' H'->MM K J xs W'->R J H')->wi σ H R
def cV(f:EF):AF:=fun γ M=>(f γ M).bind fun r=>match r.1 with
 |.d x=>(bE x).bind fun ds=>some (ds.map .d,r.2)
 |_=>none
theorem aHi(a:SE K ta f):SI K (aCz K ta) (cV f):=by
 intro γ M xs M' hh W H σ R G Rs k;obtain⟨⟨y,M1⟩,h1,hh⟩:=aI hh;cases y with
 |c _=>cases hh
 |t _=>cases hh
 |f _=>cases hh
 |g _=>cases hh
 |d y=>
  obtain⟨ds,h2,hh⟩:=aI (show(bE y).bind _=_ from hh);cases hh;refine a _ _ _ _ h1 W H σ _ G Rs fun v W1 H1 e1 G1 r1=>?_;obtain⟨p,vs,rfl,hs,hr⟩:=lW (show Rep K W1.F y v from r1) h2;refine⟨p,rfl,?_⟩
  have item:∀(i:Nat)(x:CD)(W2:Wd),W1.Ext W2->(ds.map CD.d)[i]?=some x->∃u,vs[i]?=some u/\bK K W2 x u:=fun i x W2 e2 hx=>by
   obtain⟨u,hu,ru⟩:=Paired.get (gH hr) hx;exact⟨u,hu,ru.up e2⟩
  have hlen:(ds.map CD.d).length=vs.length:=by rw[A7];exact hr.length
  rcases hs with hs|hs
  .refine .inl ⟨vs,G1.fh.seq hs,k _ W1 H1 e1 G1 fun W2 M2 H2 e2 G2=>?_⟩;have hs2:SqL K H2 p vs:=G2.fh.seq (e2.ff.seq hs);refine⟨fun i x hx=>?_,?_⟩
   .obtain⟨u,hu,ru⟩:=item i x W2 e2 hx;refine⟨⟨vs,u,hs2,hu⟩,fun y' H'' hy=>⟨W2,.refl _,by rw[hy.1];exact G2,?_⟩⟩;have:=hy.2 vs hs2;rw[hu]at this;cases this;exact ru
   .rw[hlen];exact⟨vs,hs2,B0 _⟩
  .refine .inr ⟨vs,G1.fh.seqT hs,k _ W1 H1 e1 G1 fun W2 M2 H2 e2 G2=>?_⟩;have hs2:SqT K H2 p vs:=G2.fh.seqT (e2.ff.seqT hs);refine⟨fun i x hx=>?_,?_⟩
   .obtain⟨u,hu,ru⟩:=item i x W2 e2 hx;refine⟨⟨vs,u,hs2,hu⟩,fun y' H'' hy=>⟨W2,.refl _,by rw[hy.1];exact G2,?_⟩⟩;have:=hy.2 vs hs2;rw[hu]at this;cases this;exact ru
   .rw[hlen];exact⟨vs,hs2,B0 _⟩
def gA(lo:Int)(n:Nat):List CD:=(List.range n).map fun i=>.d (.int (lo+(i:Nat)))
theorem KB{lo:Int}{n i:Nat}{x:CD}(h:(gA lo n)[i]?=some x):i<n/\x=.d (.int (lo+i)):=by
 unfold gA at h;rw[C8]at h;by_cases hi:i<n
 .rw[List.getElem?_range hi]at h;exact⟨hi,(E2 h).symm⟩
 .rw[List.getElem?_eq_none_iff.mpr (by simpa using hi)]at h;cases h
def dC(i:Int):Bool:=decide (-(2 ^ 62)<=i)&&decide (i<2 ^ 62)
def dG(f:AF):AF:=fun γ M=>(f γ M).bind fun r=>match r.1 with
 |[.d (.int j)]=>if dC j=true then some (gA 0 j.toNat,r.2)else none
 |_=>none
def yP(f:AF):AF:=fun γ M=>(f γ M).bind fun r=>match r.1 with
 |[.d (.int i),.d (.int j)]=>if dC i=true/\dC j=true then some (gA i (j-i).toNat,r.2)else none
 |_=>none
theorem DO{lo:Int}{n:Nat}:MM K (Itr lo n) (gA lo n) W:=fun W' M' H' e G=>
 ⟨fun i x hx=>⟨(KB hx).1,fun y H'' hy=>⟨W',.refl _,by rw[hy.1];exact G,by rw[(KB hx).2];exact hy.2⟩⟩,by show n<=_;simp[gA]⟩
theorem fF{i:Int}(h:dC i=true):-(2 ^ 62)<=i/\i<2 ^ 62:=by
 unfold dC at h;rw[B7]at h;exact⟨C9 h.1,C9 h.2⟩
theorem aBA(b:SA K tA fa):SI K (aDW tA) (dG fa):=by
 intro γ M xs M' hh W H σ R G Rs k;obtain⟨⟨ys,M1⟩,h1,hh⟩:=aI hh;refine b _ _ _ _ h1 W H σ _ G Rs fun vs W1 H1 e1 G1 r1=>?_;revert hh;dsimp only;split
 .rename_i j;intro hh;by_cases hs:dC j=true
  .rw[A9 hs]at hh;cases hh;cases r1 with
   |cons r r'=>
    cases r';exact⟨j,by rw[show _=V.int j from r],(fF hs).1,(fF hs).2,k _ W1 H1 e1 G1 DO⟩
  .rw[B2 hs]at hh;cases hh
 .intro hh;cases hh
theorem aCO(b:SA K tA fa):SI K (aDS tA) (yP fa):=by
 intro γ M xs M' hh W H σ R G Rs k;obtain⟨⟨ys,M1⟩,h1,hh⟩:=aI hh;refine b _ _ _ _ h1 W H σ _ G Rs fun vs W1 H1 e1 G1 r1=>?_;revert hh;dsimp only;split
 .rename_i i j;intro hh;by_cases hs:dC i=true/\dC j=true
  .rw[A9 hs]at hh;cases hh;cases r1 with
   |cons r r'=>
    cases r' with
    |cons r2 r''=>
     cases r'';exact⟨i,j,by rw[show _=V.int i from r,show _=V.int j from r2],⟨(fF hs.1).1,(fF hs.1).2,(fF hs.2).1,(fF hs.2).2⟩,k _ W1 H1 e1 G1 DO⟩
  .rw[B2 hs]at hh;cases hh
 .intro hh;cases hh
theorem aFj{wi:TI}(i:SI K wi fa)(a:SG K tg hg)(b:SS K t p):SS K (aIl wi tg t) (sE fa hg p):=by
 intro γ M o M' hh W H σ D G R k;obtain⟨⟨xs,M1⟩,h1,hh⟩:=aI hh;have hh:nU hg p xs γ M1=some (o,M'):=hh;refine i _ _ _ _ h1 W H σ _ G R fun J W1 H1 e1 G1 gv=>?_;refine⟨fun j m σ' H'=>∃γ' M2 W2,j<=xs.length/\m=xs.length-j/\W1.Ext W2/\Good K W2 M2 H'/\cH K W2 γ' σ'/\nU hg p (xs.drop j) γ' M2=some (o,M'),⟨_,γ,M1,W1,J4 _,rfl,.refl _,G1,R.up e1,hh⟩,?_⟩;rintro j m σ' H' ⟨γ',M2,W2,hj,rfl,e2,G2,R2,h2⟩;obtain⟨gv1,gv2⟩:=gv W2 M2 H' e2 G2;by_cases hlt:j<xs.length
 .obtain⟨go,yl⟩:=gv1 j xs[j] (B9 hlt);rw[Z1 hlt]at h2;refine .inr ⟨go,fun σ3 H3=>∃γ3 M3 W3,W2.Ext W3/\Good K W3 M3 H3/\cH K W3 γ3 σ3/\nU hg p (xs.drop (j+1)) γ3 M3=some (o,M'),?_,fun y H3 hy=>?_⟩
  .rintro σ3 H3 ⟨γ3,M3,W3,e3,G3,R3,h3⟩;exact⟨_,by omega,γ3,M3,W3,hlt,rfl,e2.trans e3,G3,R3,h3⟩
  .obtain⟨W8,e8,G8,ry⟩:=yl y H3 hy;obtain⟨⟨γ4,M4⟩,h4,h2⟩:=aI (show(hg xs[j] γ' M2).bind _=_ from h2);obtain⟨⟨o5,M5⟩,h5,h2⟩:=aI h2;refine a _ _ _ _ _ h4 W8 _ σ' y _ G8 (R2.up e8) ry fun σ4 W4 H4 e4 G4 R4=>?_;refine b _ _ _ _ h5 W4 H4 σ4 _ G4 R4 fun W5 H5 e5 G5=>?_;have e25:=(e8.trans e4).trans e5;cases o5 with
   |nx γ5=>exact fun σ5 R5=>⟨γ5,M5,W5,e25,G5,R5,h2⟩
   |ct γ5=>exact fun σ5 R5=>⟨γ5,M5,W5,e25,G5,R5,h2⟩
   |bk γ5=>cases h2;exact k W5 H5 ((e1.trans e2).trans e25) G5
   |rt x=>cases h2;exact k W5 H5 ((e1.trans e2).trans e25) G5
 .have e:j=xs.length:=by omega
  subst e;rw[List.drop_length]at h2;cases h2;exact .inl ⟨gv2,k W2 H' (e1.trans e2) G2 σ' R2⟩
theorem WC(c:STt K tt ft)(b:SS K t p):SS K (aBe tt t) (tU ft p):=by
 intro γ M o M' hh W H σ D G R k;unfold tU at hh;by_cases hex:∃n,(fS ft p n γ M).isSome=true
 .rw[dif_pos hex]at hh;generalize hex.choose=n at hh;refine⟨fun m σ' H'=>∃γ' M2 W2,W.Ext W2/\Good K W2 M2 H'/\cH K W2 γ' σ'/\fS ft p m γ' M2=some (o,M'),⟨n,γ,M,W,.refl _,G,R,hh⟩,?_⟩;rintro m σ' H' ⟨γ',M2,W2,e2,G2,R2,h2⟩;cases m with
  |zero=>cases h2
  |succ m=>
   obtain⟨⟨c3,M3⟩,h3,h2⟩:=aI (show(ft γ' M2).bind _=_ from h2);refine c _ _ _ _ h3 W2 H' σ' _ G2 R2 fun W3 H3 e3 G3=>?_;cases c3 with
   |true=>
    rw[A9 rfl];rw[A9 rfl]at h2;obtain⟨⟨o4,M4⟩,h4,h2⟩:=aI h2;refine⟨fun σ4 H4=>∃γ4 M4 W4,W2.Ext W4/\Good K W4 M4 H4/\cH K W4 γ4 σ4/\fS ft p m γ4 M4=some (o,M'),?_,?_⟩
    .rintro σ4 H4 ⟨γ4,M4,W4,e4,G4,R4,h4⟩;exact⟨m,J9 _,γ4,M4,W4,e2.trans e4,G4,R4,h4⟩
    .refine b _ _ _ _ h4 W3 H3 σ' _ G3 (R2.up e3) fun W5 H5 e5 G5=>?_;have e25:=e3.trans e5;cases o4 with
     |nx γ5=>exact fun σ5 R5=>⟨γ5,M4,W5,e25,G5,R5,h2⟩
     |ct γ5=>exact fun σ5 R5=>⟨γ5,M4,W5,e25,G5,R5,h2⟩
     |bk γ5=>cases h2;exact k W5 H5 (e2.trans e25) G5
     |rt x=>cases h2;exact k W5 H5 (e2.trans e25) G5
   |false=>
    rw[B2 B1];rw[B2 B1]at h2;cases h2;exact k W3 H3 (e2.trans e3) G3 σ' (R2.up e3)
 .rw[dif_neg hex]at hh;cases hh
theorem lP{c:TF}{b:SF}:∀{n m:Nat}{γ:Ga}{M:Sto}{r:Out×Sto},fS c b n γ M=some r->n<=m->fS c b m γ M=some r
 |0,_,_,_,_=>fun h _=>by cases h
 |n+1,0,_,_,_=>fun _ h=>by omega
 |n+1,m+1,γ,M,r=>fun h hl=>by
  obtain⟨⟨b1,M1⟩,h1,h⟩:=aI (show(c γ M).bind _=_ from h);show(c γ M).bind _=_;rw[h1];show(if b1=true then _ else _)=_;cases b1 with
  |false=>exact h
  |true=>
   rw[A9 rfl];rw[A9 rfl]at h;obtain⟨⟨o,M2⟩,h2,h⟩:=aI h;rw[h2];cases o with
   |nx γ'=>exact lP (n:=n) (m:=m) h (by omega)
   |ct γ'=>exact lP (n:=n) (m:=m) h (by omega)
   |bk γ'=>exact h
   |rt x=>exact h
theorem LD{c:TF}{b:SF}{n:Nat}{r:Out×Sto}(h:fS c b n γ M=some r):tU c b γ M=some r:=by
 unfold tU;have hex:∃n,(fS c b n γ M).isSome=true:=⟨n,by rw[h];rfl⟩;rw[dif_pos hex];have hs:=hex.choose_spec;cases q:fS c b hex.choose γ M with
 |none=>rw[q]at hs;cases hs
 |some r'=>
  rcases Nat.le_total n hex.choose with z|z
  .rw[lP h z]at q;exact q.symm▸rfl
  .rw[lP q z]at h;exact h
theorem HC{W:Wd}{γ:Ga}{σ:St}(R:cH K W γ σ):∀cap:List (Option Nat),cH K W (lC cap γ) (xQ cap σ)
 |[]=>.nil
 |none::r=>.cons True.intro (HC R r)
 |some j::r=>by
  refine .cons ?_ (HC R r);show II K W ((γ[j]?).join) ((σ[j]?).join);cases e:γ[j]? with
  |none=>
   have:σ[j]?=none:=by
    have hl:=Paired.len R;exact List.getElem?_eq_none_iff.mpr (by have:=List.getElem?_eq_none_iff.mp e;omega)
   rw[this];exact True.intro
  |some x=>
   obtain⟨y,hy,r'⟩:=Paired.get R e;rw[hy];exact r'
theorem GN{g:GF}{c:TF}{e:EF}:∀{xs:List CD}{γ:Ga}{M:Sto}{ys:List CD}{M':Sto},lcF g c e xs γ M=some (ys,M')->ys.length<=xs.length
 |[],_,_,_,_=>fun h=>by cases h;exact J4 _
 |x::xs,γ,M,ys,M'=>fun h=>by
  obtain⟨⟨γ1,M1⟩,h1,h⟩:=aI (show(g x γ M).bind _=_ from h);obtain⟨⟨b,M2⟩,h2,h⟩:=aI h;cases b with
  |true=>
   rw[A9 rfl]at h;obtain⟨⟨y,M3⟩,h3,h⟩:=aI h;obtain⟨⟨zs,M4⟩,h4,h⟩:=aI h;cases h;have:=GN h4;simp only[List.length_cons];omega
  |false=>
   rw[B2 B1]at h;have:=GN h;simp only[List.length_cons];omega
theorem ZQ{wi:TI}{cap:List (Option Nat)}{te:TE}{fe:EF}(i:SI K wi fa)(a:SG K tg hg)(c:STt K tt ft)(b:SE K te fe){xs:List CD}(hh:xA cap fa hg ft fe γ M=some (xs,M'))
 {W:Wd} {H:Hp} {σ:St} {Q:VK} (G:Good K W M H) (R:cH K W γ σ) (k:∀vs W' H',W.Ext W'->Good K W' M' H'->bP K W' xs vs->∀p,H' p=none->Q (.ref p) (upd H' p (.lst vs))):tLc cap wi tg tt te σ H Q:=by
 obtain⟨⟨ys,M1⟩,h1,hh⟩:=aI hh;have hh:(if ys.length<=sizeLine then lcF hg ft fe ys (lC cap γ) M1 else none)=some (xs,M'):=hh;by_cases hl:ys.length<=sizeLine
 .rw[A9 hl]at hh;refine i _ _ _ _ h1 W H σ _ G R fun J W1 H1 e1 G1 gv=>?_
  refine⟨fun j m acc σ' H'=>∃γ' M2 W2 pre suf,j<=ys.length/\m=ys.length-j/\acc.length<=j/\W1.Ext W2/\Good K W2 M2 H'/\cH K W2 γ' σ'/\bP K W2 pre acc/\pre++suf=xs/\lcF hg ft fe (ys.drop j) γ' M2=some (suf,M'),
   ⟨_,lC cap γ,M1,W1,[],xs,J4 _,rfl,J4 _,.refl _,G1,HC (R.up e1) cap,.nil,rfl,hh⟩,?_⟩
  rintro j m acc σ' H' ⟨γ',M2,W2,pre,suf,hj,rfl,hacc,e2,G2,R2,rp,hx,h2⟩;obtain⟨gv1,gv2⟩:=gv W2 M2 H' e2 G2;by_cases hlt:j<ys.length
  .obtain⟨go,yl⟩:=gv1 j ys[j] (B9 hlt);rw[Z1 hlt]at h2;refine .inr ⟨go,by omega,fun acc3 σ3 H3=>∃γ3 M3 W3 pre3 suf3,acc3.length<=j+1/\W2.Ext W3/\Good K W3 M3 H3/\cH K W3 γ3 σ3/\bP K W3 pre3 acc3/\pre3++suf3=xs/\lcF hg ft fe (ys.drop (j+1)) γ3 M3=some (suf3,M'),?_,fun y H3 hy=>?_⟩
   .rintro acc3 σ3 H3 ⟨γ3,M3,W3,pre3,suf3,hl3,e3,G3,R3,rp3,hx3,h3⟩;exact⟨_,by omega,γ3,M3,W3,pre3,suf3,hlt,rfl,hl3,e2.trans e3,G3,R3,rp3,hx3,h3⟩
   .obtain⟨W8,e8,G8,ry⟩:=yl y H3 hy;obtain⟨⟨γ4,M4⟩,h4,h2⟩:=aI (show(hg ys[j] γ' M2).bind _=_ from h2);obtain⟨⟨b5,M5⟩,h5,h2⟩:=aI h2;refine a _ _ _ _ _ h4 W8 _ σ' y _ G8 (R2.up e8) ry fun σ4 W4 H4 e4 G4 R4=>?_;refine c _ _ _ _ h5 W4 H4 σ4 _ G4 R4 fun W5 H5 e5 G5=>?_;have e25:=(e8.trans e4).trans e5;cases b5 with
    |true=>
     rw[A9 rfl]at h2;obtain⟨⟨z,M6⟩,h6,h2⟩:=aI h2;obtain⟨⟨zs,M7⟩,h7,h2⟩:=aI h2;cases h2;refine .inl ⟨rfl,b _ _ _ _ h6 W5 H5 σ4 _ G5 (R4.up e5) fun v W6 H6 e6 G6 r6=>?_⟩;refine⟨γ4,M6,W6,pre++[z],zs,by rw[C3];simp only[List.length_singleton];omega,e25.trans e6,G6,R4.up (e5.trans e6),Paired.app (bP.up rp (e25.trans e6)) (.cons r6 .nil),by rw[<- hx,S4];rfl,h7⟩
    |false=>
     rw[B2 B1]at h2;exact .inr ⟨rfl,γ4,M5,W5,pre,suf,by omega,e25,G5,R4.up e5,bP.up rp e25,hx,h2⟩
  .have e:j=ys.length:=by omega
   subst e;rw[List.drop_length]at h2;cases h2;rw[F4]at hx;subst hx;exact .inl ⟨gv2,k acc W2 H' (e1.trans e2) G2 rp⟩
 .rw[B2 hl]at hh;cases hh
theorem RZ{cap:List (Option Nat)}{fa:AF}{hg:GF}{ft:TF}{fe:EF}{xs:List CD}(hh:xA cap fa hg ft fe γ M=some (xs,M')):xs.length<=sizeLine:=by
 obtain⟨⟨ys,M1⟩,h1,hh⟩:=aI hh;have hh:(if ys.length<=sizeLine then lcF hg ft fe ys (lC cap γ) M1 else none)=some (xs,M'):=hh;by_cases hl:ys.length<=sizeLine
 .rw[A9 hl]at hh;exact D0 (GN hh) hl
 .rw[B2 hl]at hh;cases hh
theorem aJq{wi:TI}{cap:List (Option Nat)}{te:TE}{fe:EF}(i:SI K wi fa)(a:SG K tg hg)(c:STt K tt ft)(b:SE K te fe):SE K (tLc cap wi tg tt te) (fLc cap fa hg ft fe):=by
 intro γ M x M' hh W H σ Q G R k;obtain⟨⟨ys,M1⟩,h1,hh⟩:=aI hh;obtain⟨ds,h2,hh⟩:=aI hh;by_cases hl:ds.length<=sizeLine
 .rw[A9 hl]at hh;cases hh;refine ZQ i a c b h1 G R fun vs W1 H1 e1 G1 r1 p hp=>?_;obtain⟨e2,G2⟩:=G1.lay (o:=.lst vs) hp;exact k _ _ _ (e1.trans e2) G2 ⟨p,vs,rfl,SqL.of aO,aJ.same e2.ff _ _ (fL h2 r1)⟩
 .rw[B2 hl]at hh;cases hh
theorem aHK{wi:TI}{cap:List (Option Nat)}{te:TE}{fe:EF}(i:SI K wi fa)(a:SG K tg hg)(c:STt K tt ft)(b:SE K te fe):SE K (tLc cap wi tg tt te) (HU cap fa hg ft fe):=by
 intro γ M x M' hh W H σ Q G R k;obtain⟨⟨ys,M1⟩,h1,hh⟩:=aI hh;have hh:(if ys.length<=sizeLine then some (CD.c M1.length,M1++[Cell.lst ys])else none)=some (x,M'):=hh;rw[A9 (RZ h1)]at hh;cases hh;refine ZQ i a c b h1 G R fun vs W1 H1 e1 G1 r1 p hp=>?_;exact k _ _ _ (e1.trans (W1.ext_more p)) (G1.new hp (c:=.lst ys) (o:=.lst vs) r1) G1.newV
theorem aFY:STt K aJw gO:=by
 intro γ M x M' hh W H σ Q G R k;cases hh;exact k W H (.refl _) G
theorem bP.some{W:Wd}:∀{xs:List CD}{vs:List V},bP K W xs vs->cH K W (xs.map some) (vs.map some)
 |_,_,.nil=>.nil
 |_,_,.cons r t=>.cons r (bP.some t)
theorem qV{W:Wd}:∀n:Nat,cH K W (List.replicate n none) (List.replicate n none)
 |0=>.nil
 |n+1=>.cons True.intro (qV n)
theorem Def.okM{P:Program}{w:World}{mg:Str->Option Value}{base:Heap}{x:Str}{st:Stmt}{N ps:List Str}{k:Nat}{b:SF}{q:Bool}(D:Def K mg x st)(S:aQ N ps (aF st))
 (hb:∀(kV doc pm:Value)(an:Option Addr)(cdv ct:Value)(us:List Value),us.length=ps.length->bindArgs (PySem.W.fnOf x x (eG st) (bJ st) (aF st) .none kV doc pm an cdv ct) ⟨us,[]⟩=pure (ps.zip us))
 (hbody:∀(f:Addr)(cdv:Value)(A:Around)(outer:List Env)(s:Shared)(H:Hp)(E:XK),cA k (A.deeper (envOfC x (aF st) s.heap.objs.size f cdv)) q->
  ∃t,PSs (mL CX0 P w K mg base N x (aF st) f cdv A outer s H E q).nox (bJ st) t/\SS K t b):Callee P w K mg base (k+1) x ps (spM K (fnF ps.length N.length b)) q:=by
 have len:∀vs H Q E,spM K (fnF ps.length N.length b) vs H Q E->vs.length=ps.length:=fun vs H Q E h=>by
  obtain⟨xs,M,W,y,M',G,R,hf,_⟩:=h;by_cases hl:xs.length=ps.length
  .rw[<- Paired.len R];exact hl
  .unfold fnF at hf;rw[B2 hl]at hf;cases hf
 refine D.ok S hb len fun f cdv A outer s H vs Q E hr h=>?_;obtain⟨t,hP,hS⟩:=hbody f cdv A outer s H E hr;refine⟨t,hP,?_⟩;obtain⟨xs,M,W,y,M',G,R,hf,k⟩:=h;by_cases hl:xs.length=ps.length
 .unfold fnF at hf;rw[A9 hl]at hf;obtain⟨⟨o,M1⟩,h1,hf⟩:=aI hf
  have hR:cH K W (xs.map some++List.replicate (N.length-xs.length) none) (start N vs):=by
   unfold start;rw[<- Paired.len R];exact Paired.app (bP.some R) (qV _)
  refine hS _ _ _ _ h1 W H _ _ G hR fun W1 H1 e1 G1=>?_;cases o with
  |rt x=>cases hf;exact fun v r=>k v W1 H1 e1 G1 r
  |nx γ=>cases hf;exact fun σ r=>k .non W1 H1 e1 G1 rfl
  |bk γ=>cases hf
  |ct γ=>cases hf
 .unfold fnF at hf;rw[B2 hl]at hf;cases hf
end
def zW(h h':F2):F2:=fun x y M=>match h x y M with
 |some r=>some r
 |none=>h' x y M
def pI(g:Int->Int->Option PyData):F2:=fun x y M=>match x,y with
 |.d (.int i),.d (.int j)=>(g i j).bind fun z=>some (.d z,M)
 |_,_=>none
theorem aAq{g:Int->Int->Option PyData}{x y:CD}{z:CD}(h:pI g x y M=some (z,M')):∃i j w,x=.d (.int i)/\y=.d (.int j)/\g i j=some w/\z=.d w/\M'=M:=by
 unfold pI at h;split at h
 .rename_i i j;obtain⟨w,h1,h⟩:=aI h;cases h;exact⟨i,j,w,rfl,rfl,h1,rfl,rfl⟩
 .cases h
section
variable{X:Cx}{K:Fg}
theorem aEr{g:Int->Int->Int}:P2 K (rI0 fun i j=>.int (g i j)) (pI fun i j=>some (.int (g i j))):=by
 intro x y M z M' h W H v u Q G rx ry k;obtain⟨i,j,w,rfl,rfl,hw,rfl,rfl⟩:=aAq h;cases hw;exact⟨i,j,rx,ry,k _ W H (.refl _) G rfl⟩
theorem PR{g:Int->Int->Bool}:P2 K (rI0 fun i j=>.bl (g i j)) (pI fun i j=>some (.bool (g i j))):=by
 intro x y M z M' h W H v u Q G rx ry k;obtain⟨i,j,w,rfl,rfl,hw,rfl,rfl⟩:=aAq h;cases hw;exact⟨i,j,rx,ry,k _ W H (.refl _) G rfl⟩
def ifS(c:Bool)(x:PyData):Option PyData:=if c=true then some x else none
theorem aFH{c:Bool}{x y:PyData}(h:ifS c x=some y):c=true/\y=x:=by
 unfold ifS at h;cases c with
 |true=>rw[A9 rfl]at h;cases h;exact⟨rfl,rfl⟩
 |false=>rw[B2 B1]at h;cases h
theorem aBz{C:Int->Int->Prop}{c:Int->Int->Bool}{g:Int->Int->Int}(hc:∀i j,c i j=true->C i j):P2 K (rI C fun i j=>.int (g i j)) (pI fun i j=>ifS (c i j) (.int (g i j))):=by
 intro x y M z M' h W H v u Q G rx ry k;obtain⟨i,j,w,rfl,rfl,hw,rfl,rfl⟩:=aAq h;obtain⟨h1,rfl⟩:=aFH hw;exact⟨i,j,rx,ry,hc i j h1,k _ W H (.refl _) G rfl⟩
def aCC:F2:=pI fun i j=>some (.int (i+j))
def CC:F2:=pI fun i j=>some (.int (i-j))
def oX(i j:Int):Bool:=decide (i.natAbs<2 ^ 64) || decide (j.natAbs<2 ^ 64) || (decide (i.natAbs<xI)&&decide (j.natAbs<xI))
def BR:F2:=pI fun i j=>ifS (oX i j) (.int (i*j))
def nE(_ j:Int):Bool:=decide (0<j)&&decide (j.natAbs<xI)
def cZ:F2:=pI fun i j=>ifS (nE i j) (.int (i / j))
def eA(_ j:Int):Bool:=decide (0<j)
def cE:F2:=pI fun i j=>ifS (eA i j) (.int (i % j))
def aEb(i j:Int):Bool:=decide (0<=j)&&decide (j<=1000000)&&decide (i.natAbs<2 ^ 64)
def LL:F2:=pI fun i j=>ifS (aEb i j) (.int (i ^ j.toNat))
theorem mulOk_of{i j:Int}(h:oX i j=true):IW i j:=by
 unfold oX at h;simp only[Bool.or_eq_true,Bool.and_eq_true,decide_eq_true_eq]at h;rcases h with(h|h)|h
 .exact .inl (.inl ⟨by omega,by omega⟩)
 .exact .inl (.inr ⟨by omega,by omega⟩)
 .exact .inr h
def ltI:F2:=pI fun i j=>some (.bool (decide (i<j)))
def leI:F2:=pI fun i j=>some (.bool (decide (i<=j)))
def gtI:F2:=pI fun i j=>some (.bool (decide (j<i)))
def geI:F2:=pI fun i j=>some (.bool (decide (j<=i)))
def eqD(neg:Bool):F2:=fun x y M=>match x,y with
 |.d a,.d b=>if (SeqAt.shaped a&&SeqAt.shaped b)=true then some (.d (.bool (if neg then !PyData.eqv a b else PyData.eqv a b)),M)else none
 |_,_=>none
theorem aEf{neg:Bool}:P2 K (OD K neg) (eqD neg):=by
 intro x y M z M' h W H v u Q G rx ry k;unfold eqD at h;split at h
 .rename_i a b;by_cases hs:(SeqAt.shaped a&&SeqAt.shaped b)=true
  .rw[A9 hs]at h;cases h;rw[B7]at hs;exact⟨a,b,Rep.same G.fh _ _ rx,Rep.same G.fh _ _ ry,hs.1,hs.2,k _ W H (.refl _) G rfl⟩
  .rw[B2 hs]at h;cases h
 .cases h
def inD(neg:Bool):F2:=fun x y M=>match x,y with
 |.d a,.d b=>(bE b).bind fun ds=>if (SeqAt.shaped a&&ds.all SeqAt.shaped)=true then some (.d (.bool (if neg then !ds.any fun d=>PyData.eqv d a else ds.any fun d=>PyData.eqv d a)),M)else none
 |_,_=>none
theorem aDY{neg:Bool}:P2 K (YK K neg) (inD neg):=by
 intro x y M z M' h W H v u Q G rx ry k;unfold inD at h;split at h
 .rename_i a b;obtain⟨ds,h1,h⟩:=aI h;by_cases hs:(SeqAt.shaped a&&ds.all SeqAt.shaped)=true
  .rw[A9 hs]at h;cases h;rw[B7]at hs;obtain⟨p,vs,rfl,hq,hr⟩:=lW (Rep.same G.fh _ _ ry) h1;exact⟨a,ds,p,vs,Rep.same G.fh _ _ rx,rfl,hq,hr,hs.1,hs.2,k _ W H (.refl _) G rfl⟩
  .rw[B2 hs]at h;cases h
 .cases h
theorem aJ.nth{ds:List PyData}{vs:List V}{i:Nat}{d:PyData}(h:aJ K H ds vs)(e:ds[i]?=some d):∃v,vs[i]?=some v/\Rep K H d v:=by
 have hlt:i<vs.length:=by rw[<- h.length];exact(List.getElem?_eq_some_iff.mp e).1
 have hv:vs[i]?=some vs[i]:=B9 hlt;obtain⟨d',hd',r⟩:=h.get hv;rw[e]at hd';cases hd';exact⟨_,hv,r⟩
theorem OE{α:Type}{xs:List α}{i:Int}{x:α}(h:atI xs i=some x):∃j,ixN xs.length i=some j/\xs[j]?=some x:=by
 unfold atI at h;exact aI h
theorem FV{α:Type}{xs:List α}{i:Int}{j:Nat}{x:α}(h:ixN xs.length i=some j)(e:xs[j]?=some x):atI xs i=some x:=by
 unfold atI;rw[h];exact e
def ixF:F2:=fun x y M=>match x,y with
 |.d a,.d (.int n)=>(bE a).bind fun ds=>(atI ds n).bind fun e=>some (.d e,M)
 |.c i,.d (.int n)=>match M[i]? with
  |some (.lst xs)=>(atI xs n).bind fun e=>some (e,M)
  |_=>none
 |.t xs,.d (.int n)=>(atI xs n).bind fun e=>some (cdA e,M)
 |_,_=>none
theorem Good.lstAt{i:Nat}{xs:List CD}(G:Good K W M H)(h:M[i]?=some (.lst xs)):∃vs,H (W.α i)=some (.lst vs)/\bP K W xs vs:=by
 obtain⟨_,o,h2,h3⟩:=G.cs i _ h (by intro z;cases z);cases o with
 |lst vs=>exact⟨vs,h2,h3⟩
 |_=>exact False.elim h3
theorem aIv:P2 K (rIx K) ixF:=by
 intro x y M z M' h W H v u Q G rx ry k;unfold ixF at h;split at h
 .rename_i a n;obtain⟨ds,h1,h⟩:=aI h;obtain⟨e,h2,h⟩:=aI h;cases h;obtain⟨p,vs,rfl,hq,hr⟩:=lW (Rep.same G.fh _ _ rx) h1;obtain⟨j,hj,he⟩:=OE h2;obtain⟨w,hw,rw'⟩:=hr.nth he;have hlen:=hr.length;have hat:atI vs n=some w:=FV (by rw[<- hlen];exact hj) hw;obtain⟨p',vs',e',hq',hr'⟩:=lW (show Rep K W.F a (.ref p)from rx) h1;cases e'
  have same:∀w',vs'[j]?=some w'->Rep K W.F e w':=fun w' hw'=>by
   obtain⟨w2,h3,h4⟩:=hr'.nth he;rw[hw']at h3;cases h3;exact h4
  obtain⟨w',hw',r'⟩:=hr'.nth he;have hat':atI vs' n=some w':=FV (by rw[<- hr'.length];exact hj) hw';rcases hq' with hq'|hq'
  .exact .inl ⟨p,vs',n,w',rfl,ry,G.fh.seq hq',hat',k _ W H (.refl _) G r'⟩
  .exact .inr (.inl ⟨p,vs',n,w',rfl,ry,G.fh.seqT hq',hat',k _ W H (.refl _) G r'⟩)
 .rename_i i n;split at h
  .rename_i xs hx;obtain⟨e,h2,h⟩:=aI h;cases h;obtain⟨vs,hv,hr⟩:=G.lstAt hx;obtain⟨j,hj,he⟩:=OE h2;obtain⟨w,hw,r'⟩:=Paired.get hr he;have hat:atI vs n=some w:=FV (by rw[<- Paired.len hr];exact hj) hw;rw[show v=.ref (W.α i)from rx.2];exact .inl ⟨_,vs,n,w,rfl,ry,SqL.of hv,hat,k _ W H (.refl _) G r'⟩
  .cases h
 .rename_i xs n;obtain⟨e,h2,h⟩:=aI h;cases h;obtain⟨a,vs,rfl,hv,hr⟩:=rx;obtain⟨j,hj,he⟩:=OE h2;obtain⟨w,hw,r'⟩:=Paired.get hr he;have hat:atI vs n=some w:=FV (by rw[<- Paired.len hr];exact hj) hw;exact .inr (.inl ⟨_,vs,n,w,rfl,ry,SqT.of (G.fh _ _ hv),hat,k _ W H (.refl _) G (by cases e<;>exact r')⟩)
 .cases h
def oQ:FN:=fun xs M=>match xs with
 |[.d a]=>(bE a).bind fun ds=>some (.d (.int ds.length),M)
 |[.c i]=>match M[i]? with
  |some (.lst ys)=>some (.d (.int ys.length),M)
  |_=>none
 |[.t xs]=>some (.d (.int xs.length),M)
 |_=>none
theorem aHq:PN K (fun xs H Q=>∃p ys,xs=[.ref p]/\(SqL K H p ys\/SqT K H p ys)/\Q (.int ys.length) H) oQ:=by
 intro xs M z M' h W H vs Q G r k;unfold oQ at h;split at h
 .rename_i a;obtain⟨ds,h1,h⟩:=aI h;cases h;rcases r with _|⟨r1,_|_⟩;obtain⟨p,us,rfl,hq,hr⟩:=lW (Rep.same G.fh _ _ r1) h1;refine⟨p,us,rfl,hq,?_⟩;rw[<- hr.length];exact k _ W H (.refl _) G rfl
 .rename_i i;split at h
  .rename_i ys hy;cases h;rcases r with _|⟨r1,_|_⟩;obtain⟨us,hv,hr⟩:=G.lstAt hy;rw[r1.2];refine⟨_,us,rfl,.inl (SqL.of hv),?_⟩;rw[<- Paired.len hr];exact k _ W H (.refl _) G rfl
  .cases h
 .rename_i xs;cases h;rcases r with _|⟨r1,_|_⟩;obtain⟨a,us,rfl,hv,hr⟩:=r1;refine⟨_,us,rfl,.inr (SqT.of (G.fh _ _ hv)),?_⟩;rw[<- Paired.len hr];exact k _ W H (.refl _) G rfl
 .cases h
def pP:FN:=fun xs M=>match xs with
 |[.d a]=>(bE a).bind fun ds=>some (.d (.list ds),M)
 |[.c i]=>match M[i]? with
  |some (.lst ys)=>(lB ys).bind fun ds=>some (.d (.list ds),M)
  |_=>none
 |_=>none
theorem aCd:PN K (fun xs H Q=>∃p ys,xs=[.ref p]/\(SqL K H p ys\/SqT K H p ys)/\∀l,H l=none->Q (.ref l) (upd H l (.lst ys))) pP:=by
 intro xs M z M' h W H vs Q G r k;unfold pP at h;split at h
 .rename_i a;obtain⟨ds,h1,h⟩:=aI h;cases h;rcases r with _|⟨r1,_|_⟩;obtain⟨p,us,rfl,hq,hr⟩:=lW (show Rep K W.F a _ from r1) h1;refine⟨p,us,rfl,hq.imp (fun z=>G.fh.seq z) (fun z=>G.fh.seqT z),fun l hl=>?_⟩;obtain⟨e2,G2⟩:=G.lay (o:=.lst us) hl;exact k _ _ _ e2 G2 ⟨l,us,rfl,SqL.of aO,aJ.same e2.ff _ _ hr⟩
 .rename_i i;split at h
  .rename_i ys hy;obtain⟨ds,h1,h⟩:=aI h;cases h;rcases r with _|⟨r1,_|_⟩;obtain⟨us,hv,hr⟩:=G.lstAt hy;rw[r1.2];refine⟨_,us,rfl,.inl (SqL.of hv),fun l hl=>?_⟩;obtain⟨e2,G2⟩:=G.lay (o:=.lst us) hl;exact k _ _ _ e2 G2 ⟨l,us,rfl,SqL.of aO,aJ.same e2.ff _ _ (fL h1 hr)⟩
  .cases h
 .cases h
def eE:FN:=fun xs M=>match xs with
 |[.d (.list ds)]=>some (.d (.tuple ds),M)
 |[.d (.tuple ds)]=>some (.d (.tuple ds),M)
 |[.c i]=>match M[i]? with
  |some (.lst ys)=>(lB ys).bind fun ds=>some (.d (.tuple ds),M)
  |_=>none
 |_=>none
theorem XD:PN K (fun xs H Q=>∃p ys,xs=[.ref p]/\((SqL K H p ys/\∀l,H l=none->Q (.ref l) (upd H l (.tup ys)))\/(SqT K H p ys/\Q (.ref p) H))) eE:=by
 intro xs M z M' h W H vs Q G r k;unfold eE at h;split at h
 .rename_i ds;cases h;rcases r with _|⟨r1,_|_⟩;obtain⟨p,us,rfl,hq,hr⟩:=(show ∃a us,_=V.ref a/\SqL K W.F a us/\aJ K W.F ds us from r1);refine⟨p,us,rfl,.inl ⟨G.fh.seq hq,fun l hl=>?_⟩⟩;obtain⟨e2,G2⟩:=G.lay (o:=.tup us) hl;exact k _ _ _ e2 G2 ⟨l,us,rfl,SqT.of aO,aJ.same e2.ff _ _ hr⟩
 .rename_i ds;cases h;rcases r with _|⟨r1,_|_⟩;obtain⟨p,us,rfl,hq,hr⟩:=(show ∃a us,_=V.ref a/\SqT K W.F a us/\aJ K W.F ds us from r1);exact⟨p,us,rfl,.inr ⟨G.fh.seqT hq,k _ W H (.refl _) G ⟨p,us,rfl,hq,hr⟩⟩⟩
 .rename_i i;split at h
  .rename_i ys hy;obtain⟨ds,h1,h⟩:=aI h;cases h;rcases r with _|⟨r1,_|_⟩;obtain⟨us,hv,hr⟩:=G.lstAt hy;rw[r1.2];refine⟨_,us,rfl,.inl ⟨SqL.of hv,fun l hl=>?_⟩⟩;obtain⟨e2,G2⟩:=G.lay (o:=.tup us) hl;exact k _ _ _ e2 G2 ⟨l,us,rfl,SqT.of aO,aJ.same e2.ff _ _ (fL h1 hr)⟩
  .cases h
 .cases h
def FO(T:String)(f:EF):EF:=fun γ M=>(f γ M).bind fun r=>match r.1 with
 |.d a=>some (.d (.bool (xO T a)),r.2)
 |_=>none
theorem aFL{T:String}{ta:TE}{f:EF}(hT:T∈asked)(a:SE K ta f):SE K (tCB (aHz K) (sP ta (sP (tC (.ty T)) UE))) (FO T f):=by
 intro γ M x M' hh W H σ Q G R k;obtain⟨⟨y,M1⟩,h1,hh⟩:=aI hh;cases y with
 |c _=>cases hh
 |t _=>cases hh
 |f _=>cases hh
 |g _=>cases hh
 |d y=>
  cases hh;refine a _ _ _ _ h1 W H σ _ G R fun v W1 H1 e1 G1 r1=>?_;exact⟨v,T,y,rfl,hT,Rep.same G1.fh _ _ r1,k _ W1 H1 e1 G1 rfl⟩
def JK(T U:String)(f:EF):EF:=fun γ M=>(f γ M).bind fun r=>match r.1 with
 |.d a=>some (.d (.bool (xO T a || xO U a)),r.2)
 |_=>none
theorem aCI{T U:String}{ta:TE}{f:EF}(hT:T∈asked)(hU:U∈asked)(a:SE K ta f):SE K (tCB (VX K) (sP ta (sP (ZN (sP (tC (.ty T)) (sP (tC (.ty U)) UE))) UE))) (JK T U f):=by
 intro γ M x M' hh W H σ Q G R k;obtain⟨⟨y,M1⟩,h1,hh⟩:=aI hh;cases y with
 |c _=>cases hh
 |t _=>cases hh
 |f _=>cases hh
 |g _=>cases hh
 |d y=>
  cases hh;refine a _ _ _ _ h1 W H σ _ G R fun v W1 H1 e1 G1 r1=>?_;refine⟨by show 2<=sizeLine;decide,fun p hp=>?_⟩;obtain⟨e2,G2⟩:=G1.lay (o:=.tup [.ty T,.ty U]) hp;refine⟨v,p,[T,U],y,rfl,aO,fun S hS=>?_,Rep.same (e2.ff.trans G2.fh) _ _ r1,?_⟩
  .rcases List.mem_cons.mp hS with rfl|hS
   .exact hT
   .rw[List.mem_singleton.mp hS];exact hU
  .have e:([T,U].any fun T=>xO T y)=(xO T y || xO U y):=by simp
   rw[e];exact k _ _ _ (e1.trans e2) G2 rfl
def aDG(M:Sto):CD->Option Bool
 |.d .none=>some false
 |.d (.bool b)=>some b
 |.d (.int i)=>some (i != 0)
 |.d (.list ds)=>some (!ds.isEmpty)
 |.d (.tuple ds)=>some (!ds.isEmpty)
 |.c i=>match M[i]? with
  |some (.lst xs)=>some (!xs.isEmpty)
  |some (.dk kvs)=>some (!kvs.isEmpty)
  |_=>none
 |_=>none
def CG(f:EF):TF:=fun γ M=>(f γ M).bind fun r=>(aDG r.2 r.1).bind fun b=>some (b,r.2)
theorem lZ{α β:Type}{xs:List α}{ys:List β}(h:xs.length=ys.length):xs.isEmpty=ys.isEmpty:=by
 cases xs<;>cases ys<;>simp at h ⊢
theorem aFI{ta:TE}{f:EF}(a:SE K ta f):STt K (fun σ H Q=>ta σ H fun x H'=>∃k,aDr K x H' k/\Q k H') (CG f):=by
 intro γ M b M' hh W H σ Q G R k;obtain⟨⟨y,M1⟩,h1,hh⟩:=aI hh;obtain⟨b1,h2,hh⟩:=aI hh;cases hh;refine a _ _ _ _ h1 W H σ _ G R fun v W1 H1 e1 G1 r1=>⟨_,?_,k W1 H1 e1 G1⟩;cases y with
 |d y=>
  cases y with
  |none=>cases h2;rw[show v=.non from r1];rfl
  |bool c=>cases h2;rw[show v=.bl _ from r1];rfl
  |int i=>cases h2;rw[show v=.int _ from r1];rfl
  |str x=>cases h2
  |list ds=>
   cases h2;obtain⟨p,us,rfl,hq,hr⟩:=(show ∃a us,_=V.ref a/\SqL K W1.F a us/\aJ K W1.F ds us from r1);exact .inl ⟨us,G1.fh.seq hq,by rw[lZ hr.length]⟩
  |tuple ds=>
   cases h2;obtain⟨p,us,rfl,hq,hr⟩:=(show ∃a us,_=V.ref a/\SqT K W1.F a us/\aJ K W1.F ds us from r1);exact .inr (.inl ⟨us,G1.fh.seqT hq,by rw[lZ hr.length]⟩)
  |dict kvs=>cases h2
 |t _=>cases h2
 |f _=>cases h2
 |g _=>cases h2
 |c i=>
  rw[r1.2];unfold aDG at h2;dsimp only at h2;split at h2
  .rename_i xs hx;cases h2;obtain⟨us,hv,hr⟩:=G1.lstAt hx;exact .inl ⟨us,SqL.of hv,by rw[lZ (Paired.len hr)]⟩
  .rename_i kvs hx;cases h2;obtain⟨_,o,g2,g3⟩:=G1.cs i _ hx (by intro z;cases z);cases o with
   |dK us=>exact .inr (.inr ⟨us,g2,by rw[lZ (Paired.len g3)]⟩)
   |_=>exact False.elim g3
  .cases h2
def boolsOf:List PyData->Option (List Bool)
 |[]=>some []
 |.bool b::r=>(boolsOf r).bind fun bs=>some (b::bs)
 |_::_=>none
def wH:FN:=fun xs M=>match xs with
 |[.d (.list ds)]=>(boolsOf ds).bind fun bs=>some (.d (.bool (bs.all id)),M)
 |_=>none
theorem EK{H:Hp}:∀{ds:List PyData}{bs:List Bool}{vs:List V},boolsOf ds=some bs->aJ K H ds vs->vs=bs.map V.bl
 |[],bs,vs=>fun e h=>by cases e;exact h
 |.bool b::r,bs,vs=>fun e h=>by
  obtain⟨cs,h1,e⟩:=aI (show(boolsOf r).bind _=_ from e);cases e;obtain⟨v,us,rfl,h2,h3⟩:=h;rw[show v=V.bl b from h2,EK h1 h3];rfl
 |.none::_,_,_=>fun e _=>by cases e
 |.int _::_,_,_=>fun e _=>by cases e
 |.str _::_,_,_=>fun e _=>by cases e
 |.list _::_,_,_=>fun e _=>by cases e
 |.tuple _::_,_,_=>fun e _=>by cases e
 |.dict _::_,_,_=>fun e _=>by cases e
theorem SV(hc:X.calm=true):eU X (.builtin "all") (fun xs H Q=>∃(p:Addr)(bs:List Bool),xs=[.ref p]/\SqL X.K H p (bs.map V.bl)/\Q (.bl (bs.all id)) H):=by
 intro pins s σ H xs us Q I r h;obtain⟨p,bs,rfl,hp,q⟩:=h;obtain⟨u,rfl,ru⟩:=vals1 r;cases (show u=Value.ref p from ru);obtain⟨its,rv,pl,hz⟩:=I.list hp;have hits:=aW.bools rv;subst hits;refine call_all_walk (wpAny_pyIter_list pl.isList ?_);have hlt:p<s.heap.objs.size:=pl.lt;refine⟨_,_,_,_,_,_,(fun i=>bs.getD i false),rfl,Walks.list (A:=X.A.in1) (I.ok.hd hc) s.heap.objs.size p (B8 hlt) (bs.map Value.bool).toArray,⟨⟨_,B6 _ rfl,rfl,rfl⟩,pl.isList.at fun o e=>A4 _ e⟩,HV,fun h' tk hk=>?_⟩;have e1:((bs.map Value.bool).toArray).size=bs.length:=by simp
 rw[e1,all_range];refine⟨.bl _,H,I.kept (h':=h') (t':=tk) fun b o e=>?_,rfl,q⟩;exact hk b o (fun z=>by rw[List.mem_singleton]at z;exact absurd (A8 e) (by rw[z];exact J1 _)) (A4 _ e)
theorem aGG:PN K (fun xs H Q=>∃(p:Addr)(bs:List Bool),xs=[.ref p]/\SqL K H p (bs.map V.bl)/\Q (.bl (bs.all id)) H) wH:=by
 intro xs M z M' h W H vs Q G r k;unfold wH at h;split at h
 .rename_i ds;obtain⟨bs,h1,h⟩:=aI h;cases h;rcases r with _|⟨r1,_|_⟩;obtain⟨p,us,rfl,hq,hr⟩:=(show ∃a us,_=V.ref a/\SqL K W.F a us/\aJ K W.F ds us from r1);have e:=EK h1 hr;subst e;exact⟨p,bs,rfl,G.fh.seq hq,k _ W H (.refl _) G rfl⟩
 .cases h
def EY:F3:=fun x y z M=>match x,y with
 |.c i,.d (.int k)=>match M[i]? with
  |some (.lst xs)=>(ixN xs.length k).bind fun j=>some (M.set i (.lst (xs.set j z)))
  |_=>none
 |_,_=>none
theorem aHd:P3 K aEe EY:=by
 intro x y z M M' h W H v u w Q G rx ry rz k;unfold EY at h;split at h
 .rename_i i n;split at h
  .rename_i xs hx;obtain⟨j,h1,h⟩:=aI h;cases h;obtain⟨us,hv,hr⟩:=G.lstAt hx;refine⟨W.α i,us,n,j,rx.2,ry,hv,by rw[<- Paired.len hr];exact h1,?_⟩;exact k W _ (.refl _) (G.set hx (by intro q;cases q) (c':=.lst (xs.set j z)) (show bP K W _ _ from Paired.set (R:=bK K W) rz j hr))
  .cases h
 .cases h
end
section
variable{X:Cx}{K:Fg}
def JR(K:Fg):R2:=fun x y H Q=>∃l b xs zs,x=.ref l/\y=.ref b/\SqL K H l xs/\SqL K H b zs/\xs.length+zs.length<=sizeLine/\∀p,H p=none->Q (.ref p) (upd H p (.lst (xs++zs)))
theorem op_catS:OpR X (binaryOp .Add) (JR X.K):=by
 intro pins s σ H x y v u Q I rx ry h;obtain⟨l,b,xs,zs,rfl,rfl,hH,hB,hz,q⟩:=h;cases rx;cases ry;obtain⟨its,r,⟨⟨cls,dd,data,sl⟩,n,ho,hc,hdd,hd⟩,_⟩:=I.list hH;obtain⟨its2,r2,⟨⟨cls2,dd2,data2,sl2⟩,n2,ho2,hc2,hdd2,hd2⟩,_⟩:=I.list hB;simp only at hc hd hc2 hd2;subst hc hd hc2 hd2;have e1:=r.length;have e2:=r2.length;refine concat_meets ⟨_,ho,rfl⟩ ⟨_,ho2,rfl⟩ noFill_list_add seq_list_add PySem.F.slot_list_add PySem.F.entry_list_add (PySem.F.args_list_add_2 _ _) (list_addW l b its.toArray its2.toArray n n2 dd dd2 sl sl2 (by rw[C0,C0];omega)) ⟨ho,ho2,?_⟩;have ea:its.toArray++its2.toArray=(its++its2).toArray:=by simp
 rw[ea];exact⟨.ref _,_,I.lnew (t':=s.toks) (r.append r2) (by rw[C3];omega),rfl,q _ I.fresh⟩
def pO(M:Sto):CD->Option (List CD)
 |.d (.list ds)=>some (ds.map .d)
 |.c i=>match M[i]? with
  |some (.lst xs)=>some xs
  |_=>none
 |_=>none
theorem rQ{x:CD}{xs:List CD}{v:V}(G:Good K W M H)(h:pO M x=some xs)(r:bK K W x v):∃p vs,v=.ref p/\SqL K H p vs/\bP K W xs vs:=by
 unfold pO at h;split at h
 .rename_i ds;cases h;obtain⟨p,us,rfl,hq,hr⟩:=(show ∃a us,_=V.ref a/\SqL K W.F a us/\aJ K W.F ds us from r);exact⟨p,us,rfl,G.fh.seq hq,gH hr⟩
 .rename_i i;split at h
  .rename_i ys hy;cases h;obtain⟨us,hv,hr⟩:=G.lstAt hy;exact⟨_,us,r.2,SqL.of hv,hr⟩
  .cases h
 .cases h
def WQ:F2:=fun x y M=>(pO M x).bind fun xs=>(pO M y).bind fun ys=>(lB (xs++ys)).bind fun ds=>if ds.length<=sizeLine then some (.d (.list ds),M)else none
theorem aCJ:P2 K (JR K) WQ:=by
 intro x y M z M' h W H v u Q G rx ry k;obtain⟨xs,h1,h⟩:=aI h;obtain⟨ys,h2,h⟩:=aI h;obtain⟨ds,h3,h⟩:=aI h;by_cases hl:ds.length<=sizeLine
 .rw[A9 hl]at h;cases h;obtain⟨p,vs,rfl,hp,hr⟩:=rQ G h1 rx;obtain⟨q,us,rfl,hq,hs⟩:=rQ G h2 ry;have el:=HP h3;rw[C3]at el;refine⟨p,q,vs,us,rfl,rfl,hp,hq,by rw[<- Paired.len hr,<- Paired.len hs];omega,fun l hl=>?_⟩;obtain⟨e2,G2⟩:=G.lay (o:=.lst (vs++us)) hl;exact k _ _ _ e2 G2 ⟨l,_,rfl,SqL.of aO,aJ.same e2.ff _ _ (fL h3 (Paired.app hr hs))⟩
 .rw[B2 hl]at h;cases h
def aBg:F2:=fun x y M=>match x,y with
 |.d (.tuple xs),.d (.tuple ys)=>if xs≠[]/\xs.length+ys.length<=sizeLine then some (.d (.tuple (xs++ys)),M)else none
 |_,_=>none
theorem aJ.nil_iff{ds:List PyData}{vs:List V}(r:aJ K H ds vs):vs=[]↔ds=[]:=by
 have:=r.length;constructor<;>intro h<;>subst h<;>simp at this
 .exact this
 .exact A0g this.symm
theorem aBq:P2 K (WA K) aBg:=by
 intro x y M z M' h W H v u Q G rx ry k;unfold aBg at h;split at h
 .rename_i xs ys;by_cases hc:xs≠[]/\xs.length+ys.length<=sizeLine
  .rw[A9 hc]at h;cases h;obtain⟨p,vs,rfl,hp,hr⟩:=(show ∃a us,v=V.ref a/\SqT K W.F a us/\aJ K W.F xs us from rx);obtain⟨q,us,rfl,hq,hs⟩:=(show ∃a us,u=V.ref a/\SqT K W.F a us/\aJ K W.F ys us from ry);refine⟨p,q,vs,us,rfl,rfl,G.fh.seqT hp,G.fh.seqT hq,fun z=>hc.1 (hr.nil_iff.mp z),by rw[<- hr.length,<- hs.length];exact hc.2,fun z=>?_,fun z l hl=>?_⟩
   .have:ys=[]:=hs.nil_iff.mp z;subst this;rw[F4]at k;exact k _ W H (.refl _) G ⟨p,vs,rfl,hp,hr⟩
   .obtain⟨e2,G2⟩:=G.lay (o:=.tup (vs++us)) hl;exact k _ _ _ e2 G2 ⟨l,_,rfl,SqT.of aO,aJ.same e2.ff _ _ (aJ.app hr hs)⟩
  .rw[B2 hc]at h;cases h
 .cases h
theorem P2.or{r r':R2}{h h':F2}(a:P2 K r h)(b:P2 K r' h'):P2 K (fun x y H Q=>r x y H Q\/r' x y H Q) (zW h h'):=by
 intro x y M z M' hh W H v u Q G rv ru k;unfold zW at hh;cases e:h x y M with
 |some q=>
  rw[e]at hh;cases hh;exact .inl (a _ _ _ _ _ e W H v u Q G rv ru k)
 |none=>
  rw[e]at hh;exact .inr (b _ _ _ _ _ hh W H v u Q G rv ru k)
def OO(K:Fg):R2:=fun x y H Q=>∃a b ys,x=.ref a/\y=.ref b/\SqT K H a []/\SqT K H b ys/\Q (.ref b) H
theorem op_catT0:OpR X (binaryOp .Add) (OO X.K):=by
 intro pins s σ H x y v u Q I rx ry h;obtain⟨a,b,ys,rfl,rfl,ha,hb,q⟩:=h;cases rx;cases ry;obtain⟨its,r1,⟨⟨cls,dd,data,sl⟩,ho,hc,n,hd⟩,_⟩:=I.tuple ha;obtain⟨its2,r2,⟨⟨cls2,dd2,data2,sl2⟩,ho2,hc2,n2,hd2⟩,_⟩:=I.tuple hb;simp only at hc hd hc2 hd2;subst hc hd hc2 hd2;cases r1;exact concat_meets ⟨_,ho,rfl⟩ ⟨_,ho2,rfl⟩ noFill_tuple_add seq_tuple_add PySem.F.slot_tuple_add PySem.F.entry_tuple_add (PySem.F.args_tuple_add_2 _ _) (tuple_addW0 a b #[] its2.toArray n n2 dd dd2 sl sl2 rfl) ⟨ho,ho2,⟨.ref b,H,I,rfl,q⟩⟩
def RA:F2:=fun x y M=>match x,y with
 |.d (.tuple []),.d (.tuple ys)=>some (.d (.tuple ys),M)
 |_,_=>none
theorem aAG:P2 K (OO K) RA:=by
 intro x y M z M' h W H v u Q G rx ry k;unfold RA at h;split at h
 .rename_i ys;cases h;obtain⟨p,vs,rfl,hp,hr⟩:=(show ∃a us,v=V.ref a/\SqT K W.F a us/\aJ K W.F [] us from rx);obtain⟨q,us,rfl,hq,hs⟩:=(show ∃a us,u=V.ref a/\SqT K W.F a us/\aJ K W.F ys us from ry);rw[show vs=[]from hr]at hp;exact⟨p,q,us,rfl,rfl,G.fh.seqT hp,G.fh.seqT hq,k _ W H (.refl _) G ⟨q,us,rfl,hq,hs⟩⟩
 .cases h
def dZ:F2:=zW aCC (zW WQ (zW RA aBg))
def ZP(K:Fg):R2:=fun x y H Q=>(rI0 fun i j=>.int (i+j)) x y H Q\/JR K x y H Q\/OO K x y H Q\/WA K x y H Q
theorem aCG:OpR X (binaryOp .Add) (ZP X.K):=op_add.or (op_catS.or (op_catT0.or aDF))
theorem aDH:P2 K (ZP K) dZ:=P2.or aEr (P2.or aCJ (P2.or aAG aBq))
def eqS(neg:Bool):F2:=fun x y M=>match x,y with
 |.d (.str a),.d (.str b)=>some (.d (.bool (if neg then !(a==b)else a==b)),M)
 |_,_=>none
def eqX(neg:Bool):F2:=zW (eqS neg) (eqD neg)
def aHp(K:Fg):R2:=fun x y H Q=>rEq x y H Q\/OD K false x y H Q
def aGr(K:Fg):R2:=fun x y H Q=>rNe x y H Q\/OD K true x y H Q
theorem aAu{a b:Str}:decide (V.str a=V.str b)=(a==b):=by
 by_cases e:a=b
 .subst e;simp
 .have h:¬V.str a=V.str b:=fun q=>e (V.str.inj q);rw[D8 h,beq_eq_false_iff_ne.mpr e]
theorem aEU:P2 K rEq (eqS false):=by
 intro x y M z M' h W H v u Q G rx ry k;unfold eqS at h;split at h
 .rename_i a b;cases h;rw[show v=.str a from rx,show u=.str b from ry];refine⟨rfl,?_⟩;rw[aAu];exact k _ W H (.refl _) G rfl
 .cases h
theorem aFp:P2 K rNe (eqS true):=by
 intro x y M z M' h W H v u Q G rx ry k;unfold eqS at h;split at h
 .rename_i a b;cases h;rw[show v=.str a from rx,show u=.str b from ry];refine⟨rfl,?_⟩;rw[aAu];exact k _ W H (.refl _) G rfl
 .cases h
theorem YJ:P2 K (aHp K) (eqX false):=P2.or aEU aEf
theorem aFo:P2 K (aGr K) (eqX true):=P2.or aFp aEf
theorem aFQ(hu:X.A.units+64<cLine):OpR X (compareOp .Eq) (aHp X.K):=op_eq.or (ZY hu)
theorem aFP(hu:X.A.units+64<cLine):OpR X (compareOp .NotEq) (aGr X.K):=op_ne.or (aGS hu)
theorem aGE:P2 K (rI0 fun i j=>.int (i-j)) CC:=aEr
theorem aGA:P2 K (rI IW fun i j=>.int (i*j)) BR:=aBz fun _ _ h=>mulOk_of h
theorem aDQ:P2 K (rI aEy fun i j=>.int (i / j)) cZ:=aBz fun i j h=>by
 unfold nE at h;rw[B7]at h;exact⟨C9 h.1,C9 (p:=j.natAbs<xI) h.2⟩
theorem aHD:P2 K (rI (fun _ j=>0<j) fun i j=>.int (i % j)) cE:=aBz fun i j h=>C9 h
theorem aHj:P2 K (rI aJf fun i j=>.int (i ^ j.toNat)) LL:=aBz fun i j h=>by
 unfold aEb at h;rw[B7,B7]at h;exact⟨C9 h.1.1,C9 h.1.2,C9 h.2⟩
theorem aIm:P2 K (rI0 fun i j=>.bl (decide (i<j))) ltI:=PR
theorem aIZ:P2 K (rI0 fun i j=>.bl (decide (i<=j))) leI:=PR
theorem aJF:P2 K (rI0 fun i j=>.bl (decide (j<i))) gtI:=PR
theorem aHX:P2 K (rI0 fun i j=>.bl (decide (j<=i))) geI:=PR
def sG:F1:=fun x M=>match x with
 |.d (.int i)=>some (.d (.int (-i)),M)
 |_=>none
theorem aFt:P1 K (rU fun i=>.int (-i)) sG:=by
 intro x M z M' h W H v Q G r k;unfold sG at h;split at h
 .rename_i i;cases h;exact⟨i,r,k _ W H (.refl _) G rfl⟩
 .cases h
end
section
variable{X:Cx}{K:Fg}
theorem aJP(h:X.K=K):eU X (.builtin "isinstance") (aHz K):=by subst h;exact UO
theorem aIc(h:X.K=K):eU X (.builtin "isinstance") (VX K):=by subst h;exact OM
def aJG(K:Fg):R2:=rIx K
theorem kIx(h:X.K=K):IxR X (aJG K):=by subst h;exact aGb
theorem aFx:P2 K (aJG K) ixF:=aIv
def aEp(K:Fg):List V->Hp->VK->Prop:=fun xs H Q=>∃p ys,xs=[.ref p]/\(SqL K H p ys\/SqT K H p ys)/\Q (.int ys.length) H
theorem aJR(h:X.K=K):eU X (.builtin "len") (aEp K):=by subst h;exact GK
theorem aCw:PN K (aEp K) oQ:=aHq
def MC(K:Fg):List V->Hp->VK->Prop:=fun xs H Q=>∃p ys,xs=[.ref p]/\(SqL K H p ys\/SqT K H p ys)/\∀l,H l=none->Q (.ref l) (upd H l (.lst ys))
theorem aEu(h:X.K=K):eU X (.type "list") (MC K):=by subst h;exact FI
theorem ZZ:PN K (MC K) pP:=aCd
def QR(K:Fg):List V->Hp->VK->Prop:=fun xs H Q=>∃p ys,xs=[.ref p]/\((SqL K H p ys/\∀l,H l=none->Q (.ref l) (upd H l (.tup ys)))\/(SqT K H p ys/\Q (.ref p) H))
theorem aHL(h:X.K=K):eU X (.type "tuple") (QR K):=by subst h;exact BP
theorem UA:PN K (QR K) eE:=XD
def aEz(K:Fg):List V->Hp->VK->Prop:=fun xs H Q=>∃(p:Addr)(bs:List Bool),xs=[.ref p]/\SqL K H p (bs.map V.bl)/\Q (.bl (bs.all id)) H
theorem aJT(h:X.K=K)(hc:X.calm=true):eU X (.builtin "all") (aEz K):=by subst h;exact SV hc
theorem aDO:PN K (aEz K) wH:=aGG
theorem kEq(h:X.K=K)(hu:X.A.units+64<cLine):OpR X (compareOp .Eq) (aHp K):=by subst h;exact aFQ hu
theorem kNe(h:X.K=K)(hu:X.A.units+64<cLine):OpR X (compareOp .NotEq) (aGr K):=by subst h;exact aFP hu
theorem kIn(h:X.K=K)(hu:X.A.in1.units+64<cLine):OpR X (compareOp .In) (YK K false):=by subst h;exact aHo hu
theorem aGe(h:X.K=K)(hu:X.A.in1.units+64<cLine):OpR X (compareOp .NotIn) (YK K true):=by subst h;exact RP hu
theorem aJS(h:X.K=K):OpR X (binaryOp .Add) (ZP K):=by subst h;exact aCG
theorem RI{tg l:Expr}{tl:TE}(h:X.K=K)(hl:PE X l tl):PI X tg l (aCz K tl):=by subst h;exact aEX hl
theorem aCU{es:List Expr}{k:Nat}{t:TGs}{n:Nat}{pos:Pos}(hK:X.K=K)(hc:X.calm=true)(h:PGs X es t)
 (hn:(assignEach es X.env).length=n:=by rfl) (hst:(assignEach es X.env).findIdx? (·.1)=none:=by rfl):PG X (.Tuple es k pos) (aFz K n t):=by subst hK;exact aFa hc h hn hst
def aIT(K:Fg)(ta:TE):TT:=fun σ H Q=>ta σ H fun x H'=>∃k,aDr K x H' k/\Q k H'
theorem aDB{a:Expr}{ta:TE}(hK:X.K=K)(ha:PE X a ta)(he:∀whole,isTrue a X.env whole=(do let v <- whole;standAt a.pos;holding [v] (truthy v))):PT X a (aIT K ta):=by subst hK;exact aAi ha he
theorem aBS{ta:TE}{f:EF}(a:SE K ta f):STt K (aIT K ta) (CG f):=aFI a
end
section
variable{es:List Expr}{env:Env}
theorem bX{a b}:starEach (.Name a b::es) env=(false,eval (.Name a b) env)::starEach es env:=rfl
theorem BH{a b c}:starEach (.Tuple a b c::es) env=(false,eval (.Tuple a b c) env)::starEach es env:=rfl
theorem rP{a b c d}:starEach (.Call a b c d::es) env=(false,eval (.Call a b c d) env)::starEach es env:=rfl
theorem vH{pos:Pos}:(backTo pos (starEach [] env)).any (·.1)=false:=rfl
theorem nX{pos:Pos}{e:Expr}(hs:starEach (e::es) env=(false,eval e env)::starEach es env)(h:(backTo pos (starEach es env)).any (·.1)=false):(backTo pos (starEach (e::es) env)).any (·.1)=false:=by
 rw[hs];have e1:backTo pos ((false,eval e env)::starEach es env)=(false,(do let v <- eval e env;standAt pos;pure v:Sem Value))::backTo pos (starEach es env)\/(backTo pos ((false,eval e env)::starEach es env)).any (·.1)=(backTo pos (starEach es env)).any (·.1):=.inr (by unfold backTo;simp);rcases e1 with q|q
 .rw[q,U7,h];rfl
 .rw[q];exact h
end
section
variable{P:Program}{w:World}{K:Fg}{mg:Str->Option Value}
theorem Fun.okM{base:Heap}{x:Str}{st:Stmt}{N ps:List Str}{k:Nat}{b:SF}{f:Addr}{fd:FuncData}(F:Fun K x x st f fd)(S:aQ N ps (aF st))
 (hbody:∀(f:Addr)(cdv:Value)(A:Around)(outer:List Env)(s:Shared)(H:Hp)(E:XK),cA k (A.deeper (envOfC x (aF st) s.heap.objs.size f cdv))->
  ∃t,PSs (mL CX0 P w K mg base N x (aF st) f cdv A outer s H E).nox (bJ st) t/\SS K t b):kW P w K mg base CX0 (k+1) f fd ps (spM K (fnF ps.length N.length b)):=by
 have len:∀vs H Q E,spM K (fnF ps.length N.length b) vs H Q E->vs.length=ps.length:=fun vs H Q E h=>by
  obtain⟨xs,M,W,y,M',G,R,hf,_⟩:=h;by_cases hl:xs.length=ps.length
  .rw[<- Paired.len R];exact hl
  .unfold fnF at hf;rw[B2 hl]at hf;cases hf
 refine F.ok S len fun cdv A outer s H vs Q E hr h=>?_;obtain⟨t,hP,hS⟩:=hbody f cdv A outer s H E hr;refine⟨t,hP,?_⟩;obtain⟨xs,M,W,y,M',G,R,hf,k⟩:=h;by_cases hl:xs.length=ps.length
 .unfold fnF at hf;rw[A9 hl]at hf;obtain⟨⟨o,M1⟩,h1,hf⟩:=aI hf
  have hR:cH K W (xs.map some++List.replicate (N.length-xs.length) none) (start N vs):=by
   unfold start;rw[<- Paired.len R];exact Paired.app (bP.some R) (qV _)
  refine hS _ _ _ _ h1 W H _ _ G hR fun W1 H1 e1 G1=>?_;cases o with
  |rt x=>cases hf;exact fun v r=>k v W1 H1 e1 G1 r
  |nx γ=>cases hf;exact fun σ r=>k .non W1 H1 e1 G1 rfl
  |bk γ=>cases hf
  |ct γ=>cases hf
 .unfold fnF at hf;rw[B2 hl]at hf;cases hf
theorem Def.okL{x p:Str}{st:Stmt}{N:List Str}{k:Nat}{b:SF}{F:FN}(D:Def K mg x st)(S:aQ N [p] (aF st))(hF:F=fnF 1 N.length b)
 (hb:∀(kV doc pm:Value)(an:Option Addr)(cdv ct:Value)(us:List Value),us.length=[p].length->bindArgs (PySem.W.fnOf x x (eG st) (bJ st) (aF st) .none kV doc pm an cdv ct) ⟨us,[]⟩=pure ([p].zip us))
 (hbody:∀(base:Heap)(f:Addr)(cdv:Value)(A:Around)(outer:List Env)(s:Shared)(H:Hp)(E:XK),cA k (A.deeper (envOfC x (aF st) s.heap.objs.size f cdv))->
  ∃t,PSs (mL CX0 P w K mg base N x (aF st) f cdv A outer s H E).nox (bJ st) t/\SS K t b):
 ∃f fd,mg x=some (.ref f)/\(∀(s:Shared)(u:Value),BindsTo s fd ⟨[u],[]⟩ [(p,u)])/\∀base,kW P w K mg base CX0 (k+1) f fd [p] (spM K F):=by
 subst hF;obtain⟨f,fd,Fu,m⟩:=D.ex;refine⟨f,fd,m,fun s u=>?_,fun base=>Fu.okM S (hbody base)⟩;obtain⟨oc,od,kV,doc,pm,an,cdv,ct,osl,rfl,lk,hcd⟩:=Fu.ex;exact .of_eq (hb kV doc pm an cdv ct [u] rfl)
theorem IP{H:Hp}:∀ns:List Int,aJ K H (ns.map .int) (ns.map V.int)
 |[]=>rfl
 |n::ns=>⟨.int n,ns.map V.int,rfl,rfl,IP ns⟩
theorem aGi{F:FN}(hF:∀ns:List Int,ns.length<=63->∃M',F [.d (.list (ns.map .int))] []=some (.d (.bool true),M')){a:Addr}{ns:List Int}(hl:ns.length<=63)(hS:SqL K H a (ns.map V.int))(E:XK):
 spM K F [.ref a] H (fun v _=>v=.bl true) E:=by
 obtain⟨M',h⟩:=hF ns hl;refine⟨[.d (.list (ns.map .int))],[],⟨H,fun _=>0,0⟩,_,M',⟨iN.refl H,rfl,fun i c h=>by simp at h,fun i j c c' h=>by simp at h⟩,.cons (show ∃a' vs,V.ref a=.ref a'/\SqL K H a' vs/\aJ K H (ns.map .int) vs from⟨a,ns.map V.int,rfl,hS,IP ns⟩) .nil,h,fun v W' H' _ _ r=>r⟩
theorem law_walk{l:PySem.W.OpenLaw}{q:Program}{loose:List Str}{XP:(Str->Option Value)->Heap->Prop}{YP:World->Heap->Prop}{d:DefRec}{K:Params->Fg}{F:FN}{k:Nat}{p:Str}(hq:PyProof.Rows.importsNone q=true)(hn:l.most=some 63)(hdf:d.params.defaults=[])(hr:cA k callerA)
 (hY:∀(w:World)(h:Heap),YP w h->(K w.params).In h)
 (hT:∀(w:World)(mg:Str->Option Value)(h:Heap),(K w.params).In h->h.Ns mainGlobals mg->∃f fd,mg d.name=some (.ref f)/\(∀(s:Shared)(u:Value),BindsTo s fd ⟨[u],[]⟩ [(p,u)])/\∀base,kW l.prog w (K w.params) mg base CX0 k f fd [p] (spM (K w.params) F))
 (hF:∀ns:List Int,ns.length<=63->∃M',F [.d (.list (ns.map .int))] []=some (.d (.bool true),M')):
 PySem.W.WalkO q loose XP YP l.row.toRowW d [] (fun f vs=>PySem.call f vs):=
 L2.walk_of hq (n:=63) (k:=k) (x:=p) (CX:=fun _=>CX0) (sp:=fun w=>spM (K w.params) F) hn (by decide) hdf hr hY
  (fun w mg fa h KX G hmg=>by
   obtain⟨f,fd,m,hb,hf⟩:=hT w mg h KX G;have e:(some (Value.ref f))=some (.ref fa):=m.symm.trans hmg;cases e;exact⟨fd,hb,fun base _ _=>hf base⟩)
  (fun w H a ns hl _ hS=>aGi hF hl hS _) fun _ _ _ _ _ z=>z
end
def YU(e:Expr)(es:List Expr):Prop:=∀env:Env,starEach (e::es) env=(false,eval e env)::starEach es env
def HY:List Expr->Prop
 |[]=>True
 |e::es=>YU e es/\HY es
theorem HY.plain:∀{es:List Expr},HY es->∀(env:Env)(pos:Pos),(backTo pos (starEach es env)).any (·.1)=false
 |[]=>fun _ _ _=>rfl
 |_::_=>fun h env pos=>nX (h.1 env) (h.2.plain env pos)
section
variable{ι:Type}
structure ME(K:Fg)(X:ι->Cx)(e:Expr)(f:EF):Prop where
 ex:∃t,(∀i,PE (X i) e t)/\SE K t f
structure MT(K:Fg)(X:ι->Cx)(e:Expr)(f:TF):Prop where
 ex:∃t,(∀i,PT (X i) e t)/\STt K t f
structure MW(K:Fg)(X:ι->Cx)(e:Expr)(f:TF):Prop where
 ex:∃t,(∀i,PW (X i) e t)/\STt K t f
structure MA(K:Fg)(X:ι->Cx)(es:List Expr)(f:AF):Prop where
 ex:∃t,(∀i,PA (X i) es t)/\SA K t f
 st:HY es
structure MG(K:Fg)(X:ι->Cx)(e:Expr)(f:GF):Prop where
 ex:∃t,(∀i,PG (X i) e t)/\SG K t f
structure MGs(K:Fg)(X:ι->Cx)(es:List Expr)(f:GsF):Prop where
 ex:∃t,(∀i,PGs (X i) es t)/\SGs K t f
structure MI(K:Fg)(X:ι->Cx)(tg e:Expr)(f:AF):Prop where
 ex:∃t,(∀i,PI (X i) tg e t)/\SI K t f
structure MF(K:Fg)(X:ι->Cx)(es:List Expr)(f:TF):Prop where
 ex:∃t,(∀i,JT (X i) es t)/\STt K t f
structure MS(K:Fg)(X:ι->Cx)(st:Stmt)(f:SF):Prop where
 ex:∃t,(∀i,PS (X i) st t)/\SS K t f
structure ML(K:Fg)(X:ι->Cx)(st:List Stmt)(f:SF):Prop where
 ex:∃t,(∀i,PSs (X i) st t)/\SS K t f
structure Q2(K:Fg)(X:ι->Cx)(o:Value->Value->Sem Value)(h:F2):Prop where
 ex:∃r,(∀i,OpR (X i) o r)/\P2 K r h
structure Q1(K:Fg)(X:ι->Cx)(o:Value->Sem Value)(h:F1):Prop where
 ex:∃r,(∀i,UnR (X i) o r)/\P1 K r h
structure QN(K:Fg)(X:ι->Cx)(f:Value)(h:FN):Prop where
 ex:∃r,(∀i,eU (X i) f r)/\PN K r h
structure QI(K:Fg)(X:ι->Cx)(h:F2):Prop where
 ex:∃r,(∀i,IxR (X i) r)/\P2 K r h
structure QS(K:Fg)(X:ι->Cx)(h:F3):Prop where
 ex:∃r,(∀i,aFR (X i) r)/\P3 K r h
variable{K:Fg}{X:ι->Cx}{a b c e:Expr}{es:List Expr}{f g h:EF}{ft gt:TF}{fa:AF}{pos:Pos}
theorem aC(i:Nat){x:Str}(hN:∀j,(X j).N[i]?=some x:=by intro _;rfl)(hv:∀j,Vis (X j).env.scope x:=by intro _;first|exact Or.inl rfl|exact Or.inr (Or.inl rfl)|exact Or.inr (Or.inr rfl))(hd:(x==("__debug__":Str))=false:=by decide)(hcd:(x==("__classdict__":Str))=false:=by decide):
 ME K X (.Name x pos) (aD i):=⟨_,fun j=>ZD (hN j) (hv j) hd hcd,aFy⟩
theorem aG{i:Int}{j:Nat}:ME K X (.Constant (.int i) j pos) (fC (.int i)):=⟨_,fun _=>aFu,aAb⟩
theorem lU{i:Bool}{j:Nat}:ME K X (.Constant (.bool i) j pos) (fC (.bool i)):=⟨_,fun _=>aJD,aHR⟩
theorem NO{j:Nat}:ME K X (.Constant .none j pos) (fC .none):=⟨_,fun _=>aGk,aHI⟩
theorem AB{i:Str}{j:Nat}:ME K X (.Constant (.str i) j pos) (fC (.str i)):=⟨_,fun _=>aFs,aHa⟩
theorem qN{x:Str}{n:Int}(hm:∀i,∃t:Tok,(X i).mg x=some (.int n t))(hg:∀i,Gl (X i) x:=by intro _;rfl)(hd:(x==("__debug__":Str))=false:=by decide):ME K X (.Name x pos) (fC (.int n)):=
 ⟨_,fun i=>FR (v:=.int n) (hg i) (hm i).choose_spec ⟨_,rfl⟩ hd,aAb⟩
theorem aR{op:Operator}{k:F2}(q:Q2 K X (binaryOp op) k)(x:ME K X a f)(y:ME K X b g):ME K X (.BinOp a op b pos) (fOp k f g):=by
 obtain⟨r,q1,q2⟩:=q.ex;obtain⟨t,x1,x2⟩:=x.ex;obtain⟨u,y1,y2⟩:=y.ex;exact⟨_,fun i=>aIV (q1 i) (x1 i) (y1 i),OV q2 x2 y2⟩
theorem DR{op:UnaryOp}{k:F1}(q:Q1 K X (unaryOp op) k)(x:ME K X a f):ME K X (.UnaryOp op a pos) (fUn k f):=by
 obtain⟨r,q1,q2⟩:=q.ex;obtain⟨t,x1,x2⟩:=x.ex;exact⟨_,fun i=>aIz (q1 i) (x1 i),aHW q2 x2⟩
theorem dH{rest:List Expr}(x:ME K X a f)(y:ME K X (.BoolOp .And (b::rest) pos) g):ME K X (.BoolOp .And (a::b::rest) pos) (jE f g):=by
 obtain⟨t,x1,x2⟩:=x.ex;obtain⟨u,y1,y2⟩:=y.ex;exact⟨_,fun i=>aHB (x1 i) (y1 i),aEI x2 y2⟩
theorem gW{op:BoolOp}(x:ME K X a f):ME K X (.BoolOp op [a] pos) f:=by
 obtain⟨t,x1,x2⟩:=x.ex;exact⟨_,fun i=>aEO (x1 i),x2⟩
theorem OC(x:ME K X a f):ME K X (.UnaryOp .Not a pos) (SH f):=by
 obtain⟨t,x1,x2⟩:=x.ex;exact⟨_,fun i=>aGh (x1 i),aFk x2⟩
theorem iP{op:CmpOp}{k:F2}(q:Q2 K X (compareOp op) k)(x:ME K X a f)(y:ME K X b g)(hm:behindInMarks op b=false:=by rfl):ME K X (.Compare a [op] [b] pos) (fOp k f g):=by
 obtain⟨r,q1,q2⟩:=q.ex;obtain⟨t,x1,x2⟩:=x.ex;obtain⟨u,y1,y2⟩:=y.ex;exact⟨_,fun i=>aDM (q1 i) (x1 i) (y1 i) hm,OV q2 x2 y2⟩
theorem vA{op op':CmpOp}{k k':F2}(q:Q2 K X (compareOp op) k)(q':Q2 K X (compareOp op') k')(x:ME K X a f)(y:ME K X b g)(z:ME K X c h)(hm:lastMarks [op,op'] [b,c]=false:=by with_unfolding_all rfl):ME K X (.Compare a [op,op'] [b,c] pos) (kQ k k' f g h):=by
 obtain⟨r,q1,q2⟩:=q.ex;obtain⟨r',q1',q2'⟩:=q'.ex;obtain⟨t,x1,x2⟩:=x.ex;obtain⟨u,y1,y2⟩:=y.ex;obtain⟨v,z1,z2⟩:=z.ex;exact⟨_,fun i=>ZI (q1 i) (q1' i) (x1 i) (y1 i) (z1 i) hm,YW q2 q2' x2 y2 z2⟩
theorem aIy(x:MT K X c ft)(y:ME K X a f)(z:ME K X b g):ME K X (.IfExp c a b pos) (fIf ft f g):=by
 obtain⟨t,x1,x2⟩:=x.ex;obtain⟨u,y1,y2⟩:=y.ex;obtain⟨v,z1,z2⟩:=z.ex;exact⟨_,fun i=>IB (x1 i) (y1 i) (z1 i),aIg x2 y2 z2⟩
theorem aE:MA K X [] aH:=⟨⟨_,fun _=>zE,aGu⟩,trivial⟩
theorem aA(x:ME K X e f)(y:MA K X es fa)(hs:YU e es:=by intro _;rfl):MA K X (e::es) (aB f fa):=by
 obtain⟨t,x1,x2⟩:=x.ex;obtain⟨u,y1,y2⟩:=y.ex;exact⟨⟨_,fun i=>jU (x1 i) (y1 i) (hs _),aCW x2 y2⟩,hs,y.st⟩
theorem bA{k:Nat}(x:MA K X es fa):ME K X (.Tuple es k pos) (bI fa):=by
 obtain⟨t,x1,x2⟩:=x.ex;exact⟨_,fun i=>GL (x1 i),aGL x2⟩
theorem fR(x:MA K X es fa):ME K X (.List es pos) (gF fa):=by
 obtain⟨t,x1,x2⟩:=x.ex;exact⟨_,fun i=>aAD (x1 i),aGC x2⟩
theorem EV(x:MA K X es fa):ME K X (.List es pos) (sA fa):=by
 obtain⟨t,x1,x2⟩:=x.ex;exact⟨_,fun i=>aAD (x1 i),aGF x2⟩
theorem cT{k:F2}(q:QI K X k)(x:ME K X a f)(y:ME K X b g)(hs:PU b:=by intro _ _;rfl):ME K X (.Subscript a b pos) (fOp k f g):=by
 obtain⟨r,q1,q2⟩:=q.ex;obtain⟨t,x1,x2⟩:=x.ex;obtain⟨u,y1,y2⟩:=y.ex;exact⟨_,fun i=>aIE (q1 i) (x1 i) (y1 i) hs,OV q2 x2 y2⟩
theorem aT{k:Nat}{x:Str}{ps:List Str}{F:FN}{p:Pos}{q:Bool}(C:∀i,Callee (X i).prog (X i).w (X i).K (X i).mg (X i).base k x ps (spM K F) q)(hr:∀i,cA k (X i).A q)(y:MA K X (e::es) fa)(hg:∀i,Gl (X i) x:=by intro _;rfl)(hd:(x==("__debug__":Str))=false:=by decide):
 ME K X (.Call (.Name x p) (e::es) [] pos) (aK F fa):=by
 obtain⟨u,y1,y2⟩:=y.ex;exact⟨_,fun i=>aEY (C i) (hr i) (y1 i) (hg i) hd (y.st.1 _) (y.st.2.plain _ _),aBJ y2⟩
theorem bV{x:Str}{id:String}{F:FN}{p:Pos}(q:QN K X (.builtin id) F)(hm:∀i,(X i).mg x=none)(hv:bootBuiltins x=some (.builtin id))(y:MA K X (e::es) fa)(hg:∀i,Gl (X i) x:=by intro _;rfl)(hn:x≠"__name__":=by decide)(hd:(x==("__debug__":Str))=false:=by decide):
 ME K X (.Call (.Name x p) (e::es) [] pos) (aK F fa):=by
 obtain⟨r,q1,q2⟩:=q.ex;obtain⟨u,y1,y2⟩:=y.ex;exact⟨_,fun i=>uF (q1 i) (hg i) (hm i) hv (y1 i) hn hd (y.st.1 _) (y.st.2.plain _ _),aEo q2 y2⟩
theorem eO{x:Str}{id:String}{F:FN}{p:Pos}(q:QN K X (.type id) F)(hm:∀i,(X i).mg x=none)(hv:bootBuiltins x=some (.type id))(y:MA K X (e::es) fa)(hg:∀i,Gl (X i) x:=by intro _;rfl)(hn:x≠"__name__":=by decide)(hd:(x==("__debug__":Str))=false:=by decide):
 ME K X (.Call (.Name x p) (e::es) [] pos) (aK F fa):=by
 obtain⟨r,q1,q2⟩:=q.ex;obtain⟨u,y1,y2⟩:=y.ex;exact⟨_,fun i=>RM (q1 i) (hg i) (hm i) hv (y1 i) hn hd (y.st.1 _) (y.st.2.plain _ _),aEo q2 y2⟩
theorem zP{T:String}{y:Str}{p p':Pos}(hK:∀i,(X i).K=K)(hT:T∈asked)(x:ME K X a f)(hs:YU a [.Name y p'])(hm:∀i,(X i).mg "isinstance"=none)(hmy:∀i,(X i).mg y=none)(hb:bootBuiltins y=some (.type T))(hg:∀i,Gl (X i) "isinstance":=by intro _;rfl)(hgy:∀i,Gl (X i) y:=by intro _;rfl)
 (hn:y≠"__name__":=by decide) (hd:(y==("__debug__":Str))=false:=by decide):ME K X (.Call (.Name "isinstance" p) [a,.Name y p'] [] pos) (FO T f):=by
 obtain⟨t,x1,x2⟩:=x.ex;refine⟨_,fun i=>uF (aJP (hK i)) (hg i) (hm i) boot_isinstance (jU (x1 i) (jU (xY (v:=.ty T) (hgy i) (hmy i) hb rfl hn hd) zE bX) (hs _)) (by decide) (by decide) (hs _) (nX bX vH),aFL hT x2⟩
theorem PV{T U:String}{y z:Str}{p p' p'' p3:Pos}{k:Nat}(hK:∀i,(X i).K=K)(hT:T∈asked)(hU:U∈asked)(x:ME K X a f)(hs:YU a [.Tuple [.Name y p',.Name z p''] k p3])(hm:∀i,(X i).mg "isinstance"=none)(hmy:∀i,(X i).mg y=none)(hmz:∀i,(X i).mg z=none)
 (hb:bootBuiltins y=some (.type T)) (hbz:bootBuiltins z=some (.type U)) (hg:∀i,Gl (X i) "isinstance":=by intro _;rfl) (hgy:∀i,Gl (X i) y:=by intro _;rfl) (hgz:∀i,Gl (X i) z:=by intro _;rfl)
 (hn:y≠"__name__":=by decide) (hd:(y==("__debug__":Str))=false:=by decide) (hn':z≠"__name__":=by decide) (hd':(z==("__debug__":Str))=false:=by decide):ME K X (.Call (.Name "isinstance" p) [a,.Tuple [.Name y p',.Name z p''] k p3] [] pos) (JK T U f):=by
 obtain⟨t,x1,x2⟩:=x.ex;refine⟨_,fun i=>uF (aIc (hK i)) (hg i) (hm i) boot_isinstance (jU (x1 i) (jU (GL (jU (xY (v:=.ty T) (hgy i) (hmy i) hb rfl hn hd) (jU (xY (v:=.ty U) (hgz i) (hmz i) hbz rfl hn' hd') zE bX) bX)) zE BH) (hs _)) (by decide) (by decide) (hs _) (nX BH vH),aCI hT hU x2⟩
theorem jH(x:MT K X a ft):MT K X (.UnaryOp .Not a pos) (nR ft):=by
 obtain⟨t,x1,x2⟩:=x.ex;exact⟨_,fun i=>aEW (x1 i),aGo x2⟩
theorem aFW{rest:List Expr}(x:MT K X a ft)(y:MW K X (.BoolOp .And (b::rest) pos) gt):MW K X (.BoolOp .And (a::b::rest) pos) (XM ft gt):=by
 obtain⟨t,x1,x2⟩:=x.ex;obtain⟨u,y1,y2⟩:=y.ex;exact⟨_,fun i=>aGH (x1 i) (y1 i),aHm x2 y2⟩
theorem aDj(x:MT K X a ft):MW K X (.BoolOp .And [a] pos) ft:=by
 obtain⟨t,x1,x2⟩:=x.ex;exact⟨_,fun i=>aBN (x1 i),x2⟩
theorem AG{rest:List Expr}(x:MT K X a ft)(y:MW K X (.BoolOp .Or (b::rest) pos) gt):MW K X (.BoolOp .Or (a::b::rest) pos) (gOr ft gt):=by
 obtain⟨t,x1,x2⟩:=x.ex;obtain⟨u,y1,y2⟩:=y.ex;exact⟨_,fun i=>aIF (x1 i) (y1 i),aIO x2 y2⟩
theorem yN(x:MT K X a ft):MW K X (.BoolOp .Or [a] pos) ft:=by
 obtain⟨t,x1,x2⟩:=x.ex;exact⟨_,fun i=>aET (x1 i),x2⟩
theorem SN(x:MW K X a ft):MT K X a ft:=by
 obtain⟨t,x1,x2⟩:=x.ex;exact⟨_,fun i=>(x1 i).pt,x2⟩
theorem bU{op:CmpOp}{k:F2}(q:Q2 K X (compareOp op) k)(x:ME K X a f)(y:ME K X b g)(hm:behindInMarks op b=false:=by rfl):MT K X (.Compare a [op] [b] pos) (gB (fOp k f g)):=by
 obtain⟨r,q1,q2⟩:=q.ex;obtain⟨t,x1,x2⟩:=x.ex;obtain⟨u,y1,y2⟩:=y.ex;exact⟨_,fun i=>aDw (q1 i) (x1 i) (y1 i) hm,aCx (OV q2 x2 y2)⟩
theorem kL(x:ME K X a f)(he:∀(env:Env)(whole:Sem Value),isTrue a env whole=(do let v <- whole;standAt a.pos;holding [v] (truthy v)):=by intro _ _;rfl):MT K X a (gB f):=by
 obtain⟨t,x1,x2⟩:=x.ex;exact⟨_,fun i=>aEJ (x1 i) (he _),aFE x2⟩
theorem ZA(hK:∀i,(X i).K=K)(x:ME K X a f)(he:∀(env:Env)(whole:Sem Value),isTrue a env whole=(do let v <- whole;standAt a.pos;holding [v] (truthy v)):=by intro _ _;rfl):MT K X a (CG f):=by
 obtain⟨t,x1,x2⟩:=x.ex;exact⟨_,fun i=>aDB (hK i) (x1 i) (he _),aBS x2⟩
theorem gM{tg:Expr}{p:Pos}(hm:∀i,(X i).mg "range"=none)(x:MA K X [a] fa)(hg:∀i,Gl (X i) "range":=by intro _;rfl):MI K X tg (.Call (.Name "range" p) [a] [] pos) (dG fa):=by
 obtain⟨t,x1,x2⟩:=x.ex;exact⟨_,fun i=>TK (hg i) (hm i) (x1 i) (x.st.1 _),aBA x2⟩
theorem GR{tg:Expr}{p:Pos}(hm:∀i,(X i).mg "range"=none)(x:MA K X [a,b] fa)(hg:∀i,Gl (X i) "range":=by intro _;rfl):MI K X tg (.Call (.Name "range" p) [a,b] [] pos) (yP fa):=by
 obtain⟨t,x1,x2⟩:=x.ex;exact⟨_,fun i=>UR (hg i) (hm i) (x1 i) (by rw[x.st.1,x.st.2.1];rfl) (by rw[x.st.2.1];rfl),aCO x2⟩
theorem nW{tg:Expr}(hK:∀i,(X i).K=K)(x:ME K X a f):MI K X tg a (cV f):=by
 obtain⟨t,x1,x2⟩:=x.ex;exact⟨_,fun i=>RI (hK i) (x1 i),aHi x2⟩
theorem aY(i:Nat){x:Str}(hN:∀j,(X j).N.Nodup)(hi:∀j,(X j).N[i]?=some x:=by intro _;rfl)(hx:∀j,Loc (X j).env.scope x:=by intro _;first|exact Or.inl rfl|exact Or.inr rfl)(hf:∀j,(X j).fn x=true\/(X j).env.scope.names.lookup x=some .local:=by intro _;first|exact .inl rfl|exact .inr rfl):
 MG K X (.Name x pos) (hName i):=⟨_,fun j=>aCj (hN j) (hi j) (hx j) (hf j),GU⟩
theorem lH:MGs K X [] lA:=⟨_,fun _=>aDe,aBU⟩
theorem cB{gf:GF}{gs:GsF}(x:MG K X e gf)(y:MGs K X es gs)(hs:∀env:Env,(assignEach (e::es) env).map (·.2)=assign e env::(assignEach es env).map (·.2):=by intro _;rfl):MGs K X (e::es) (bG gf gs):=by
 obtain⟨t,x1,x2⟩:=x.ex;obtain⟨u,y1,y2⟩:=y.ex;exact⟨_,fun i=>VF (x1 i) (y1 i) (hs _),WH x2 y2⟩
theorem qM{gs:GsF}{k n:Nat}(hK:∀i,(X i).K=K)(hc:∀i,(X i).calm=true)(x:MGs K X es gs)(hn:∀env:Env,(assignEach es env).length=n:=by intro _;rfl)(hst:∀env:Env,(assignEach es env).findIdx? (·.1)=none:=by intro _;rfl):MG K X (.Tuple es k pos) (lD n gs):=by
 obtain⟨t,x1,x2⟩:=x.ex;exact⟨_,fun i=>aCU (hK i) (hc i) (x1 i) (hn _) (hst _),aFb x2⟩
theorem aAM{s:F3}(q:QS K X s)(x:ME K X a f)(y:ME K X b g) (hs:∀(env:Env)(v:Value),assign (.Subscript a b pos) env v=(do
 let ov <- holding [v] (eval a env);let iv <- holding [v,ov] (eval b env)
 standAt pos
 holding [v,ov,iv] (setItem ov iv v)
 release [v,ov,iv] []):=by intro _ _;rfl):MG K X (.Subscript a b pos) (hSub f g s):=by
 obtain⟨r,q1,q2⟩:=q.ex;obtain⟨t,x1,x2⟩:=x.ex;obtain⟨u,y1,y2⟩:=y.ex;exact⟨_,fun i=>aFi (x1 i) (y1 i) (q1 i) (hs _),aHH q2 x2 y2⟩
theorem jF:MF K X [] gO:=⟨_,fun _=>WG,aFY⟩
theorem rC(x:MT K X c ft):MF K X [c] ft:=by
 obtain⟨t,x1,x2⟩:=x.ex;exact⟨_,fun i=>XI (x1 i),x2⟩
abbrev LcI(ι:Type):Type:=ι×Addr×Shared×Hp×List Addr×List (Addr×Obj)
def mC(X:ι->Cx)(N':List Str)(scope:Scope):LcI ι->Cx:=fun j=>eZ (X j.1) N' scope j.2.1 j.2.2.1 j.2.2.2.1 j.2.2.2.2.1 j.2.2.2.2.2
variable{N':List Str}{cap:List (Option Nat)}{scope:Scope}{tg iter elt:Expr}{ifs:List Expr}{gf:GF}
theorem lR(hc:∀i,(X i).calm=true)(S:∀i,pX (X i) N' cap scope)(x:MI K X tg iter fa)(y:MG K (mC X N' scope) tg gf)(z:MF K (mC X N' scope) ifs ft)(w:ME K (mC X N' scope) elt f)(hs:∀(env:Env)(x:Value),foldedSetIterable iter env x=pure x:=by intro _ _;rfl):
 ME K X (.ListComp elt [⟨tg,iter,ifs,0⟩] scope pos) (fLc cap fa gf ft f):=by
 obtain⟨t,x1,x2⟩:=x.ex;obtain⟨u,y1,y2⟩:=y.ex;obtain⟨v,z1,z2⟩:=z.ex;obtain⟨o,w1,w2⟩:=w.ex;exact⟨_,fun i=>aIe (hc i) (S i) (x1 i) (fun C s H fp pn=>y1 (i,C,s,H,fp,pn)) (fun C s H fp pn=>z1 (i,C,s,H,fp,pn)) (fun C s H fp pn=>w1 (i,C,s,H,fp,pn)) (hs _),aJq x2 y2 z2 w2⟩
theorem rW(i:Nat){x':Str}{pos' pos'':Pos}(hN:∀j,(X j).N.Nodup)(hc:∀i,(X i).calm=true)(S:∀i,pX (X i) N' cap scope)(x:MI K X tg iter fa)(y:MG K (mC X N' scope) tg gf)(z:MF K (mC X N' scope) ifs ft)(w:ME K (mC X N' scope) elt f)
 (hix:∀j,(X j).N[i]?=some x':=by intro _;rfl) (hsw:∀j,swapsWith (.ListComp elt [⟨tg,iter,ifs,0⟩] scope pos) (some (.Name x' pos')) pos''.line (X j).env=pure true:=by intro _;rfl) (hx:∀j,(X j).env.scope.names.lookup x'=some .local:=by intro _;rfl) (hs:∀(env:Env)(x:Value),foldedSetIterable iter env x=pure x:=by intro _ _;rfl):
 MS K X (.Assign [.Name x' pos'] (.ListComp elt [⟨tg,iter,ifs,0⟩] scope pos) pos'') (aV (HU cap fa gf ft f) (hName i)):=by
 obtain⟨t,x1,x2⟩:=x.ex;obtain⟨u,y1,y2⟩:=y.ex;obtain⟨v,z1,z2⟩:=z.ex;obtain⟨o,w1,w2⟩:=w.ex;exact⟨_,fun j=>WD (hN j) (hix j) (hc j) (S j) (x1 j) (fun C s H fp pn=>y1 (j,C,s,H,fp,pn)) (fun C s H fp pn=>z1 (j,C,s,H,fp,pn)) (fun C s H fp pn=>w1 (j,C,s,H,fp,pn)) (hsw j) (hx j) (hs _),NR (aHK x2 y2 z2 w2) GU⟩
variable{st:Stmt}{sts:List Stmt}{sf sg:SF}
theorem fB:ML K X [] cX:=⟨_,fun _=>aDo,aCy⟩
theorem aN(x:MS K X st sf):ML K X [st] sf:=by
 obtain⟨t,x1,x2⟩:=x.ex;exact⟨_,fun i=>QW (x1 i),x2⟩
theorem aM(x:MS K X st sf)(y:ML K X sts sg):ML K X (st::sts) (aX sf sg):=by
 obtain⟨t,x1,x2⟩:=x.ex;obtain⟨u,y1,y2⟩:=y.ex;exact⟨_,fun i=>JQ (x1 i) (y1 i),aHQ x2 y2⟩
theorem bB(x:ME K X e f):MS K X (.Return (some e) pos) (bS f):=by
 obtain⟨t,x1,x2⟩:=x.ex;exact⟨_,fun i=>aAv (x1 i),aEK x2⟩
def GC:SF:=fun _ _=>none
theorem zS:MS K X st GC:=⟨aAB,fun _=>aAC,fun _ _ _ _ h=>by cases h⟩
theorem vB(x:ME K X e f)(hs:∀i,swapsWith e none pos.line (X i).env=pure false:=by intro _;rfl):MS K X (.Expr e pos) (oY f):=by
 obtain⟨t,x1,x2⟩:=x.ex;exact⟨_,fun i=>QE (x1 i) (hs i),aDI x2⟩
theorem fN{sts':List Stmt}(x:MT K X c ft)(y:ML K X sts sf)(z:ML K X sts' sg):MS K X (.If c sts sts' pos) (sIf ft sf sg):=by
 obtain⟨t,x1,x2⟩:=x.ex;obtain⟨u,y1,y2⟩:=y.ex;obtain⟨v,z1,z2⟩:=z.ex;exact⟨_,fun i=>aDV (x1 i) (y1 i) (z1 i),aHZ x2 y2 z2⟩
theorem KP(hp:∀i,PassesOwn (model (X i).prog (X i).w) (X i).A (X i).env (X i).xe)(x:MT K X c ft)(y:ML K X sts sf):MS K X (.While c sts [] pos) (tU ft sf):=by
 obtain⟨t,x1,x2⟩:=x.ex;obtain⟨u,y1,y2⟩:=y.ex;exact⟨_,fun i=>aBa (hp i) (x1 i) (y1 i),WC x2 y2⟩
theorem tV(hp:∀i,PassesOwn (model (X i).prog (X i).w) (X i).A (X i).env (X i).xe)(hc:∀i,(X i).calm=true)(x:MI K X tg iter fa)(y:MG K X tg gf)(z:ML K X sts sf)(hs:∀(env:Env)(x:Value),foldedSetIterable iter env x=pure x:=by intro _ _;rfl):MS K X (.For tg iter sts [] pos) (sE fa gf sf):=by
 obtain⟨t,x1,x2⟩:=x.ex;obtain⟨u,y1,y2⟩:=y.ex;obtain⟨v,z1,z2⟩:=z.ex;exact⟨_,fun i=>aGN (hp i) (hc i) (x1 i) (y1 i) (z1 i) (hs _),aFj x2 y2 z2⟩
theorem aZ(i:Nat){x':Str}{pos':Pos}(hN:∀j,(X j).N.Nodup)(x:ME K X e f)(hi:∀j,(X j).N[i]?=some x':=by intro _;rfl)(hx:∀j,Loc (X j).env.scope x':=by intro _;first|exact Or.inl rfl|exact Or.inr rfl)(hs:∀j,swapsWith e (some (.Name x' pos')) pos.line (X j).env=pure false:=by intro _;rfl)
 (hf:∀j,(X j).fn x'=true\/(X j).env.scope.names.lookup x'=some .local:=by intro _;first|exact .inl rfl|exact .inr rfl):MS K X (.Assign [.Name x' pos'] e pos) (aV f (hName i)):=by
 obtain⟨t,x1,x2⟩:=x.ex;exact⟨_,fun j=>aHA (hN j) (hi j) (hx j) (x1 j) (hs j) (hf j),NR x2 GU⟩
theorem LN(i j:Nat){x' y':Str}{px py pt pt2:Pos}{kt k2:Nat}(hc:∀j,(X j).calm=true)(hN:∀j,(X j).N.Nodup)(x:MA K X [a,b] fa)(hij:i≠j:=by decide)(hi:∀k,(X k).N[i]?=some x':=by intro _;rfl)(hj:∀k,(X k).N[j]?=some y':=by intro _;rfl)(hx:∀k,(X k).env.scope.names.lookup x'=some .local:=by intro _;rfl)(hy:∀k,(X k).env.scope.names.lookup y'=some .local:=by intro _;rfl)
 (h1:∀k,swappedStores [.Tuple [.Name x' px,.Name y' py] kt pt] (.Tuple [a,b] k2 pt2) (X k).env=pure (some [x',y']):=by intro _;rfl) (h2:∀k,swapsWithSole [.Tuple [.Name x' px,.Name y' py] kt pt] (.Tuple [a,b] k2 pt2) pos.line (X k).env=pure false:=by intro _;rfl):
 MS K X (.Assign [.Tuple [.Name x' px,.Name y' py] kt pt] (.Tuple [a,b] k2 pt2) pos) (BM i j fa):=by
 obtain⟨t,x1,x2⟩:=x.ex;exact⟨_,fun k=>aGW (hc k) (hN k) (hi k) (hj k) hij (hx k) (hy k) (x1 k) (h1 k) (h2 k),aGx x2⟩
theorem aAj(x:ME K X e f)(y:MG K X tg gf)(h1:∀k,swapsWithSole [tg] e pos.line (X k).env=pure false:=by intro _;rfl)(h2:∀k,swappedStores [tg] e (X k).env=pure none:=by intro _;rfl)(h3:∀env:Env,(assignEach [tg] env).map (·.2)=[assign tg env]:=by intro _;rfl):MS K X (.Assign [tg] e pos) (aV f gf):=by
 obtain⟨t,x1,x2⟩:=x.ex;obtain⟨u,y1,y2⟩:=y.ex;exact⟨_,fun k=>aHc (x1 k) (y1 k) (h1 k) (h2 k) (h3 _),NR x2 y2⟩
theorem iG(hK:∀i,(X i).K=K:=by intro _;rfl):Q2 K X (binaryOp .Add) dZ:=⟨_,fun i=>aJS (hK i),aDH⟩
theorem RD:Q2 K X (binaryOp .Sub) CC:=⟨_,fun _=>aFg,aGE⟩
theorem yW:Q2 K X (binaryOp .Mult) BR:=⟨_,fun _=>aDy,aGA⟩
theorem gP:Q2 K X (binaryOp .FloorDiv) cZ:=⟨_,fun _=>ZV,aDQ⟩
theorem dF:Q2 K X (binaryOp .Mod) cE:=⟨_,fun _=>aGQ,aHD⟩
theorem YX:Q2 K X (binaryOp .Pow) LL:=⟨_,fun _=>aGa,aHj⟩
theorem EO:Q1 K X (unaryOp .USub) sG:=⟨_,fun _=>aGt,aFt⟩
theorem AL:Q2 K X (compareOp .Lt) ltI:=⟨_,fun _=>aJz,aIm⟩
theorem VO:Q2 K X (compareOp .LtE) leI:=⟨_,fun _=>aIL,aIZ⟩
theorem aAO:Q2 K X (compareOp .Gt) gtI:=⟨_,fun _=>aIk,aJF⟩
theorem aHU:Q2 K X (compareOp .GtE) geI:=⟨_,fun _=>aJv,aHX⟩
theorem sD(hK:∀i,(X i).K=K)(hu:∀i,(X i).A.units+64<cLine):Q2 K X (compareOp .Eq) (eqX false):=⟨_,fun i=>kEq (hK i) (hu i),YJ⟩
theorem OL(hK:∀i,(X i).K=K)(hu:∀i,(X i).A.units+64<cLine):Q2 K X (compareOp .NotEq) (eqX true):=⟨_,fun i=>kNe (hK i) (hu i),aFo⟩
theorem aKa(hK:∀i,(X i).K=K)(hu:∀i,(X i).A.in1.units+64<cLine):Q2 K X (compareOp .In) (inD false):=⟨_,fun i=>kIn (hK i) (hu i),aDY⟩
theorem PD(hK:∀i,(X i).K=K)(hu:∀i,(X i).A.in1.units+64<cLine):Q2 K X (compareOp .NotIn) (inD true):=⟨_,fun i=>aGe (hK i) (hu i),aDY⟩
theorem gK(hK:∀i,(X i).K=K:=by intro _;rfl):QI K X ixF:=⟨_,fun i=>kIx (hK i),aFx⟩
theorem HX(hK:∀i,(X i).K=K:=by intro _;rfl):QN K X (.builtin "len") oQ:=⟨_,fun i=>aJR (hK i),aCw⟩
theorem LZ(hK:∀i,(X i).K=K):QN K X (.type "list") pP:=⟨_,fun i=>aEu (hK i),ZZ⟩
theorem nP(hK:∀i,(X i).K=K):QN K X (.type "tuple") eE:=⟨_,fun i=>aHL (hK i),UA⟩
theorem RE(hK:∀i,(X i).K=K)(hc:∀i,(X i).calm=true):QN K X (.builtin "all") wH:=⟨_,fun i=>aJT (hK i) (hc i),aDO⟩
theorem aEA:QS K X EY:=⟨_,fun _=>set_list,aHd⟩
end
section
variable{P:Program}{w:World}{K:Fg}{mg:Str->Option Value}
theorem Def.okG{base:Heap}{x:Str}{st:Stmt}{N ps:List Str}{k:Nat}{b:SF}{q:Bool}(D:Def K mg x st)(S:aQ N ps (aF st))
 (hb:∀(kV doc pm:Value)(an:Option Addr)(cdv ct:Value)(us:List Value),us.length=ps.length->bindArgs (PySem.W.fnOf x x (eG st) (bJ st) (aF st) .none kV doc pm an cdv ct) ⟨us,[]⟩=pure (ps.zip us))
 (hbody:∀(f:Addr)(cdv:Value)(A:Around)(outer:List Env)(s:Shared)(H:Hp)(E:XK),cA k (A.deeper (envOfC x (aF st) s.heap.objs.size f cdv)) q->
  ML K (fun _:Unit=>(mL CX0 P w K mg base N x (aF st) f cdv A outer s H E q).nox) (bJ st) b):Callee P w K mg base (k+1) x ps (spM K (fnF ps.length N.length b)) q:=
 D.okM S hb fun f cdv A outer s H E hr=>by
  obtain⟨t,h1,h2⟩:=(hbody f cdv A outer s H E hr).ex;exact⟨t,h1 (),h2⟩
theorem Def.okLG{x p:Str}{st:Stmt}{N:List Str}{k:Nat}{b:SF}{F:FN}(D:Def K mg x st)(S:aQ N [p] (aF st))(hF:F=fnF 1 N.length b)
 (hb:∀(kV doc pm:Value)(an:Option Addr)(cdv ct:Value)(us:List Value),us.length=[p].length->bindArgs (PySem.W.fnOf x x (eG st) (bJ st) (aF st) .none kV doc pm an cdv ct) ⟨us,[]⟩=pure ([p].zip us))
 (hbody:∀(base:Heap)(f:Addr)(cdv:Value)(A:Around)(outer:List Env)(s:Shared)(H:Hp)(E:XK),cA k (A.deeper (envOfC x (aF st) s.heap.objs.size f cdv))->
  ML K (fun _:Unit=>(mL CX0 P w K mg base N x (aF st) f cdv A outer s H E).nox) (bJ st) b):
 ∃f fd,mg x=some (.ref f)/\(∀(s:Shared)(u:Value),BindsTo s fd ⟨[u],[]⟩ [(p,u)])/\∀base,kW P w K mg base CX0 (k+1) f fd [p] (spM K F):=
 D.okL S hF hb fun base f cdv A outer s H E hr=>by
  obtain⟨t,h1,h2⟩:=(hbody base f cdv A outer s H E hr).ex;exact⟨t,h1 (),h2⟩
end
end L2
namespace HT
open PySem PyProof.Rows PySem.Spec
section
variable{prog:Program}{w:World}{A:Around}{E:Value->Shared->Prop}{s:Shared}
theorem getItem_tuple_whole{t sl:Addr}{items:Array Value}{vl vu:Value}{lo hi:Option Int}{Q:Value->Shared->Prop}(ht:IsTup s.heap t items)(hs:s.heap.IsSliceOf sl vl vu .none)(pl:IsPart vl lo)(pu:IsPart vu hi)
 (hw:sIx items.size 0 lo=0/\sIx items.size items.size hi=items.size) (h:Q (.ref t) s):wpAny (model prog w) A (getItem (.ref t) (.ref sl)) Q E s:=by
 obtain⟨os,hos,hcs,hds⟩:=id hs;have hTs:s.TypeIs (.ref sl) "slice":=⟨os,hos,hcs⟩;unfold getItem
 try with_reducible refine E7 ?_
 first|refine A3 (A6 ?_)|skip
 refine A3 (wpAny_sequenceKey ht.typeIs (by decide) ?_)
 refine A3 (E6 (name:=Str.ofString "__getitem__") ht.typeIs J8
  (E4 J8 ht.typeIs entry_tuple_getitem ?_ (args_tuple_getitem _ _)))
 show wpAny _ _ (Builtin.Tuple.tupleItemsOf (.ref t) >>= _) _ _ s;refine A3 (tupleItemsOf_ ht ?_);refine A3 (Y7 hTs ?_);rw[A9 (by decide)];refine A3 (nI hs pl pu ?_)
 have hyes:(((sIx items.size 0 lo:Nat):Int)==0&&(1:Int)==1&&(sIx items.size items.size hi-sIx items.size 0 lo)==items.size)=true:=by
  rw[hw.1,hw.2];simp
 show wpAny _ _ (if (((sIx items.size 0 lo:Nat):Int)==0&&(1:Int)==1&&(sIx items.size items.size hi-sIx items.size 0 lo)==items.size)=true then _ else _) _ _ s;rw[A9 hyes];refine A3 (m:=Builtin.Tuple.tupleIsExact (.ref t)) ?_;unfold Builtin.Tuple.tupleIsExact;refine A3 (Y7 ht.typeIs (A6 ?_));rw[A9 (by decide)];exact A3 (A0k (A6 ⟨_,rfl,A6 h⟩))
end
end HT
namespace L2
variable{W:Wd}{M:Sto}{H:Hp}{K:Fg}{apos cpos pos:Pos}
open PySem PySem.Spec PyProof.Rows
def aID(K:Fg):V->Option Int->Option Int->Hp->VK->Prop:=fun x lo hi H Q=>∃a xs,x=.ref a/\SqT K H a xs/\(HT.sIx xs.length 0 lo=0/\HT.sIx xs.length xs.length hi=xs.length)/\Q (.ref a) H
theorem aAQ{X:Cx}:SlR X (aID X.K):=by
 intro pins s σ H x v vl vu lo hi sl Q I rx hs pl pu h;obtain⟨a,xs,rfl,hx,hw,q⟩:=h;cases rx;obtain⟨its,r,ht,hz⟩:=I.tuple hx;have hlen:its.toArray.size=xs.length:=by rw[C0];exact r.length.symm
 refine⟨"tuple",_,PyProof.Rows.slot_tuple_getitem.lookup,ht.typeIs,?_⟩;exact HT.getItem_tuple_whole ht hs pl pu (by rw[hlen];exact hw) ⟨.ref a,H,I,rfl,q⟩
def dE{α:Type}(xs:List α)(lo hi:Option Int):List α:=(xs.drop (HT.sIx xs.length 0 lo)).take (HT.sIx xs.length xs.length hi-HT.sIx xs.length 0 lo)
abbrev OF:=Ga->Sto->Option (Option Int×Sto)
def bW:OF:=fun _ M=>some (none,M)
def asI:CD->Option Int
 |.d (.int i)=>some i
 |_=>none
def dQ(f:EF):OF:=fun γ M=>(f γ M).bind fun r=>(asI r.1).bind fun i=>some (some i,r.2)
def slF(x:CD)(lo hi:Option Int)(M:Sto):Option (CD×Sto):=match x with
 |.d (.list ds)=>some (.d (.list (dE ds lo hi)),M)
 |.d (.tuple ds)=>some (.d (.tuple (dE ds lo hi)),M)
 |.c i=>match M[i]? with
  |some (.lst xs)=>(lB (dE xs lo hi)).bind fun ds=>some (.d (.list ds),M)
  |_=>none
 |_=>none
def fSl(f:EF)(l u:OF):EF:=fun γ M=>(f γ M).bind fun r=>(l γ r.2).bind fun p=>(u γ p.2).bind fun q=>slF r.1 p.1 q.1 q.2
def aFZ(K:Fg):V->Option Int->Option Int->Hp->VK->Prop:=fun x lo hi H Q=>aIX K x lo hi H Q\/aJc K x lo hi H Q\/aID K x lo hi H Q
theorem kSl{X:Cx}(h:X.K=K):SlR X (aFZ K):=by subst h;exact sl_list.or (sl_tup.or aAQ)
section
variable{K:Fg}
def SO(K:Fg)(t:TO)(f:OF):Prop:=∀γ M b M',f γ M=some (b,M')->∀(W:Wd)(H:Hp)(σ:St)(Q:Option Int->Hp->Prop),Good K W M H->cH K W γ σ->(∀W' H',W.Ext W'->Good K W' M' H'->Q b H')->t σ H Q
theorem aCq:SO K QM bW:=by
 intro γ M x M' hh W H σ Q G R k;cases hh;exact k W H (.refl _) G
theorem aGP{x:CD}{i:Int}(h:asI x=some i):x=.d (.int i):=by
 cases x with
 |c n=>cases h
 |t n=>cases h
 |f n=>cases h
 |g _=>cases h
 |d x=>cases x<;>first|cases h;rfl|cases h
theorem aCQ{ta:TE}{f:EF}(a:SE K ta f):SO K (aEt ta) (dQ f):=by
 intro γ M x M' hh W H σ Q G R k;obtain⟨⟨y,M1⟩,h1,hh⟩:=aI hh;obtain⟨i,h2,hh⟩:=aI hh;cases hh;refine a _ _ _ _ h1 W H σ _ G R fun v W1 H1 e1 G1 r1=>?_;have hy:y=_:=aGP h2;subst hy;exact⟨i,r1,k W1 H1 e1 G1⟩
theorem aJ.drop{H:Hp}:∀{ds:List PyData}{vs:List V}(n:Nat),aJ K H ds vs->aJ K H (ds.drop n) (vs.drop n)
 |_,_,0=>fun h=>h
 |[],vs,n+1=>fun h=>by rw[show vs=[]from h];rfl
 |d::ds,vs,n+1=>fun h=>by
  obtain⟨v,r,rfl,_,h3⟩:=h;exact aJ.drop n h3
theorem aJ.take{H:Hp}:∀{ds:List PyData}{vs:List V}(n:Nat),aJ K H ds vs->aJ K H (ds.take n) (vs.take n)
 |_,_,0=>fun h=>rfl
 |[],vs,n+1=>fun h=>by rw[show vs=[]from h];rfl
 |d::ds,vs,n+1=>fun h=>by
  obtain⟨v,r,rfl,h2,h3⟩:=h;exact⟨v,r.take n,rfl,h2,aJ.take n h3⟩
theorem aJ.cut{ds:List PyData}{vs:List V}(h:aJ K H ds vs)(lo hi:Option Int):aJ K H (dE ds lo hi) (wG vs lo hi):=by
 unfold dE wG;rw[h.length];exact(h.drop _).take _
theorem AZ{α β:Type}{R:α->β->Prop}:∀{xs:List α}{ys:List β}(n:Nat),Paired R xs ys->Paired R (xs.drop n) (ys.drop n)
 |_,_,0,h=>h
 |_,_,_+1,.nil=>.nil
 |_,_,n+1,.cons _ t=>AZ n t
theorem tK{α β:Type}{R:α->β->Prop}:∀{xs:List α}{ys:List β}(n:Nat),Paired R xs ys->Paired R (xs.take n) (ys.take n)
 |_,_,0,h=>.nil
 |_,_,_+1,.nil=>.nil
 |_,_,n+1,.cons r t=>.cons r (tK n t)
theorem UU{xs:List CD}{vs:List V}(h:bP K W xs vs)(lo hi:Option Int):bP K W (dE xs lo hi) (wG vs lo hi):=by
 unfold dE wG;rw[Paired.len h];exact tK _ (AZ _ h)
theorem WO{x:CD}{lo hi:Option Int}{z:CD}{M':Sto}(h:slF x lo hi M=some (z,M')){v:V}{Q:VK}(G:Good K W M H)(rx:bK K W x v)(k:∀w W' H',W.Ext W'->Good K W' M' H'->bK K W' z w->Q w H'):aFZ K v lo hi H Q:=by
 unfold slF at h;split at h
 .rename_i ds;cases h;obtain⟨p,us,rfl,hq,hr⟩:=(show ∃a us,_=V.ref a/\SqL K W.F a us/\aJ K W.F ds us from rx);refine .inl ⟨p,us,rfl,G.fh.seq hq,fun l hl=>?_⟩;obtain⟨e2,G2⟩:=G.lay (o:=.lst (wG us lo hi)) hl;exact k _ _ _ e2 G2 ⟨l,_,rfl,SqL.of aO,aJ.same e2.ff _ _ (hr.cut lo hi)⟩
 .rename_i ds;cases h;obtain⟨p,us,rfl,hq,hr⟩:=(show ∃a us,_=V.ref a/\SqT K W.F a us/\aJ K W.F ds us from rx);by_cases hw:HT.sIx us.length 0 lo=0/\HT.sIx us.length us.length hi=us.length
  .refine .inr (.inr ⟨p,us,rfl,G.fh.seqT hq,hw,?_⟩)
   have e:dE ds lo hi=ds:=by
    unfold dE;rw[hr.length,hw.1,hw.2,<- hr.length];simp
   rw[e]at k;exact k _ W H (.refl _) G ⟨p,us,rfl,hq,hr⟩
  .refine .inr (.inl ⟨p,us,rfl,G.fh.seqT hq,hw,fun l hl=>?_⟩);obtain⟨e2,G2⟩:=G.lay (o:=.tup (wG us lo hi)) hl;exact k _ _ _ e2 G2 ⟨l,_,rfl,SqT.of aO,aJ.same e2.ff _ _ (hr.cut lo hi)⟩
 .rename_i i;split at h
  .rename_i xs hx;obtain⟨ds,h1,h⟩:=aI h;cases h;obtain⟨us,hv,hr⟩:=G.lstAt hx;rw[rx.2];refine .inl ⟨_,us,rfl,SqL.of hv,fun l hl=>?_⟩;obtain⟨e2,G2⟩:=G.lay (o:=.lst (wG us lo hi)) hl;exact k _ _ _ e2 G2 ⟨l,_,rfl,SqL.of aO,aJ.same e2.ff _ _ (fL h1 (UU hr lo hi))⟩
  .cases h
 .cases h
theorem aHY{ta:TE}{f:EF}{tl th:TO}{l u:OF}(a:SE K ta f)(b:SO K tl l)(c:SO K th u):SE K (tSl (aFZ K) ta tl th) (fSl f l u):=by
 intro γ M x M' hh W H σ Q G R k;obtain⟨⟨y,M1⟩,h1,hh⟩:=aI hh;obtain⟨⟨p,M2⟩,h2,hh⟩:=aI hh;obtain⟨⟨q,M3⟩,h3,hh⟩:=aI hh;refine a _ _ _ _ h1 W H σ _ G R fun v W1 H1 e1 G1 r1=>?_;refine b _ _ _ _ h2 W1 H1 σ _ G1 (R.up e1) fun W2 H2 e2 G2=>?_;refine c _ _ _ _ h3 W2 H2 σ _ G2 (R.up (e1.trans e2)) fun W3 H3 e3 G3=>?_;exact WO hh G3 (r1.up (e2.trans e3)) fun w W4 H4 e4 G4 r4=>k w W4 H4 (((e1.trans e2).trans e3).trans e4) G4 r4
def intF:FN:=fun xs M=>match xs with
 |[.d (.int i)]=>some (.d (.int i),M)
 |[.d (.bool b)]=>some (.d (.int (if b then 1 else 0)),M)
 |_=>none
def tyB(T:String)(M:Sto):CD->Bool
 |.d (.list _)=>T=="list"
 |.d (.str _)=>T=="str"
 |.c i=>match M[i]? with
  |some (.lst _)=>T=="list"
  |some (.dk _)=>T=="dict"
  |some (.dt _)=>T=="dict"
  |_=>false
 |_=>false
theorem XH{T:String}{x:CD}{v:V}(h:tyB T M x=true)(G:Good K W M H)(r:bK K W x v):tyV K T v H:=by
 unfold tyB at h;split at h
 .rename_i ds;obtain⟨p,us,rfl,hq,hr⟩:=(show ∃a us,_=V.ref a/\SqL K W.F a us/\aJ K W.F ds us from r);exact .inl ⟨eq_of_beq h,us,G.fh.seq hq⟩
 .rename_i x;rw[show v=.str x from r];exact eq_of_beq h
 .rename_i i;rw[r.2];split at h
  .rename_i xs hx;obtain⟨us,hv,hr⟩:=G.lstAt hx;exact .inl ⟨eq_of_beq h,us,SqL.of hv⟩
  .rename_i kvs hx;obtain⟨_,o,g2,g3⟩:=G.cs i _ hx (by intro z;cases z);cases o with
   |dK us=>exact .inr (.inr (.inl ⟨eq_of_beq h,.inl ⟨us,g2⟩⟩))
   |_=>exact False.elim g3
  .rename_i kvs hx;obtain⟨_,o,g2,g3⟩:=G.cs i _ hx (by intro z;cases z);cases o with
   |dT us=>exact .inr (.inr (.inl ⟨eq_of_beq h,.inr ⟨us,g2⟩⟩))
   |_=>exact False.elim g3
  .cases h
 .cases h
abbrev FM:=CD->List CD->Sto->Option (CD×Sto)
def bQ(T:String)(h:FM)(f:EF)(fa:AF):EF:=fun γ M=>(f γ M).bind fun r=>if tyB T r.2 r.1=true then(fa γ r.2).bind fun q=>h r.1 q.1 q.2 else none
def PM(K:Fg)(r:V->List V->Hp->VK->Prop)(f:FM):Prop:=∀x xs M z M',f x xs M=some (z,M')->∀(W:Wd)(H:Hp)(v:V)(vs:List V)(Q:VK),Good K W M H->bK K W x v->bP K W xs vs->(∀w W' H',W.Ext W'->Good K W' M' H'->bK K W' z w->Q w H')->r v vs H Q
theorem aBw{T:String}{r:V->List V->Hp->VK->Prop}{h:FM}{ta:TE}{f:EF}{tA:TA}{fa:AF}(p:PM K r h)(a:SE K ta f)(b:SA K tA fa):SE K (tBM K T r ta tA) (bQ T h f fa):=by
 intro γ M x M' hh W H σ Q G R k;obtain⟨⟨y,M1⟩,h1,hh⟩:=aI hh;by_cases hT:tyB T M1 y=true
 .have hh:(if tyB T M1 y=true then(fa γ M1).bind fun q=>h y q.1 q.2 else none)=some (x,M'):=hh;rw[A9 hT]at hh;obtain⟨⟨ys,M2⟩,h2,hh⟩:=aI hh;refine a _ _ _ _ h1 W H σ _ G R fun v W1 H1 e1 G1 r1=>⟨XH hT G1 r1,?_⟩;refine b _ _ _ _ h2 W1 H1 σ _ G1 (R.up e1) fun vs W2 H2 e2 G2 r2=>?_;exact p _ _ _ _ _ hh W2 H2 v vs Q G2 (r1.up e2) r2 fun w W3 H3 e3 G3 r3=>k w W3 H3 ((e1.trans e2).trans e3) G3 r3
 .have hh:(if tyB T M1 y=true then(fa γ M1).bind fun q=>h y q.1 q.2 else none)=some (x,M'):=hh;rw[B2 hT]at hh;cases hh
theorem KI{T:String}{r:V->List V->Hp->VK->Prop}{h:FM}{ta:TE}{f:EF}(p:PM K r h)(a:SE K ta f):SE K (aIf K T r ta) (bQ T h f aH):=by
 intro γ M x M' hh W H σ Q G R k;obtain⟨⟨y,M1⟩,h1,hh⟩:=aI hh;have hh:(if tyB T M1 y=true then h y [] M1 else none)=some (x,M'):=hh;by_cases hT:tyB T M1 y=true
 .rw[A9 hT]at hh;refine a _ _ _ _ h1 W H σ _ G R fun v W1 H1 e1 G1 r1=>⟨XH hT G1 r1,?_⟩;exact p _ _ _ _ _ hh W1 H1 v [] Q G1 r1 .nil fun w W3 H3 e3 G3 r3=>k w W3 H3 (e1.trans e3) G3 r3
 .rw[B2 hT]at hh;cases hh
def dU:FM:=fun x ys M=>match x,ys with
 |.c i,[y]=>match M[i]? with
  |some (.lst xs)=>if xs.length<sizeLine then some (.d .none,M.set i (.lst (xs++[y])))else none
  |_=>none
 |_,_=>none
theorem SJ:PM K QD dU:=by
 intro x ys M z M' h W H v vs Q G rx rs k;unfold dU at h;split at h
 .rename_i i y;split at h
  .rename_i xs hx;by_cases hl:xs.length<sizeLine
   .rw[A9 hl]at h;cases h;obtain⟨us,hv,hr⟩:=G.lstAt hx;rcases rs with _|⟨r1,_|_⟩;refine⟨W.α i,us,_,rx.2,rfl,hv,by rw[<- Paired.len hr];exact hl,?_⟩;exact k _ W _ (.refl _) (G.set hx (by intro q;cases q) (c':=.lst (xs++[y])) (show bP K W _ _ from Paired.app hr (.cons r1 .nil))) rfl
   .rw[B2 hl]at h;cases h
  .cases h
 .cases h
def iD:FM:=fun x ys M=>match x,ys with
 |.c i,[]=>match M[i]? with
  |some (.lst xs)=>(xs[xs.length-1]?).bind fun y=>some (y,M.set i (.lst xs.dropLast))
  |_=>none
 |_,_=>none
theorem zR{α β:Type}{R:α->β->Prop}{xs:List α}{ys:List β}(h:Paired R xs ys):Paired R xs.dropLast ys.dropLast:=by
 rw[List.dropLast_eq_take,List.dropLast_eq_take,Paired.len h];exact tK _ h
theorem aGU:PM K aJy iD:=by
 intro x ys M z M' h W H v vs Q G rx rs k;unfold iD at h;split at h
 .rename_i i;split at h
  .rename_i xs hx;obtain⟨y,h1,h⟩:=aI h;cases h;obtain⟨us,hv,hr⟩:=G.lstAt hx;obtain⟨u,hu,ru⟩:=Paired.get hr h1;cases rs;refine⟨W.α i,us,u,rx.2,rfl,hv,by rw[<- Paired.len hr];exact hu,?_⟩;exact k _ W _ (.refl _) (G.set hx (by intro q;cases q) (c':=.lst xs.dropLast) (show bP K W _ _ from zR hr)) ru
  .cases h
 .cases h
end
section
variable{ι:Type}{K:Fg}{X:ι->Cx}{a b c e o:Expr}{es:List Expr}{f g h:EF}{fa:AF}{pos:Pos}
structure MO(K:Fg)(X:ι->Cx)(e:Option Expr)(f:OF):Prop where
 ex:∃t,(∀i,PO (X i) e t)/\SO K t f
theorem mD:MO K X none bW:=⟨_,fun _=>aDg,aCq⟩
theorem jW(x:ME K X e f):MO K X (some e) (dQ f):=by
 obtain⟨t,x1,x2⟩:=x.ex;exact⟨_,fun i=>aBI (x1 i),aCQ x2⟩
theorem wW{lo hi:Option Expr}{l u:OF}{p2:Pos}(hK:∀i,(X i).K=K)(x:ME K X a f)(y:MO K X lo l)(z:MO K X hi u):ME K X (.Subscript a (.Slice lo hi none p2) pos) (fSl f l u):=by
 obtain⟨t,x1,x2⟩:=x.ex;obtain⟨t',y1,y2⟩:=y.ex;obtain⟨t'',z1,z2⟩:=z.ex;exact⟨_,fun i=>XU (kSl (hK i)) (x1 i) (y1 i) (z1 i),aHY x2 y2 z2⟩
theorem rN(hK:∀i,(X i).K=K)(x:ME K X o f)(y:MA K X [e] fa)(hb:∀env:Env,attributeBase o "append" env (eval o env)=eval o env:=by intro _;rfl)(hl:(apos.endLine==cpos.line)=true:=by rfl):
 ME K X (.Call (.Attribute o "append" apos) [e] [] cpos) (bQ "list" dU f fa):=by
 obtain⟨t,x1,x2⟩:=x.ex;obtain⟨u,y1,y2⟩:=y.ex;refine⟨_,fun i=>?_,aBw SJ x2 y2⟩;have:=aJb PySem.F.plainAttrs_list PySem.F.slot_list_append PySem.F.type_list_append UQ (x1 i) (y1 i) (apos:=apos) (cpos:=cpos) (hb _) (by rw[y.st.1];rfl) hl (y.st.1 _) (y.st.2.plain _ _);rw[hK i]at this;exact this
theorem mF(hK:∀i,(X i).K=K)(x:ME K X o f)(hb:∀env:Env,attributeBase o "pop" env (eval o env)=eval o env:=by intro _;rfl)(hl:(apos.endLine==cpos.line)=true:=by rfl):
 ME K X (.Call (.Attribute o "pop" apos) [] [] cpos) (bQ "list" iD f aH):=by
 obtain⟨t,x1,x2⟩:=x.ex;refine⟨_,fun i=>?_,KI aGU x2⟩;have:=YD PySem.F.plainAttrs_list PySem.F.slot_list_pop PySem.F.type_list_pop aFD (x1 i) (apos:=apos) (cpos:=cpos) (hb _) hl;rw[hK i]at this;exact this
end
def aEs(K:Fg):List V->Hp->VK->Prop:=fun xs H Q=>∃x d,xs=[x]/\Rep K H d x/\d.showable=true/\d.depth<=64/\d.shown.length<=sizeLine/\Q (.str d.shown) H
theorem aJn{X:Cx}(hK:X.K=K)(hg:X.A.guards=some [])(hu:X.A.units+200<cLine):eU X (.builtin "repr") (aEs K):=by
 subst hK;intro pins s σ H xs us Q I r h;obtain⟨x,d,rfl,hd,hs,hp,hz,q⟩:=h;obtain⟨u,rfl,ru⟩:=vals1 r
 have big:∀a,u=.ref a->wpAny (model X.prog X.w) X.A (call (.builtin "repr") [u]) (EP X pins σ Q) X.xe s:=fun a e=>by
  subst e;obtain⟨as,hr,hn⟩:=Rep.reads' I d x _ hd ru;exact repr_of_reads' hr hs (fun _=>hn) hg (by omega) (fun _ _ e=>e) (fun h' u' tk hk=>⟨.str d.shown,H,I.kept (h':=h') (t':=tk) hk,⟨_,rfl⟩,q⟩) hz
 cases d with
 |none=>
  rw[show x=.non from hd]at ru;cases (show u=Value.none from ru);exact PySem.P.repr_of_none ⟨.str _,H,I.tok _,⟨_,rfl⟩,q⟩
 |bool b=>
  rw[show x=.bl b from hd]at ru;cases (show u=Value.bool b from ru);refine PySem.P.repr_of_bool ⟨.str _,H,I.tok _,⟨_,rfl⟩,?_⟩;cases b<;>exact q
 |int i=>
  rw[show x=.int i from hd]at ru;obtain⟨t,rfl⟩:=(show ∃t,u=Value.int i t from ru);exact PySem.P.repr_of_int (C9 hs) ⟨.str _,H,I.tok _,⟨_,rfl⟩,q⟩
 |str y=>
  rw[show x=.str y from hd]at ru;obtain⟨t,rfl⟩:=(show ∃t,u=Value.str y t from ru);exact PySem.P.repr_of_str ⟨.str _,H,I.tok _,⟨_,rfl⟩,q⟩ hz
 |list ds=>obtain⟨a,vs,e,_,_⟩:=hd;subst e;exact big a ru
 |tuple ds=>obtain⟨a,vs,e,_,_⟩:=hd;subst e;exact big a ru
 |dict ds=>obtain⟨a,vs,e,_,_⟩:=hd;subst e;exact big a ru
def rZ(d:PyData):Bool:=d.showable&&decide (d.depth<=64)&&decide (d.shown.length<=sizeLine)
def QZ:FN:=fun xs M=>match xs with
 |[.d x]=>if rZ x=true then some (.d (.str x.shown),M)else none
 |_=>none
theorem cA.u200{k:Nat}{A:Around}(r:cA k A):A.units+200<cLine:=by have:=r.un;omega
theorem Good.freeze(g:Good K W M H){i:Nat}{c:Cell}{o':HO}(hi:M[i]?=some c)(hc:c≠.dead):
 W.Ext { W with F:=upd W.F (W.α i) o' }/\Good K { W with F:=upd W.F (W.α i) o' } (M.set i .dead) (upd H (W.α i) o'):=by
 obtain⟨h1,o,h2,h3⟩:=g.cs i c hi hc;have lt:i<M.length:=(List.getElem?_eq_some_iff.mp hi).1;have e:W.Ext { W with F:=upd W.F (W.α i) o' }:=⟨iN.upd h1,B0 _,fun _ _=>rfl⟩
 have at_:∀j d,(M.set i .dead)[j]?=some d->d≠.dead->j≠i/\M[j]?=some d:=fun j d h hd=>by
  by_cases q:i=j
  .subst q;rw[F5 lt]at h;exact absurd (E2 h).symm hd
  .rw[F6 q]at h;exact⟨fun z=>q z.symm,h⟩
 refine⟨e,?_,by show W.n=_;rw[g.n,U2],fun j d hj hd=>?_,fun j k d1 d2 hj hk e1 e2 he=>?_⟩
 .intro b u hb;have hb:upd W.F (W.α i) o' b=some u:=hb;by_cases q:b=W.α i
  .subst q;rw[aO]at hb;rw[aO];exact hb
  .rw[aL q]at hb;rw[aL q];exact g.fh b u hb
 .obtain⟨q,h⟩:=at_ j d hj hd;obtain⟨k1,u,k2,k3⟩:=g.cs j d h hd;have ne:W.α j≠W.α i:=fun z=>q (g.inj j i d c h hi hd hc z);exact⟨by show upd W.F (W.α i) o' (W.α j)=none;rw[aL ne];exact k1,u,by rw[aL ne];exact k2,k3.up e⟩
 .exact g.inj j k d1 d2 (at_ j d1 hj e1).2 (at_ k d2 hk e2).2 e1 e2 he
def zK:EF:=fun _ M=>some (.d (.dict []),M)
theorem ZH:SE K WB zK:=by
 intro γ M x M' hh W H σ Q G R k;cases hh;intro p hp;obtain⟨e2,G2⟩:=G.lay (o:=.dK []) hp;exact k _ _ _ e2 G2 ⟨p,[],rfl,aO,rfl⟩
def GH:List (EF×EF)->Ga->Sto->Option (List (CD×CD)×Sto)
 |[],_,M=>some ([],M)
 |(f,g)::r,γ,M=>(f γ M).bind fun a=>(g γ a.2).bind fun b=>(GH r γ b.2).bind fun q=>some ((a.1,b.1)::q.1,q.2)
def keyOf:CD->Option Key
 |.d (.int i)=>some (.inl i)
 |.d (.str x)=>some (.inr x)
 |_=>none
def keyed:List (CD×CD)->Option (List (Key×PyData))
 |[]=>some []
 |(k,.d x)::r=>(keyOf k).bind fun k'=>(keyed r).bind fun q=>some ((k',x)::q)
 |_=>none
def EJ(fs:List (EF×EF)):EF:=fun γ M=>(GH fs γ (M++[.dk []])).bind fun r=>match r.2[M.length]? with
 |some (.dk [])=>(keyed r.1).bind fun kvs=>if kvs.length<=15/\(kvs.map (·.1)).Nodup then some (.d (.dict (kvs.map fun p=>(tY p.1,p.2))),r.2.set M.length .dead)else none
 |_=>none
section
variable{K:Fg}
def SPs(K:Fg):List (TE×TE)->List (EF×EF)->Prop:=Paired fun t f=>SE K t.1 f.1/\SE K t.2 f.2
theorem ZO:∀{ts:List (TE×TE)}{fs:List (EF×EF)},SPs K ts fs->∀{γ:Ga}{M:Sto}{xs:List (CD×CD)}{M':Sto},GH fs γ M=some (xs,M')->∀{W:Wd}{H:Hp}{σ:St}{Q:List (V×V)->Hp->Prop},Good K W M H->cH K W γ σ->
 (∀vs W' H',W.Ext W'->Good K W' M' H'->Paired (fun a b=>bK K W' a.1 b.1/\bK K W' a.2 b.2) xs vs->Q vs H')->FG ts σ H Q
 |_,_,.nil,γ,M,xs,M',h,W,H,σ,Q,G,R,k=>by
  cases h;exact k [] W H (.refl _) G .nil
 |_,_,.cons s1 s2,γ,M,xs,M',h,W,H,σ,Q,G,R,k=>by
  obtain⟨⟨a,M1⟩,h1,h⟩:=aI h;obtain⟨⟨b,M2⟩,h2,h⟩:=aI h;obtain⟨⟨q,M3⟩,h3,h⟩:=aI h;cases h;refine s1.1 _ _ _ _ h1 W H σ _ G R fun v W1 H1 e1 G1 r1=>?_;refine s1.2 _ _ _ _ h2 W1 H1 σ _ G1 (R.up e1) fun u W2 H2 e2 G2 r2=>?_;refine ZO s2 h3 G2 (R.up (e1.trans e2)) fun vs W3 H3 e3 G3 r3=>?_;exact k _ W3 H3 ((e1.trans e2).trans e3) G3 (.cons ⟨r1.up (e2.trans e3),r2.up e3⟩ r3)
theorem wF{x:CD}{k:Key}{v:V}(h:keyOf x=some k)(r:bK K W x v):v=kV k:=by
 unfold keyOf at h;split at h
 .cases h;exact r
 .cases h;exact r
 .cases h
theorem EH{W:Wd}:∀{xs:List (CD×CD)}{kvs:List (Key×PyData)}{vs:List (V×V)},keyed xs=some kvs->Paired (fun a b=>bK K W a.1 b.1/\bK K W a.2 b.2) xs vs->
 ∃us:List (Key×V),vs=us.map (fun p=>(kV p.1,p.2))/\us.map (·.1)=kvs.map (·.1)/\nK K W.F (kvs.map fun p=>(tY p.1,p.2)) us
 |[],kvs,vs,h,r=>by
  cases h;cases r;exact⟨[],rfl,rfl,rfl⟩
 |(k,.c _)::_,kvs,vs,h,r=>by cases h
 |(k,.d x)::xs,kvs,vs,h,r=>by
  obtain⟨k',h1,h⟩:=aI (show(keyOf k).bind _=_ from h);obtain⟨q,h2,h⟩:=aI h;cases h;cases r with
  |@cons _ b _ vs' r1 r2=>
   obtain⟨us,e1,e2,e3⟩:=EH h2 r2;refine⟨(k',b.2)::us,?_,?_,k',b.2,us,rfl,rfl,r1.2,e3⟩
   .rw[C7,<- e1,<- wF h1 r1.1]
   .rw[C7,C7,e2]
theorem EC:∀(more acc:List (Key×V)),((acc++more).map (·.1)).Nodup->qG acc more=acc++more
 |[]=>fun acc _=>by simp[qG]
 |p::more=>fun acc h=>by
  have hn:iL acc p.1=none:=by
   unfold iL;rw[Option.map_eq_none_iff,List.find?_eq_none];intro x hx hd;have:x.1=p.1:=C9 hd;rw[L4,List.nodup_append]at h;exact h.2.2 x.1 (Z3 hx) p.1 (by simp) this
  show qG (putK acc p.1 p.2) more=_;rw[WN _ hn,EC more _ (by rw[S4];exact h),S4];rfl
theorem aCf{ts:List (TE×TE)}{fs:List (EF×EF)}(sp:SPs K ts fs):SE K (aDZ ts) (EJ fs):=by
 intro γ M x M' hh W H σ Q G R k;obtain⟨⟨xs,M1⟩,h1,hh⟩:=aI hh;intro p hp;have G1:=G.new hp (c:=.dk []) (o:=.dK []) (show Paired _ [] []from .nil);have e1:=W.ext_more p;refine ZO sp h1 G1 (R.up e1) fun vs W2 H2 e2 G2 r2=>?_;dsimp only at hh;split at hh
 .rename_i hM;obtain⟨kvs,h2,hh⟩:=aI hh;by_cases hc:kvs.length<=15/\(kvs.map (·.1)).Nodup
  .rw[A9 hc]at hh;cases hh
   have al:W2.α M.length=p:=by
    rw[e2.al M.length (by show M.length<W.n+1;rw[G.n];exact J9 _)];show(if M.length=W.n then p else _)=p;rw[A9 G.n.symm]
   obtain⟨_,o,g2,g3⟩:=G2.cs _ _ hM (by intro z;cases z);rw[al]at g2
   have ho:o=.dK []:=by
    cases o with
    |dK us=>cases g3;rfl
    |_=>exact False.elim g3
   subst ho;obtain⟨us,z1,z2,z3⟩:=EH h2 r2;have nd:(us.map (·.1)).Nodup:=by rw[z2];exact hc.2
   have hl:us.length<=15:=by
    have:=Y0 List.length z2;rw[A7,A7]at this;omega
   refine⟨g2,us,z1,hl,?_⟩;rw[EC us [] (by simpa using nd),A0j];obtain⟨e3,G3⟩:=G2.freeze (o':=.dK us) hM (by intro z;cases z);rw[al]at e3 G3;exact k _ _ _ ((e1.trans e2).trans e3) G3 ⟨p,us,rfl,aO,nK.same e3.ff _ _ z3⟩
  .rw[B2 hc]at hh;cases hh
 .cases hh
end
section
variable{ι:Type}{K:Fg}{X:ι->Cx}
structure MD(K:Fg)(X:ι->Cx)(pos:Pos)(ks:List (Option Expr))(vs:List Expr)(fs:List (EF×EF)):Prop where
 ex:∃ts,(∀i,PPs (X i) pos ks vs ts)/\SPs K ts fs
theorem aGy:MD K X pos [] [] []:=⟨_,fun _=>aDd,.nil⟩
theorem aBK{k v:Expr}{ks:List (Option Expr)}{vs:List Expr}{f g:EF}{fs:List (EF×EF)}(x:ME K X k f)(y:ME K X v g)(z:MD K X pos ks vs fs):MD K X pos (some k::ks) (v::vs) ((f,g)::fs):=by
 obtain⟨t,x1,x2⟩:=x.ex;obtain⟨u,y1,y2⟩:=y.ex;obtain⟨o,z1,z2⟩:=z.ex;exact⟨_,fun i=>ZE (x1 i) (y1 i) (z1 i),.cons ⟨x2,y2⟩ z2⟩
theorem aCr{ks:List (Option Expr)}{vs:List Expr}{fs:List (EF×EF)}(x:MD K X pos ks vs fs)(hall:ks.all (·.isSome)=true:=by rfl)(hl:ks.length=vs.length:=by rfl)(h0:ks≠[]:=by simp)(h15:ks.length<=15:=by simp):ME K X (.Dict ks vs pos) (EJ fs):=by
 obtain⟨t,x1,x2⟩:=x.ex;exact⟨_,fun i=>aBM (x1 i) hall hl h0 h15,aCf x2⟩
theorem ZW:ME K X (.Dict [] [] pos) zK:=⟨_,fun _=>aAR,ZH⟩
end
mutual
def wt:PyData->Nat
 |.none=>4
 |.bool _=>5
 |.int _=>2000
 |.str x=>(reprText x).length
 |.list xs=>oZ xs+3
 |.tuple xs=>oZ xs+3
 |.dict kvs=>TX kvs+3
def oZ:List PyData->Nat
 |[]=>0
 |x::xs=>wt x+2+oZ xs
def TX:List (PyData×PyData)->Nat
 |[]=>0
 |(k,v)::r=>wt k+wt v+4+TX r
end
mutual
def oks:PyData->Bool
 |.none=>true
 |.bool _=>true
 |.int i=>decide (i.natAbs<2 ^ 1900)
 |.str _=>true
 |.list xs=>oH xs
 |.tuple xs=>oH xs
 |.dict kvs=>CN kvs
def oH:List PyData->Bool
 |[]=>true
 |x::xs=>oks x&&oH xs
def CN:List (PyData×PyData)->Bool
 |[]=>true
 |(k,v)::r=>oks k&&oks v&&CN r
end
theorem aBQ{i:Int}(h:i.natAbs<2 ^ 1900):i.natAbs.log2<1900:=by
 by_cases h0:i.natAbs=0
 .rw[h0];decide +kernel
 .exact(Nat.log2_lt h0).mpr h
theorem aBZ{i:Int}(h:i.natAbs<2 ^ 1900):((toString i:String):Str).length<=2000:=by
 have h1:=int_text_length_le (k:=1900) (by decide) (aBQ h);show(Str.ofString (toString i)).length<=2000;rw[PySem.ofString_length];omega
mutual
theorem shown_le:∀d:PyData,oks d=true->d.shown.length<=wt d
 |.none=>fun _=>by decide
 |.bool b=>fun _=>by cases b<;>decide
 |.int i=>fun h=>aBZ (C9 h)
 |.str x=>fun _=>B0 _
 |.list xs=>fun h=>by
  have:=shownAll_le xs h;have h2:=listText_len_le (PyData.shownAll xs);show(listText (PyData.shownAll xs)).length<=oZ xs+3;omega
 |.tuple xs=>fun h=>by
  have:=shownAll_le xs h;have h2:=tupleText_len_le (PyData.shownAll xs);show(tupleText (PyData.shownAll xs)).length<=oZ xs+3;omega
 |.dict kvs=>fun h=>by
  have:=shownKv_le kvs h;have h2:=dictText_len_le (PyData.shownKv kvs);show(dictText (PyData.shownKv kvs)).length<=TX kvs+3;omega
theorem shownAll_le:∀xs:List PyData,oH xs=true->((PyData.shownAll xs).map (·.length)).sum+2*(PyData.shownAll xs).length<=oZ xs
 |[]=>fun _=>by simp[PyData.shownAll,oZ]
 |x::xs=>fun h=>by
  unfold oH at h;rw[B7]at h;have h1:=shown_le x h.1;have h2:=shownAll_le xs h.2;simp only[PyData.shownAll,oZ,List.map_cons,List.sum_cons,List.length_cons];omega
theorem shownKv_le:∀kvs:List (PyData×PyData),CN kvs=true->((PyData.shownKv kvs).map (·.length)).sum+2*(PyData.shownKv kvs).length<=TX kvs
 |[]=>fun _=>by simp[PyData.shownKv,TX]
 |(k,v)::r=>fun h=>by
  unfold CN at h;rw[B7,B7]at h;have h1:=shown_le k h.1.1;have h2:=shown_le v h.1.2;have h3:=shownKv_le r h.2
  have e:(PyData.shown k++": "++PyData.shown v).length=(PyData.shown k).length+2+(PyData.shown v).length:=by
   rw[strLen_append,strLen_append];rfl
  simp only[PyData.shownKv,TX,List.map_cons,List.sum_cons,List.length_cons,e];omega
end
mutual
theorem lJ:∀d:PyData,oks d=true->d.showable=true
 |.none=>fun _=>rfl
 |.bool _=>fun _=>rfl
 |.int i=>fun h=>by
  have h:i.natAbs<2 ^ 1900:=C9 h;refine D3 ?_;by_cases h0:i.natAbs=0
  .rw[h0];decide +kernel
  .exact U3 ((Nat.log2_lt h0).mpr h) (by decide)
 |.str _=>fun _=>rfl
 |.list xs=>fun h=>showableAll_of xs h
 |.tuple xs=>fun h=>showableAll_of xs h
 |.dict kvs=>fun h=>showableKv_of kvs h
theorem showableAll_of:∀xs:List PyData,oH xs=true->PyData.showableAll xs=true
 |[]=>fun _=>rfl
 |x::xs=>fun h=>by
  unfold oH at h;rw[B7]at h;show(PyData.showable x&&PyData.showableAll xs)=true;rw[lJ x h.1,showableAll_of xs h.2];rfl
theorem showableKv_of:∀kvs:List (PyData×PyData),CN kvs=true->PyData.showableKv kvs=true
 |[]=>fun _=>rfl
 |(k,v)::r=>fun h=>by
  unfold CN at h;rw[B7,B7]at h;show(PyData.showable k&&PyData.showable v&&PyData.showableKv r)=true;rw[lJ k h.1.1,lJ v h.1.2,showableKv_of r h.2];rfl
end
structure Fit(n m:Nat)(d:PyData):Prop where
 ok:oks d=true
 wt:wt d<=n
 dp:d.depth<=m
theorem Fit.shown{n m:Nat}{d:PyData}(f:Fit n m d)(hn:n<=sizeLine:=by decide)(hm:m<=64:=by decide):rZ d=true:=by
 unfold rZ;rw[lJ d f.ok,D3 (D0 f.dp hm),D3 (D0 (D0 (shown_le d f.ok) f.wt) hn)];rfl
theorem VC{n m:Nat}{d:PyData}(f:Fit n m d)(hn:n<=sizeLine:=by decide)(hm:m<=64:=by decide):QZ [.d d] M=some (.d (.str d.shown),M):=by
 unfold QZ;dsimp only;rw[A9 (f.shown hn hm)]
def CI(f:Str)(v:CD):List (Str×CD)->List (Str×CD)
 |[]=>[(f,v)]
 |(g,x)::r=>if g=f then(g,v)::r else(g,x)::CI f v r
section
variable{K:Fg}
theorem JE{W:Wd}{f:Str}{x:CD}{v:V}(r:bK K W x v):∀{fs:List (Str×CD)}{us:List (Str×V)},Paired (fun p q=>p.1=q.1/\bK K W p.2 q.2) fs us->Paired (fun p q=>p.1=q.1/\bK K W p.2 q.2) (CI f x fs) (nQ f v us)
 |_,_,.nil=>.cons ⟨rfl,r⟩ .nil
 |(g,y)::fs,(g',u)::us,.cons h t=>by
  obtain⟨h1,h2⟩:=h;have h1:g=g':=h1;subst h1;unfold CI nQ;by_cases e:g=f
  .rw[A9 e,A9 e];exact .cons ⟨rfl,r⟩ t
  .rw[B2 e,B2 e];exact .cons ⟨rfl,h2⟩ (JE r t)
theorem CW{W:Wd}{f:Str}{x:CD}:∀{fs:List (Str×CD)}{us:List (Str×V)},Paired (fun p q=>p.1=q.1/\bK K W p.2 q.2) fs us->fs.lookup f=some x->∃v,us.lookup f=some v/\bK K W x v
 |_,_,.nil=>fun h=>by cases h
 |(g,y)::fs,(g',u)::us,.cons h t=>fun e=>by
  obtain⟨h1,h2⟩:=h;have h1:g=g':=h1;subst h1;rw[D9]at e ⊢;by_cases q:(f==g)=true
  .rw[q]at e ⊢;cases e;exact⟨u,rfl,h2⟩
  .have q':(f==g)=false:=by simpa using q
   rw[q']at e ⊢;exact CW t e
theorem Good.objAt{i:Nat}{nm:Str}{fs:List (Str×CD)}(G:Good K W M H)(h:M[i]?=some (.obj nm fs)):∃dx us,H (W.α i)=some (.ins (bC K nm) dx us)/\Paired (fun p q=>p.1=q.1/\bK K W p.2 q.2) fs us:=by
 obtain⟨_,o,h2,h3⟩:=G.cs i _ h (by intro z;cases z);cases o with
 |ins C dx us=>
  obtain⟨e,p⟩:=h3;subst e;exact⟨dx,us,h2,p⟩
 |_=>exact False.elim h3
theorem Good.extra(g:Good K W M H){p:Addr}{o:HO}(hp:H p=none):Good K W M (upd H p o):=by
 refine⟨fun b u hb=>?_,g.n,fun i c hi hc=>?_,g.inj⟩
 .have:=g.fh b u hb;rw[aL (aP this hp)];exact this
 .obtain⟨h1,o',h2,h3⟩:=g.cs i c hi hc;exact⟨h1,o',by rw[aL (aP h2 hp)];exact h2,h3⟩
def objOf(nm:Str)(M:Sto):CD->Option (Nat×List (Str×CD))
 |.c i=>match M[i]? with
  |some (.obj nm' fs)=>if nm'=nm then some (i,fs)else none
  |_=>none
 |_=>none
theorem IS{nm:Str}{x:CD}{i:Nat}{fs:List (Str×CD)}(h:objOf nm M x=some (i,fs)):x=.c i/\M[i]?=some (.obj nm fs):=by
 unfold objOf at h;split at h
 .rename_i j;split at h
  .rename_i nm' fs' hj;by_cases e:nm'=nm
   .rw[A9 e]at h;cases h;subst e;exact⟨rfl,hj⟩
   .rw[B2 e]at h;cases h
  .cases h
 .cases h
def sX(nm f:Str)(e:EF):EF:=fun γ M=>(e γ M).bind fun r=>(objOf nm r.2 r.1).bind fun p=>(p.2.lookup f).bind fun v=>some (v,r.2)
theorem aGK{nm f:Str}{ta:TE}{e:EF}(c:Cls K (bC K nm))(n:iJ K (bC K nm) f)(a:SE K ta e):SE K (aIj K ta f) (sX nm f e):=by
 intro γ M x M' hh W H σ Q G R k;obtain⟨⟨y,M1⟩,h1,hh⟩:=aI hh;obtain⟨⟨i,fs⟩,h2,hh⟩:=aI hh;obtain⟨v,h3,hh⟩:=aI hh;cases hh;refine a _ _ _ _ h1 W H σ _ G R fun u W1 H1 e1 G1 r1=>?_;obtain⟨rfl,hM⟩:=IS h2;obtain⟨dx,us,hH,hp⟩:=G1.objAt hM;obtain⟨w,hw,rw'⟩:=CW hp h3;exact⟨W1.α i,_,dx,us,w,r1.2,hH,c,n,hw,k w W1 H1 e1 G1 rw'⟩
def CQ(nm f:Str)(eo ev:EF):SF:=fun γ M=>(ev γ M).bind fun v=>(eo γ v.2).bind fun o=>(objOf nm o.2 o.1).bind fun p=>if p.2.length<1000 then some (.nx γ,o.2.set p.1 (.obj nm (CI f v.1 p.2)))else none
theorem aGd{nm f:Str}{ta tv:TE}{eo ev:EF}(c:Cls K (bC K nm))(n:iJ K (bC K nm) f)(a:SE K ta eo)(b:SE K tv ev):SS K (aHV K ta tv f) (CQ nm f eo ev):=by
 intro γ M o M' hh W H σ D G R k;obtain⟨⟨y,M1⟩,h1,hh⟩:=aI hh;obtain⟨⟨z,M2⟩,h2,hh⟩:=aI hh;obtain⟨⟨i,fs⟩,h3,hh⟩:=aI hh;by_cases hl:fs.length<1000
 .have hh:(if fs.length<1000 then some (Out.nx γ,M2.set i (.obj nm (CI f y fs)))else none)=some (o,M'):=hh;rw[A9 hl]at hh;cases hh;refine b _ _ _ _ h1 W H σ _ G R fun v W1 H1 e1 G1 r1=>?_;refine a _ _ _ _ h2 W1 H1 σ _ G1 (R.up e1) fun u W2 H2 e2 G2 r2=>?_;obtain⟨rfl,hM⟩:=IS h3;obtain⟨dx,us,hH,hp⟩:=G2.objAt hM;refine⟨W2.α i,_,dx,us,r2.2,hH,c,n,by rw[<- Paired.len hp];exact hl,?_⟩;exact k W2 _ (e1.trans e2) (G2.set hM (by intro q;cases q) (c':=.obj nm (CI f y fs)) (o':=.ins (bC K nm) dx (nQ f v us)) ⟨rfl,JE (r1.up e2) hp⟩) σ (R.up (e1.trans e2))
 .have hh:(if fs.length<1000 then some (Out.nx γ,M2.set i (.obj nm (CI f y fs)))else none)=some (o,M'):=hh;rw[B2 hl]at hh;cases hh
def IQ:CD->Bool
 |.d .none=>true
 |_=>false
def CU(nm:Str)(h:FN)(fa:AF):EF:=fun γ M=>(fa γ M).bind fun r=>(h (.c r.2.length::r.1) (r.2++[.obj nm []])).bind fun q=>if IQ q.1=true then some (.c r.2.length,q.2)else none
theorem YN{x:CD}(h:IQ x=true):x=.d .none:=by
 cases x with
 |c n=>cases h
 |t n=>cases h
 |f n=>cases h
 |g _=>cases h
 |d x=>cases x<;>first|rfl|cases h
theorem aBE{nm:Str}{h:FN}{tA:TA}{fa:AF}(b:SA K tA fa):SE K (aEd (bC K nm) (spM K h) [] E0 tA) (CU nm h fa):=by
 intro γ M x M' hh W H σ Q G R k;obtain⟨⟨ys,M1⟩,h1,hh⟩:=aI hh;obtain⟨⟨z,M2⟩,h2,hh⟩:=aI hh;by_cases hz:IQ z=true
 .have hh:(if IQ z=true then some (CD.c M1.length,M2)else none)=some (x,M'):=hh;rw[A9 hz]at hh;cases hh;have hz':=YN hz;subst hz';refine b _ _ _ _ h1 W H σ _ G R fun vs W1 H1 e1 G1 r1=>?_;intro p dx hp hdx hne;rw[F4];have Ga:=G1.extra (o:=.own p) hdx;have hp':(upd H1 dx (.own p)) p=none:=by rw[aL (L6 hne)];exact hp
  have Gb:=Ga.new hp' (c:=.obj nm []) (o:=.ins (bC K nm) dx []) ⟨rfl,.nil⟩;have e2:=W1.ext_more p;refine⟨.c M1.length::ys,M1++[.obj nm []],W1.more p,.d .none,M',Gb,.cons G1.newV (bP.up r1 e2),h2,fun v W3 H3 e3 G3 r3=>⟨r3,?_⟩⟩;exact k _ W3 H3 ((e1.trans e2).trans e3) G3 (G1.newV.up e3)
 .have hh:(if IQ z=true then some (CD.c M1.length,M2)else none)=some (x,M'):=hh;rw[B2 hz]at hh;cases hh
end
structure HH(P:Program)(w:World)(K:Fg)(mg:Str->Option Value)(base:Heap)(k:Nat)(nm:Str)(ps:List Str)(sp:Sp):Prop where
 ex:∃f fd,kW P w K mg base CX0 k f fd ps sp/\Mk K (bC K nm) f/\Binds K fd ps []/\mg nm=some (.ref (bC K nm))
section
variable{ι:Type}{K:Fg}{X:ι->Cx}{a b c e o:Expr}{es:List Expr}{f g h:EF}{fa:AF}{pos:Pos}
theorem yI{nm fl:Str}(hK:∀i,(X i).K=K)(hc:Cls K (bC K nm))(hn:iJ K (bC K nm) fl)(x:ME K X o f)(hb:∀env:Env,attributeBase o fl env (eval o env)=eval o env:=by intro _;rfl):ME K X (.Attribute o fl pos) (sX nm fl f):=by
 obtain⟨t,x1,x2⟩:=x.ex;refine⟨_,fun i=>?_,aGK hc hn x2⟩;have:=aHn (x1 i) (hb _) (pos:=pos);rw[hK i]at this;exact this
theorem ND{nm fl:Str}{pos':Pos}(hK:∀i,(X i).K=K)(hc:Cls K (bC K nm))(hn:iJ K (bC K nm) fl)(x:ME K X o f)(y:ME K X e g)(hs:∀i,swapsWith e (some (.Attribute o fl pos')) pos.line (X i).env=pure false:=by intro _;rfl):MS K X (.Assign [.Attribute o fl pos'] e pos) (CQ nm fl f g):=by
 obtain⟨t,x1,x2⟩:=x.ex;obtain⟨u,y1,y2⟩:=y.ex;refine⟨_,fun i=>?_,aGd hc hn x2 y2⟩;have:=aGO (x1 i) (y1 i) (hs i);rw[hK i]at this;exact this
theorem aCH{k:Nat}{nm:Str}{ps:List Str}{F:FN}{p:Pos}(C:∀i,HH (X i).prog (X i).w (X i).K (X i).mg (X i).base k nm ps (spM K F))(hK:∀i,(X i).K=K)(hr:∀i,cA (k+1) (X i).A)(y:MA K X (e::es) fa)(hg:∀i,Gl (X i) nm:=by intro _;rfl)(hd:(nm==("__debug__":Str))=false:=by decide):
 ME K X (.Call (.Name nm p) (e::es) [] pos) (CU nm F fa):=by
 obtain⟨u,y1,y2⟩:=y.ex;refine⟨_,fun i=>?_,aBE y2⟩;obtain⟨f,fd,F',M,B,m⟩:=(C i).ex;have:=aCu M F' (hr i) (hg i) m B .nil aEF (y1 i) hd (y.st.1 _) (y.st.2.plain _ _) (p:=p) (pos:=pos);rw[hK i]at this;exact this
end
structure aDD(K:Fg)(nm m qual:Str)(st:Stmt):Prop where
 ex:∃f fd,Fun K m qual st f fd/\PySem.W.findIn K (.ref (bC K nm)) m=some (some (.ref f))/\PySem.W.isFn K (.ref f)=true
section
variable{P:Program}{w:World}{K:Fg}{mg:Str->Option Value}{base:Heap}
theorem Fun.okQ{x qual:Str}{st:Stmt}{N ps:List Str}{k:Nat}{b:SF}{f:Addr}{fd:FuncData}(F:Fun K x qual st f fd)(S:aQ N ps (aF st))
 (hbody:∀(f:Addr)(cdv:Value)(A:Around)(outer:List Env)(s:Shared)(H:Hp)(E:XK),cA k (A.deeper (envOfC qual (aF st) s.heap.objs.size f cdv))->
  ML K (fun _:Unit=>(mL CX0 P w K mg base N qual (aF st) f cdv A outer s H E).nox) (bJ st) b):kW P w K mg base CX0 (k+1) f fd ps (spM K (fnF ps.length N.length b)):=by
 have len:∀vs H Q E,spM K (fnF ps.length N.length b) vs H Q E->vs.length=ps.length:=fun vs H Q E h=>by
  obtain⟨xs,M,W,y,M',G,R,hf,_⟩:=h;by_cases hl:xs.length=ps.length
  .rw[<- Paired.len R];exact hl
  .unfold fnF at hf;rw[B2 hl]at hf;cases hf
 refine F.ok S len fun cdv A outer s H vs Q E hr h=>?_;obtain⟨t,hP,hS⟩:=(hbody f cdv A outer s H E hr).ex;refine⟨t,hP (),?_⟩;obtain⟨xs,M,W,y,M',G,R,hf,k⟩:=h;by_cases hl:xs.length=ps.length
 .unfold fnF at hf;rw[A9 hl]at hf;obtain⟨⟨o,M1⟩,h1,hf⟩:=aI hf
  have hR:cH K W (xs.map some++List.replicate (N.length-xs.length) none) (start N vs):=by
   unfold start;rw[<- Paired.len R];exact Paired.app (bP.some R) (qV _)
  refine hS _ _ _ _ h1 W H _ _ G hR fun W1 H1 e1 G1=>?_;cases o with
  |rt x=>cases hf;exact fun v r=>k v W1 H1 e1 G1 r
  |nx γ=>cases hf;exact fun σ r=>k .non W1 H1 e1 G1 rfl
  |bk γ=>cases hf
  |ct γ=>cases hf
 .unfold fnF at hf;rw[B2 hl]at hf;cases hf
theorem aDD.okI{nm qual:Str}{st:Stmt}{N ps:List Str}{k:Nat}{b:SF}(D:aDD K nm "__init__" qual st)(hm:PySem.W.makesIn K (bC K nm)=true)(hk:PySem.W.keepIn K (.ref (bC K nm))=true)(hg:mg nm=some (.ref (bC K nm)))(S:aQ N ps (aF st))
 (hb:∀(kV doc pm:Value)(an:Option Addr)(cdv ct:Value)(us:List Value),us.length=ps.length->bindArgs (PySem.W.fnOf "__init__" qual (eG st) (bJ st) (aF st) .none kV doc pm an cdv ct) ⟨us,[]⟩=pure (ps.zip us))
 (hbody:∀(f:Addr)(cdv:Value)(A:Around)(outer:List Env)(s:Shared)(H:Hp)(E:XK),cA k (A.deeper (envOfC qual (aF st) s.heap.objs.size f cdv))->
  ML K (fun _:Unit=>(mL CX0 P w K mg base N qual (aF st) f cdv A outer s H E).nox) (bJ st) b):HH P w K mg base (k+1) nm ps (spM K (fnF ps.length N.length b)):=by
 obtain⟨f,fd,F,h1,h2⟩:=D.ex;exact⟨f,fd,F.okQ S hbody,⟨hm,h1,h2,hk⟩,F.binds hb,hg⟩
end
section
variable{K:Fg}
theorem DY{α β:Type}{R:α->β->Prop}:∀{xs:List α}{ys:List β},Paired R xs ys->Paired R xs.reverse ys.reverse
 |_,_,.nil=>.nil
 |_,_,.cons h t=>by
  rw[S3,S3];exact Paired.app (DY t) (.cons h .nil)
def kH:FM:=fun x ys M=>match x,ys with
 |.c i,[]=>match M[i]? with
  |some (.lst xs)=>some (.d .none,M.set i (.lst xs.reverse))
  |_=>none
 |_,_=>none
theorem MY:PM K KL kH:=by
 intro x ys M z M' h W H v vs Q G rx rs k;unfold kH at h;split at h
 .rename_i i;split at h
  .rename_i xs hx;cases h;obtain⟨us,hv,hr⟩:=G.lstAt hx;cases rs;refine⟨W.α i,us,rx.2,rfl,hv,?_⟩;exact k _ W _ (.refl _) (G.set hx (by intro q;cases q) (c':=.lst xs.reverse) (show bP K W _ _ from DY hr)) rfl
  .cases h
 .cases h
def aJu:List V->Hp->VK->Prop:=fun xs H Q=>∃i j,xs=[.int i,.int j]/\Q (.int (if j > i then j else i)) H
def aJp:List V->Hp->VK->Prop:=fun xs H Q=>∃i j,xs=[.int i,.int j]/\Q (.int (if j<i then j else i)) H
def KU:FN:=fun xs M=>match xs with
 |[.d (.int i),.d (.int j)]=>some (.d (.int (if j > i then j else i)),M)
 |_=>none
def JA:FN:=fun xs M=>match xs with
 |[.d (.int i),.d (.int j)]=>some (.d (.int (if j<i then j else i)),M)
 |_=>none
theorem aBn:PN K aJu KU:=by
 intro xs M z M' h W H vs Q G r k;unfold KU at h;split at h
 .rename_i i j;cases h;rcases r with _|⟨r1,_|⟨r2,_|_⟩⟩;exact⟨i,j,by rw[show _=V.int i from r1,show _=V.int j from r2],k _ W H (.refl _) G rfl⟩
 .cases h
theorem aCB:PN K aJp JA:=by
 intro xs M z M' h W H vs Q G r k;unfold JA at h;split at h
 .rename_i i j;cases h;rcases r with _|⟨r1,_|⟨r2,_|_⟩⟩;exact⟨i,j,by rw[show _=V.int i from r1,show _=V.int j from r2],k _ W H (.refl _) G rfl⟩
 .cases h
end
section
variable{ι:Type}{K:Fg}{X:ι->Cx}{a b c e o:Expr}{es:List Expr}{f g h:EF}{fa:AF}{pos:Pos}
theorem aEQ(hc:∀i,(X i).calm=true):QN K X (.builtin "max") KU:=⟨_,fun i=>UT (hc i),aBn⟩
theorem aFU(hc:∀i,(X i).calm=true):QN K X (.builtin "min") JA:=⟨_,fun i=>TL (hc i),aCB⟩
theorem LQ(hK:∀i,(X i).K=K)(x:ME K X o f)(hb:∀env:Env,attributeBase o "reverse" env (eval o env)=eval o env:=by intro _;rfl)(hl:(apos.endLine==cpos.line)=true:=by rfl):
 ME K X (.Call (.Attribute o "reverse" apos) [] [] cpos) (bQ "list" kH f aH):=by
 obtain⟨t,x1,x2⟩:=x.ex;refine⟨_,fun i=>?_,KI MY x2⟩;have:=YD PySem.F.plainAttrs_list PySem.F.slot_list_reverse PySem.F.type_list_reverse NG (x1 i) (apos:=apos) (cpos:=cpos) (hb _) hl;rw[hK i]at this;exact this
end
open PySem PySem.W PyProof.Rows
def KS{α:Type}(lt:Nat->Nat->Bool)(n:Nat):KasT α->(α->Prop)->Prop
 |.ret a,Q=>Q a
 |.ask i j k,Q=>i<n/\j<n/\KS lt n (k (lt i j)) Q
theorem KS.mono{α:Type}{lt:Nat->Nat->Bool}{n:Nat}{Q R:α->Prop}(m:∀a,Q a->R a):∀{t:KasT α},KS lt n t Q->KS lt n t R
 |.ret _=>fun h=>m _ h
 |.ask _ _ _=>fun h=>⟨h.1,h.2.1,KS.mono m h.2.2⟩
theorem KS.wp{α:Type}{lt:Nat->Nat->Bool}{n:Nat}{Q:α->Prop}{R:α->Shared->Prop}{s:Shared}{cmp:Nat->Nat->(Bool->Shared->Prop)->Shared->Prop}
 (hc:∀i j C,i<n->j<n->C (lt i j) s->cmp i j C s) (m:∀a,Q a->R a s):∀{t:KasT α},KS lt n t Q->KasT.kasWp cmp t R s
 |.ret _=>fun h=>m _ h
 |.ask _ _ _=>fun h=>hc _ _ _ h.1 h.2.1 (KS.wp hc m h.2.2)
section
variable{lt:Nat->Nat->Bool}{n:Nat}
def Inv2(n:Nat)(p:Array Nat):Prop:=p.Perm (List.range n).toArray
theorem Inv2.ent{p:Array Nat}(h:Inv2 n p)(h0:0<n)(k:Nat):p.getD k 0<n:=by
 rw[C5];cases e:p[k]? with
 |none=>exact h0
 |some x=>
  have hm:x∈p:=Array.mem_of_getElem? e;have:=(h.mem_iff (a:=x)).mp hm;simpa using this
theorem pW{p:Array Nat}(hp:Inv2 n p)(i j:Nat):Inv2 n (kas_rev p i j):=(mirror_perm p i j _).trans hp
end
end L2
namespace L2
open PySem PySem.Spec PyProof.Rows
def oR:List PyData->Option (List Int)
 |[]=>some []
 |.int n::r=>(oR r).bind fun ns=>some (n::ns)
 |_=>none
theorem vG{h:Heap}:∀{ds:List PyData}{us:List Value}{as:List Addr}{ns:List Int},ReadsAll h us ds as->oR ds=some ns->IntsAre us ns
 |[],_,_,_=>fun r e=>by cases r;cases e;exact .nil
 |d::ds,_,_,_=>fun r e=>by
  cases r with
  |cons r1 r2=>
   cases d with
   |int n=>
    have e:(oR ds).bind (fun ns=>some (n::ns))=some _:=e;obtain⟨ms,h1,h2⟩:=Option.bind_eq_some_iff.mp e;cases h2;cases r1;exact .cons _ _ (vG r2 h1)
   |_=>cases e
def FL:PyData->PyData->Option Bool
 |.int a,.int b=>some (decide (a<b))
 |.tuple xs,.tuple ys=>(oR xs).bind fun ns=>(oR ys).bind fun ms=>some (HT.lexLt ns ms)
 |_,_=>none
def lX:List PyData->List PyData->Option Bool
 |[],ys=>some (decide (0<ys.length))
 |_::_,[]=>some false
 |x::xs,y::ys=>if PyData.eqv x y=true then lX xs ys else FL x y
def isI:PyData->Bool
 |.int _=>true
 |_=>false
section
variable{prog:Program}{w:World}{A:Around}{E:Value->Shared->Prop}{s:Shared}
theorem aBO{p q:Value}{x y:PyData}{as bs:List Addr}{c fl:Bool}{Q:Bool->Shared->Prop}(hu:A.units<cLine)(r1:Reads s.heap p x as)(r2:Reads s.heap q y bs)(h:FL x y=some c)(hf:fl=true->isI x=true/\isI y=true)(k:Q c s):
 wpAny (model prog w) A (oneLt' fl p q) Q E s:=by
 unfold FL at h;split at h
 .rename_i a b;cases r1;cases r2;cases h;cases fl with
  |true=>exact oneLt_int k
  |false=>exact PySem.W.kat_one _ _ (lt_int k)
 .rename_i xs ys;obtain⟨ns,h1,h⟩:=Option.bind_eq_some_iff.mp h;obtain⟨ms,h2,h⟩:=Option.bind_eq_some_iff.mp h;cases h;cases fl with
  |true=>exact absurd (hf rfl).1 (by intro z;cases z)
  |false=>
   cases r1 with
   |tuple g1 g2 g3 g4=>
    cases r2 with
    |tuple k1 k2 k3 k4=>
     exact PySem.W.kat_one _ _ (HT.lt_tupInts ⟨_,g1,g2,_,g3⟩ ⟨_,k1,k2,_,k3⟩ (vG g4 h1) (vG k4 h2) hu k)
 .cases h
theorem OT{b fin c:Bool}{Q:Bool->Shared->Prop}(hu:A.units+64<cLine)(k:Q c s):∀(xs ys:List PyData)(us ws:List Value)(as bs:List Addr)(i:Nat),ReadsAll s.heap us xs as->ReadsAll s.heap ws ys bs->xs.all SeqAt.shaped=true->ys.all SeqAt.shaped=true->
 lX xs ys=some c->fin=decide (us.length<ws.length)->((b&&i==0)=true->xs.head?.all isI=true/\ys.head?.all isI=true)->PySem.W.KatLex prog w A b fin Q (us.zip ws) i s
 |[],ys=>fun us ws as bs i r1 r2 s1 s2 h hf hb=>by
  cases r1
  have hl:ws.length=ys.length:=by
   clear k h hf hb s2
   induction r2 using ReadsAll.rec (motive_1:=fun _ _ _ _=>True)with
   |nil=>rfl
   |cons _ _ _ ih=>simp[ih]
   |_=>trivial
  rw[List.zip_nil_left];refine PySem.W.kat_nil ?_;have h:some (decide (0<ys.length))=some c:=h;cases h;rw[hf,hl];exact k
 |x::xs,[]=>fun us ws as bs i r1 r2 s1 s2 h hf hb=>by
  cases r2;rw[List.zip_nil_right];refine PySem.W.kat_nil ?_;cases h;rw[hf];simpa using k
 |x::xs,y::ys=>fun us ws as bs i r1 r2 s1 s2 h hf hb=>by
  cases r1 with
  |cons a1 a2=>
   cases r2 with
   |cons b1 b2=>
    rw[Y5,B7]at s1 s2;rw[List.zip_cons_cons];refine PySem.W.kat_cons ?_;refine SeqAt.eqAt_reads x y A s _ _ _ _ a1 b1 (Y8 s1.1) (Y8 s2.1) (SeqAt.room_of_shaped s1.1 hu) _ _ _ _ ?_;have h:(if PyData.eqv x y=true then lX xs ys else FL x y)=some c:=h;cases e:PyData.eqv x y with
    |true=>
     rw[e,A9 rfl]at h;refine PySem.W.kat_yes (OT hu k xs ys _ _ _ _ (i+1) a2 b2 s1.2 s2.2 h ?_ (fun z=>?_))
     .rw[hf];simp
     .simp at z
    |false=>
     rw[e,B2 B1]at h;refine PySem.W.kat_no (aBO (by omega) a1 b1 h (fun z=>?_) k);have:=hb z;simpa using this
end
open PySem PySem.W PyProof.Rows
def aCe{α:Type}(lt:Nat->Nat->Bool):KasT α->α
 |.ret a=>a
 |.ask i j k=>aCe lt (k (lt i j))
def KA{α:Type}(n:Nat):KasT α->(α->Prop)->Prop
 |.ret a,Q=>Q a
 |.ask i j k,Q=>i<n/\j<n/\∀b,KA n (k b) Q
section
variable{n:Nat}
theorem KA.bind{α β:Type}{f:α->KasT β}{Q:β->Prop}:∀{t:KasT α},KA n t (fun a=>KA n (f a) Q)->KA n (t.bind f) Q
 |.ret _=>fun h=>h
 |.ask _ _ _=>fun h=>⟨h.1,h.2.1,fun b=>KA.bind (h.2.2 b)⟩
theorem KA.ks{α:Type}{lt:Nat->Nat->Bool}{Q:α->Prop}:∀{t:KasT α},KA n t Q->KS lt n t (fun a=>a=aCe lt t/\Q a)
 |.ret _=>fun h=>⟨rfl,h⟩
 |.ask i j _=>fun h=>⟨h.1,h.2.1,KA.ks (h.2.2 (lt i j))⟩
theorem KS.run{α:Type}{lt:Nat->Nat->Bool}{Q:α->Prop}:∀{t:KasT α},KS lt n t Q->Q (aCe lt t)
 |.ret _=>fun h=>h
 |.ask i j k=>fun h=>KS.run (t:=k (lt i j)) h.2.2
theorem OH{p:Array Nat}(hp:Inv2 n p)(h0:0<n){Q:Nat->Prop}(q:∀r,Q r):∀(f m:Nat),KA n (kas_asc p f m) Q
 |0=>fun m=>by rw[kas_asc.eq_def];exact q m
 |f+1=>fun m=>by
  rw[kas_asc.eq_def];refine⟨hp.ent h0 _,hp.ent h0 _,fun b=>?_⟩;cases b with
  |true=>exact q m
  |false=>exact OH hp h0 q f (m+1)
theorem yG(h0:0<n){Q:Array Nat×Nat×Nat->Prop}(k:∀p m q,Inv2 n p->Q (p,m,q)):∀(f:Nat)(p:Array Nat)(m q:Nat),Inv2 n p->KA n (kas_desc f p m q) Q
 |0=>fun p m q hp=>by rw[kas_desc.eq_def];exact k p m q hp
 |f+1=>fun p m q hp=>by
  rw[kas_desc.eq_def];refine⟨hp.ent h0 _,hp.ent h0 _,fun b=>?_⟩;cases b with
  |true=>
   dsimp only;rw[A9 rfl];by_cases hq:q > 0
   .rw[A9 hq];exact yG h0 k f _ _ _ (pW hp _ _)
   .rw[B2 hq];exact yG h0 k f _ _ _ hp
  |false=>
   dsimp only;rw[B2 B1];refine⟨hp.ent h0 _,hp.ent h0 _,fun b=>?_⟩;cases b with
   |true=>exact k p m q hp
   |false=>exact yG h0 k f _ _ _ hp
theorem JY(h0:0<n){p:Array Nat}{m:Nat}(hp:Inv2 n p):KA n (kas_tail3 m n p) (fun r=>Inv2 n r.2):=by
 rw[kas_tail3.eq_def];exact KA.bind (OH (pW hp 0 m) h0 (fun r=>pW hp 0 m) _ _)
theorem wU(h0:0<n){p:Array Nat}{m:Nat}(hp:Inv2 n p):KA n (kas_descPart m n p) (fun r=>Inv2 n r.2):=by
 rw[kas_descPart.eq_def];refine KA.bind (yG h0 (fun p' m' q' a=>?_) _ _ _ _ hp);show KA n (if q' > 0 then kas_tail3 m' n (kas_rev p' (m'-(q'+1)) m')else kas_tail3 m' n p') _;by_cases hq:q' > 0
 .rw[A9 hq];exact JY h0 (pW a _ _)
 .rw[B2 hq];exact JY h0 a
theorem aAX(h0:0<n){p:Array Nat}(hp:Inv2 n p):KA n (kas_count n p) (fun r=>Inv2 n r.2):=by
 rw[kas_count.eq_def];refine KA.bind (OH hp h0 (fun r=>?_) _ _);by_cases e:(r==n)=true
 .rw[A9 e];exact hp
 .rw[B2 e];by_cases g:r > 1
  .rw[A9 g];refine⟨hp.ent h0 _,hp.ent h0 _,fun b=>?_⟩;cases b with
   |true=>exact hp
   |false=>exact wU h0 (pW hp _ _)
  .rw[B2 g];exact wU h0 hp
theorem yJ(h0:0<n){p:Array Nat}(hp:Inv2 n p){k:Nat}{Q:Nat->Prop}(q:∀l,Q l):∀(f l r:Nat),KA n (kas_place p k f l r) Q
 |0=>fun l r=>by rw[kas_place.eq_def];exact q l
 |f+1=>fun l r=>by
  rw[kas_place.eq_def];show KA n (if l>=r then _ else _) Q;by_cases g:l>=r
  .rw[A9 g];exact q l
  .rw[B2 g];refine⟨hp.ent h0 _,hp.ent h0 _,fun b=>?_⟩;cases b with
   |true=>exact yJ h0 hp q f _ _
   |false=>exact yJ h0 hp q f _ _
theorem VL(h0:0<n):∀(f:Nat)(p:Array Nat)(k:Nat),Inv2 n p->KA n (kas_bin f p k) (Inv2 n)
 |0=>fun p k hp=>by rw[kas_bin.eq_def];exact hp
 |f+1=>fun p k hp=>by
  rw[kas_bin.eq_def];exact KA.bind (yJ h0 hp (fun l=>VL h0 f _ (k+1) ((bubble_perm p k (k-l)).trans hp)) k 0 k)
theorem QO(h0:0<n):KA n (kas_sort n) (Inv2 n):=by
 unfold kas_sort;have:=aAX h0 (p:=(List.range n).toArray) (Array.Perm.refl _);refine KA.bind ?_
 have mono:∀{α:Type}{Q R:α->Prop}(m:∀a,Q a->R a)(t:KasT α),KA n t Q->KA n t R:=by
  intro α Q R m t
  induction t with
  |ret a=>exact m a
  |ask i j k ih=>exact fun h=>⟨h.1,h.2.1,fun b=>ih b (h.2.2 b)⟩
 refine mono (fun r a=>?_) _ this;by_cases e:r.fst<n
 .rw[A9 e];exact VL h0 _ _ _ a
 .rw[B2 e];exact a
def gN(lt:Nat->Nat->Bool)(n:Nat):List Nat:=(aCe lt (kas_sort n)).toList
theorem lM(lt:Nat->Nat->Bool)(h0:0<n):(gN lt n).Perm (List.range n):=by
 have:=KS.run (KA.ks (lt:=lt) (QO h0));simpa[gN]using Array.perm_iff_toList_perm.mp this.2
end
end L2
namespace L2
variable{H:Hp}{K:Fg}{W:Wd}{σ:St}{M:Sto}
open PySem PySem.Spec PyProof.Rows
mutual
def xF:PyData->Bool
 |.int _=>true
 |.tuple xs=>kT xs
 |_=>false
def kT:List PyData->Bool
 |[]=>true
 |x::r=>xF x&&kT r
end
mutual
theorem rk{h h':Heap}(k:∀b o vs n,h.get? b=some o->o.data=.seq vs n->h'.get? b=some o):∀(d:PyData)(v:Value)(as:List Addr),xF d=true->Reads h v d as->Reads h' v d as
 |.int n=>fun _ _ _ r=>by cases r;exact .int _ _
 |.tuple xs=>fun _ _ e r=>by
  cases r with
  |tuple a b c d=>exact .tuple (k _ _ _ _ a c) b c (WJ k xs _ _ (by unfold xF at e;exact e) d)
 |.none=>fun _ _ e _=>by unfold xF at e;cases e
 |.bool _=>fun _ _ e _=>by unfold xF at e;cases e
 |.str _=>fun _ _ e _=>by unfold xF at e;cases e
 |.list _=>fun _ _ e _=>by unfold xF at e;cases e
 |.dict _=>fun _ _ e _=>by unfold xF at e;cases e
theorem WJ{h h':Heap}(k:∀b o vs n,h.get? b=some o->o.data=.seq vs n->h'.get? b=some o):∀(ds:List PyData)(vs:List Value)(as:List Addr),kT ds=true->ReadsAll h vs ds as->ReadsAll h' vs ds as
 |[]=>fun _ _ _ r=>by cases r;exact .nil
 |d::ds=>fun _ _ e r=>by
  cases r with
  |cons a b=>
   unfold kT at e;rw[B7]at e;exact .cons (rk k d _ _ e.1 a) (WJ k ds _ _ e.2 b)
end
theorem ReadsAll.at{h:Heap}:∀{ds:List PyData}{vs:List Value}{as:List Addr}(i:Nat),ReadsAll h vs ds as->i<ds.length->∃bs,Reads h (vs.getD i .none) (ds.getD i .none) bs
 |[],_,_,i=>fun _ hi=>absurd hi (Nat.not_lt_zero _)
 |d::ds,_,_,0=>fun r _=>by cases r with|cons a b=>exact⟨_,a⟩
 |d::ds,_,_,i+1=>fun r hi=>by
  cases r with
  |cons a b=>
   obtain⟨bs,x⟩:=ReadsAll.at i b (Nat.lt_of_succ_lt_succ hi);exact⟨bs,x⟩
theorem ReadsAll.len{h:Heap}:∀{ds:List PyData}{vs:List Value}{as:List Addr},ReadsAll h vs ds as->vs.length=ds.length
 |[],_,_=>fun r=>by cases r;rfl
 |d::ds,_,_=>fun r=>by
  cases r with
  |cons a b=>simp[ReadsAll.len b]
section
variable{prog:Program}{w:World}{A:Around}{E:Value->Shared->Prop}{s:Shared}
theorem aGB{b c:Bool}{p q:Value}{xs ys:List PyData}{as bs:List Addr}{Q:Bool->Shared->Prop}(hu:A.units+64<cLine)(r1:Reads s.heap p (.tuple xs) as)(r2:Reads s.heap q (.tuple ys) bs)
 (s1:xs.all SeqAt.shaped=true) (s2:ys.all SeqAt.shaped=true) (h:lX xs ys=some c) (hb:b=true->xs.head?.all isI=true/\ys.head?.all isI=true) (k:Q c s):wpAny (model prog w) A (keyLt' (tuples' b) p q) Q E s:=by
 cases r1 with
 |tuple a1 a2 a3 a4=>
  cases r2 with
  |tuple b1 b2 b3 b4=>
   refine PySem.W.kat_lt a1 a3 b1 b3 (OT hu k xs ys _ _ _ _ 0 a4 b4 s1 s2 h (by simp) (fun z=>hb ?_));simpa using z
def lO(rows:List (List PyData)):Bool:=rows.all fun r=>match r with
 |.int _::_=>true
 |_=>false
def oS(rows:List (List PyData)):Bool:=rows.all fun r=>match r with
 |.tuple _::_=>true
 |_=>false
theorem aEN{M:Model}{h:Heap}(n:Int)(t:Tok):PySem.W.Looks M h (typeOf (.int n t)) (.type "int"):=fun A Q E s _ q=>by
 show wpAny M A (pure _) Q E s;exact A6 q
theorem firstsI{h:Heap}:∀{rows:List (List PyData)}{vs:List Value}{as:List Addr},ReadsAll h vs (rows.map .tuple) as->lO rows=true->∃fs,PySem.W.KatTups h vs fs/\fs.length=rows.length/\∀v∈fs,∃n t,v=.int n t
 |[],_,_=>fun r _=>by cases r;exact⟨[],.nil,rfl,fun v hv=>nomatch hv⟩
 |x::rows,_,_=>fun r e=>by
  unfold lO at e;rw[Y5,B7]at e;cases r with
  |cons a b=>
   obtain⟨fs,h1,h2,h3⟩:=firstsI b (by unfold lO;exact e.2);cases x with
   |nil=>exact absurd e.1 (by decide)
   |cons d ds=>
    cases d with
    |int n=>
     cases a with
     |tuple g1 g2 g3 g4=>
      rename_i o vs n' ;generalize hv:vs.toList=l at g4;cases g4 with
      |cons q1 q2=>
       cases q1 with
       |int _ t=>
        refine⟨.int n t::fs,.cons g1 g2 g3 (f:=.int n t) ?_ h1,by simp[h2],?_⟩
        .rw[<- E1,hv];rfl
        .intro v hv';rcases List.mem_cons.mp hv' with z|z
         .exact⟨_,_,z⟩
         .exact h3 v z
    |_=>exact absurd e.1 (by intro z;cases z)
end
section
variable{prog:Program}{w:World}{A:Around}{E:Value->Shared->Prop}{s:Shared}
theorem aHO{M:Model}{h:Heap}{a:Addr}{o:Obj}(g:h.get? a=some o)(c:o.cls=.type "tuple"):PySem.W.Looks M h (typeOf (.ref a)) (.type "tuple"):=fun A Q E s k q=>Y7 (show s.TypeIs (.ref a) "tuple" from⟨o,k _ _ g,c⟩) q
theorem RC{h:Heap}:∀{rows:List (List PyData)}{vs:List Value}{as:List Addr},ReadsAll h vs (rows.map .tuple) as->oS rows=true->∃fs,PySem.W.KatTups h vs fs/\fs.length=rows.length/\∀v∈fs,∃a o,v=.ref a/\h.get? a=some o/\o.cls=.type "tuple"
 |[],_,_=>fun r _=>by cases r;exact⟨[],.nil,rfl,fun v hv=>nomatch hv⟩
 |x::rows,_,_=>fun r e=>by
  unfold oS at e;rw[Y5,B7]at e;cases r with
  |cons a b=>
   obtain⟨fs,h1,h2,h3⟩:=RC b (by unfold oS;exact e.2);cases x with
   |nil=>exact absurd e.1 (by decide)
   |cons d ds=>
    cases d with
    |tuple ys=>
     cases a with
     |tuple g1 g2 g3 g4=>
      rename_i o vs n';generalize hv:vs.toList=l at g4;cases g4 with
      |cons q1 q2=>
       cases q1 with
       |@tuple a' _ _ _ _ _ k1 k2 k3 k4=>
        refine⟨.ref a'::fs,.cons g1 g2 g3 (f:=.ref a') ?_ h1,by simp[h2],?_⟩
        .rw[<- E1,hv];rfl
        .intro v hv';rcases List.mem_cons.mp hv' with z|z
         .exact⟨_,_,z,k1,k2⟩
         .exact h3 v z
    |_=>exact absurd e.1 (by intro z;cases z)
theorem SL{M:Model}{rows:List (List PyData)}{vs:List Value}{as:List Addr}{Q:SortKind->Shared->Prop}(r:ReadsAll s.heap vs (rows.map .tuple) as)(h0:0<rows.length)(hk:lO rows=true\/oS rows=true)(q:Q (tuples' (lO rows)) s):wpAny M A (keyKind' vs.toArray) Q E s:=by
 rcases hk with hk|hk
 .obtain⟨fs,h1,h2,h3⟩:=firstsI r hk;rw[hk]at q;refine PySem.W.kat_kind (T:=.type "int") h1 (by omega) (fun v hv=>?_) (by decide) q;obtain⟨n,t,rfl⟩:=h3 v hv;exact aEN n t
 .obtain⟨fs,h1,h2,h3⟩:=RC r hk
  have e:lO rows=false:=by
   cases rows with
   |nil=>cases h0
   |cons x r=>
    unfold oS at hk;rw[Y5,B7]at hk;cases x with
    |nil=>rfl
    |cons d ds=>cases d<;>first|rfl|exact absurd hk.1 (by intro z;cases z)
  rw[e]at q;refine PySem.W.kat_kind (T:=.type "tuple") h1 (by omega) (fun v hv=>?_) (by decide) q;obtain⟨a,o,rfl,g,c⟩:=h3 v hv;exact aHO g c
end
section
variable{X:Cx}{pins:List (Addr×Obj)}{σ:St}{H:Hp}{s:Shared}{h':Heap}
theorem cP.there{P:Program}{w:World}{h:Heap}{a:Addr}{o:HO}(x:cP P w H h a o):∃u,h.get? a=some u:=by
 induction o with
 |lst xs=>obtain⟨_,_,_,_,e⟩:=x;exact⟨_,e⟩
 |tup xs=>obtain⟨_,_,_,_,e,_⟩:=x;exact⟨_,e⟩
 |dK kvs=>obtain⟨_,_,_,_,o,_,_,e,_⟩:=x;exact⟨_,e⟩
 |dT kvs=>obtain⟨_,_,_,_,o,_,_,e,_⟩:=x;exact⟨_,e⟩
 |set S n=>obtain⟨o,_,_,_,e,_⟩:=x;exact⟨_,e⟩
 |ins C dx fs=>obtain⟨_,_,_,e,_⟩:=x;exact⟨_,e⟩
 |own y=>exact x
 |xd fs=>obtain⟨_,⟨_,_,_,e,_⟩,_⟩:=x;exact⟨_,e⟩
 |rng lo hi=>obtain⟨_,_,_,e⟩:=x;exact⟨_,e⟩
 |frz o u=>exact⟨_,x.1⟩
 |tbl ps=>exact⟨_,x⟩
 |met f x'=>exact⟨_,x⟩
 |ext φ=>exact x.2.1
theorem HOk.none{P:Program}{w:World}{h:Heap}{a:Addr}(x:HOk P w H h)(e:h.get? a=none):H a=none:=by
 cases q:H a with
 |none=>rfl
 |some o=>
  obtain⟨u,z⟩:=(x a o q).there;rw[e]at z;cases z
theorem Inv.laidL{a:Addr}{o:HO}(I:Inv X pins σ H s)(k:∀b u,b≠X.env.locals->s.heap.get? b=some u->h'.get? b=some u)(ns:∀m,s.heap.Ns X.env.locals m->h'.Ns X.env.locals m)(hp:s.heap.get? a=none)(new:cP X.prog X.w (upd H a o) h' a o):
 Inv X pins σ (upd H a o) { s with heap:=h' }:=by
 have hn:=I.hok.none hp;have nt:∀b u,H b=some u->b≠X.env.locals:=fun b u e z=>by rw[z,I.free]at e;cases e
 refine I.step (g':=s.gens) (t':=s.toks) (d':=s.drawn) (ch:=[]) (fun _ z=>nomatch z) (fun b o h1 _ _ e _=>k b o h1 e) (fun b o h1 _ _ e _=>⟨o.slots,k b o h1 e⟩) (fun b o _ e n=>?_) (fun b o _ e=>?_) (fun b xs e=>?_) (fun b o u e=>?_) (fun b ps e=>⟨#[],?_⟩) ns ?_ I.bare
 .rw[aL (fun z=>by subst z;rw[hp]at e;cases e)];exact n
 .by_cases z:b=X.env.locals
  .subst z;obtain⟨m,hm,_⟩:=I.loc;obtain⟨o',_,_,q,_⟩:=ns m hm;exact⟨o',q⟩
  .exact⟨o,k b o z e⟩
 .rw[aL (aP e hn)];exact e
 .rw[aL (aP e hn)];exact e
 .rw[aL (aP e hn)];simpa using e
 .intro b u e;by_cases hb:b=a
  .subst hb;rw[aO]at e;cases e;exact new
  .rw[aL hb]at e;refine(I.hok b u e).stay (fun c v hc q=>k c v ?_ q) (fun c q=>by rw[aL (aP q hn)];exact q) fun c xs q=>by rw[aL (aP q hn)];exact q
   rcases hc with z|z
   .rw[z];exact nt b _ e
   .exact nt c _ z
theorem PF{h:Heap}{L:Addr}{m m':Str->Option Value}(a:h.Ns L m)(b:h.Ns L m'):m=m':=by
 obtain⟨o,es,ep,h1,h2,_,h3⟩:=a;obtain⟨o',es',ep',k1,k2,_,k3⟩:=b;rw[h1]at k1;cases k1;rw[h2]at k2;cases k2;funext x;rw[<- h3 x,k3 x]
def oA(rows:List (List PyData))(i j:Nat):Bool:=(lX (rows.getD i []) (rows.getD j [])).getD false
theorem DD{vs:List V}{us:List Value}(r:aW vs us):∀ps:List Nat,aW (ps.map fun i=>vs.getD i .non) (ps.map fun i=>us.getD i .none)
 |[]=>.nil
 |p::ps=>by
  refine .cons ?_ (DD r ps)
  have go:∀{vs:List V}{us:List Value}(i:Nat),aW vs us->RelV (vs.getD i .non) (us.getD i .none):=by
   intro vs us i r
   induction r generalizing i with
   |nil=>exact rfl
   |cons a b ih=>cases i with
    |zero=>exact a
    |succ i=>exact ih i
  exact go p r
end
def sortable(rows:List (List PyData)):Bool:=decide (2<=rows.length)&&decide (rows.length<64)&&rows.all (fun r=>r.all SeqAt.shaped&&kT r)&&(lO rows || oS rows)&&(List.range rows.length).all fun i=>(List.range rows.length).all fun j=>(lX (rows.getD i []) (rows.getD j [])).isSome
def LH(rows:List (List PyData)):List PyData:=(gN (oA rows) rows.length).map fun i=>.tuple (rows.getD i [])
theorem wV{rows:List (List PyData)}(h:sortable rows=true):2<=rows.length/\rows.length<64/\(∀r∈rows,r.all SeqAt.shaped=true/\kT r=true)/\(lO rows=true\/oS rows=true)/\(∀i j,i<rows.length->j<rows.length->(lX (rows.getD i []) (rows.getD j [])).isSome=true):=by
 unfold sortable at h;rw[B7,B7,B7,B7,Bool.or_eq_true]at h;obtain⟨⟨⟨⟨h1,h2⟩,h3⟩,h4⟩,h5⟩:=h;refine⟨C9 h1,C9 h2,fun r hr=>?_,h4,fun i j hi hj=>?_⟩
 .have:=List.all_eq_true.mp h3 r hr
  rwa [B7]at this
 .exact List.all_eq_true.mp (List.all_eq_true.mp h5 i (List.mem_range.mpr hi)) j (List.mem_range.mpr hj)
section
variable{K:Fg}
theorem aJ.len{H:Hp}:∀{ds:List PyData}{vs:List V},aJ K H ds vs->vs.length=ds.length
 |[],_=>fun h=>by
  have h:_=[]:=h;rw[h];rfl
 |d::ds,_=>fun h=>by
  obtain⟨v,r,rfl,_,h2⟩:=(show ∃v r,_=v::r/\Rep K H d v/\aJ K H ds r from h);simp[aJ.len h2]
theorem zZ{H:Hp}{rows:List (List PyData)}{us:List V}(r:aJ K H (rows.map .tuple) us):∀ps:List Nat,(∀i∈ps,i<rows.length)->aJ K H (ps.map fun i=>.tuple (rows.getD i [])) (ps.map fun i=>us.getD i .non)
 |[]=>fun _=>rfl
 |p::ps=>fun hp=>by
  refine⟨_,_,rfl,?_,zZ r ps fun i hi=>hp i (B3 _ hi)⟩;have hi:=hp p B5;have hl:=aJ.len r;rw[A7]at hl
  have hu:us[p]?=some (us.getD p .non):=by
   rw[D4,B9 (by omega)];rfl
  obtain⟨d,h1,h2⟩:=aJ.get r hu;rw[C8,B9 hi]at h1;cases h1;have e:rows.getD p []=rows[p]:=by rw[D4,B9 hi];rfl
  show Rep K H (.tuple (rows.getD p [])) (us.getD p .non);rw[e];exact h2
theorem aEj{lt:Nat->Nat->Bool}{n:Nat}(h0:0<n):∀i∈gN lt n,i<n:=fun i hi=>List.mem_range.mp ((lM lt h0).mem_iff.mp hi)
end
theorem cA.units2{k:Nat}{A:Around}(r:cA k A):A.in1.in1.units+64<cLine:=by have:=r.un;show A.units+1+1+64<_;omega
section
variable{prog:Program}{w:World}{A:Around}{E:Value->Shared->Prop}{s:Shared}
theorem xN{a:Addr}{vs:List Value}{n:Nat}{P:PySem.Fin->Shared->Prop}(g:s.heap.get? a=some (seqObj "list" vs.toArray n))(h2:vs.length<2)
 (k:P (.done (.ret .none)) { s with heap:=sortedHeap s.heap a vs vs.toArray }):wpAny (model prog w) A (Builtin.«list.sort» ⟨[.ref a],[]⟩) P E s:=by
 rw[list_sort_plain];have hz:vs.toArray.size<=sizeLine:=by rw[C0,F0];omega
 refine A3 (listItems_at g rfl ?_);refine A3 (listUpdate_at g rfl ?_ hz (by simp));have g1:=get?_update_seq g (fun _=>#[]);have hlt:=A8 g1;refine A3 (seqEpoch_at g1 rfl ?_);refine A3 (wpAny_newTuple ?_ (by simpa using hz));refine A3 (wpAny_newList ?_);refine E7 ?_;have hs:vs.toArray.size<2:=by simpa using h2
 dsimp only;rw[A9 hs,A9 hs];refine A3 (A6 ?_);refine A3 ?_;show wpAny (model prog w) A (pure ((),SortSt.mk' general' (vs.toArray.zip vs.toArray) #[] 7 none)) _ E _;refine A6 ?_;dsimp only;have g2:=A4 { cls:=.type "tuple",data:=.seq vs.toArray.toList.toArray } g1;have g3:=A4 { cls:=.type "list",data:=.seq ([]:List Value).toArray } g2;refine A3 (seqEpoch_at g3 rfl ?_)
 have hm:Array.map (fun x=>x.snd) (arrOf (SortSt.mk' general' (vs.toArray.zip vs.toArray) #[] 7 none))=vs.toArray:=by
  show Array.map (fun x=>x.snd) (vs.toArray.zip vs.toArray)=vs.toArray
  apply Array.ext
  .simp
  .intro i h1 h2;simp
 rw[hm];refine A3 (listUpdate_at g3 rfl ?_ (by simp) (by omega));rw[B2 (by simp)];exact A6 k
end
def TrS(h B:Heap)(e:Addr)(vs:Array Value):Option Value->Prop
 |none=>vs[1]?=some .none
 |some fl=>∃T oT ts,vs[1]?=some (.ref T)/\B.get? T=none/\T≠e/\h.get? T=some oT/\oT.data=.fields ts/\ts[3]?=some fl
def Tr(h B:Heap)(e:Addr)(c:Value)(dx:Option Addr)(st:Option Value):Prop:=
 ∃oe vs,h.get? e=some oe/\(oe.cls=c/\oe.dict=dx)/\oe.data=.fields vs/\1<vs.size/\TrS h B e vs st
structure Fly(B:Heap)(l:List Env)(e:Addr)(c:Value)(dx:Option Addr)(st:Option Value)(h:Heap):Prop where
 stays:B.StaysIn h
 new:B.get? e=none
 frames:h.FunFrames B l
 tr:Tr h B e c dx st
theorem Fly.obj{B h:Heap}{l:List Env}{e:Addr}{c:Value}{dx:Option Addr}{st:Option Value}(F:Fly B l e c dx st h):∃oe vs,h.get? e=some oe/\oe.cls=c/\oe.dict=dx/\oe.data=.fields vs:=by
 obtain⟨oe,vs,h1,h2,h3,_⟩:=F.tr;exact⟨oe,vs,h1,h2.1,h2.2,h3⟩
theorem aCi(o:Obj)(f:Array Value->Array Value):(o.mapFields f).dict=o.dict:=by
 obtain⟨c,d,dt,sl⟩:=o;cases dt<;>rfl
section
variable{M:Model}{A:Around}{E:Value->Shared->Prop}{s:Shared}{B:Heap}{env:Env}{outer l:List Env}{L e:Addr}{c:Value}{dx:Option Addr}{st:Option Value}{Q:Unit->Shared->Prop}
theorem kO{h:Heap}{a b:Addr}{o oa:Obj}{vs:Array Value}(ha:h.get? a=some oa)(hd:oa.data=.fields vs)(hb:h.get? b=some o)(hn:∀ws,o.data≠.fields ws):b≠a:=fun q=>by
 subst q;rw[ha]at hb;cases hb;exact hn vs hd
theorem KW{oe:Obj}{vs:Array Value}{hd:Value}{nx:Bool}(hfr:A.frames=some (env::outer))(hf:env.frame=some L)(stays:B.StaysIn s.heap)(new:B.get? e=none)(fr:s.heap.FunFrames B (env::outer))
 (he:s.heap.get? e=some oe) (hk:oe.cls=c/\oe.dict=dx) (hv:oe.data=.fields vs) (hz:1<vs.size)
 (q:∀h',Fly B (env::outer) e c dx (some (rawInt L)) h'->s.heap.UpToSlots h'->Q () { s with heap:=h' }):
 wpAny M A (do let a <- frameOf env;let pl <- entryPlaceOf L nx;let b <- EntryCells.newEntry hd a .none (rawInt L) .none pl;setField (.ref e) 1 b) Q E s:=by
 have notF:e∉(env::outer).filterMap (·.frame):=fun hm=>by
  obtain⟨_,o,ho,hnf⟩:=fr.mem hm;exact kO he hv ho hnf rfl
 refine A3 (wpAny_frameOf_fun hfr fr hf fun g1 so=>A3 (wpAny_entryPlaceOf fun pl hpl=>?_));unfold EntryCells.newEntry newFields;refine A3 (C4 ?_ (hpl.sizeOk5 _ _ _ _ _));generalize hnw:({ cls:=.type "traceback",dict:=none,data:=.fields ([hd,Value.ref L,.none,rawInt L,.none]++(if pl.isEmpty then List.replicate 6 Value.none else pl)).toArray }:Obj)=nw;have nwd:nw.data=.fields ([hd,Value.ref L,.none,rawInt L,.none]++(if pl.isEmpty then List.replicate 6 Value.none else pl)).toArray:=by rw[<- hnw]
 have e1:g1.get? e=some oe:=(so.2.1 e notF).trans he;have st1:B.StaysIn g1:=fun b o hb=>(so.2.1 b fun hm=>by rw[(fr.mem hm).1]at hb;cases hb).trans (stays b o hb);have e2:(g1.push nw).get? e=some oe:=A4 nw e1;refine O7 e2 hv hz (q _ ?_ ?_)
 all_goals
  have nTe:g1.objs.size≠e:=J0 (A8 e1);have e3:=E8 (Obj.mapFields (·.setIfInBounds 1 (Value.ref g1.objs.size))) e2 (S0 (J3 hv _))
  have kp:∀b o,b≠e->g1.get? b=some o->((g1.push nw).update e (Obj.mapFields (·.setIfInBounds 1 (Value.ref g1.objs.size)))).get? b=some o:=fun b o hbe hb=>by
   rw[J2 _ _ (L6 hbe)];exact A4 _ hb
 .refine⟨fun b o hb=>kp b o (fun z=>by rw[z,new]at hb;cases hb) (st1 b o hb),new,fr.of_keeps fun b o hb hnf=>?_,?_⟩
  .obtain⟨sl,hs⟩:=so.2.2 b o hb;exact⟨_,kp b _ (kO he hv hb hnf) hs,rfl⟩
  .refine⟨_,_,e3,⟨(A0h _ _).trans hk.1,(aCi _ _).trans hk.2⟩,J3 hv _,by simpa using hz,g1.objs.size,nw,_,by simp[hz],st1.fresh,nTe,?_,nwd,by simp⟩;rw[J2 _ _ (L6 nTe)];exact B6 g1 (by rw[<- hnw];rfl)
 .intro b o hb hnf;obtain⟨sl,hs⟩:=so.2.2 b o hb;exact⟨sl,kp b _ (kO he hv hb hnf) hs⟩
theorem HD(hfr:A.frames=some (env::outer))(hf:env.frame=some L)(F:Fly B (env::outer) e c dx st s.heap)(hst:st=none\/st=some .none\/st=some (rawInt L))
 (q:∀h',Fly B (env::outer) e c dx (some (rawInt L)) h'->s.heap.UpToSlots h'->Q () { s with heap:=h' }):wpAny M A (noteFrame (.ref e) env) Q E s:=by
 obtain⟨oe,vs,he,hk,hv,hz,ht⟩:=id F.tr;unfold noteFrame;simp only[hf];rcases hst with rfl|rfl|rfl
 .refine A3 (D7 he hv (show vs[1]?=some .none from ht) ?_);rw[B2 (by decide)];exact KW hfr hf F.stays F.new F.frames he hk hv hz q
 .obtain⟨T,oT,ts,t1,t2,t3,t4,t5,t6⟩:=ht;refine A3 (D7 he hv t1 ?_);rw[A9 (show(Value.ref T != Value.none)=true from by simp)];refine A3 (D7 t4 t5 t6 ?_);rw[B2 (show ¬((Value.none==rawInt L)=true)from by simp[rawInt])];refine A3 (O7 t4 t5 (Array.getElem?_eq_some_iff.mp t6).1 ?_);have oth:∀b,b≠T->(s.heap.update T (Obj.mapFields (·.setIfInBounds 3 Value.none))).get? b=s.heap.get? b:=fun b hb=>J2 _ _ (L6 hb)
  refine KW (s:={ s with heap:=s.heap.update T (Obj.mapFields (·.setIfInBounds 3 Value.none)) }) hfr hf (fun b o hb=>(oth b fun z=>by rw[z,t2]at hb;cases hb).trans (F.stays b o hb)) F.new
   (F.frames.of_keeps fun b o hb hnf=>⟨o,(oth b (kO t4 t5 hb hnf)).trans hb,rfl⟩) ((oth e (L6 t3)).trans he) hk hv hz fun h' F' u=>q h' F' fun b o hb hnf=>u b o ((oth b (kO t4 t5 hb hnf)).trans hb) hnf
 .obtain⟨T,oT,ts,t1,t2,t3,t4,t5,t6⟩:=ht;refine A3 (D7 he hv t1 ?_);rw[A9 (show(Value.ref T != Value.none)=true from by simp)];refine A3 (D7 t4 t5 t6 ?_);rw[A9 (show(rawInt L==rawInt L)=true from by simp)];exact A6 (q _ F (.refl _))
theorem yD{fl:Value}{fo:Option Addr}(F:Fly B l e c dx (some fl) s.heap)
 (q:∀h',Fly B l e c dx (some (fo.elim .none fun f=>rawInt f)) h'->s.heap.UpToSlots h'->Q () { s with heap:=h' }):wpAny M A (setFlight (.ref e) fo) Q E s:=by
 obtain⟨oe,vs,he,hk,hv,hz,T,oT,ts,t1,t2,t3,t4,t5,t6⟩:=id F.tr;have z3:3<ts.size:=(Array.getElem?_eq_some_iff.mp t6).1;unfold setFlight;refine A3 (D7 he hv t1 ?_);rw[A9 (show(Value.ref T != Value.none)=true from by simp)];have oth:∀b,b≠T->(s.heap.update T (Obj.mapFields (·.setIfInBounds 3 (fo.elim .none fun f=>rawInt f)))).get? b=s.heap.get? b:=fun b hb=>J2 _ _ (L6 hb)
 refine O7 t4 t5 z3 (q _ ⟨fun b o hb=>(oth b fun z=>by rw[z,t2]at hb;cases hb).trans (F.stays b o hb),F.new,F.frames.of_keeps fun b o hb hnf=>⟨o,(oth b (kO t4 t5 hb hnf)).trans hb,rfl⟩,
  oe,vs,(oth e (L6 t3)).trans he,hk,hv,hz,T,_,_,t1,t2,t3,E8 _ t4 (S0 (J3 t5 _)),J3 t5 _,by simp[z3]⟩
  fun b o hb hnf=>⟨o.slots,(oth b (kO t4 t5 hb hnf)).trans hb⟩)
theorem WM(hfr:A.frames=some (env::outer))(hf:env.frame=some L)(F:Fly B (env::outer) e c dx st s.heap)(hst:st=none\/st=some .none\/st=some (rawInt L))
 (q:∀h',Fly B outer e c dx (some .none) h'->s.heap.UpToSlots h'->Q () { s with heap:=h' }):wpAny M A (leaving env (.ref e)) Q E s:=by
 unfold leaving;refine A3 (HD hfr hf F hst fun h1 F1 u1=>yD (fo:=none) F1 fun h2 F2 u2=>?_);obtain⟨a,b,⟨_,_,c'⟩,d⟩:=F2;exact q h2 ⟨a,b,c',d⟩ (u1.trans u2)
theorem aBW{X:Value->Shared->Prop}(hfr:A.frames=some (env::outer))(hf:env.frame=some L)(F:Fly B (env::outer) e c dx st s.heap)(hst:st=none\/st=some .none\/st=some (rawInt L))
 (q:∀h',Fly B (env::outer) e c dx (some (rawInt L)) h'->s.heap.UpToSlots h'->X (.ref e) { s with heap:=h' }):notedBy M A env (cameBackBy M A env X) (.ref e) s:=by
 unfold notedBy;refine HD hfr hf F hst fun h1 F1 u1=>?_;unfold cameBackBy;obtain⟨oe,vs,he,hk,hv,hz,T,oT,ts,t1,t2,t3,t4,t5,t6⟩:=id F1.tr;refine A3 (D7 he hv t1 ?_);rw[B2 (show ¬((Value.ref T==Value.none)=true)from by simp),hf];exact yD (s:={ s with heap:=h1 }) (fo:=some L) F1 fun h2 F2 u2=>q h2 F2 (u1.trans u2)
end
structure Body(X:Cx):Prop where
 stk:X.stack=X.env::X.outer
 fr:X.env.frame=some X.env.locals
 ex:X.ex=[]
structure Kp(X:Cx)(H:Hp)(B h:Heap):Prop where
 trk:∀b u o,H b=some u->h.get? b=some o->B.get? b=some o
 ent:∀b o,X.s₀.heap.get? b=some o->b∉X.fs->(∃o',B.get? b=some o')/\(X.H₀ b=none->B.get? b=some o)
 pin:∀p∈X.pn,B.get? p.1=some p.2
section
variable{X:Cx}{pins:List (Addr×Obj)}{σ:St}{H:Hp}{s:Shared}{B h':Heap}
theorem Inv.up(I:Inv X [] σ H s)(b:Body X)(k:Kp X H B s.heap)(stays:B.StaysIn h')(u:s.heap.UpToSlots h'):Inv X [] σ H { s with heap:=h' }/\Kp X H B h':=by
 have tr:∀a v o,H a=some v->s.heap.get? a=some o->h'.get? a=some o:=fun a v o e q=>stays a o (k.trk a v o e q)
 have cell:∀c v,s.heap.IsCell c v->h'.IsCell c v:=fun c v ⟨o,ho,hd⟩=>by
  obtain⟨sl,q⟩:=u c o ho fun vs z=>by rw[hd]at z;cases z
  exact⟨_,q,hd⟩
 have frm:∀a∈X.fs,∀o,s.heap.get? a=some o->∃sl,h'.get? a=some { o with slots:=sl }:=fun a ha o e=>by
  obtain⟨_,o1,h1,hn⟩:=I.funs.mem ha;rw[e]at h1;cases h1;exact u a o e hn
 refine⟨⟨I.ok,I.os,I.bare,⟨fun a o e n ha hx=>?_,fun a o e n ha hx=>?_,I.base.free,fun a o e hx=>?_,I.base.tups,I.base.frzs,I.base.tbls⟩,?_,fun x c e=>?_,I.free,I.freeC,fun p hp=>?_,fun a v e=>?_,I.len⟩,⟨fun a v o e q=>?_,k.ent,k.pin⟩⟩
 .exact stays a o ((k.ent a o e ha).2 n)
 .obtain⟨sl,e1⟩:=I.base.slot a o e n ha hx;obtain⟨sl',e2⟩:=frm a ha _ e1;exact⟨sl',e2⟩
 .by_cases ha:a∈X.fs
  .obtain⟨o1,e1⟩:=I.base.there a o e hx;obtain⟨sl,e2⟩:=frm a ha o1 e1;exact⟨_,e2⟩
  .obtain⟨⟨o',q⟩,_⟩:=k.ent a o e ha;exact⟨o',stays a o' q⟩
 .obtain⟨m,hn,hl⟩:=I.loc;refine⟨m,u.ns hn,fun i x v e1 e2 e3=>?_⟩;obtain⟨uu,r,l⟩:=hl i x v e1 e2 e3;refine⟨uu,r,?_⟩;rcases l with l|⟨kk,c,e,z⟩
  .exact .inl l
  .exact .inr ⟨kk,c,e,cell c _ z⟩
 .obtain⟨v,z⟩:=I.cell x c e;exact⟨v,cell c v z⟩
 .rw[F4]at hp;obtain⟨_,n,ne,nf,d⟩:=I.pin p (L5 _ hp);exact⟨stays _ _ (k.pin p hp),n,ne,nf,d⟩
 .exact(I.hok a v e).stay (fun c w hc q=>by
   rcases hc with rfl|hc
   .exact tr c v w e q
   .exact tr c _ w hc q) (fun _ q=>q) fun _ _ q=>q
 .obtain⟨o1,q1⟩:=(I.hok a v e).there;have:=tr a v o1 e q1;rw[q]at this;cases this;exact k.trk a v o e q1
def XS(X:Cx)(EE:St->XK)(ev:Value)(s:Shared):Prop:=
 ∃e c dx st σ H B,ev=.ref e/\Inv X [] σ H s/\Kp X H B s.heap/\Fly B X.stack e c dx st s.heap/\(st=none\/st=some .none\/st=some (rawInt X.env.locals))/\EE σ c dx H
theorem XS.unwish{EE:St->XK}{E:Value->Shared->Prop}{ev:Value}(h:XS (X.wish E) EE ev s):XS X EE ev s:=by
 obtain⟨e,c,dx,st,σ,H,B,h1,I,k,F,hst,q⟩:=h;exact⟨e,c,dx,st,σ,H,B,h1,I.unwish,⟨k.trk,k.ent,k.pin⟩,F,hst,q⟩
def CX1(P:Program)(w:World):CXT:=fun outer H s E ev s'=>∃e c dx H' B,ev=.ref e/\s'.os=s.os/\AllBare s'.gens/\Un (frs outer) [] H H' s.heap s'.heap/\HOk P w H' s'.heap/\Fly B outer e c dx (some .none) s'.heap /\
 (∀b u o,H' b=some u->s'.heap.get? b=some o->B.get? b=some o)/\(∀b o,s.heap.get? b=some o->b∉frs outer->(∃o',B.get? b=some o')/\(H b=none->B.get? b=some o))/\E c dx H'
theorem Inv.entry(I:Inv X pins σ H s)(bd:Body X){b:Addr}{o:Obj}(e:X.s₀.heap.get? b=some o)(hb:b∉X.fs):b∉frs X.stack/\(∃o1,s.heap.get? b=some o1)/\(X.H₀ b=none->s.heap.get? b=some o/\H b=none):=by
 have nx:b∉X.ex:=by rw[bd.ex];simp
 refine⟨fun z=>?_,I.base.there b o e nx,fun n=>⟨I.base.keep b o e n hb nx,I.base.free b o e n nx⟩⟩;rcases List.mem_cons.mp (I.stkSub b z)with q|q
 .exact absurd (q▸C2 (A8 e) I.ok.above) (J1 _)
 .exact hb q
theorem aGR{EE:St->XK}{ev:Value}{s':Shared}(bd:Body X)(I:Inv X pins σ H s)(h:CX1 X.prog X.w X.stack H s (EE σ) ev s'):XS X EE ev s':=by
 obtain⟨e,c,dx,H',B,rfl,os,bare,un,hok,F,trk,ent,q⟩:=h;have I':Inv X pins σ H' s':=I.call' os un hok bare fun b z=>absurd z (by simp);refine⟨e,c,dx,some .none,σ,H',B,rfl,I'.pins_of fun p hp=>absurd hp (by simp),⟨trk,fun b o e hb=>?_,fun p hp=>?_⟩,F,.inr (.inl rfl),q⟩
 .obtain⟨h1,⟨o1,h2⟩,h3⟩:=I.entry bd e hb;exact⟨(ent b o1 h2 h1).1,fun n=>(ent b o (h3 n).1 h1).2 (h3 n).2⟩
 .obtain⟨h1,n,ne,nf,_⟩:=I.pin p (L5 _ hp);exact(ent p.1 p.2 h1 fun z=>(List.mem_cons.mp (I.stkSub p.1 z)).elim ne nf).2 n
theorem aGc{EE:St->XK}{e:Addr}{oe:Obj}{vs:Array Value}(bd:Body X)(I:Inv X pins σ H s)(he:s.heap.get? e=some oe)(hn:H e=none)(h0:X.s₀.heap.get? e=none)(hp:∀p∈X.pn,p.1≠e)(hv:oe.data=.fields vs)(hz:1<vs.size)(h1:vs[1]?=some .none)
 (q:EE σ oe.cls oe.dict H):XS X EE (.ref e) s:=by
 have nf:e∉frs X.stack:=fun hm=>by
  obtain⟨_,o,ho,hnf⟩:=I.stack.mem hm;exact kO he hv ho hnf rfl
 have get:∀b o,b≠e->b∉frs X.stack->s.heap.get? b=some o->(PySem.W.hideAll s.heap (e::frs X.stack)).get? b=some o:=fun b o h1 h2 h3=>PySem.W.hideAll_get _ h3 fun hm=>(List.mem_cons.mp hm).elim h1 h2;refine⟨e,oe.cls,oe.dict,none,σ,H,PySem.W.hideAll s.heap (e::frs X.stack),rfl,I.pins_of fun p hp=>absurd hp (by simp),⟨fun b u o h1 h2=>?_,fun b o h1 h2=>?_,fun p h1=>?_⟩,⟨fun b o h1=>PySem.W.of_hideAll _ h1,PySem.W.hideAll_none _ B5,?_,oe,vs,he,⟨rfl,rfl⟩,hv,hz,h1⟩,.inl rfl,q⟩
 .exact get b o (aP h1 hn) (fun z=>by rw[I.stkFree b z]at h1;cases h1) h2
 .obtain⟨k1,⟨o1,k2⟩,k3⟩:=I.entry bd h1 h2;have ne:b≠e:=fun z=>by rw[z,h0]at h1;cases h1
  exact⟨⟨o1,get b o1 ne k1 k2⟩,fun n=>get b o ne k1 (k3 n).1⟩
 .obtain⟨q1,n,ne,nf,_⟩:=I.pin p (L5 _ h1);exact get p.1 p.2 (hp p h1) (fun z=>(List.mem_cons.mp (I.stkSub p.1 z)).elim ne nf) q1
 .exact PySem.W.funFrames_hide I.stack fun env hm a ha=>B3 _ (List.mem_filterMap.mpr ⟨env,hm,ha⟩)
theorem VW{EE:St->XK}(bd:Body X):PassesOwn (model X.prog X.w) X.A X.env (XS X EE):=by
 rintro ev s ⟨e,c,dx,st,σ,H,B,rfl,I,k,F,hst,q⟩;have hf:=I.ok.frames;rw[bd.stk]at hf F;refine aBW hf bd.fr F hst fun h' F' u=>?_;obtain⟨I',k'⟩:=I.up bd k F'.stays u;exact⟨e,c,dx,_,σ,H,B,rfl,I',k',by rw[bd.stk];exact F',.inr (.inr rfl),q⟩
end
section
variable{P:Program}{w:World}{K:Fg}{mg:Str->Option Value}{base:Heap}{N:List Str}{qual:Str}{scope:Scope}{f:Addr}{cd:Value}{A:Around}{outer:List Env}{s:Shared}{H:Hp}{E:XK}{CX:CXT}
theorem OY:Body (mL CX P w K mg base N qual scope f cd A outer s H E):=⟨rfl,rfl,rfl⟩
theorem Body.wish{X:Cx}(b:Body X)(E:Value->Shared->Prop):Body (X.wish E):=⟨b.stk,b.fr,b.ex⟩
theorem VS{ev:Value}{s':Shared}(h:XS (mL (CX1 P w) P w K mg base N qual scope f cd A outer s H E) (fun _=>E) ev s'):(mL (CX1 P w) P w K mg base N qual scope f cd A outer s H E).xe ev s':=by
 obtain⟨e,c,dx,st,σ,H',B,rfl,I,k,F,hst,q⟩:=h;refine WM (c:=c) (dx:=dx) (st:=st) (B:=B) (outer:=outer) (L:=s.heap.objs.size) I.ok.frames rfl F hst fun h' F' u=>?_;obtain⟨I',k'⟩:=I.up OY k F'.stays u;exact⟨e,c,dx,H',B,rfl,I'.os,I'.bare,I'.base,I'.hok,F',k'.trk,k'.ent,q⟩
theorem aFq{k:Nat}{name:Str}{params:Arguments}{body:List Stmt}{dV kV doc pm cdv ct oc:Value}{an od:Option Addr}
 {osl:Array (Option Value)} {ps:List Str} {sp:Sp} (lk:K.lookup f=some ⟨oc,od,.func (PySem.W.fnOf name qual params body scope dV kV doc pm an cdv ct),osl⟩) (hcd:PySem.W.codeIn K cdv qual=true) (S:aQ N ps scope)
 (len:∀vs H Q E,sp vs H Q E->vs.length=ps.length)
 (hbody:∀(A:Around)(outer:List Env)(s:Shared)(H:Hp)(vs:List V)(Q:VK)(E:XK),cA k (A.deeper (envOfC qual scope s.heap.objs.size f cdv))->sp vs H Q E->
  ∃t,PSs ((mL (CX1 P w) P w K mg base N qual scope f cdv A outer s H E).wish (XS (mL (CX1 P w) P w K mg base N qual scope f cdv A outer s H E) fun _=>E)) body t/\t { nx:=fun _ H'=>Q .non H',rt:=Q } (start N vs) H):
 kW P w K mg base (CX1 P w) (k+1) f (PySem.W.fnOf name qual params body scope dV kV doc pm an cdv ct) ps sp:=
 aEE lk hcd S len fun A outer s H vs Q E hr h=>by
  obtain⟨t,ht,hq⟩:=hbody A outer s H vs Q E hr h;exact⟨t,fun pins s' σ H' D I hw=>E3 (ht pins s' σ H' D (I.wish _) hw) (fun _ _ q=>q.unwish) fun _ _ z=>VS z,hq⟩
end
structure YG(K:Fg)(C:Addr):Prop where
 ga:PySem.W.findIn K (.ref C) "__getattribute__"=some (some (.builtin "BaseException.__getattribute__"))
 gh:PySem.W.findIn K (.ref C) "__getattr__"=some none
 be:PySem.W.subIn K (.ref C) (.type "BaseException")=some true
 cl:(PySem.W.clsIn K C).isSome=true
section
variable{prog:Program}{w:World}{A:Around}{E:Value->Shared->Prop}{s:Shared}{K:Fg}{x C:Addr}{ox:Obj}{od:Option Obj}{name:Str}
theorem GS{tk:Tok}{Q:Value->Shared->Prop}(X:K.In s.heap)(I:PySem.W.InstAt s.heap x ox C od)(c:YG K C)
 (h:wpAny (model prog w) A.in1 (Builtin.«object.__getattribute__» ⟨[.ref x,.str name tk],[]⟩)
  (fun fin s'=>match fin with|.done (.ret v)=>Q v s'|.done _=>False|.again c'=>c'.quiet=true/\codeAny (model prog w) A c' (fun r s'=>match r with|.ok (.ret v)=>Q v s'|.ok _=>False|.error e=>E e s') s') E s):
 wpAny (model prog w) A (call (.builtin "BaseException.__getattribute__") [.ref x,.str name tk]) Q E s:=by
 have hb:=F.entry_bexc_ga;generalize Builtin.«object.__getattribute__»=b at hb h;refine wpAny_call (codeAny_call_builtin F.excAttr_ValueError.ga.plain hb ?_);have hk:builtinKind "BaseException.__getattribute__"=some .slot:=by decide +kernel
 have hsplit:splitId "BaseException.__getattribute__"=some ("BaseException","__getattribute__"):=by decide +kernel
 have ha:=F.args_bexc_ga (.ref x) (.str name tk);have L0:=I.type (M:=model prog w);have L1:=PySem.W.looks_subIn (M:=model prog w) X c.be;obtain⟨hh,g,d,t,os⟩:=s;simp only[checkBuiltinCall,hk,hsplit];refine A3 ?_;unfold isInstance;refine A3 (L0.at (L1.at ?_))
 repeat (first|assumption|wp_step)
 refine E3 h (fun fin s' z=>?_) fun _ _ z=>z;rcases fin with(_|_|_|_)|c'
 .exact z
 .exact z
 .exact z
 .exact z
 .exact⟨z.1,Y6 z.2 fun r s' q=>by cases r with
   |error e=>exact q
   |ok f=>cases f<;>exact q⟩
theorem UG{tk:Tok}{fill ex:Bool}{Q:Value->Shared->Prop}(X:K.In s.heap)(I:PySem.W.InstAt s.heap x ox C od)(c:YG K C)
 (h:wpAny (model prog w) A.in1 (Builtin.«object.__getattribute__» ⟨[.ref x,.str name tk],[]⟩)
  (fun fin s'=>match fin with|.done (.ret v)=>wpAny (model prog w) A (handedOut v) Q E s'|.done _=>False|.again c'=>c'.quiet=true/\codeAny (model prog w) A c' (fun r s'=>match r with|.ok (.ret v)=>wpAny (model prog w) A (handedOut v) Q E s'|_=>False) s') (fun _ _=>False) s):
 wpAny (model prog w) A (getAttrBy (.ref x) (.str name tk) fill ex) Q E s:=by
 have L0:=I.type (M:=model prog w);have L1:=PySem.W.looks_findIn (M:=model prog w) X c.ga;have L2:=PySem.W.looks_findIn (M:=model prog w) X c.gh;unfold getAttrBy;refine E7 (A3 (L0.here (A3 (L1.here ?_))));have hx2:(Value.builtin "BaseException.__getattribute__"==Value.builtin "object.__getattribute__")=false:=by decide +kernel
 have hx1:(onTheHeap (Value.ref C)&&Value.builtin "BaseException.__getattribute__"==Value.builtin "object.__getattribute__")=false:=by rw[hx2];rfl
 dsimp only;rw[hx1,B2 B1];unfold getAttrByItsOwn hookBefore;rw[A9 (show onTheHeap (Value.ref C)=true from rfl)];refine A3 (L2.here (A3 (Z0 (E7 ?_))));unfold callGetattribute;rw[B2 (show ¬((ex&&onTheHeap (Value.builtin "BaseException.__getattribute__"))=true)from by cases ex<;>exact B1)];unfold boundAndCalled;rw[F.excAttr_ValueError.ga.bind (.ref x)];refine A3 (A6 ?_);refine E3 (GS (tk:=tk) (name:=name) (E:=fun _ _=>False) (Q:=fun v s'=>wpAny (model prog w) A (handedOut v) Q E s') X I c ?_) (fun v s' z=>z) fun _ _ z=>z.elim;refine E3 h (fun fin s' z=>?_) fun _ _ z=>z;rcases fin with(_|_|_|_)|c'
 .exact z
 .exact z
 .exact z
 .exact z
 .exact⟨z.1,Y6 z.2 fun r s' q=>by cases r with
   |error e=>exact q
   |ok f=>cases f<;>exact q⟩
theorem VB{Q:Option Value->Shared->Prop}(X:K.In s.heap)(I:PySem.W.InstAt s.heap x ox C od)(c:YG K C)(ha:PySem.W.findIn K (.ref C) "__class__"=some (some (.builtin "object.__class__")))
 (hn:PySem.W.specialIn K (.builtin "object.__class__") "__get__"=some (some (.builtin "getset_descriptor.__get__"))) (htk:PySem.W.takesIn K (.builtin "object.__class__")=some true) (hm:PySem.W.mroIn K C (.type "object")=some true)
 (h:Q (some (.ref C)) { s with toks:=s.toks+1 }):wpAny (model prog w) A (getAttr? (.ref x) "__class__") Q E s:=by
 have hf:PySem.W.findObj K C od "__class__"=some (.bind (.builtin "getset_descriptor.__get__") (.builtin "object.__class__")):=by
  obtain⟨cd,hc⟩:=Option.isSome_iff_exists.mp c.cl;unfold PySem.W.findObj;rw[hc,B4,ha,B4];simp[hn,htk]
 unfold getAttr? getAttrBy?;refine A3 (wpAny_mkText (A3 (Z0 (UG (s:={ s with toks:=s.toks+1 }) X I c ?_))));obtain⟨h0,g,d,t,os⟩:=s;have L0:=I.type (M:=model prog w);have L1:=PySem.W.looks_find (M:=model prog w) X I hf;refine A3 (A6 (A3 (A6 (A3 (L0.at (A3 (L1.at ?_)))))));show wpAny _ _ (Builtin.ObjectAttr.bindTo (.builtin "getset_descriptor.__get__") (.builtin "object.__class__") (.ref x) (.ref C)) _ _ _;unfold Builtin.ObjectAttr.bindTo;refine A3 (E7 (wpAny_call (PySem.W.class_get (ox:=ox) (od:=od) X I hm ?_)));refine A6 ?_;show wpAny _ _ (handedOut (.ref C)) _ _ _;exact A6 (A6 h)
theorem ZU(c:YG K C)(ha:PySem.W.findIn K (.ref C) "__class__"=some (some (.builtin "object.__class__")))
 (hn:PySem.W.specialIn K (.builtin "object.__class__") "__get__"=some (some (.builtin "getset_descriptor.__get__"))) (htk:PySem.W.takesIn K (.builtin "object.__class__")=some true) (hm:PySem.W.mroIn K C (.type "object")=some true):
 PySem.W.KitX K (.ref x) (.ref C) (fun h=>∃ox od,PySem.W.InstAt h x ox C od) where
 ty:=fun _ _ _ ⟨_,_,I⟩=>I.type
 it:=fun _ _ X _=>by
  have hc:=c.cl;unfold PySem.W.clsIn at hc;split at hc
  .rename_i c' d' cd' sl' ho;intro A' Q' E' s' k q;unfold isType loadHead;exact A3 (wpAny_loadPart (k _ _ (X _ _ ho)) (A6 q))
  .cases hc
 ne:=fun h tp dd its n sl X htp=>by
  have hc:=c.cl;refine Bool.eq_false_iff.mpr fun q=>?_;have e:C=tp:=Value.ref.inj (beq_iff_eq.mp q);subst e;unfold PySem.W.clsIn at hc;split at hc
  .rename_i c' d' cd' sl' ho;have z:=(X _ _ ho).symm.trans htp;cases z
  .cases hc
 ca:=fun X ⟨_,_,I⟩ k=>VB X I c ha hn htk hm k
end
section
variable{X:Cx}{pins:List (Addr×Obj)}{σ:St}{H:Hp}{s:Shared}
def AR(sp:Sp)(EE:St->XK)(t:TA):TE:=fun σ H Q=>t σ H fun vs H1=>sp vs H1 Q (EE σ)
structure cU(P:Program)(w:World)(K:Fg)(mg:Str->Option Value)(base:Heap)(k:Nat)(x:Str)(ps:List Str)(sp:Sp):Prop where
 ex:∃f fd,kW P w K mg base (CX1 P w) k f fd ps sp/\mg x=some (.ref f)/\PySem.W.keepIn K (.ref f)=true/\Binds K fd ps []
theorem cU.mono{P:Program}{w:World}{mg:Str->Option Value}{base:Heap}{j k:Nat}{x:Str}{ps:List Str}{sp:Sp}(C:cU P w K mg base j x ps sp)(h:j<=k):cU P w K mg base k x ps sp:=by
 obtain⟨f,fd,F,r⟩:=C.ex;exact⟨f,fd,F.mono h,r⟩
structure XOk(X:Cx)(EE:St->XK):Prop where
 bd:Body X
 pass:∀ev s,XS X EE ev s->X.xe ev s
 own:PassesOwn (model X.prog X.w) X.A X.env X.xe
theorem XOk.of{X:Cx}(bd:Body X)(EE:St->XK):XOk (X.wish (XS X EE)) EE:=⟨bd.wish _,fun _ _ h=>h.unwish,VW bd⟩
theorem OX{EE:St->XK}{k:Nat}{f:Addr}{fd:FuncData}{ps:List Str}{sp:Sp}{Q:VK}{us:List Value}{vs:List V}(ok:XOk X EE)(F:kW X.prog X.w X.K X.mg X.base (CX1 X.prog X.w) k f fd ps sp)(hr:cA k X.A)(hb:Binds X.K fd ps [])
 (I:Inv X pins σ H s) (r:aW vs us) (h:sp vs H Q (EE σ)):wpAny (model X.prog X.w) X.A (call (.ref f) us) (EP X pins σ Q) X.xe s:=by
 have hl:us.length=ps.length:=by rw[<- r.length];exact F.len _ _ _ _ h
 have b:=hb s us I.kIn (by rw[F4];exact hl);rw[F4]at b;refine wpAny_call (Y6 (F.run X.A X.stack s H ⟨us,[]⟩ us vs Q (EE σ) hr I.env0 b r h) fun r s' hq=>?_);cases r with
 |error e=>exact ok.pass _ _ (aGR ok.bd I hq)
 |ok fl=>
  cases fl with
  |ret u=>exact I.after hq
  |next=>exact False.elim hq
  |brk=>exact False.elim hq
  |cont=>exact False.elim hq
theorem aDJ{EE:St->XK}{k:Nat}{x:Str}{ps:List Str}{sp:Sp}{p pos:Pos}{e:Expr}{es:List Expr}{t:TA}(ok:XOk X EE)(C:cU X.prog X.w X.K X.mg X.base k x ps sp)(hr:cA k X.A)(ha:PA X (e::es) t)(hg:Gl X x)
 (hdb:(x==("__debug__":Str))=false) (he:starEach (e::es) X.env=(false,eval e X.env)::starEach es X.env) (hpl:(backTo pos (starEach es X.env)).any (·.1)=false):
 PE X (.Call (.Name x p) (e::es) [] pos) (AR sp EE t):=by
 intro pins s σ H Q I h;obtain⟨f,fd,F,m,kp,b⟩:=C.ex;refine L7 (rO I hg m ?_ hdb);exact A0p (h₀:=X.base) I.ok.mod.kin kp (thn (ha pos pins s σ H _ I h) fun us s1 ⟨vs,H1,I1,r,q⟩=>⟨I1.kIn,OX ok F hr b I1 r q⟩) he hpl
abbrev bmV:List Value:=[.type "ValueError",.type "Exception",.type "BaseException",.type "object"]
theorem aBH{h:Heap}{C:Addr}{bmB:List Value}{nid:String}(X:K.In h)(q:PySem.W.excIn K C bmB nid=true):
 ∃bm N nm qn bs hd sn sub ab col dd k0 k1 k2 k3 k5 mN,h.get? C=some (excClassObj nm qn C N bs bm hd sn sub ab col dd k0 k1 k2 k3 k5 nid)/\h.Ns N mN/\mN "__init__"=none/\OwnTail h bmB bm:=by
 unfold PySem.W.excIn at q;split at q
 case h_2=>cases q
 case h_1 dd cd sl lk=>
  split at q
  case h_2=>cases q
  case h_1 C' bm k0 k1 k2 k3 n k5 hm hs=>
   simp only[Bool.and_eq_true,beq_iff_eq,Bool.not_eq_true']at q;obtain⟨⟨⟨⟨⟨q1,q2⟩,q3⟩,q4⟩,q5⟩,q6⟩:=q;subst q1 q2;cases cd with
   |mk nm bs mro ns qn hd sn sub ab col del=>
    cases hm;cases q3
    have es:sl=#[k0,k1,k2,k3,some (.builtin n),k5]:=by
     cases sl with
     |mk l=>exact Y0 Array.mk hs
    cases es;exact⟨bm,ns,nm,qn,bs,hd,sn,sub,ab,col,dd,k0,k1,k2,k3,k5,_,X _ _ lk,.of_isNs (PySem.W.isNs_of_in X q5),PySem.W.nsMap_none_of_in X q5 q6,PySem.W.tail_of_in X q4⟩
def HM(EE:St->XK)(C:Addr):TS:=fun _ σ H=>EE σ (.ref C) none H
theorem RT{EE:St->XK}{C:Addr}{x:Str}{np cpos pos:Pos}(ok:XOk X EE)(hc:X.calm=true)(hm:X.mg x=some (.ref C))(q:PySem.W.excIn X.K C bmV "ValueError.__new__"=true)(hg:Gl X x)
 (hdb:(x==("__debug__":Str))=false):PS X (.Raise (some (.Call (.Name x np) [] [] cpos)) none pos) (HM EE C):=by
 intro pins s σ H D I h;obtain⟨bm,N,nm,qn,bs,hd,sn,sub,ab,col,dd,k0,k1,k2,k3,k5,mN,oC,oN,oi,ot⟩:=aBH I.kIn q
 refine wpAny_Raise_call_subT (C:=C) (nm:=nm) (q:=qn) (N:=N) (bs:=bs) (bm:=bm) (hdct:=hd) (sn:=sn) (sub:=sub) (ab:=ab) (col:=col) (dd:=dd) (k0:=k0) (k1:=k1) (k2:=k2) (k3:=k3) (k5:=k5) (mN:=mN)
  F.excBase_ValueError (ot.hasType F.excBase_ValueError.hasBase) (I.ok.hd hc) rfl oi (rO I hg hm ⟨rfl,evalArgs_empty ⟨rfl,J4 _,oC,oN,ot,fun h' e mk=>ok.pass _ _ ?_⟩⟩ hdb)
 obtain⟨t,he,_,_⟩:=mk.there;have I':Inv X pins σ H { s with heap:=h' }:=I.kept mk.keeps
 have hn:H e=none:=by
  cases z:H e with
  |none=>rfl
  |some u=>
   obtain⟨o,z'⟩:=(I.hok e u z).there;rw[mk.new]at z';cases z'
 refine aGc ok.bd I' he hn ?_ (fun p hp z=>?_) rfl (show 1<6 by decide) rfl h
 .cases z:X.s₀.heap.get? e with
  |none=>rfl
  |some o=>
   obtain⟨o1,z1⟩:=I.base.there e o z (by rw[ok.bd.ex];simp);rw[mk.new]at z1;cases z1
 .have:=(I.pin p (L5 _ hp)).1;rw[z,mk.new]at this;cases this
end
def hCx(X:Cx)(e:Addr):Cx:={ X with A:=X.A.mark (some (.ref e)),calm:=false,xe:=fun _ _=>False }
def xM(X:Cx)(pins:List (Addr×Obj)):Cx:={ X with pn:=X.pn++pins }
section
variable{X:Cx}{pins:List (Addr×Obj)}{σ:St}{H:Hp}{s:Shared}
theorem Inv.toH(I:Inv X pins σ H s)(e:Addr):Inv (hCx X e) pins σ H s:=
 ⟨⟨I.ok.mod,I.ok.kind,I.ok.glob,I.ok.blt,I.ok.above,I.ok.inj,I.ok.has,I.ok.cab,fun z=>(by cases z),I.ok.frames,I.ok.stk,I.ok.exf,I.ok.bs,I.ok.bsz,I.ok.noex,I.ok.exfs,I.ok.funs,I.ok.frf⟩,I.os,I.bare,I.base,I.loc,I.cell,I.free,I.freeC,I.pin,I.hok,I.len⟩
theorem Inv.ofH{e:Addr}(I:Inv (hCx X e) pins σ H s)(ok:X.Ok):Inv X pins σ H s:=⟨ok,I.os,I.bare,I.base,I.loc,I.cell,I.free,I.freeC,I.pin,I.hok,I.len⟩
theorem Inv.toP(I:Inv X pins σ H s):Inv (xM X pins) [] σ H s:=
 ⟨⟨I.ok.mod,I.ok.kind,I.ok.glob,I.ok.blt,I.ok.above,I.ok.inj,I.ok.has,I.ok.cab,I.ok.hd,I.ok.frames,I.ok.stk,I.ok.exf,I.ok.bs,I.ok.bsz,I.ok.noex,I.ok.exfs,I.ok.funs,I.ok.frf⟩,I.os,I.bare,I.base,I.loc,I.cell,I.free,I.freeC,fun p hp=>I.pin p (by rw[F4]at hp;exact hp),I.hok,I.len⟩
theorem Inv.ofP(I:Inv (xM X pins) [] σ H s)(ok:X.Ok):Inv X pins σ H s:=⟨ok,I.os,I.bare,I.base,I.loc,I.cell,I.free,I.freeC,fun p hp=>I.pin p (by rw[F4];exact hp),I.hok,I.len⟩
theorem Inv.track{e:Addr}{oe:Obj}{vs:Array Value}(I:Inv X pins σ H s)(he:s.heap.get? e=some oe)(hv:oe.data=.fields vs)(hn:H e=none)(h0:X.s₀.heap.get? e=none)(hp:∀p∈X.pn++pins,p.1≠e):
 Inv X pins σ (upd H e (.ext (ID e oe.cls oe.dict false))) s:=by
 have ne:∀b u,H b=some u->b≠e:=fun b u z=>aP z hn;refine⟨I.ok,I.os,I.bare,⟨I.base.keep,I.base.slot,fun b o q n hx=>?_,I.base.there,fun b xs q=>?_,fun b o u q=>?_,fun b ps q=>?_⟩,I.loc,I.cell,?_,fun x c q=>?_,fun p h=>?_,fun b u q=>?_,I.len⟩
 .rw[aL (fun z=>by rw[z,h0]at q;cases q)];exact I.base.free b o q n hx
 .have:=I.base.tups b xs q;rw[aL (ne _ _ this)];exact this
 .have:=I.base.frzs b o u q;rw[aL (ne _ _ this)];exact this
 .obtain⟨more,this⟩:=I.base.tbls b ps q;exact⟨more,by rw[aL (ne _ _ this)];exact this⟩
 .obtain⟨m,⟨o,es,ep,ho,hd,_⟩,_⟩:=I.loc;rw[aL (kO he hv ho fun ws z=>by rw[hd]at z;cases z)];exact I.free
 .obtain⟨v,o,ho,hd⟩:=I.cell x c q;rw[aL (kO he hv ho fun ws z=>by rw[hd]at z;cases z)];exact I.freeC x c q
 .obtain⟨q1,q2,q3⟩:=I.pin p h;exact⟨q1,by rw[aL (hp p h)];exact q2,q3⟩
 .by_cases hb:b=e
  .subst hb;rw[aO]at q;cases q;exact⟨⟨oe,vs,he,rfl,rfl,hv,fun z=>by cases z⟩,⟨oe,he⟩,fun h1 h2 ⟨o,ws,z1,z2⟩ k=>⟨o,ws,k o z1,z2⟩⟩
  .rw[aL hb]at q;exact(I.hok b u q).stay (fun _ _ _ z=>z) (fun c z=>by rw[aL (ne _ _ z)];exact z) fun c xs z=>by rw[aL (ne _ _ z)];exact z
theorem rS{M:Model}{A:Around}{E:Value->Shared->Prop}{i:Nat}{x:Str}{pos:Pos}{Q:Unit->Shared->Prop}(I:Inv X pins σ H s)(hN:X.N.Nodup)(hi:X.N[i]?=some x)(hk:X.env.scope.names.lookup x=some .local)
 (h:∀s',Inv X pins (σ.set i none) H s'->Q () s'):wpAny M A (do bindName X.env x .none;unbindBehindTheSuite X.env x pos) Q E s:=by
 obtain⟨m,hn,hl⟩:=id I.loc;have hcls:(X.env.scope.kind==.class || (X.env.scope.kind==.module&&X.env.locals != X.env.globals))=false:=by rw[I.ok.kind];rfl
 have hiσ:i<σ.length:=by rw[I.len];exact(List.getElem?_eq_some_iff.mp hi).1
 obtain⟨oL,_,_,hoL,_⟩:=id hn;refine wpAny_nameGoes_keeps hk hn hcls fun h' v hn' hs=>h _ ?_;have ltL:∀b o,X.s₀.heap.get? b=some o->b≠X.env.locals:=fun b o q=>B8 (C2 (A8 q) I.ok.above);refine⟨I.ok,I.os,I.bare,⟨fun b o q n hb hx=>(hs.2 b (ltL b o q)).trans (I.base.keep b o q n hb hx),fun b o q n hb hx=>?_,I.base.free,fun b o q hx=>?_,I.base.tups,I.base.frzs,I.base.tbls⟩,⟨_,hn',fun j y v' e1 e2 e3=>?_⟩,fun y c q=>?_,I.free,I.freeC,fun p hp=>?_,fun b u q=>?_,by simpa using I.len⟩
 .obtain⟨sl,e1⟩:=I.base.slot b o q n hb hx;exact⟨sl,(hs.2 b (ltL b o q)).trans e1⟩
 .obtain⟨o',e1⟩:=I.base.there b o q hx;exact⟨o',(hs.2 b (ltL b o q)).trans e1⟩
 .have hj:j≠i:=fun z=>by
   subst z;rw[F5 hiσ]at e2;cases e2
  rw[F6 (L6 hj)]at e2;obtain⟨u',r',z⟩:=hl j y v' e1 e2 e3;refine⟨u',r',?_⟩;rcases z with⟨k,e⟩|⟨k,c,e,z⟩
  .have:y≠x:=fun e=>hj (AN hN e1 (e▸hi));exact .inl ⟨k,by simp[this,e]⟩
  .exact .inr ⟨k,c,e,z.sameBut hs (I.cne y c e)⟩
 .obtain⟨w',z⟩:=I.cell y c q;exact⟨w',z.sameBut hs (I.cne y c q)⟩
 .obtain⟨e,n,ne,nf,d⟩:=I.pin p hp;exact⟨(hs.2 p.1 ne).trans e,n,ne,nf,d⟩
 .refine(I.hok b u q).stay (fun c w' hc z=>(hs.2 c ?_).trans z) (fun _ z=>z) fun _ _ z=>z;rintro rfl;rcases hc with rfl|hc
  .rw[I.free]at q;cases q
  .rw[I.free]at hc;cases hc
structure HR where
 c:Value
 n:Option Nat
 t:TS
def unbN:Option Nat->St->St
 |none,σ=>σ
 |some i,σ=>σ.set i none
def setN:Option Nat->St->V->St
 |none,σ,_=>σ
 |some i,σ,v=>σ.set i (some v)
def WY(D:Ends)(n:Option Nat):Ends:={ nx:=fun σ H=>D.nx (unbN n σ) H,rt:=D.rt,bk:=fun σ H=>D.bk (unbN n σ) H,ct:=fun σ H=>D.ct (unbN n σ) H }
def tHs(K:Fg)(D:Ends):List HR->St->XK
 |[],_,_,_,_=>False
 |h::r,σ,c,dx,H=>∃b,PySem.W.exmOne K c h.c=some b/\(if b=true then ∀e,H e=none->h.t (WY D h.n) (setN h.n σ (.ref e)) (upd H e (.ext (ID e c dx false)))else tHs K D r σ c dx H)
def VU(X:Cx)(hs:List ExceptHandler)(rs:List HR):Prop:=∀(pins:List (Addr×Obj))(D:Ends)(e:Addr)(c:Value)(dx:Option Addr)(σ:St)(H:Hp)(s:Shared)(B:Heap)(E:Value->Shared->Prop),X.Ok->Inv (xM X pins) [] σ H s->Kp (xM X pins) H B s.heap->
 Fly B X.stack e c dx (some .none) s.heap->tHs X.K D rs σ c dx H->wpAny (model X.prog X.w) X.A (handleBy (.ref e) X.env hs) (SP X pins D) E s
theorem aHF:VU X [] []:=fun _ _ _ _ _ _ _ _ _ _ _ _ _ _ h=>h.elim
def aAd(X:Cx)(x:Str)(c:Value):Prop:=X.mg x=some c\/(X.mg x=none/\bootBuiltins x=some c/\x≠"__name__")
theorem aHr{x:Str}{c:Value}{pos:Pos}{E:Value->Shared->Prop}{Q:Value->Shared->Prop}(n:aAd X x c)(I:Inv X pins σ H s)(hg:Gl X x)(hd:(x==("__debug__":Str))=false)(h:Q c s):
 wpAny (model X.prog X.w) X.A (eval (.Name x pos) X.env) Q E s:=by
 rcases n with m|⟨m,b,z⟩
 .exact rO I hg m h hd
 .exact iR I hg m b h z hd
theorem Fly.fresh{B h:Heap}{e:Addr}{c:Value}{dx st:_}(bd:Body X)(I:Inv X pins σ H s)(k:Kp X H B s.heap)(F:Fly B X.stack e c dx st s.heap):H e=none/\X.s₀.heap.get? e=none/\∀p∈X.pn,p.1≠e:=by
 obtain⟨oe,vs,he,_,_,hv⟩:=F.obj;refine⟨?_,?_,fun p hp z=>?_⟩
 .cases z:H e with
  |none=>rfl
  |some u=>
   have:=k.trk e u oe z he;rw[F.new]at this;cases this
 .cases z:X.s₀.heap.get? e with
  |none=>rfl
  |some o=>
   by_cases hf:e∈X.fs
   .obtain⟨_,o1,z1,hn⟩:=I.funs.mem hf;exact absurd rfl (kO he hv z1 hn)
   .obtain⟨⟨o',q⟩,_⟩:=k.ent e o z hf;rw[F.new]at q;cases q
 .have:=k.pin p hp;rw[z,F.new]at this;cases this
def aJa(X:Cx):Option Str->Option Nat->Prop
 |none,none=>True
 |some n,some i=>X.N.Nodup/\X.N[i]?=some n/\X.env.scope.names.lookup n=some .local
 |_,_=>False
theorem aCA{x:Str}{np pos:Pos}{nm:Option Str}{b₀:Stmt}{suite:List Stmt}{hs:List ExceptHandler}{h:HR}{rs:List HR}(bd:Body X)(hc:aAd X x h.c)(hg:Gl X x)(hd:(x==("__debug__":Str))=false)
 (hn:aJa X nm h.n)
 (hS:∀e,PSs (hCx X e) (b₀::suite) h.t) (hR:VU X hs rs):VU X (.ExceptHandler (some (.Name x np)) nm (b₀::suite) pos::hs) (h::rs):=by
 intro pins D e c dx σ H s B E ok I k F hq;obtain⟨b,hb,hq⟩:=hq;have bp:Body (xM X pins):=⟨bd.stk,bd.fr,bd.ex⟩;obtain⟨oe,vs,he,hoc,_,hv⟩:=F.obj;have LT:PySem.W.Looks (model X.prog X.w) s.heap (typeOf (.ref e)) c:=hoc▸(PySem.W.Looks.ld he).andThen .now;have IH:=(I.ofP ok).toH e;have hA:(hCx X e).A=X.A.mark (some (.ref e)):=rfl;refine wpAny_handleBy_cons (codeAny_handlers_test (aHr (X:=hCx X e) hc IH hg hd ?_)) (by intro z;cases z);refine(PySem.W.exm_one IH.kIn LT hb).here ?_;cases b with
 |false=>exact hR pins D e c dx σ H s B E ok I k F hq
 |true=>
  rw[A9 rfl]at hq;have F':Fly B (xM X pins).stack e c dx (some .none) s.heap:=F
  have go:∀(P:Shared->Prop),(∀s',Inv X pins σ (upd H e (.ext (ID e c dx false))) s'->P s')->wpAny (model X.prog X.w) (X.A.mark (some (.ref e))) (setFlight (.ref e) none) (fun _ s1=>P s1) (notedBy (model X.prog X.w) (X.A.mark (some (.ref e))) X.env fun x s'=>cameBackBy (model X.prog X.w) X.A X.env E x s') s:=fun P hP=>by
   refine yD (fo:=none) F' fun h1 F1 u1=>hP _ ?_;obtain⟨I1,k1⟩:=I.up bp k F1.stays u1;obtain⟨n1,n2,n3⟩:=Fly.fresh (s:={ s with heap:=h1 }) (h:=h1) bp I1 k1 F1;obtain⟨oe1,vs1,he1,hc1,hd1,hv1⟩:=F1.obj;have I2:=Inv.track I1 he1 hv1 n1 n2 fun p hp=>n3 p (by rw[F4]at hp;exact hp);rw[hc1,hd1]at I2;exact I2.ofP ok
  have hne:H e=none:=(Fly.fresh (h:=s.heap) bp I k F').1;have q0:=hq e hne;cases nm with
  |none=>
   cases hni:h.n with
   |some i=>rw[hni]at hn;exact False.elim hn
   |none=>
    rw[hni]at q0;refine codeAny_handlers_suite (go _ fun s1 I1=>?_);refine E3 (hS e pins s1 σ _ (WY D none) (I1.toH e) q0) (fun f s2 z=>?_) fun _ _ z=>z.elim;cases f with
    |next=>obtain⟨σ',H',I',q⟩:=z;exact⟨σ',H',I'.ofH ok,q⟩
    |brk=>obtain⟨σ',H',I',q⟩:=z;exact⟨σ',H',I'.ofH ok,q⟩
    |cont=>obtain⟨σ',H',I',q⟩:=z;exact⟨σ',H',I'.ofH ok,q⟩
    |ret u=>obtain⟨v,σ',H',I',r,q⟩:=z;exact⟨v,σ',H',I'.ofH ok,r,q⟩
  |some n=>
   cases hni:h.n with
   |none=>rw[hni]at hn;exact False.elim hn
   |some i=>
    rw[hni]at hn q0;obtain⟨nd,hi,lo⟩:=hn;refine codeAny_handlers_suite_as (go _ fun s1 I1=>?_);refine qY (X:=X) I1 nd hi (.inl lo) (v:=.ref e) rfl (fun s2 I2=>?_) (.inr lo);refine E3 (hS e pins s2 _ _ (WY D (some i)) (I2.toH e) q0) (fun f s3 z=>?_) fun _ _ z=>z.elim;show wpAny _ _ _ (fun _ s₃=>SP X pins D f s₃) E s3;cases f with
    |next=>obtain⟨σ',H',I',q⟩:=z;exact rS (I'.ofH ok) nd hi lo fun s4 I4=>⟨_,H',I4,q⟩
    |brk=>obtain⟨σ',H',I',q⟩:=z;exact rS (I'.ofH ok) nd hi lo fun s4 I4=>⟨_,H',I4,q⟩
    |cont=>obtain⟨σ',H',I',q⟩:=z;exact rS (I'.ofH ok) nd hi lo fun s4 I4=>⟨_,H',I4,q⟩
    |ret u=>obtain⟨v,σ',H',I',r,q⟩:=z;exact rS (I'.ofH ok) nd hi lo fun s4 I4=>⟨v,_,H',I4,r,q⟩
def aFT(K:Fg)(tb:(St->XK)->TS)(rs:List HR):TS:=fun D σ H=>tb (tHs K D rs) D σ H
theorem aHM{body:List Stmt}{h₀:ExceptHandler}{hs:List ExceptHandler}{pos:Pos}{tb:(St->XK)->TS}{rs:List HR}(bd:Body X)
 (hb:∀pins EE,PSs ((xM X pins).wish (XS (xM X pins) EE)) body (tb EE)) (hh:VU X (h₀::hs) rs):PS X (.Try body (h₀::hs) [] [] pos) (aFT X.K tb rs):=by
 intro pins s σ H D I h;have bp:Body (xM X pins):=⟨bd.stk,bd.fr,bd.ex⟩;refine wpAny_Try_except (E3 (hb pins (tHs X.K D rs) [] s σ H D (I.toP.wish _) h) (fun f s1 z=>?_) fun ev s1 z=>?_)
 .cases f with
  |next=>obtain⟨σ',H',I',q⟩:=z;exact A0r ⟨σ',H',I'.unwish.ofP I.ok,q⟩
  |brk=>obtain⟨σ',H',I',q⟩:=z;exact⟨σ',H',I'.unwish.ofP I.ok,q⟩
  |cont=>obtain⟨σ',H',I',q⟩:=z;exact⟨σ',H',I'.unwish.ofP I.ok,q⟩
  |ret u=>obtain⟨v,σ',H',I',r,q⟩:=z;exact⟨v,σ',H',I'.unwish.ofP I.ok,r,q⟩
 .obtain⟨e,c,dx,st,σ1,H1,B,rfl,I1,k1,F1,hst,q⟩:=z;have hf:=I1.ok.frames;have F1':=F1;rw[bp.stk]at F1' hf;refine HD hf bp.fr F1' hst fun h2 F2 u2=>yD (s:={ s1 with heap:=h2 }) (fo:=none) F2 fun h3 F3 u3=>?_;obtain⟨I2,k2⟩:=I1.up bp k1 F2.stays u2;obtain⟨I3,k3⟩:=I2.up bp k2 F3.stays u3;exact hh pins D e c dx σ1 H1 _ B _ I.ok I3 k3 (by rw[bd.stk];exact F3) q
end
structure Exc where
 nm:Str
 fs:List (Str×CD)
inductive Rs where
 |v (x:CD)|x (e:Exc)
inductive aHS where
 |o (o:Out)|xc (γ:Ga) (e:Exc)
abbrev EX:=Ga->Sto->Option (Rs×Sto)
abbrev AX:=Ga->Sto->Option ((List CD ⊕ Exc)×Sto)
abbrev SFX:=Ga->Sto->Option (aHS×Sto)
abbrev FX:=List CD->Sto->Option (Rs×Sto)
section
variable(K:Fg)
def ExR(W:Wd)(ex:Exc)(c:Value)(dx:Option Addr):Prop:=c=.ref (bC K ex.nm)/\JO K W dx ex.fs
def aEv(E:XK)(Q:VK)(W:Wd)(H:Hp):Rs->Prop
 |.v x=>∀v,bK K W x v->Q v H
 |.x ex=>∀c dx,ExR K W ex c dx->E c dx H
def SEX(EE:St->XK)(t:TE)(f:EX):Prop:=∀γ M r M',f γ M=some (r,M')->∀(W:Wd)(H:Hp)(σ:St)(Q:VK),Good K W M H->cH K W γ σ->(∀W' H',W.Ext W'->Good K W' M' H'->aEv K (EE σ) Q W' H' r)->t σ H Q
def aJE(E:XK)(Q:List V->Hp->Prop)(W:Wd)(H:Hp):List CD ⊕ Exc->Prop
 |.inl xs=>∀vs,bP K W xs vs->Q vs H
 |.inr ex=>∀c dx,ExR K W ex c dx->E c dx H
def SAX(EE:St->XK)(t:TA)(f:AX):Prop:=∀γ M r M',f γ M=some (r,M')->∀(W:Wd)(H:Hp)(σ:St)(Q:List V->Hp->Prop),Good K W M H->cH K W γ σ->(∀W' H',W.Ext W'->Good K W' M' H'->aJE K (EE σ) Q W' H' r)->t σ H Q
def aFr(EE:St->XK)(D:Ends)(W:Wd)(H:Hp):aHS->Prop
 |.o o=>XW K D W H o
 |.xc γ ex=>∀σ c dx,cH K W γ σ->ExR K W ex c dx->EE σ c dx H
def SSX(EE:St->XK)(t:TS)(f:SFX):Prop:=∀γ M o M',f γ M=some (o,M')->∀(W:Wd)(H:Hp)(σ:St)(D:Ends),Good K W M H->cH K W γ σ->(∀W' H',W.Ext W'->Good K W' M' H'->aFr K EE D W' H' o)->t D σ H
def spX(f:FX):Sp:=fun vs H Q E=>∃xs M W r M',Good K W M H/\bP K W xs vs/\f xs M=some (r,M')/\∀W' H',W.Ext W'->Good K W' M' H'->aEv K E Q W' H' r
end
def liE(f:EF):EX:=fun γ M=>(f γ M).bind fun r=>some (.v r.1,r.2)
def liA(f:AF):AX:=fun γ M=>(f γ M).bind fun r=>some (.inl r.1,r.2)
def liS(f:SF):SFX:=fun γ M=>(f γ M).bind fun r=>some (.o r.1,r.2)
def xCons(f:EX)(g:AX):AX:=fun γ M=>(f γ M).bind fun r=>match r.1 with
 |.x e=>some (.inr e,r.2)
 |.v x=>(g γ r.2).bind fun q=>match q.1 with
  |.inr e=>some (.inr e,q.2)
  |.inl xs=>some (.inl (x::xs),q.2)
def aII(f:EX)(k:CD->Sto->Option (Rs×Sto)):EX:=fun γ M=>(f γ M).bind fun r=>match r.1 with
 |.x e=>some (.x e,r.2)
 |.v x=>k x r.2
def XN(f:AX)(k:List CD->Sto->Option (Rs×Sto)):EX:=fun γ M=>(f γ M).bind fun r=>match r.1 with
 |.inr e=>some (.x e,r.2)
 |.inl xs=>k xs r.2
def uV(h:FX)(f:AX):EX:=XN f h
def xIf(t:TF)(f g:EX):EX:=fun γ M=>(t γ M).bind fun r=>if r.1=true then f γ r.2 else g γ r.2
def CP(f g:SFX):SFX:=fun γ M=>(f γ M).bind fun r=>match r.1 with
 |.o (.nx γ')=>g γ' r.2
 |o=>some (o,r.2)
def RJ(f:EX):SFX:=fun γ M=>(f γ M).bind fun r=>match r.1 with
 |.x e=>some (.xc γ e,r.2)
 |.v x=>some (.o (.rt x),r.2)
def qB(f:EX):SFX:=fun γ M=>(f γ M).bind fun r=>match r.1 with
 |.x e=>some (.xc γ e,r.2)
 |.v _=>some (.o (.nx γ),r.2)
def aIM(f:EX)(g:GF):SFX:=fun γ M=>(f γ M).bind fun r=>match r.1 with
 |.x e=>some (.xc γ e,r.2)
 |.v x=>(g x γ r.2).bind fun q=>some (.o (.nx q.1),q.2)
def aDx(c:TF)(f g:SFX):SFX:=fun γ M=>(c γ M).bind fun r=>if r.1=true then f γ r.2 else g γ r.2
def GA(nm:Str):SFX:=fun γ M=>some (.xc γ ⟨nm,[]⟩,M)
def fnX(ps N:Nat)(b:SFX):FX:=fun xs M=>if xs.length=ps then(b (xs.map some++List.replicate (N-xs.length) none) M).bind fun r=>match r.1 with
 |.o (.rt x)=>some (.v x,r.2)
 |.o (.nx _)=>some (.v (.d .none),r.2)
 |.xc _ e=>some (.x e,r.2)
 |_=>none else none
def aAn:Option Nat->Ga->Ga
 |none,γ=>γ
 |some i,γ=>γ.set i none
def setG:Option Nat->Ga->CD->Ga
 |none,γ,_=>γ
 |some i,γ,x=>γ.set i (some x)
def aEP(n:Option Nat):Out->Out
 |.nx γ=>.nx (aAn n γ)
 |.bk γ=>.bk (aAn n γ)
 |.ct γ=>.ct (aAn n γ)
 |.rt x=>.rt x
structure HMi where
 tab:List (Str×Bool)
 n:Option Nat
 f:SF
def UZ:List HMi->Ga->Exc->Sto->Option (Out×Sto)
 |[],_,_,_=>none
 |h::r,γ,ex,M=>match h.tab.lookup ex.nm with
  |some true=>(h.f (setG h.n γ (.c M.length)) (M++[.exc false ex.nm ex.fs])).bind fun q=>some (aEP h.n q.1,q.2)
  |some false=>UZ r γ ex M
  |none=>none
def SW(b:SFX)(hs:List HMi):SF:=fun γ M=>(b γ M).bind fun r=>match r.1 with
 |.o o=>some (o,r.2)
 |.xc γ' ex=>UZ hs γ' ex r.2
section
variable{K:Fg}{EE:St->XK}{ta tb:TE}{tA:TA}{t u:TS}{f g:EX}{fa:AX}{p q:SFX}{tt:TT}{ft:TF}{tg:TG}{hg:GF}
theorem aGm{f:EF}(a:SE K ta f):SEX K EE ta (liE f):=by
 intro γ M r M' h W H σ Q G R k;obtain⟨⟨x,M1⟩,h1,h⟩:=aI h;cases h;exact a _ _ _ _ h1 W H σ Q G R fun v W' H' e G' rv=>k W' H' e G' v rv
theorem aHl{f:AF}(a:SA K tA f):SAX K EE tA (liA f):=by
 intro γ M r M' h W H σ Q G R k;obtain⟨⟨x,M1⟩,h1,h⟩:=aI h;cases h;exact a _ _ _ _ h1 W H σ Q G R fun v W' H' e G' rv=>k W' H' e G' v rv
theorem aFc{f:SF}(a:SS K t f):SSX K EE t (liS f):=by
 intro γ M r M' h W H σ D G R k;obtain⟨⟨x,M1⟩,h1,h⟩:=aI h;cases h;exact a _ _ _ _ h1 W H σ D G R fun W' H' e G'=>k W' H' e G'
theorem IU{h:FX}(a:SAX K EE tA fa):SEX K EE (AR (spX K h) EE tA) (uV h fa):=by
 intro γ M r M' hh W H σ Q G R k;obtain⟨⟨x,M1⟩,h1,hh⟩:=aI hh;refine a _ _ _ _ h1 W H σ _ G R fun W1 H1 e1 G1=>?_;cases x with
 |inr e=>cases hh;exact k W1 H1 e1 G1
 |inl xs=>exact fun vs rs=>⟨xs,M1,W1,r,M',G1,rs,hh,fun W2 H2 e2 G2=>k W2 H2 (e1.trans e2) G2⟩
theorem aHy(c:STt K tt ft)(a:SEX K EE ta f)(b:SEX K EE tb g):SEX K EE (tIf tt ta tb) (xIf ft f g):=by
 intro γ M r M' hh W H σ Q G R k;obtain⟨⟨x,M1⟩,h1,hh⟩:=aI hh;refine c _ _ _ _ h1 W H σ _ G R fun W1 H1 e1 G1=>?_;cases x with
 |true=>rw[A9 rfl];rw[A9 rfl]at hh;exact a _ _ _ _ hh W1 H1 σ Q G1 (R.up e1) fun W2 H2 e2 G2=>k W2 H2 (e1.trans e2) G2
 |false=>rw[B2 B1];rw[B2 B1]at hh;exact b _ _ _ _ hh W1 H1 σ Q G1 (R.up e1) fun W2 H2 e2 G2=>k W2 H2 (e1.trans e2) G2
theorem aBC(a:SSX K EE t p)(b:SSX K EE u q):SSX K EE (aFd t u) (CP p q):=by
 intro γ M o M' hh W H σ D G R k;obtain⟨⟨x,M1⟩,h1,hh⟩:=aI hh;refine a _ _ _ _ h1 W H σ _ G R fun W1 H1 e1 G1=>?_;cases x with
 |xc γ' e=>cases hh;exact k W1 H1 e1 G1
 |o x=>
  cases x with
  |nx γ'=>exact fun σ' R'=>b _ _ _ _ hh W1 H1 σ' D G1 R' fun W2 H2 e2 G2=>k W2 H2 (e1.trans e2) G2
  |bk γ'=>cases hh;exact k W1 H1 e1 G1
  |ct γ'=>cases hh;exact k W1 H1 e1 G1
  |rt x=>cases hh;exact k W1 H1 e1 G1
theorem aBy(a:SEX K EE ta f):SSX K EE (aGl ta) (RJ f):=by
 intro γ M o M' hh W H σ D G R k;obtain⟨⟨x,M1⟩,h1,hh⟩:=aI hh;refine a _ _ _ _ h1 W H σ _ G R fun W1 H1 e1 G1=>?_;cases x with
 |x e=>cases hh;exact fun c dx z=>k W1 H1 e1 G1 σ c dx (R.up e1) z
 |v x=>cases hh;exact fun v rv=>k W1 H1 e1 G1 v rv
theorem ZK(a:SEX K EE ta f):SSX K EE (VY ta) (qB f):=by
 intro γ M o M' hh W H σ D G R k;obtain⟨⟨x,M1⟩,h1,hh⟩:=aI hh;refine a _ _ _ _ h1 W H σ _ G R fun W1 H1 e1 G1=>?_;cases x with
 |x e=>cases hh;exact fun c dx z=>k W1 H1 e1 G1 σ c dx (R.up e1) z
 |v x=>cases hh;exact fun v rv=>k W1 H1 e1 G1 σ (R.up e1)
theorem aFB(c:STt K tt ft)(a:SSX K EE t p)(b:SSX K EE u q):SSX K EE (aEV tt t u) (aDx ft p q):=by
 intro γ M o M' hh W H σ D G R k;obtain⟨⟨x,M1⟩,h1,hh⟩:=aI hh;refine c _ _ _ _ h1 W H σ _ G R fun W1 H1 e1 G1=>?_;cases x with
 |true=>rw[A9 rfl];rw[A9 rfl]at hh;exact a _ _ _ _ hh W1 H1 σ D G1 (R.up e1) fun W2 H2 e2 G2=>k W2 H2 (e1.trans e2) G2
 |false=>rw[B2 B1];rw[B2 B1]at hh;exact b _ _ _ _ hh W1 H1 σ D G1 (R.up e1) fun W2 H2 e2 G2=>k W2 H2 (e1.trans e2) G2
theorem SU{nm:Str}:SSX K EE (HM EE (bC K nm)) (GA nm):=by
 intro γ M o M' hh W H σ D G R k;cases hh;exact k W H (.refl _) G σ _ none R ⟨rfl,rfl⟩
theorem cH.setN{γ:Ga}{n:Option Nat}{x:CD}{v:V}(R:cH K W γ σ)(r:bK K W x v):cH K W (setG n γ x) (setN n σ v):=by
 cases n with
 |none=>exact R
 |some i=>exact Paired.set (x:=some x) (y:=some v) r i R
theorem cH.unbN{γ:Ga}{n:Option Nat}(R:cH K W γ σ):cH K W (aAn n γ) (unbN n σ):=by
 cases n with
 |none=>exact R
 |some i=>exact Paired.set (x:=none) (y:=none) True.intro i R
inductive HsM(K:Fg):List HR->List HMi->Prop
 |nil:HsM K [] []
 |cons {h:HR} {m:HMi} {hs:List HR} {ms:List HMi} (hn:h.n=m.n) (ht:∀nm b,m.tab.lookup nm=some b->PySem.W.exmOne K (.ref (bC K nm)) h.c=some b) (hS:SS K h.t m.f) (r:HsM K hs ms):HsM K (h::hs) (m::ms)
theorem aAr{D:Ends}{W:Wd}{M M':Sto}{H:Hp}{γ:Ga}{σ:St}{ex:Exc}{c:Value}{dx:Option Addr}{o:Out}(G:Good K W M H)(R:cH K W γ σ)(E:ExR K W ex c dx):
 ∀{hs:List HR}{ms:List HMi},HsM K hs ms->UZ ms γ ex M=some (o,M')->(∀W' H',W.Ext W'->Good K W' M' H'->XW K D W' H' o)->tHs K D hs σ c dx H
 |_,_,.nil=>fun h _=>by cases h
 |_,_,@HsM.cons _ h m hs ms hn ht hS r=>fun hh k=>by
  obtain⟨rfl,rx⟩:=E;unfold UZ at hh;cases e:m.tab.lookup ex.nm with
  |none=>rw[e]at hh;cases hh
  |some b=>
   rw[e]at hh;refine⟨b,ht _ _ e,?_⟩;cases b with
   |false=>rw[B2 B1];exact aAr G R ⟨rfl,rx⟩ r hh k
   |true=>
    rw[A9 rfl];intro a ha;obtain⟨⟨o1,M1⟩,h1,hh⟩:=aI (show(m.f _ _).bind _=_ from hh);have hh':some (aEP m.n o1,M1)=some (o,M'):=hh;cases hh';have G':Good K (W.more a) (M++[.exc false ex.nm ex.fs]) (upd H a (.ext (ID a (.ref (bC K ex.nm)) dx false))):=G.new ha ⟨dx,rfl,rx⟩;have e1:=W.ext_more a;have ra:bK K (W.more a) (.c M.length) (.ref a):=⟨by show M.length<W.n+1;rw[G.n];exact J9 _,by show _=V.ref (if M.length=W.n then a else _);rw[A9 G.n.symm]⟩;rw[hn];refine hS _ _ _ _ h1 (W.more a) _ _ _ G' ((R.up e1).setN ra) fun W2 H2 e2 G2=>?_;have kk:=k W2 H2 (e1.trans e2) G2;cases o1 with
    |nx γ2=>exact fun σ2 R2=>kk _ R2.unbN
    |bk γ2=>exact fun σ2 R2=>kk _ R2.unbN
    |ct γ2=>exact fun σ2 R2=>kk _ R2.unbN
    |rt x=>exact kk
theorem aFO{tb:(St->XK)->TS}{rs:List HR}{ms:List HMi}(b:∀EE,SSX K EE (tb EE) p)(h:HsM K rs ms):SS K (aFT K tb rs) (SW p ms):=by
 intro γ M o M' hh W H σ D G R k;obtain⟨⟨x,M1⟩,h1,hh⟩:=aI hh;refine b _ _ _ _ _ h1 W H σ D G R fun W1 H1 e1 G1=>?_;cases x with
 |o x=>cases hh;exact k W1 H1 e1 G1
 |xc γ' ex=>exact fun σ' c dx R' E=>aAr G1 R' E h hh fun W2 H2 e2 G2=>k W2 H2 (e1.trans e2) G2
end
section
variable{ι:Type}
structure MX(K:Fg)(X:ι->Cx)(EE:ι->St->XK)(e:Expr)(f:EX):Prop where
 ex:∃t:ι->TE,(∀i,PE (X i) e (t i))/\∀i,SEX K (EE i) (t i) f
structure MAX(K:Fg)(X:ι->Cx)(EE:ι->St->XK)(es:List Expr)(f:AX):Prop where
 ex:∃t:ι->TA,(∀i,PA (X i) es (t i))/\∀i,SAX K (EE i) (t i) f
 st:HY es
structure MSX(K:Fg)(X:ι->Cx)(EE:ι->St->XK)(st:Stmt)(f:SFX):Prop where
 ex:∃t:ι->TS,(∀i,PS (X i) st (t i))/\∀i,SSX K (EE i) (t i) f
structure MLX(K:Fg)(X:ι->Cx)(EE:ι->St->XK)(st:List Stmt)(f:SFX):Prop where
 ex:∃t:ι->TS,(∀i,PSs (X i) st (t i))/\∀i,SSX K (EE i) (t i) f
variable{K:Fg}{X:ι->Cx}{EE:ι->St->XK}{e a b c tg iter:Expr}{es:List Expr}{f g:EX}{fa:AX}{p q:SFX}{ft:TF}{gf:GF}{st:Stmt}{sts sts':List Stmt}{pos:Pos}
theorem aJr{f:EF}(x:ME K X e f):MX K X EE e (liE f):=by
 obtain⟨t,x1,x2⟩:=x.ex;exact⟨fun _=>t,x1,fun _=>aGm x2⟩
theorem zA{f:AF}(x:MA K X es f):MAX K X EE es (liA f):=by
 obtain⟨t,x1,x2⟩:=x.ex;exact⟨⟨fun _=>t,x1,fun _=>aHl x2⟩,x.st⟩
theorem OP{f:SF}(x:ML K X sts f):MLX K X EE sts (liS f):=by
 obtain⟨t,x1,x2⟩:=x.ex;exact⟨fun _=>t,x1,fun _=>aFc x2⟩
theorem yF{k:Nat}{x:Str}{ps:List Str}{F:FX}{p:Pos}(ok:∀i,XOk (X i) (EE i))(C:∀i,cU (X i).prog (X i).w (X i).K (X i).mg (X i).base k x ps (spX K F))(hr:∀i,cA k (X i).A)(y:MAX K X EE (e::es) fa)(hg:∀i,Gl (X i) x:=by intro _;rfl)(hd:(x==("__debug__":Str))=false:=by decide):
 MX K X EE (.Call (.Name x p) (e::es) [] pos) (uV F fa):=by
 obtain⟨u,y1,y2⟩:=y.ex;exact⟨_,fun i=>aDJ (ok i) (C i) (hr i) (y1 i) (hg i) hd (y.st.1 _) (y.st.2.plain _ _),fun i=>IU (y2 i)⟩
theorem aIx(x:MT K X c ft)(y:MX K X EE a f)(z:MX K X EE b g):MX K X EE (.IfExp c a b pos) (xIf ft f g):=by
 obtain⟨t,x1,x2⟩:=x.ex;obtain⟨u,y1,y2⟩:=y.ex;obtain⟨v,z1,z2⟩:=z.ex;exact⟨_,fun i=>IB (x1 i) (y1 i) (z1 i),fun i=>aHy x2 (y2 i) (z2 i)⟩
theorem yB(x:MSX K X EE st p):MLX K X EE [st] p:=by
 obtain⟨t,x1,x2⟩:=x.ex;exact⟨t,fun i=>QW (x1 i),x2⟩
theorem zU(x:MSX K X EE st p)(y:MLX K X EE sts q):MLX K X EE (st::sts) (CP p q):=by
 obtain⟨t,x1,x2⟩:=x.ex;obtain⟨u,y1,y2⟩:=y.ex;exact⟨_,fun i=>JQ (x1 i) (y1 i),fun i=>aBC (x2 i) (y2 i)⟩
theorem aBu(x:MX K X EE e f):MSX K X EE (.Return (some e) pos) (RJ f):=by
 obtain⟨t,x1,x2⟩:=x.ex;exact⟨_,fun i=>aAv (x1 i),fun i=>aBy (x2 i)⟩
theorem uO(x:MX K X EE e f)(hs:∀i,swapsWith e none pos.line (X i).env=pure false:=by intro _;rfl):MSX K X EE (.Expr e pos) (qB f):=by
 obtain⟨t,x1,x2⟩:=x.ex;exact⟨_,fun i=>QE (x1 i) (hs i),fun i=>ZK (x2 i)⟩
theorem aHg(x:MT K X c ft)(y:MLX K X EE sts p)(z:MLX K X EE sts' q):MSX K X EE (.If c sts sts' pos) (aDx ft p q):=by
 obtain⟨t,x1,x2⟩:=x.ex;obtain⟨u,y1,y2⟩:=y.ex;obtain⟨v,z1,z2⟩:=z.ex;exact⟨_,fun i=>aDV (x1 i) (y1 i) (z1 i),fun i=>aFB x2 (y2 i) (z2 i)⟩
theorem MP{x:Str}{np cpos:Pos}(ok:∀i,XOk (X i) (EE i))(hK:∀i,(X i).K=K)(hc:∀i,(X i).calm=true)(hm:∀i,(X i).mg x=some (.ref (bC K x)))(q:PySem.W.excIn K (bC K x) bmV "ValueError.__new__"=true)(hg:∀i,Gl (X i) x:=by intro _;rfl)(hd:(x==("__debug__":Str))=false:=by decide):
 MSX K X EE (.Raise (some (.Call (.Name x np) [] [] cpos)) none pos) (GA x):=
 ⟨fun i=>HM (EE i) (bC K x),fun i=>RT (ok i) (hc i) (hm i) (by rw[hK i];exact q) (hg i) hd,fun _=>SU⟩
def aIR(X:ι->Cx):ι×List (Addr×Obj)×(St->XK)->Cx:=fun j=>(xM (X j.1) j.2.1).wish (XS (xM (X j.1) j.2.1) j.2.2)
def aIp:ι×List (Addr×Obj)×(St->XK)->St->XK:=fun j=>j.2.2
def aJQ(X:ι->Cx):ι×Addr->Cx:=fun j=>hCx (X j.1) j.2
theorem aJi(bd:∀i,Body (X i))(j:ι×List (Addr×Obj)×(St->XK)):XOk (aIR X j) (aIp (ι:=ι) j):=
 XOk.of (X:=xM (X j.1) j.2.1) ⟨(bd j.1).stk,(bd j.1).fr,(bd j.1).ex⟩ _
structure MH(K:Fg)(X:ι->Cx)(hs:List ExceptHandler)(ms:List HMi):Prop where
 ex:∃rs,(∀i,VU (X i) hs rs)/\HsM K rs ms
theorem aGV:MH K X [] []:=⟨[],fun _=>aHF,.nil⟩
theorem aCR{x:Str}{np hp:Pos}{nm:Option Str}{b₀:Stmt}{suite:List Stmt}{hs:List ExceptHandler}{ms:List HMi}{tab:List (Str×Bool)}{n:Option Nat}{f:SF}(cv:Value)(bd:∀i,Body (X i))(hc:∀i,aAd (X i) x cv)
 (hn:∀i,aJa (X i) nm n)
 (ht:∀p∈tab,PySem.W.exmOne K (.ref (bC K p.1)) cv=some p.2) (hS:ML K (aJQ X) (b₀::suite) f) (r:MH K X hs ms) (hg:∀i,Gl (X i) x:=by intro _;rfl) (hd:(x==("__debug__":Str))=false:=by decide):
 MH K X (.ExceptHandler (some (.Name x np)) nm (b₀::suite) hp::hs) (⟨tab,n,f⟩::ms):=by
 obtain⟨t,h1,h2⟩:=hS.ex;obtain⟨rs,r1,r2⟩:=r.ex;refine⟨⟨cv,n,t⟩::rs,fun i=>aCA (h:=⟨cv,n,t⟩) (bd i) (hc i) (hg i) hd (hn i) (fun e=>h1 (i,e)) (r1 i),.cons rfl (fun nm b z=>?_) h2 r2⟩;exact ht (nm,b) (F8 z)
theorem aFF{h₀:ExceptHandler}{hs:List ExceptHandler}{ms:List HMi}(bd:∀i,Body (X i))(hK:∀i,(X i).K=K)(x:MLX K (aIR X) (aIp (ι:=ι)) sts p)(h:MH K X (h₀::hs) ms):MS K X (.Try sts (h₀::hs) [] [] pos) (SW p ms):=by
 obtain⟨rs,r1,r2⟩:=h.ex;obtain⟨t,x1,x2⟩:=x.ex;refine⟨aFT K (fun EE D σ H=>∀i pins,t (i,pins,EE) D σ H) rs,fun i=>?_,aFO (fun EE=>?_) r2⟩
 .have:=aHM (X:=X i) (tb:=fun EE D σ H=>∀i pins,t (i,pins,EE) D σ H) (pos:=pos) (bd i) (fun pins EE ps s σ H D I h=>x1 (i,pins,EE) ps s σ H D I (h i pins)) (r1 i);rw[hK i]at this;exact this
 .exact fun γ M o M' hh W H σ D G R k i pins=>x2 (i,pins,EE) γ M o M' hh W H σ D G R k
section
variable{P:Program}{w:World}{K:Fg}{mg:Str->Option Value}{base:Heap}
abbrev aEZ(P:Program)(w:World)(K:Fg)(mg:Str->Option Value)(base:Heap)(N:List Str)(x:Str)(st:Stmt)(f:Addr)(cdv:Value)(A:Around)(outer:List Env)(s:Shared)(H:Hp)(E:XK):Unit->Cx:=fun _=>
 (mL (CX1 P w) P w K mg base N x (aF st) f cdv A outer s H E).wish (XS (mL (CX1 P w) P w K mg base N x (aF st) f cdv A outer s H E) fun _=>E)
theorem HS{N:List Str}{x:Str}{st:Stmt}{f:Addr}{cdv:Value}{A:Around}{outer:List Env}{s:Shared}{E:XK}(i:Unit):XOk (aEZ P w K mg base N x st f cdv A outer s H E i) ((fun _ _=>E:Unit->St->XK) i):=XOk.of OY _
theorem Fun.okXF{x qual:Str}{st:Stmt}{N ps:List Str}{k:Nat}{b:SFX}{f:Addr}{fd:FuncData}(Fu:Fun K x qual st f fd)(S:aQ N ps (aF st))
 (hbody:∀(f:Addr)(cdv:Value)(A:Around)(outer:List Env)(s:Shared)(H:Hp)(E:XK),cA k (A.deeper (envOfC qual (aF st) s.heap.objs.size f cdv))->
  MLX K (aEZ P w K mg base N qual st f cdv A outer s H E) (fun _ _=>E) (bJ st) b):kW P w K mg base (CX1 P w) (k+1) f fd ps (spX K (fnX ps.length N.length b)):=by
 obtain⟨oc,od,kV,doc,pm,an,cdv,ct,osl,rfl,lk,hcd⟩:=Fu.ex
 have len:∀vs H Q E,spX K (fnX ps.length N.length b) vs H Q E->vs.length=ps.length:=fun vs H Q E h=>by
  obtain⟨xs,M,W,y,M',G,R,hf,_⟩:=h;by_cases hl:xs.length=ps.length
  .rw[<- Paired.len R];exact hl
  .unfold fnX at hf;rw[B2 hl]at hf;cases hf
 refine aFq lk hcd S len fun A outer s H vs Q E hr h=>?_;obtain⟨t,h1,h2⟩:=(hbody f cdv A outer s H E hr).ex;refine⟨t (),h1 (),?_⟩;obtain⟨xs,M,W,r,M',G,R,hf,kk⟩:=h
 have hl:xs.length=ps.length:=by
  by_cases hl:xs.length=ps.length
  .exact hl
  .unfold fnX at hf;rw[B2 hl]at hf;cases hf
 unfold fnX at hf;rw[A9 hl]at hf;obtain⟨⟨o,M1⟩,h3,hf⟩:=aI hf
 have hR:cH K W (xs.map some++List.replicate (N.length-xs.length) none) (start N vs):=by
  unfold start;rw[<- Paired.len R];exact Paired.app (bP.some R) (qV _)
 refine h2 () _ _ _ _ h3 W H _ _ G hR fun W1 H1 e1 G1=>?_;cases o with
 |xc γ e=>cases hf;exact fun σ c dx _ z=>kk W1 H1 e1 G1 c dx z
 |o o=>
  cases o with
  |rt x=>cases hf;exact fun v r=>kk W1 H1 e1 G1 v r
  |nx γ=>cases hf;exact fun σ r=>kk W1 H1 e1 G1 .non rfl
  |bk γ=>cases hf
  |ct γ=>cases hf
theorem Def.okX{x:Str}{st:Stmt}{N ps:List Str}{k:Nat}{b:SFX}(D:Def K mg x st)(S:aQ N ps (aF st))
 (hb:∀(kV doc pm:Value)(an:Option Addr)(cdv ct:Value)(us:List Value),us.length=ps.length->bindArgs (PySem.W.fnOf x x (eG st) (bJ st) (aF st) .none kV doc pm an cdv ct) ⟨us,[]⟩=pure (ps.zip us))
 (hbody:∀(f:Addr)(cdv:Value)(A:Around)(outer:List Env)(s:Shared)(H:Hp)(E:XK),cA k (A.deeper (envOfC x (aF st) s.heap.objs.size f cdv))->
  MLX K (aEZ P w K mg base N x st f cdv A outer s H E) (fun _ _=>E) (bJ st) b):cU P w K mg base (k+1) x ps (spX K (fnX ps.length N.length b)):=by
 obtain⟨f,fd,Fu,m⟩:=D.ex;exact⟨f,fd,Fu.okXF S hbody,m,Fu.kp,Fu.binds hb⟩
end
end
structure XC(K:Fg)(C:Addr):Prop where
 c:YG K C
 ha:PySem.W.findIn K (.ref C) "__class__"=some (some (.builtin "object.__class__"))
 hn:PySem.W.specialIn K (.builtin "object.__class__") "__get__"=some (some (.builtin "getset_descriptor.__get__"))
 htk:PySem.W.takesIn K (.builtin "object.__class__")=some true
 hm:PySem.W.mroIn K C (.type "object")=some true
def aGw(H:Hp):Option Addr->Prop
 |none=>True
 |some d=>∃us,H d=some (.xd us)
inductive ClV:V->Value->Prop
 |own (C:Addr):ClV (.ref C) (.ref C)
 |ty (T:String):ClV (.ty T) (.type T)
theorem ClV.is{v:V}{c u:Value}(h:ClV v c)(r:RelV v u):u=c:=by cases h<;>exact r
def XB(K:Fg):List V->Hp->VK->Prop:=fun xs H Q=>∃v cv c b,xs=[v,cv]/\ClV cv c/\Q (.bl b) H /\
 ((v=.non/\PySem.W.kitOne K (.type "NoneType") c=some b)\/∃a C dx fr,v=.ref a/\H a=some (.ext (ID a (.ref C) dx fr))/\aGw H dx/\XC K C/\PySem.W.kitOne K (.ref C) c=some b)
section
variable{X:Cx}{K:Fg}
theorem ZJ{pins:List (Addr×Obj)}{s:Shared}{a C:Addr}{dx:Option Addr}{fr:Bool}(I:Inv X pins σ H s)(h:H a=some (.ext (ID a (.ref C) dx fr)))(d:aGw H dx):∃ox od,PySem.W.InstAt s.heap a ox C od/\ox.dict=dx:=by
 obtain⟨⟨o,vs,h1,h2,h3,h4,_⟩,_⟩:=I.hok a _ h
 have no:PySem.W.notCls o=true:=by
  obtain⟨_,_,dt,_⟩:=o;cases h4;rfl
 cases dx with
 |none=>exact⟨o,none,⟨h1,h2,no,by rw[h3];exact True.intro⟩,h3⟩
 |some d'=>
  obtain⟨us,hd⟩:=d;obtain⟨od,q⟩:=(I.hok d' _ hd).there;exact⟨o,some od,⟨h1,h2,no,by rw[h3];exact q⟩,h3⟩
theorem TR:eU X (.builtin "isinstance") (XB X.K):=by
 intro pins s σ H vs us Q I r h;obtain⟨v,cv,c,b,rfl,rc,q,h⟩:=h;obtain⟨u,u',rfl,ru,ru'⟩:=vals2 r;cases rc.is ru';rcases h with⟨rfl,e⟩|⟨a,C,dx,fr,rfl,ha,d,xc,e⟩
 .cases (show u=Value.none from ru);exact PySem.W.kia_one PySem.W.kitx_none I.kIn True.intro e (fun z=>nomatch z) fun tk=>⟨.bl _,H,I.tok tk,rfl,q⟩
 .cases (show u=Value.ref a from ru);obtain⟨ox,od,J,_⟩:=ZJ I ha d;exact PySem.W.kia_one (ZU xc.c xc.ha xc.hn xc.htk xc.hm) I.kIn ⟨ox,od,J⟩ e (fun z=>nomatch z) fun tk=>⟨.bl _,H,I.tok tk,rfl,q⟩
theorem aJd(h:X.K=K):eU X (.builtin "isinstance") (XB K):=by subst h;exact TR
def DP(tab:List (Str×Bool))(nn:Option Bool)(f:EF):EF:=fun γ M=>(f γ M).bind fun r=>match r.1 with
 |.c i=>(match r.2[i]? with
  |some (.exc _ nm _)=>(tab.lookup nm).bind fun b=>some (.d (.bool b),r.2)
  |_=>none)
 |.d .none=>nn.bind fun b=>some (.d (.bool b),r.2)
 |_=>none
theorem JO.ok{dx:Option Addr}{fs:List (Str×CD)}(r:JO K W dx fs)(s:iN W.F H):aGw H dx:=by
 cases dx with
 |none=>exact True.intro
 |some d=>obtain⟨_,us,h,_⟩:=r;exact⟨us,s _ _ h⟩
theorem Good.excAt{i:Nat}{fr:Bool}{nm:Str}{fs:List (Str×CD)}(G:Good K W M H)(h:M[i]?=some (.exc fr nm fs)):∃dx,H (W.α i)=some (.ext (ID (W.α i) (.ref (bC K nm)) dx fr))/\JO K W dx fs:=by
 obtain⟨_,o,h2,h3⟩:=G.cs i _ h (by intro z;cases z);cases o with
 |ext φ=>
  obtain⟨dx,rfl,r⟩:=h3;exact⟨dx,h2,r⟩
 |_=>exact False.elim h3
theorem aCT{tab:List (Str×Bool)}{nn:Option Bool}{ta:TE}{f:EF}{cv:V}{c:Value}(hc:ClV cv c)(ht:∀p∈tab,XC K (bC K p.1)/\PySem.W.kitOne K (.ref (bC K p.1)) c=some p.2)(hn:∀b,nn=some b->PySem.W.kitOne K (.type "NoneType") c=some b)
 (a:SE K ta f):SE K (tCB (XB K) (sP ta (sP (tC cv) UE))) (DP tab nn f):=by
 intro γ M x M' hh W H σ Q G R k;obtain⟨⟨y,M1⟩,h1,hh⟩:=aI hh;refine a _ _ _ _ h1 W H σ _ G R fun v W1 H1 e1 G1 r1=>?_;cases y with
 |t _=>cases hh
 |f _=>cases hh
 |g _=>cases hh
 |c i=>
  dsimp only at hh;cases e:M1[i]? with
  |none=>rw[e]at hh;cases hh
  |some cl=>
   rw[e]at hh;cases cl with
   |exc fr nm fs=>
    obtain⟨b,h2,hh⟩:=aI (show(tab.lookup nm).bind _=_ from hh);cases hh;obtain⟨h3,h4⟩:=ht (nm,b) (F8 h2);obtain⟨dx,h5,h6⟩:=G1.excAt e;exact⟨v,cv,c,b,rfl,hc,k _ W1 H1 e1 G1 rfl,.inr ⟨_,_,dx,fr,r1.2,h5,h6.ok G1.fh,h3,h4⟩⟩
   |_=>cases hh
 |d y=>
  cases y with
  |none=>
   obtain⟨b,h2,hh⟩:=aI (show nn.bind _=_ from hh);cases hh;exact⟨v,cv,c,b,rfl,hc,k _ W1 H1 e1 G1 rfl,.inl ⟨r1,hn b h2⟩⟩
  |_=>cases hh
end
section
variable{ι:Type}{K:Fg}{X:ι->Cx}{a:Expr}{f:EF}{pos:Pos}
theorem VI{y:Str}{C:Addr}(hm:∀i,(X i).mg y=some (.ref C))(hg:∀i,Gl (X i) y:=by intro _;rfl)(hd:(y==("__debug__":Str))=false:=by decide):∀i p',PE (X i) (.Name y p') (tC (.ref C)):=fun i _=>FR (hg i) (hm i) rfl hd
theorem aJe{y:Str}{T:String}(hm:∀i,(X i).mg y=none)(hb:bootBuiltins y=some (.type T))(hg:∀i,Gl (X i) y:=by intro _;rfl)(hn:y≠"__name__":=by decide)(hd:(y==("__debug__":Str))=false:=by decide):∀i p',PE (X i) (.Name y p') (tC (.ty T)):=fun i _=>xY (v:=.ty T) (hg i) (hm i) hb rfl hn hd
theorem HB{y:Str}{p p':Pos}{tab:List (Str×Bool)}{nn:Option Bool}{cv:V}{c:Value}(hK:∀i,(X i).K=K)(hc:ClV cv c)(hy:∀i p',PE (X i) (.Name y p') (tC cv))(ht:∀p∈tab,XC K (bC K p.1)/\PySem.W.kitOne K (.ref (bC K p.1)) c=some p.2)(hn:∀b,nn=some b->PySem.W.kitOne K (.type "NoneType") c=some b)
 (x:ME K X a f) (hs:YU a [.Name y p']) (hm:∀i,(X i).mg "isinstance"=none) (hg:∀i,Gl (X i) "isinstance":=by intro _;rfl):ME K X (.Call (.Name "isinstance" p) [a,.Name y p'] [] pos) (DP tab nn f):=by
 obtain⟨t,x1,x2⟩:=x.ex;exact⟨_,fun i=>uF (aJd (hK i)) (hg i) (hm i) boot_isinstance (jU (x1 i) (jU (hy i _) zE bX) (hs _)) (by decide) (by decide) (hs _) (nX bX vH),aCT hc ht hn x2⟩
end
def sW(h:FX)(f:AF):EF:=fun γ M=>(f γ M).bind fun r=>(h r.1 r.2).bind fun q=>match q.1 with
 |.v x=>some (x,q.2)
 |.x _=>none
def noX:St->XK:=fun _ _ _ _=>False
section
variable{X:Cx}{K:Fg}
theorem YO{k:Nat}{x:Str}{ps:List Str}{sp:Sp}{p pos:Pos}{e:Expr}{es:List Expr}{t:TA}(C:cU X.prog X.w X.K X.mg X.base k x ps sp)(hr:cA k X.A)(ha:PA X (e::es) t)(hg:Gl X x)
 (hdb:(x==("__debug__":Str))=false) (he:starEach (e::es) X.env=(false,eval e X.env)::starEach es X.env) (hpl:(backTo pos (starEach es X.env)).any (·.1)=false):
 PE X (.Call (.Name x p) (e::es) [] pos) (AR sp noX t):=by
 obtain⟨f,fd,F,m,kp,b⟩:=C.ex
 exact OU (dvs:=[]) (E:=noX []) F hr hg m kp b .nil (fun _ _ _ _ _ _ _ h=>by obtain⟨_,_,_,_,_,_,_,_,_,_,_,_,_,z⟩:=h;exact z.elim) ha hdb he hpl |> fun h pins s σ H Q I hq=>h pins s σ H Q I (by
  show t σ H fun vs H1=>sp (vs++[]) H1 Q (noX []);simpa only[List.append_nil]using hq)
theorem UH{h:FX}{tA:TA}{fa:AF}(a:SA K tA fa):SE K (AR (spX K h) noX tA) (sW h fa):=by
 intro γ M x M' hh W H σ Q G R k;obtain⟨⟨xs,M1⟩,h1,hh⟩:=aI hh;obtain⟨⟨r,M2⟩,h2,hh⟩:=aI hh;refine a _ _ _ _ h1 W H σ _ G R fun vs W1 H1 e1 G1 r1=>?_;refine⟨xs,M1,W1,r,M2,G1,r1,h2,fun W2 H2 e2 G2=>?_⟩;cases r with
 |x e=>cases hh
 |v y=>cases hh;exact fun v rv=>k v W2 H2 (e1.trans e2) G2 rv
end
theorem EL{ι:Type}{X:ι->Cx}{e:Expr}{es:List Expr}{fa:AF}{pos:Pos}{k:Nat}{x:Str}{ps:List Str}{F:FX}{p:Pos}(C:∀i,cU (X i).prog (X i).w (X i).K (X i).mg (X i).base k x ps (spX K F))(hr:∀i,cA k (X i).A)(y:MA K X (e::es) fa)(hg:∀i,Gl (X i) x:=by intro _;rfl)(hd:(x==("__debug__":Str))=false:=by decide):
 ME K X (.Call (.Name x p) (e::es) [] pos) (sW F fa):=by
 obtain⟨u,y1,y2⟩:=y.ex;exact⟨_,fun i=>YO (C i) (hr i) (y1 i) (hg i) hd (y.st.1 _) (y.st.2.plain _ _),UH y2⟩
theorem xV:bootBuiltins "ValueError"=some (.type "ValueError"):=by decide +kernel
section
variable{K:Fg}{cv:Value}{a:Str}{b:Bool}{l:List (Str×Bool)}
theorem ZF:∀p∈([]:List (Str×Bool)),PySem.W.exmOne K (.ref (bC K p.1)) cv=some p.2:=fun _ h=>absurd h (by simp)
theorem UC(h:PySem.W.exmOne K (.ref (bC K a)) cv=some b)(r:∀p∈l,PySem.W.exmOne K (.ref (bC K p.1)) cv=some p.2):∀p∈(a,b)::l,PySem.W.exmOne K (.ref (bC K p.1)) cv=some p.2:=fun p hp=>by
 rcases List.mem_cons.mp hp with rfl|z
 .exact h
 .exact r p z
theorem GJ{b:Bool}(h:PySem.W.kitOne K (.type "NoneType") cv=some b):∀c,some b=some c->PySem.W.kitOne K (.type "NoneType") cv=some c:=fun c e=>by cases e;exact h
theorem oK{nm:Str}{C:Addr}(h:PySem.W.nsIn K mainGlobals nm=some (some (.ref C))):bC K nm=C:=by unfold bC;rw[h]
end
mutual
def snap:Nat->Sto->CD->Option PyData
 |_,_,.d x=>some x
 |0,_,.c _=>none
 |n+1,M,.c i=>match M[i]? with
  |some (.lst xs)=>(rL n M xs).bind fun ds=>some (.list ds)
  |_=>none
 |_,_,.f _=>none
 |_,_,.g _=>none
 |0,_,.t _=>none
 |n+1,M,.t xs=>(rL n M (xs.map cdA)).bind fun ds=>some (.tuple ds)
def rL:Nat->Sto->List CD->Option (List PyData)
 |_,_,[]=>some []
 |n,M,x::xs=>(snap n M x).bind fun d=>(rL n M xs).bind fun ds=>some (d::ds)
end
section
variable{K:Fg}{W:Wd}{M:Sto}{H:Hp}
theorem Good.lstAt'(G:Good K W M H){i:Nat}{xs:List CD}(h:M[i]?=some (.lst xs)):∃vs,H (W.α i)=some (.lst vs)/\bP K W xs vs:=by
 obtain⟨_,o,h2,h3⟩:=G.cs i _ h (by intro z;cases z);cases o with
 |lst vs=>exact⟨vs,h2,h3⟩
 |_=>exact False.elim h3
mutual
theorem uZ(G:Good K W M H):∀(n:Nat)(x:CD)(d:PyData)(v:V),snap n M x=some d->bK K W x v->Rep K H d v
 |0,.d x=>fun d v h r=>by unfold snap at h;cases h;exact Rep.same G.fh _ _ r
 |n+1,.d x=>fun d v h r=>by unfold snap at h;cases h;exact Rep.same G.fh _ _ r
 |0,.c i=>fun d v h r=>by unfold snap at h;cases h
 |n+1,.c i=>fun d v h r=>by
  unfold snap at h;cases e:M[i]? with
  |none=>rw[e]at h;cases h
  |some c=>
   rw[e]at h;cases c with
   |lst xs=>
    obtain⟨ds,h1,h⟩:=aI (show(rL n M xs).bind _=_ from h);cases h;obtain⟨vs,h2,h3⟩:=G.lstAt' e;exact⟨W.α i,vs,r.2,SqL.of h2,vD G n xs ds vs h1 h3⟩
   |_=>cases h
 |0,.f xs=>fun d v h r=>by unfold snap at h;cases h
 |n+1,.f xs=>fun d v h r=>by unfold snap at h;cases h
 |0,.g xs=>fun d v h r=>by unfold snap at h;cases h
 |n+1,.g xs=>fun d v h r=>by unfold snap at h;cases h
 |0,.t xs=>fun d v h r=>by unfold snap at h;cases h
 |n+1,.t xs=>fun d v h r=>by
  unfold snap at h;obtain⟨ds,h1,h⟩:=aI h;cases h;obtain⟨a,vs,rfl,h2,h3⟩:=r;exact⟨a,vs,rfl,SqT.of (G.fh _ _ h2),vD G n _ ds vs h1 (QA h3)⟩
theorem vD(G:Good K W M H):∀(n:Nat)(xs:List CD)(ds:List PyData)(vs:List V),rL n M xs=some ds->bP K W xs vs->aJ K H ds vs
 |_,[]=>fun ds vs h r=>by
  unfold rL at h;cases h;cases r;rfl
 |n,x::xs=>fun ds vs h r=>by
  unfold rL at h;obtain⟨d,h1,h⟩:=aI h;obtain⟨es,h2,h⟩:=aI h;cases h;cases r with
  |@cons _ v _ vs' r1 r2=>exact⟨v,vs',rfl,uZ G n x d v h1 r1,vD G n xs es vs' h2 r2⟩
end
end
def iZ:FN:=fun xs M=>match xs with
 |[x]=>(snap 5 M x).bind fun d=>if rZ d=true then some (.d (.str d.shown),M)else none
 |_=>none
theorem MV{n:Nat}{x:PyData}:snap n M (.d x)=some x:=by cases n<;>simp only[snap]
theorem aDb{x:PyData}:iZ [.d x] M=QZ [.d x] M:=by unfold iZ QZ;dsimp only;rw[MV];rfl
theorem YC:PN K (aEs K) iZ:=by
 intro xs M z M' h W H vs Q G r k;unfold iZ at h;split at h
 .rename_i x;obtain⟨d,h1,h⟩:=aI h;by_cases hs:rZ d=true
  .rw[A9 hs]at h;cases h;rcases r with _|⟨r1,_|_⟩;have hs':=hs;unfold rZ at hs;rw[B7,B7]at hs;exact⟨_,d,rfl,uZ G 5 x d _ h1 r1,hs.1.1,C9 hs.1.2,C9 hs.2,k _ W H (.refl _) G rfl⟩
  .rw[B2 hs]at h;cases h
 .cases h
theorem rX{ι:Type}{X:ι->Cx}(hK:∀i,(X i).K=K)(hg:∀i,(X i).A.guards=some [])(hu:∀i,(X i).A.units+200<cLine):QN K X (.builtin "repr") iZ:=⟨_,fun i=>aJn (hK i) (hg i) (hu i),YC⟩
open PySem PySem.Spec PyProof.Rows PySem.Builtin PySem.Builtin.ObjectAttr
end L2
namespace L2
variable{W:Wd}{M:Sto}{H:Hp}
open PySem PySem.Spec PyProof.Rows
section
variable{P:Program}{w:World}{K:Fg}{mg:Str->Option Value}{base:Heap}
theorem aCo{nm m qual:Str}{st:Stmt}{C f:Addr}{oc:Value}{od an:Option Addr}{osl:Array (Option Value)}{kV doc pm cdv ct:Value}(hC:bC K nm=C)(hf:PySem.W.findIn K (.ref C) m=some (some (.ref f)))
 (l:K.lookup f=some ⟨oc,od,.func (PySem.W.fnOf m qual (eG st) (bJ st) (aF st) .none kV doc pm an cdv ct),osl⟩) (c:PySem.W.codeIn K cdv qual=true) (k:PySem.W.keepIn K (.ref f)=true) (fn:PySem.W.isFn K (.ref f)=true):aDD K nm m qual st:=
 ⟨f,_,ZT l c k,by rw[hC];exact hf,fn⟩
end
section
variable{K:Fg}
def vM:F2:=fun x y M=>(pO M x).bind fun xs=>(pO M y).bind fun ys=>if xs.length+ys.length<=sizeLine then some (.c M.length,M++[.lst (xs++ys)])else none
theorem aCS:P2 K (JR K) vM:=by
 intro x y M z M' h W H v u Q G rx ry k;obtain⟨xs,h1,h⟩:=aI h;obtain⟨ys,h2,h⟩:=aI h;by_cases hl:xs.length+ys.length<=sizeLine
 .rw[A9 hl]at h;cases h;obtain⟨p,vs,rfl,hp,hr⟩:=rQ G h1 rx;obtain⟨q,us,rfl,hq,hs⟩:=rQ G h2 ry;refine⟨p,q,vs,us,rfl,rfl,hp,hq,by rw[<- Paired.len hr,<- Paired.len hs];exact hl,fun l hl=>?_⟩;exact k _ (W.more l) _ (W.ext_more l) (G.new hl (c:=.lst (xs++ys)) (o:=.lst (vs++us)) (Paired.app hr hs)) G.newV
 .rw[B2 hl]at h;cases h
end
section
variable{K:Fg}
def zN(K:Fg)(c:Value)(tab:List (Str×Bool)):Bool:=tab.all fun p=>match PySem.W.kitOne K (.ref (bC K p.1)) c with
 |some b=>b==p.2
 |none=>false
theorem FA{c:Value}{tab:List (Str×Bool)}{ns:List Str}(hx:∀nm∈ns,XC K (bC K nm))(h:zN K c tab=true)(e:tab.map Prod.fst=ns):∀p∈tab,XC K (bC K p.1)/\PySem.W.kitOne K (.ref (bC K p.1)) c=some p.2:=by
 intro p hp;refine⟨hx _ (by rw[<- e];exact Z3 hp),?_⟩;have:=List.all_eq_true.mp h p hp;split at this
 .rename_i b hb;rw[hb,eq_of_beq this]
 .cases this
theorem aCP:∀nm∈([]:List Str),XC K (bC K nm):=fun _ h=>absurd h (by simp)
theorem aAp{a:Str}{l:List Str}(x:XC K (bC K a))(r:∀nm∈l,XC K (bC K nm)):∀nm∈a::l,XC K (bC K nm):=fun p hp=>by
 rcases List.mem_cons.mp hp with rfl|z
 .exact x
 .exact r p z
end
abbrev KY:=Key ⊕ List Key
abbrev KF:=Ga->Sto->Option (KY×Sto)
def RN(W:Wd):KY->V->Prop
 |.inl k,v=>v=kV k
 |.inr ks,v=>∃b,v=.ref b/\W.F b=some (.tup (ks.map kV))
theorem RN.up{W':Wd}{k:KY}{v:V}(h:RN W k v)(e:W.Ext W'):RN W' k v:=by
 cases k with
 |inl k=>exact h
 |inr ks=>obtain⟨b,h1,h2⟩:=h;exact⟨b,h1,e.ff _ _ h2⟩
section
variable{K:Fg}
def SK(K:Fg)(t:TE)(f:KF):Prop:=∀γ M k M',f γ M=some (k,M')->∀(W:Wd)(H:Hp)(σ:St)(Q:VK),Good K W M H->cH K W γ σ->(∀v W' H',W.Ext W'->Good K W' M' H'->RN W' k v->Q v H')->t σ H Q
def WU(f:EF):KF:=fun γ M=>(f γ M).bind fun r=>(keyOf r.1).bind fun k=>some (.inl k,r.2)
def keysOf:List CD->Option (List Key)
 |[]=>some []
 |x::xs=>(keyOf x).bind fun k=>(keysOf xs).bind fun ks=>some (k::ks)
def uB(fa:AF):KF:=fun γ M=>(fa γ M).bind fun r=>(keysOf r.1).bind fun ks=>if ks.length<=sizeLine then some (.inr ks,r.2)else none
variable{t td ty tx tv:TE}{tA:TA}{f fo fx fv:EF}{fk:KF}{fa:AF}
theorem aER(a:SE K t f):SK K t (WU f):=by
 intro γ M k M' hh W H σ Q G R c;obtain⟨⟨x,M1⟩,h1,hh⟩:=aI hh;obtain⟨k',h2,hh⟩:=aI hh;cases hh;exact a _ _ _ _ h1 W H σ _ G R fun v W1 H1 e1 G1 r1=>c v W1 H1 e1 G1 (wF h2 r1)
theorem zL{W:Wd}:∀{xs:List CD}{ks:List Key}{vs:List V},keysOf xs=some ks->bP K W xs vs->vs=ks.map kV
 |[],ks,vs=>fun h r=>by cases h;cases r;rfl
 |x::xs,ks,vs=>fun h r=>by
  obtain⟨k,h1,h⟩:=aI h;obtain⟨ks',h2,h⟩:=aI h;cases h;cases r with
  |cons r1 r2=>rw[wF h1 r1,zL h2 r2];rfl
theorem aHe(b:SA K tA fa):SK K (ZN tA) (uB fa):=by
 intro γ M k M' hh W H σ Q G R c;obtain⟨⟨ys,M1⟩,h1,hh⟩:=aI hh;obtain⟨ks,h2,hh⟩:=aI hh;by_cases hl:ks.length<=sizeLine
 .rw[A9 hl]at hh;cases hh;refine b _ _ _ _ h1 W H σ _ G R fun vs W1 H1 e1 G1 r1=>?_;have ev:=zL h2 r1;refine⟨by rw[ev,A7];exact hl,fun p hp=>?_⟩;obtain⟨e2,G2⟩:=G1.lay (o:=.tup vs) hp;exact c _ _ _ (e1.trans e2) G2 ⟨p,rfl,by show upd W1.F p (.tup vs) p=_;rw[aO,ev]⟩
 .rw[B2 hl]at hh;cases hh
section
variable{κ:Type}[DecidableEq κ]
def lkC(kvs:List (κ×CD))(k:κ):Option CD:=(kvs.find? fun kv=>decide (kv.1=k)).map (·.2)
def putD(kvs:List (κ×CD))(k:κ)(v:CD):List (κ×CD):=
 if (kvs.any fun kv=>decide (kv.1=k))=true then kvs.map (fun kv=>if kv.1=k then(kv.1,v)else kv)else kvs++[(k,v)]
abbrev PKV(K:Fg)(W:Wd)(kvs:List (κ×CD))(us:List (κ×V)):Prop:=Paired (fun p q=>p.1=q.1/\bK K W p.2 q.2) kvs us
theorem FJ{W:Wd}{k:κ}:∀{kvs:List (κ×CD)}{us:List (κ×V)},PKV K W kvs us->II K W (lkC kvs k) (iL us k)
 |_,_,.nil=>True.intro
 |_,_,.cons (a:=p) (b:=q) (l₁:=ps) (l₂:=qs) r1 r2=>by
  by_cases h:p.1=k
  .have h':q.1=k:=r1.1▸h;rw[show lkC (p::ps) k=some p.2 by simp[lkC,List.find?_cons,h],show iL (q::qs) k=some q.2 by simp[iL,List.find?_cons,h']];exact r1.2
  .have h':¬q.1=k:=r1.1▸h;rw[show lkC (p::ps) k=lkC ps k by simp[lkC,List.find?_cons,h],show iL (q::qs) k=iL qs k by simp[iL,List.find?_cons,h']];exact FJ r2
theorem IC{W:Wd}{k:κ}:∀{kvs:List (κ×CD)}{us:List (κ×V)},PKV K W kvs us->(kvs.any fun kv=>decide (kv.1=k))=us.any fun kv=>decide (kv.1=k)
 |_,_,.nil=>rfl
 |_,_,.cons r1 r2=>by rw[U7,U7,IC r2,r1.1]
theorem JF{W:Wd}{k:κ}{x:CD}{v:V}(rv:bK K W x v):∀{kvs:List (κ×CD)}{us:List (κ×V)},PKV K W kvs us->PKV K W (kvs.map fun kv=>if kv.1=k then(kv.1,x)else kv) (us.map fun kv=>if kv.1=k then(kv.1,v)else kv)
 |_,_,.nil=>.nil
 |_,_,.cons (a:=p) (b:=q) r1 r2=>by
  rw[C7,C7];refine .cons ?_ (JF rv r2);by_cases h:p.1=k
  .rw[A9 h,A9 (r1.1▸h)];exact⟨r1.1,rv⟩
  .rw[B2 h,B2 (r1.1▸h)];exact r1
theorem DK{k:κ}{x:CD}{v:V}{kvs:List (κ×CD)}{us:List (κ×V)}(r:PKV K W kvs us)(rv:bK K W x v):PKV K W (putD kvs k x) (putK us k v):=by
 unfold putD putK;rw[IC r];split
 .exact JF rv r
 .exact Paired.app r (.cons ⟨rfl,rv⟩ .nil)
end
def lkP(kvs:List (List Key×PyData))(k:List Key):Option PyData:=(kvs.find? fun kv=>decide (kv.1=k)).map (·.2)
theorem IV{W:Wd}{k:List Key}:∀{kvs:List (List Key×PyData)}{us:List (List Key×V)},Paired (fun p q=>p.1=q.1/\Rep K W.F p.2 q.2) kvs us->II K W ((lkP kvs k).map .d) (iL us k)
 |_,_,.nil=>True.intro
 |_,_,.cons (a:=p) (b:=q) (l₁:=ps) (l₂:=qs) r1 r2=>by
  by_cases h:p.1=k
  .have h':q.1=k:=r1.1▸h;rw[show lkP (p::ps) k=some p.2 by simp[lkP,List.find?_cons,h],show iL (q::qs) k=some q.2 by simp[iL,List.find?_cons,h']];exact r1.2
  .have h':¬q.1=k:=r1.1▸h;rw[show lkP (p::ps) k=lkP ps k by simp[lkP,List.find?_cons,h],show iL (q::qs) k=iL qs k by simp[iL,List.find?_cons,h']];exact IV r2
def atD(M:Sto):CD->KY->Option (Option CD)
 |.c i,.inl k=>match M[i]? with
  |some (.dk kvs)=>some (lkC kvs k)
  |_=>none
 |.c i,.inr ks=>match M[i]? with
  |some (.dt kvs)=>some (lkC kvs ks)
  |_=>none
 |.f kvs,.inr ks=>some ((lkP kvs ks).map .d)
 |_,_=>none
def BQ(M:Sto):CD->KY->CD->Option Sto
 |.c i,.inl k,x=>match M[i]? with
  |some (.dk kvs)=>if kvs.length<sizeLine then some (M.set i (.dk (putD kvs k x)))else none
  |_=>none
 |.c i,.inr ks,x=>match M[i]? with
  |some (.dt kvs)=>if kvs.length<sizeLine then some (M.set i (.dt (putD kvs ks x)))else none
  |_=>none
 |_,_,_=>none
theorem Good.dkAt{i:Nat}{kvs:List (Key×CD)}(G:Good K W M H)(h:M[i]?=some (.dk kvs)):∃us,H (W.α i)=some (.dK us)/\PKV K W kvs us:=by
 obtain⟨_,o,h2,h3⟩:=G.cs i _ h (by intro z;cases z);cases o<;>first|exact⟨_,h2,h3⟩|exact False.elim h3
theorem Good.dtAt{i:Nat}{kvs:List (List Key×CD)}(G:Good K W M H)(h:M[i]?=some (.dt kvs)):∃us,H (W.α i)=some (.dT us)/\PKV K W kvs us:=by
 obtain⟨_,o,h2,h3⟩:=G.cs i _ h (by intro z;cases z);cases o<;>first|exact⟨_,h2,h3⟩|exact False.elim h3
theorem PY{x:CD}{k:KY}{r:Option CD}{v y:V}(G:Good K W M H)(h:atD M x k=some r)(rx:bK K W x v)(ry:RN W k y):∃a o,v=.ref a/\xJ H a y o/\II K W r o:=by
 unfold atD at h;split at h
 .rename_i i k';split at h
  .rename_i kvs hk;cases h;obtain⟨us,h1,h2⟩:=G.dkAt hk;refine⟨_,_,rx.2,?_,FJ h2⟩;rw[show y=kV k' from ry];exact xJ.k h1
  .cases h
 .rename_i i ks;split at h
  .rename_i kvs hk;cases h;obtain⟨us,h1,h2⟩:=G.dtAt hk;obtain⟨b,rfl,hb⟩:=ry;exact⟨_,_,rx.2,xJ.t h1 (G.fh _ _ hb),FJ h2⟩
  .cases h
 .rename_i kvs ks;cases h;obtain⟨a,o,us,rfl,h1,h2⟩:=rx;obtain⟨b,rfl,hb⟩:=ry;exact⟨_,_,rfl,.inr ⟨us,ks,b,.inr ⟨o,G.fh _ _ h1⟩,rfl,G.fh _ _ hb,rfl⟩,IV h2⟩
 .cases h
theorem KC{M':Sto}{x z:CD}{k:KY}{v y u:V}(G:Good K W M H)(h:BQ M x k z=some M')(rx:bK K W x v)(ry:RN W k y)(rz:bK K W z u):∃a H',v=.ref a/\zI H a y u H'/\Good K W M' H':=by
 unfold BQ at h;split at h
 .rename_i z' i k';split at h
  .rename_i kvs hk;by_cases hl:kvs.length<sizeLine
   .rw[A9 hl]at h;cases h;obtain⟨us,h1,h2⟩:=G.dkAt hk;refine⟨_,_,rx.2,?_,G.set hk (by intro q;cases q) (o':=.dK (putK us k' u)) (DK h2 rz)⟩;rw[show y=kV k' from ry];exact zI.k h1 (by rw[<- Paired.len h2];exact hl)
   .rw[B2 hl]at h;cases h
  .cases h
 .rename_i z' i ks;split at h
  .rename_i kvs hk;by_cases hl:kvs.length<sizeLine
   .rw[A9 hl]at h;cases h;obtain⟨us,h1,h2⟩:=G.dtAt hk;obtain⟨b,rfl,hb⟩:=ry;exact⟨_,_,rx.2,zI.t h1 (G.fh _ _ hb) (by rw[<- Paired.len h2];exact hl),G.set hk (by intro q;cases q) (o':=.dT (putK us ks u)) (DK h2 rz)⟩
   .rw[B2 hl]at h;cases h
  .cases h
 .cases h
def wC:EF:=fun _ M=>some (.c M.length,M++[.dt []])
def IG(fo:EF)(fk:KF):EF:=fun γ M=>(fo γ M).bind fun o=>(fk γ o.2).bind fun k=>(atD k.2 o.1 k.1).bind fun r=>r.bind fun x=>some (x,k.2)
def NI(neg:Bool)(fk:KF)(fo:EF):EF:=fun γ M=>(fk γ M).bind fun k=>(fo γ k.2).bind fun o=>(atD o.2 o.1 k.1).bind fun r=>some (.d (.bool (if neg then !r.isSome else r.isSome)),o.2)
def vX(fo:EF)(fk:KF)(fv:EF):SF:=fun γ M=>(fv γ M).bind fun v=>(fo γ v.2).bind fun o=>(fk γ o.2).bind fun k=>(BQ k.2 o.1 k.1 v.1).bind fun M'=>some (.nx γ,M')
theorem YQ:SE K aBc wC:=by
 intro γ M x M' hh W H σ Q G R k;cases hh;exact fun p hp=>k _ (W.more p) _ (W.ext_more p) (G.new hp (c:=.dt []) (o:=.dT []) .nil) G.newV
theorem aCa(a:SE K td fo)(b:SK K ty fk):SE K (aEH td ty) (IG fo fk):=by
 intro γ M x M' hh W H σ Q G R k;obtain⟨⟨o,M1⟩,h1,hh⟩:=aI hh;obtain⟨⟨ky,M2⟩,h2,hh⟩:=aI hh;obtain⟨r,h3,hh⟩:=aI hh;obtain⟨z,h4,hh⟩:=aI hh;cases hh;subst h4;refine a _ _ _ _ h1 W H σ _ G R fun v W1 H1 e1 G1 r1=>b _ _ _ _ h2 W1 H1 σ _ G1 (R.up e1) fun y W2 H2 e2 G2 r2=>?_;obtain⟨p,ov,ev,g,ro⟩:=PY G2 h3 (r1.up e2) r2;cases ov with
 |none=>exact False.elim ro
 |some u=>exact⟨p,u,ev,g,k u W2 H2 (e1.trans e2) G2 ro⟩
theorem TZ{r:Option CD}{o:Option V}(h:II K W r o):o.isSome=r.isSome:=by
 cases r<;>cases o<;>first|rfl|exact False.elim h
theorem aAf(b:SK K ty fk)(a:SE K td fo):SE K (aIC ty td) (NI false fk fo):=by
 intro γ M x M' hh W H σ Q G R k;obtain⟨⟨ky,M1⟩,h1,hh⟩:=aI hh;obtain⟨⟨o,M2⟩,h2,hh⟩:=aI hh;obtain⟨r,h3,hh⟩:=aI hh;cases hh;refine b _ _ _ _ h1 W H σ _ G R fun y W1 H1 e1 G1 r1=>a _ _ _ _ h2 W1 H1 σ _ G1 (R.up e1) fun v W2 H2 e2 G2 r2=>?_;obtain⟨p,ov,ev,g,ro⟩:=PY G2 h3 r2 (r1.up e2);refine⟨p,ov,ev,g,k _ W2 H2 (e1.trans e2) G2 ?_⟩;show _=V.bl r.isSome;rw[TZ ro]
theorem aBl(a:SE K td fo)(b:SK K ty fk)(c:SE K tv fv):SS K (aDT td ty tv) (vX fo fk fv):=by
 intro γ M o M' hh W H σ D G R k;obtain⟨⟨z,M1⟩,h1,hh⟩:=aI hh;obtain⟨⟨x,M2⟩,h2,hh⟩:=aI hh;obtain⟨⟨ky,M3⟩,h3,hh⟩:=aI hh;obtain⟨M4,h4,hh⟩:=aI hh;cases hh;refine c _ _ _ _ h1 W H σ _ G R fun u W1 H1 e1 G1 r1=>a _ _ _ _ h2 W1 H1 σ _ G1 (R.up e1) fun v W2 H2 e2 G2 r2=>b _ _ _ _ h3 W2 H2 σ _ G2 (R.up (e1.trans e2)) fun y W3 H3 e3 G3 r3=>?_;obtain⟨p,H4,ev,g,G4⟩:=KC G3 h4 (r2.up e3) r3 ((r1.up e2).up e3);exact⟨p,H4,ev,g,k W3 H4 ((e1.trans e2).trans e3) G4 σ (R.up ((e1.trans e2).trans e3))⟩
end
section
variable{ι:Type}
structure MK(K:Fg)(X:ι->Cx)(e:Expr)(f:KF):Prop where
 ex:∃t,(∀i,PE (X i) e t)/\SK K t f
variable{K:Fg}{X:ι->Cx}{e o i a b:Expr}{es:List Expr}{f g fx:EF}{fk:KF}{fa:AF}{pos:Pos}
theorem mk_one(x:ME K X e f):MK K X e (WU f):=by
 obtain⟨t,x1,x2⟩:=x.ex;exact⟨_,x1,aER x2⟩
theorem AH{k:Nat}(x:MA K X es fa):MK K X (.Tuple es k pos) (uB fa):=by
 obtain⟨t,x1,x2⟩:=x.ex;exact⟨_,fun i=>GL (x1 i),aHe x2⟩
theorem IY:ME K X (.Dict [] [] pos) wC:=⟨_,fun _=>ZL,YQ⟩
theorem aCb(hu:∀j,(X j).A.units+1<cLine)(x:ME K X o f)(y:MK K X i fk)(hs:aFN i:=by intro _ _;rfl):ME K X (.Subscript o i pos) (IG f fk):=by
 obtain⟨t,x1,x2⟩:=x.ex;obtain⟨u,y1,y2⟩:=y.ex;exact⟨_,fun j=>aDu (hu j) (x1 j) (y1 j) hs,aCa x2 y2⟩
theorem YF(hu:∀j,(X j).A.units+1<cLine)(y:MK K X i fk)(x:ME K X o f)(hm:behindInMarks .In o=false:=by rfl):ME K X (.Compare i [.In] [o] pos) (NI false fk f):=by
 obtain⟨t,x1,x2⟩:=x.ex;obtain⟨u,y1,y2⟩:=y.ex;exact⟨_,fun j=>aEM (ZX (hu j) (y1 j) (x1 j)) hm,aAf y2 x2⟩
theorem aGT(hu:∀j,(X j).A.units+1<cLine)(y:MK K X i fk)(x:ME K X o f)(hm:behindInMarks .In o=false:=by rfl):MT K X (.Compare i [.In] [o] pos) (gB (NI false fk f)):=by
 obtain⟨t,x1,x2⟩:=x.ex;obtain⟨u,y1,y2⟩:=y.ex;exact⟨_,fun j=>aHv (ZX (hu j) (y1 j) (x1 j)) hm,aFE (aAf y2 x2)⟩
theorem QL{pos':Pos}(hu:∀j,(X j).A.units+1<cLine)(x:ME K X o f)(y:MK K X i fk)(z:ME K X e g)(hs:∀j,swapsWith e (some (.Subscript o i pos')) pos.line (X j).env=pure false:=by intro _;rfl):MS K X (.Assign [.Subscript o i pos'] e pos) (vX f fk g):=by
 obtain⟨t,x1,x2⟩:=x.ex;obtain⟨u,y1,y2⟩:=y.ex;obtain⟨v,z1,z2⟩:=z.ex;exact⟨_,fun j=>aCc (hu j) (x1 j) (y1 j) (z1 j) (hs j),aBl x2 y2 z2⟩
end
end L2
namespace PySem
open Sem (wp)
open AutoSeq1 (wpAny_loadPart')
section
variable{prog:Program}{w:World}{A:Around}{E:Value->Shared->Prop}{s:Shared}
theorem CA{it l:Addr}{i:Nat}{items}{x:Value}{Q:Value->Shared->Prop}(hit:s.heap.IsTupleIter it l i)(hl:s.heap.IsTuple l items)(hx:items[i]?=some x)
 (hQ:∀h',h'.IsTupleIter it l (i+1)->Heap.SameBut it s.heap h'->Q x { s with heap:=h' }):wpAny (model prog w) A (Builtin.SmallTypes.nextOf (.ref it)) Q E s:=by
 obtain⟨o,ho,hc,hd⟩:=id hit;obtain⟨ol,hol,_,nl,hdl⟩:=hl;unfold Builtin.SmallTypes.nextOf;refine A3 (E6 (name:=Str.ofString "__next__") hit.typeIs Z4 (E4 Z4 hit.typeIs F.entry_tuple_iterator_next ?_ (F.args_tuple_iterator_next_1 _)));show wpAny _ _ (field (.ref it) 0 >>= _) _ _ s;refine A3 (D7 ho hd (x:=.ref l) rfl ?_);show wpAny _ _ (if (Value.ref l==Value.none)=true then _ else _) _ _ s;rw[B2 (show ¬((Value.ref l==Value.none)=true)from B1)];show wpAny _ _ (field (.ref it) 1 >>= _) _ _ s;refine A3 (D7 ho hd (x:=.int i 0) rfl ?_);show wpAny _ _ (seqItems? (.ref l) >>= _) _ _ s;refine A3 (Y3 hol hdl ?_);simp only[Int.toNat_natCast,hx];refine A3 (O7 ho hd (by simp) (A6 ⟨x,rfl,A6 (hQ _ ?_ (J7 ..))⟩));exact⟨_,E8 _ ho (S0 (J3 hd _)),(A0h ..).trans hc,by rw[J3 hd];simp[rawInt]⟩
theorem wB{it l:Addr}{i:Nat}{items}{Q:Value->Shared->Prop}(hh:A.handled=none)(hit:s.heap.IsTupleIter it l i)(hl:s.heap.IsTuple l items)(hx:items[i]?=none)
 (hE:∀h' e,Heap.ExtBut it s.heap h'->(∃o,h'.get? e=some o/\o.cls=.type "StopIteration")->E (.ref e) { s with heap:=h' }):wpAny (model prog w) A (Builtin.SmallTypes.nextOf (.ref it)) Q E s:=by
 obtain⟨o,ho,hc,hd⟩:=id hit;obtain⟨ol,hol,_,nl,hdl⟩:=hl;unfold Builtin.SmallTypes.nextOf;refine A3 (E6 (name:=Str.ofString "__next__") hit.typeIs Z4 (E4 Z4 hit.typeIs F.entry_tuple_iterator_next ?_ (F.args_tuple_iterator_next_1 _)));show wpAny _ _ (field (.ref it) 0 >>= _) _ _ s;refine A3 (D7 ho hd (x:=.ref l) rfl ?_);show wpAny _ _ (if (Value.ref l==Value.none)=true then _ else _) _ _ s;rw[B2 (show ¬((Value.ref l==Value.none)=true)from B1)];show wpAny _ _ (field (.ref it) 1 >>= _) _ _ s;refine A3 (D7 ho hd (x:=.int i 0) rfl ?_);show wpAny _ _ (seqItems? (.ref l) >>= _) _ _ s;refine A3 (Y3 hol hdl ?_);simp only[Int.toNat_natCast,hx];refine A3 (A0k (A3 (O7 ho hd (by simp) ?_)));show wpAny _ _ (newExc (.type "StopIteration") [] >>= _) _ _ _;refine A3 ?_;simp only[newExc,newTuple];refine A3 (C4 ?_ (by size_fits));refine A3 (m:=firstArgMember _ _) (wpAny_of_eq (a:=Value.none) (by first|rfl|(simp only[firstArgMember];rfl)) ?_);refine C4 ?_ (by size_fits);simp only[raiseNew];refine A3 (wpAny_handled ?_)
 first|rw[show A.in1.handled=none from hh]|rw[hh]
 refine A3 (A6 (wpAny_throw ?_));exact hE _ _ (((J7 ..).extBut.push _).push _) ⟨_,B6 _ rfl,rfl⟩
end
theorem nF{prog:Program}{w:World}{A:Around}(hh:A.handled=none)(it l:Addr)(hne:l≠it)(items:Array Value):
 Draws prog w A it [it,l] items.size (fun i v=>items[i]?=some v) (fun i h=>h.IsTupleIter it l i/\h.IsTuple l items) where
 live:=fun _ _ st=>let⟨o,ho,_⟩:=st.1;⟨o,ho⟩
 frame:=fun _ _ _ st hk=>⟨st.1.at fun o e=>hk it (by simp) o e,let⟨o,ho,r⟩:=st.2;⟨o,hk l (by simp) o ho,r⟩⟩
 item:=fun i s Q E hi st hQ=>by
  refine CA st.1 st.2 (x:=items[i]) (by simp[hi]) fun h' hit' hs'=>?_;exact hQ _ h' s.toks (by simp[hi]) ⟨hit',let⟨o,ho,r⟩:=st.2;⟨o,(hs'.2 l hne).trans ho,r⟩⟩ hs'
 done:=fun s Q E st hE=>wB hh st.1 st.2 (by simp) hE
theorem BD(l:Addr)(items:Array Value)(n:Nat)(dct:Option Addr)(sl:Array (Option Value)):
 Meets (Builtin.«enumerate.__new__» ⟨[.type "enumerate",.ref l],[]⟩) (fun _ R s=>s.heap.get? l=some { cls:=.type "tuple",dict:=dct,data:=.seq items n,slots:=sl } /\
  R (.ok (.ret (.ref (s.heap.push { cls:=.type "tuple_iterator",data:=.fields #[.ref l,.int 0 0] }).objs.size)))
   { s with heap:=(s.heap.push { cls:=.type "tuple_iterator",data:=.fields #[.ref l,.int 0 0] }).push { cls:=.type "enumerate",data:=.fields #[.none,.bool false,.ref s.heap.objs.size,rawInt 0,.none,.none] } }):=
 .of_wp fun prog w A R s h=>by
  obtain⟨hp,g,d,tk,os⟩:=s;obtain⟨hl,h⟩:=h;have hsub:=sub_enumerate;have hL:Heap.IsTuple (Shared.heap ⟨hp,g,d,tk,os⟩) l items:=⟨_,hl,rfl,n,rfl⟩
  wp_walk using A0b hl
  refine wpAny_stack_any fun st=>A6 ?_;split
  .rename_i c _ _ _ _ _;cases (c==Value.type "enumerate")
   .wp_walk using A0b hl,U4 hL
    exact⟨_,rfl,h⟩
   .wp_walk using A0b hl,U4 hL
    exact⟨_,rfl,h⟩
  .wp_walk using A0b hl,U4 hL
   exact⟨_,rfl,h⟩
section
variable{prog:Program}{w:World}{A:Around}{E:Value->Shared->Prop}{s:Shared}
theorem BX{l:Addr}{items:Array Value}{Q:Value->Shared->Prop}(hL:s.heap.IsTuple l items)
 (h:∀h',IsEnum h' (s.heap.objs.size+1) s.heap.objs.size 0 .none->h'.IsTupleIter s.heap.objs.size l 0->h'.objs.size=s.heap.objs.size+2->
  (∀b o,s.heap.get? b=some o->h'.get? b=some o)->Q (.ref (s.heap.objs.size+1)) { s with heap:=h' }):
 wpAny (model prog w) A (call (.type "enumerate") [.ref l]) Q E s:=by
 obtain⟨⟨c,dct,dt,sl⟩,hl,hc,n,hd⟩:=hL
 replace hc:c=.type "tuple":=hc
 replace hd:dt=.seq items n:=hd
 subst hc hd
 refine callType_new F.called_enumerate (by decide) (F.typeCall_enumerate_1 _) (F.newCall_enumerate_1 _) (fun obj=>F.args_object_init_2 obj _) F.entry_enumerate_new
  (BD l items n dct sl) ⟨hl,?_⟩
 have hz:(s.heap.push { cls:=.type "tuple_iterator",data:=.fields #[.ref l,.int 0 0] }).objs.size=s.heap.objs.size+1:=O6 ..;show _/\_;rw[hz]
 have he:IsEnum ((s.heap.push { cls:=.type "tuple_iterator",data:=.fields #[.ref l,.int 0 0] }).push
  { cls:=.type "enumerate",data:=.fields #[.none,.bool false,.ref s.heap.objs.size,rawInt 0,.none,.none] }) (s.heap.objs.size+1) s.heap.objs.size 0 .none:=by
  have:=B6 (s.heap.push { cls:=.type "tuple_iterator",data:=.fields #[.ref l,.int 0 0] })
   (o:={ cls:=.type "enumerate",data:=.fields #[.none,.bool false,.ref s.heap.objs.size,rawInt 0,.none,.none] }) rfl
  rw[hz]at this;exact this
 refine⟨⟨_,he,rfl⟩,h _ he ⟨_,A4 _ (B6 _ rfl),rfl,rfl⟩ (by rw[O6,hz]) fun b o x=>A4 _ (A4 _ x)⟩
end
end PySem
namespace L2
open PySem PySem.Spec PyProof.Rows
section
variable{X:Cx}{pins:List (Addr×Obj)}{σ:St}{H:Hp}{s:Shared}{h':Heap}
theorem Inv.turnLay{fp:List Addr}{a:Addr}{o:HO}{t':Nat}(I:Inv X pins σ H s)(hf:∀b∈fp,qR X pins H b)(k:∀b u,b∉fp->s.heap.get? b=some u->h'.get? b=some u)(hp:s.heap.objs.size<=a)(new:cP X.prog X.w (upd H a o) h' a o):
 Inv X pins σ (upd H a o) { s with heap:=h',toks:=t' }:=by
 have hn:H a=none:=I.hok.fresh hp;have nf:∀b u,H b=some u->b∉fp:=fun b u e z=>by rw[(hf b z).1]at e;cases e
 refine I.step (g':=s.gens) (d':=s.drawn) (ch:=fp) (fun b hb=>?_) (fun b o _ _ hc e _=>k b o hc e) (fun b o _ _ hc e _=>⟨o.slots,k b o hc e⟩) (fun b o _ e n=>?_) (fun b o hc e=>⟨o,k b o hc e⟩)
  (fun b xs e=>?_) (fun b o u e=>?_) (fun b ps e=>⟨#[],?_⟩) (fun m hm=>?_) ?_ I.bare
 .obtain⟨_,f1,_,f3,f4,f5⟩:=hf b hb;exact⟨f3,f1,f4,f5⟩
 .rw[aL (fun z=>by subst z;exact absurd (A8 e) (Nat.not_lt.mpr hp))];exact n
 .rw[aL (aP e hn)];exact e
 .rw[aL (aP e hn)];exact e
 .rw[aL (aP e hn)];simpa using e
 .obtain⟨o,es,ep,ho,r⟩:=hm;exact⟨o,es,ep,k _ o (fun z=>(hf _ z).2.1 rfl) ho,r⟩
 .intro b u e;by_cases hb:b=a
  .subst hb;rw[aO]at e;cases e;exact new
  .rw[aL hb]at e;refine(I.hok b u e).stay (fun c v hc q=>k c v ?_ q) (fun c q=>by rw[aL (aP q hn)];exact q) fun c xs q=>by rw[aL (aP q hn)];exact q
   rcases hc with z|z
   .rw[z];exact nf b _ e
   .exact nf c _ z
theorem Inv.turnF{fp:List Addr}{t':Nat}(I:Inv X pins σ H s)(hf:∀b∈fp,qR X pins H b)(k:∀b u,b∉fp->s.heap.get? b=some u->h'.get? b=some u):Inv X pins σ H { s with heap:=h',toks:=t' }:=by
 have nf:∀b u,H b=some u->b∉fp:=fun b u e z=>by rw[(hf b z).1]at e;cases e
 refine I.step (g':=s.gens) (d':=s.drawn) (ch:=fp) (fun b hb=>?_) (fun b o _ _ hc e _=>k b o hc e) (fun b o _ _ hc e _=>⟨o.slots,k b o hc e⟩) (fun _ _ _ _ n=>n) (fun b o hc e=>⟨o,k b o hc e⟩)
  (fun _ _ e=>e) (fun _ _ _ e=>e) (fun b ps e=>⟨#[],by simpa using e⟩) (fun m hm=>?_) (fun b u e=>?_) I.bare
 .obtain⟨_,f1,_,f3,f4,f5⟩:=hf b hb;exact⟨f3,f1,f4,f5⟩
 .obtain⟨o,es,ep,ho,r⟩:=hm;exact⟨o,es,ep,k _ o (fun z=>(hf _ z).2.1 rfl) ho,r⟩
 .refine(I.hok b u e).stay (fun c v hc q=>k c v ?_ q) (fun _ q=>q) fun _ _ q=>q;rcases hc with z|z
  .rw[z];exact nf b _ e
  .exact nf c _ z
end
def Ite(Sq:Hp->List V->Prop):It:=
 ⟨fun i H=>∃xs x,Sq H xs/\xs[i]?=some x,fun i H v H'=>∃p x,H p=none/\v=.ref p/\H'=upd H p (.tup [.int i,x])/\∀xs,Sq H xs->xs[i]?=some x,fun i H=>∃xs,Sq H xs/\xs.length=i⟩
def tnE(e it:Addr)(It:Heap->Nat->Prop)(i:Nat)(h:Heap):Prop:=(∃old,IsEnum h e it i old)/\It h i
section
variable{P:Program}{w:World}{K:Fg}{elts:List Expr}{x1:Nat}{tpos:Pos}
theorem DQ{e it a:Addr}{Sq:Hp->List V->Prop}{It:Heap->Nat->Prop}(hei:e≠it)
 (hobj:∀h i,It h i->∃o vs,h.get? it=some o/\o.data=.fields vs) (hkeep:∀h h' i,It h i->(∀o,h.get? it=some o->h'.get? it=some o)->It h' i)
 (hinj:∀(X:Cx),X.K=K->∀pins σ H s,Inv X pins σ H s->∀xs ys,Sq H xs->Sq H ys->xs=ys)
 (draw:∀(X:Cx),X.prog=P->X.w=w->X.K=K->X.calm=true->∀pins σ H s,Inv X pins σ H s->∀xs,Sq H xs->(∃o vs,s.heap.get? it=some o/\o.data=.fields vs)->(∃o vs,s.heap.get? e=some o/\o.data=.fields vs)->∃(its:List Value)(fp:List Addr)(S:Nat->Heap->Prop),aW xs its/\e∉fp /\
  Draws P w X.A.in1 it fp its.length (fun i v=>its[i]?=some v) S/\(∀i,It s.heap i->S i s.heap)/\∀i h,S i h->It h i):
 Turn P w K (.Tuple elts x1 tpos) (Ite Sq) [e,it] e (tnE e it It) where
 mem:=by simp
 obj:=fun i h st b hb=>by
  obtain⟨⟨old,h1⟩,h2⟩:=st;rcases List.mem_cons.mp hb with rfl|hb
  .exact⟨_,h1,fun v z=>by cases z⟩
  .obtain⟨o,vs,q1,q2⟩:=hobj _ _ h2;rw[List.mem_singleton.mp hb];exact⟨o,q1,fun v z=>by rw[q2]at z;cases z⟩
 keep:=fun i h h' st k=>by
  obtain⟨⟨old,h1⟩,h2⟩:=st;exact⟨⟨old,k e (by simp) _ h1⟩,hkeep _ _ _ h2 fun o q=>k it (by simp) o q⟩
 item:=by
  intro X hP hw hK hc i pins s σ H E I hf st hg;obtain⟨xs,x,hq,hx⟩:=hg;obtain⟨⟨old,he⟩,hit⟩:=st;obtain⟨its,fp,S,rv,hef,D,s1,s2⟩:=draw X hP hw hK hc pins σ H s I xs hq (hobj _ _ hit) ⟨_,_,he,rfl⟩;subst hP hw hK;obtain⟨u,hu,ru⟩:=rv.get hx;have hlt:i<its.length:=(List.getElem?_eq_some_iff.mp hu).1;refine wpAny_pyNext_enum_itemD D he (s1 _ hit) hlt hei hef fun v h1 tk hv ho st1 ht hsz hk=>⟨_,rfl,?_⟩;rw[hu]at hv;cases hv;refine wpAny_letOwnedTupleGo_enum ho fun h2 he2 sb=>?_;have ne:s.heap.objs.size≠e:=J0 (A8 he);have ht2:h2.get? s.heap.objs.size=some { cls:=.type "tuple",data:=.seq #[.int i tk,u] }:=(sb.2 _ ne).trans ht
  have I2:Inv X pins σ (upd H s.heap.objs.size (.tup [.int i,x])) { s with heap:=h2,toks:=tk+1 }:=by
   refine I.turnLay hf (fun b o hb q=>(sb.2 b fun z=>hb (by simp[z])).trans (hk b o (fun z=>hb (by simp[z])) (fun z=>hb (by simp[z])) q)) (B0 _) ⟨by show 2<=sizeLine;rw[F0];decide,[.int i tk,u],.cons ⟨tk,rfl⟩ (.cons ru .nil),⟨_,ht2,rfl,_,rfl⟩⟩
  refine⟨.ref s.heap.objs.size,_,I2,rfl,⟨_,x,I.hok.fresh (B0 _),rfl,rfl,fun ys hy=>by rw[hinj X rfl _ _ _ _ I ys xs hy hq];exact hx⟩,⟨⟨_,by have:=he2;push_cast;exact this⟩,?_⟩,fun b hb=>?_⟩
  .exact hkeep _ _ _ (s2 _ _ st1) fun o q=>(sb.2 it (L6 hei)).trans q
  .have hb0:=(hf b hb).1;rw[aL (fun z=>?_)]
   .exact hb0
   .subst z;rcases List.mem_cons.mp hb with q|q
    .exact ne q
    .obtain⟨o,vs,q1,_⟩:=hobj _ _ hit;rw[<- List.mem_singleton.mp q]at q1;exact absurd (A8 q1) (J1 _)
 done:=by
  intro X hP hw hK hc i pins s σ H E I hf st hg;obtain⟨xs,hq,hx⟩:=hg;obtain⟨⟨old,he⟩,hit⟩:=st;obtain⟨its,fp,S,rv,hef,D,s1,s2⟩:=draw X hP hw hK hc pins σ H s I xs hq (hobj _ _ hit) ⟨_,_,he,rfl⟩;subst hP hw hK;have hl:=rv.length;rw[hl]at hx;subst hx;exact wpAny_pyNext_enum_endD D he (s1 _ hit) fun h1 hx=>⟨rfl,I.turnF (t':=s.toks) hf fun b o hb q=>hx b o (fun z=>hb (by simp[z])) q⟩
 self:=fun A i s Q E st h=>by
  obtain⟨⟨old,he⟩,_⟩:=st;exact wpAny_pyIter_enum he h
theorem LX{e it a:Addr}(hei:e≠it):Turn P w K (.Tuple elts x1 tpos) (Ite fun H xs=>SqL K H a xs) [e,it] e (tnE e it fun h i=>h.IsListIter it a i):=by
 refine DQ (a:=a) hei (fun h i st=>?_) (fun h h' i st k=>st.at k) (fun X hK pins σ H s I xs ys h1 h2=>?_) fun X hP hw hK hc pins σ H s I xs hq hi he=>?_
 .obtain⟨o,q,_,d⟩:=st;exact⟨o,_,q,d⟩
 .subst hK;exact I.list_inj h1 h2
 .subst hP hw hK;obtain⟨its,rv,p,hz⟩:=I.list hq
  have ne:∀b,(∃o vs,s.heap.get? b=some o/\o.data=.fields vs)->a≠b:=fun b ⟨o,vs,q,d⟩ z=>by
   subst z;obtain⟨o',q',_,n,d'⟩:=p.isList;rw[q]at q';cases q';rw[d]at d';cases d'
  refine⟨its,[it,a],fun i h=>h.IsListIter it a i/\h.IsList a its.toArray,rv,?_,?_,fun i st=>⟨st,p.isList⟩,fun i h st=>st.1⟩
  .intro z;rcases List.mem_cons.mp z with z|z
   .exact hei z
   .exact ne e he (List.mem_singleton.mp z).symm
  .have:=Draws.list (prog:=X.prog) (w:=X.w) (A:=X.A.in1) (I.ok.hd hc) it a (ne it hi) its.toArray;simpa using this
theorem NN{e it a:Addr}(hei:e≠it):Turn P w K (.Tuple elts x1 tpos) (Ite fun H xs=>SqT K H a xs) [e,it] e (tnE e it fun h i=>h.IsTupleIter it a i):=by
 refine DQ (a:=a) hei (fun h i st=>?_) (fun h h' i st k=>st.at k) (fun X hK pins σ H s I xs ys h1 h2=>?_) fun X hP hw hK hc pins σ H s I xs hq hi he=>?_
 .obtain⟨o,q,_,d⟩:=st;exact⟨o,_,q,d⟩
 .subst hK;exact I.tuple_inj h1 h2
 .subst hP hw hK;obtain⟨its,rv,p,hz⟩:=I.tuple hq;have pt:s.heap.IsTuple a its.toArray:=p
  have ne:∀b,(∃o vs,s.heap.get? b=some o/\o.data=.fields vs)->a≠b:=fun b ⟨o,vs,q,d⟩ z=>by
   subst z;obtain⟨o',q',_,n,d'⟩:=pt;rw[q]at q';cases q';rw[d]at d';cases d'
  refine⟨its,[it,a],fun i h=>h.IsTupleIter it a i/\h.IsTuple a its.toArray,rv,?_,?_,fun i st=>⟨st,pt⟩,fun i h st=>st.1⟩
  .intro z;rcases List.mem_cons.mp z with z|z
   .exact hei z
   .exact ne e he (List.mem_singleton.mp z).symm
  .have:=nF (prog:=X.prog) (w:=X.w) (A:=X.A.in1) (I.ok.hd hc) it a (ne it hi) its.toArray;simpa using this
end
section
variable{X:Cx}{elts:List Expr}{x1:Nat}{tpos:Pos}
def aEc(K:Fg)(ta:TA):TI:=fun σ H R=>ta σ H fun vs H1=>∃a,vs=[.ref a]/\((∃xs,SqL K H1 a xs/\R (Ite fun H xs=>SqL K H a xs) H1)\/(∃xs,SqT K H1 a xs/\R (Ite fun H xs=>SqT K H a xs) H1))
theorem aBT{a:Expr}{ta:TA}{p pos:Pos}(hg:Gl X "enumerate")(hm:X.mg "enumerate"=none)(ha:PA X [a] ta)(hs:starEach [a] X.env=[(false,eval a X.env)]:=by rfl):PI X (.Tuple elts x1 tpos) (.Call (.Name "enumerate" p) [a] [] pos) (aEc X.K ta):=by
 intro pins s σ H R I h;refine Call_ (iR I hg hm boot_enumerate (F7 (thn (ha pos pins s σ H _ I h) fun us s1 ⟨vs,H1,I1,r1,q1⟩=>?_) hs rfl));obtain⟨l,e,q⟩:=q1;subst e;cases r1 with
 |cons r rr=>
  cases rr;cases (show _=Value.ref l from r)
  have fp:∀b∈[s1.heap.objs.size+1,s1.heap.objs.size],qR X pins H1 b:=fun b hb=>by
   rcases List.mem_cons.mp hb with rfl|hb
   .exact I1.fpOk (A0f _) (I1.hok.fresh (A0f _))
   .rw[List.mem_singleton.mp hb];exact I1.fpOk (B0 _) (I1.hok.fresh (B0 _))
  rcases q with⟨xs,hq,q⟩|⟨xs,hq,q⟩
  .obtain⟨its,rv,p,hz⟩:=I1.list hq;refine call_enumerate_list p.isList fun h' he hit hsz hk=>?_;refine wpAny_pyIter_enum he ?_;exact⟨_,_,_,_,H1,rfl,I1.kept (t':=s1.toks) hk,LX (a:=l) (Nat.succ_ne_self _),⟨⟨_,he⟩,hit⟩,fp,q⟩
  .obtain⟨its,rv,p,hz⟩:=I1.tuple hq;refine BX (show s1.heap.IsTuple l its.toArray from p) fun h' he hit hsz hk=>?_;refine wpAny_pyIter_enum he ?_;exact⟨_,_,_,_,H1,rfl,I1.kept (t':=s1.toks) hk,NN (a:=l) (Nat.succ_ne_self _),⟨⟨_,he⟩,hit⟩,fp,q⟩
end
def DF(ds:List PyData):List CD:=ds.zipIdx.map fun p=>.d (.tuple [.int (p.2:Nat),p.1])
def LA(f:AF):AF:=fun γ M=>(f γ M).bind fun r=>match r.1 with
 |[.d x]=>(bE x).bind fun ds=>some (DF ds,r.2)
 |_=>none
theorem UM{ds:List PyData}{i:Nat}{x:CD}(h:(DF ds)[i]?=some x):∃d,ds[i]?=some d/\x=.d (.tuple [.int (i:Nat),d]):=by
 unfold DF at h;rw[C8,List.getElem?_zipIdx]at h;cases e:ds[i]? with
 |none=>rw[e]at h;cases h
 |some d=>
  rw[e]at h;exact⟨d,rfl,by simpa using h.symm⟩
theorem aCs{K:Fg}{tA:TA}{fa:AF}(b:SA K tA fa):SI K (aEc K tA) (LA fa):=by
 intro γ M xs M' hh W H σ R G Rs k;obtain⟨⟨ys,M1⟩,h1,hh⟩:=aI hh;refine b _ _ _ _ h1 W H σ _ G Rs fun vs W1 H1 e1 G1 r1=>?_;revert hh;dsimp only;split
 .rename_i y;intro hh;obtain⟨ds,h2,hh⟩:=aI hh;cases hh;cases r1 with
  |cons r r'=>
   cases r';obtain⟨p,us,rfl,hs,hr⟩:=lW (show Rep K W1.F y _ from r) h2
   have gv:∀Sq:Hp->List V->Prop,(∀W2 M2 H2,W1.Ext W2->Good K W2 M2 H2->Sq H2 us)->MM K (Ite Sq) (DF ds) W1:=fun Sq hS W2 M2 H2 e2 G2=>by
    have hq:=hS W2 M2 H2 e2 G2;refine⟨fun i x hx=>?_,us,hq,by rw[show(DF ds).length=ds.length by simp[DF],hr.length]⟩;obtain⟨d,hd,rfl⟩:=UM hx;obtain⟨u,hu,ru⟩:=Paired.get (gH hr) (show(ds.map CD.d)[i]?=some (.d d)by rw[C8,hd];rfl);refine⟨⟨us,u,hq,hu⟩,fun v H3 hy=>?_⟩;obtain⟨p',x',hn,rfl,rfl,hx'⟩:=hy;have:=hx' us hq;rw[hu]at this;cases this;obtain⟨e3,G3⟩:=G2.lay (o:=.tup [.int i,u]) hn;refine⟨_,e3,G3,⟨p',_,rfl,SqT.of aO,?_⟩⟩;exact⟨_,_,rfl,rfl,_,_,rfl,Rep.same e3.ff _ _ (show Rep K W2.F d u from(ru.up e2)),rfl⟩
   refine⟨p,rfl,?_⟩;rcases hs with hs|hs
   .exact .inl ⟨us,G1.fh.seq hs,k _ W1 H1 e1 G1 (gv _ fun W2 M2 H2 e2 G2=>G2.fh.seq (e2.ff.seq hs))⟩
   .exact .inr ⟨us,G1.fh.seqT hs,k _ W1 H1 e1 G1 (gv _ fun W2 M2 H2 e2 G2=>G2.fh.seqT (e2.ff.seqT hs))⟩
 .intro hh;cases hh
theorem aDz{ι:Type}{K:Fg}{X:ι->Cx}{a:Expr}{fa:AF}{pos:Pos}{elts:List Expr}{x1:Nat}{tpos p:Pos}(hK:∀i,(X i).K=K)(hm:∀i,(X i).mg "enumerate"=none)(x:MA K X [a] fa)(hg:∀i,Gl (X i) "enumerate":=by intro _;rfl):MI K X (.Tuple elts x1 tpos) (.Call (.Name "enumerate" p) [a] [] pos) (LA fa):=by
 obtain⟨t,x1',x2⟩:=x.ex;exact⟨_,fun i=>by have:=aBT (elts:=elts) (x1:=x1) (tpos:=tpos) (p:=p) (pos:=pos) (hg i) (hm i) (x1' i) (x.st.1 _);rw[hK i]at this;exact this,aCs x2⟩
end L2
namespace PySem
open PySem.Calls PyProof.Rows
abbrev tF(x:Value)(f:Bool)(d:Addr)(i n ep:Nat)(p q:Value):Obj:=
 { cls:=.type "dict_itemiterator",dict:=none,data:=.fields #[x,.bool f,.ref d,.int i 0,.int n 0,.int ep 0,p,q],slots:=#[] }
abbrev duo(e:DictEntry):Obj:={ cls:=.type "tuple",data:=.seq #[e.key,e.val] }
def DL(h:Heap)(it d:Addr)(i n ep:Nat):Prop:=
 ∃x f p q,h.get? it=some (tF x f d i n ep p q)/\(x=.none\/∃a o,x=rawInt (a:Nat)/\h.get? a=some o)
def Raw(h:Heap)(d:Addr)(es:Array DictEntry)(ep:Nat):Prop:=∃o,h.get? d=some o/\o.data=.dict es ep
theorem Raw.to{h h':Heap}{d:Addr}{es:Array DictEntry}{ep:Nat}(r:Raw h d es ep)(k:∀o,h.get? d=some o->h'.get? d=some o):Raw h' d es ep:=let⟨o,e,x⟩:=r;⟨o,k o e,x⟩
section
variable{prog:Program}{w:World}{A:Around}{E:Value->Shared->Prop}{s:Shared}{it d v:Addr}{es:Array DictEntry}{i n ep:Nat}
theorem OJ(d:Addr)(hd:(d==sysModules)=false):MeetsIn prog w (Builtin.«dict.items» ⟨[.ref d],[]⟩) fun _ R s=>s.TypeIs (.ref d) "dict" /\
 R (.ok (.ret (.ref s.heap.objs.size))) { s with heap:=s.heap.push { cls:=.type "dict_items",data:=.fields #[.ref d] } }:=
 .of_wp fun A R s ⟨ty,h⟩=>by
  have q:Builtin.Dict.showsAll d=pure ():=by unfold Builtin.Dict.showsAll;rw[hd];rfl
  show wpAny _ _ (Builtin.Dict.noArgs _ _ >>= fun _=>_) _ _ s;unfold Builtin.Dict.noArgs;refine A3 (A3 (wpAny_notOrdered_dict ty (A6 (?_:wpAny _ _ (Builtin.Dict.showsAll d >>= _) _ _ s))));rw[q];exact A3 (A6 (A3 (C4 (A6 ⟨_,rfl,h⟩))))
theorem OK{Q:Value->Shared->Prop}(hv:s.heap.IsItemsView v d)(r:Raw s.heap d es ep)
 (h:Q (.ref s.heap.objs.size) { s with heap:=s.heap.push (tF .none false d 0 es.size ep .none .none) }):wpAny (model prog w) A (pyIter (.ref v)) Q E s:=by
 obtain⟨ov,v1,v2,v3⟩:=id hv;obtain⟨o,r1,r2⟩:=r;refine wpAny_pyIter_slot hv.typeIs F.slot_dict_items_iter (E4 F.slot_dict_items_iter hv.typeIs F.entry_dict_items_iter (A3 (A6 (A3 (?_:wpAny _ _ (field (.ref v) 0 >>= _) _ _ s)))) (F.args_dict_items_iter_1 _));refine A3 (D7 v1 v3 (x:=.ref d) rfl (A6 (A3 (?_:wpAny _ _ (Builtin.Dict_items.newIterator _ d) _ _ s))));refine A3 (wpAny_dictEntries r1 r2 (A3 (wpAny_dictEpoch r1 r2 ?_)));rw[show Builtin.Dict_items.ownsTuple "dict_itemiterator"=true from by decide];refine C4 (A6 ⟨_,rfl,_,_,⟨_,B6 _ rfl,rfl⟩,F.slot_dict_itemiterator_next.lookup,?_⟩) (by simp[sizeOk,Builtin.Dict_items.ownedTupleFields,sizeLine_eq]);exact h
theorem ZC{e:DictEntry}{Q:Value->Shared->Prop}(st:DL s.heap it d i n ep)
 (h:∀h',DL h' it d i n ep->h'.get? s.heap.objs.size=some (duo e)->(∀b o,b≠it->s.heap.get? b=some o->h'.get? b=some o)->Q (.ref s.heap.objs.size) { s with heap:=h' }):
 wpAny (model prog w) A (Builtin.Dict_items.pairFromOwner (.ref it) 6 e.key e.val) Q E s:=by
 obtain⟨H,g,dr,tk,os⟩:=s;obtain⟨x,f,p,q,w0,hx⟩:=st;have lt:it<H.objs.size:=A8 w0;have new:(H.push (duo e)).get? H.objs.size=some (duo e):=B6 _ rfl;have old:∀b o,H.get? b=some o->(H.push (duo e)).get? b=some o:=fun b o=>A4 _;refine A3 (wpAny_newTuple ?_);show wpAny _ _ (Builtin.Dict_items.ownedTupleIsFree (.ref it) >>= _) _ _ ⟨H.push (duo e),g,dr,tk,os⟩;generalize H.push (duo e)=G at new old ⊢;have w1:=old it _ w0
 have fin:∀h' x' f' p' q',h'.get? it=some (tF x' f' d i n ep p' q')->(x'=.none\/∃a o,x'=rawInt (a:Nat)/\G.get? a=some o)->Heap.SameBut it G h'->Q (.ref H.objs.size) ⟨h',g,dr,tk,os⟩:=by
  intro h' x' f' p' q' k1 k2 k3;refine h h' ⟨x',f',p',q',k1,k2.imp id ?_⟩ (k3.extBut _ _ (J0 lt) new) fun b o nb e=>k3.extBut b o nb (old b o e);rintro⟨a,o,ea,eo⟩;by_cases c:a=it
  .exact⟨a,_,ea,c▸k1⟩
  .exact⟨a,o,ea,k3.extBut a o c eo⟩
 unfold Builtin.Dict_items.ownedTupleIsFree;refine A3 (A3 (D7 w1 rfl (x:=x) rfl ?_));rcases hx with rfl|⟨a,o,rfl,ea⟩
 .refine A6 (A3 (D7 w1 rfl (x:=p) rfl (A3 (D7 w1 rfl (x:=q) rfl (A3 (F9 w1 (by simp) fun h1 w2 k2=>?_))))));refine A3 (F9 w2 (by simp) fun h2 w3 k3=>A3 (F9 w3 (by simp) fun h3 w4 k4=>A3 (F9 w4 (by simp) fun h4 w5 k5=>?_)));exact A3 (wpAny_letGo (A6 (fin h4 _ _ _ _ w5 (.inr ⟨_,_,rfl,new⟩) (((k2.trans k3).trans k4).trans k5))))
 .have al:(loadIfAlive ((a:Int).toNat):Sem (Option Obj))=loadIfAlive a:=by rw[L3]
  show wpAny _ _ (loadIfAlive ((a:Int).toNat) >>= _) _ _ _;rw[al];refine A3 (W.kdx_alive (old a o ea) ?_);show wpAny _ _ (field (.ref it) 1 >>= _) _ _ _;refine A3 (D7 w1 rfl (x:=.bool f) rfl ?_);cases f
  .exact A3 (F9 w1 (by simp) fun h1 w2 k2=>A6 (A6 (fin h1 _ _ _ _ w2 (.inr ⟨a,o,rfl,old a o ea⟩) k2)))
  .exact A6 (A6 (fin G _ _ _ _ w1 (.inr ⟨a,o,rfl,old a o ea⟩) (Heap.SameBut.refl _ _)))
theorem LV{Q:Option Value->Shared->Prop}(hh:A.handled=none)(st:DL s.heap it d i es.size ep)(r:Raw s.heap d es ep)(ne:d≠it)
 (h1:∀e,es[i]?=some e->∀h',DL h' it d (i+1) es.size ep->h'.get? s.heap.objs.size=some (duo e)->(∀b o,b≠it->s.heap.get? b=some o->h'.get? b=some o)->Q (some (.ref s.heap.objs.size)) { s with heap:=h' })
 (h2:es[i]?=none->∀h',Heap.ExtBut it s.heap h'->Q none { s with heap:=h' }):wpAny (model prog w) A (pyNext (.ref it)) Q E s:=by
 obtain⟨H,g,dr,tk,os⟩:=s;obtain⟨x,f,p,q,w0,hx⟩:=st;obtain⟨od,r1,r2⟩:=r;have ty:Shared.TypeIs ⟨H,g,dr,tk,os⟩ (.ref it) "dict_itemiterator":=⟨_,w0,rfl⟩;have own:Builtin.Dict_items.ownsTuple "dict_itemiterator"=true:=by decide
 unfold pyNext;refine A3 (Z0 (E6 ty F.slot_dict_itemiterator_next (E4 F.slot_dict_itemiterator_next ty F.entry_dict_itemiterator_next (A3 (A6 (A3 (A3 ?_)))) (F.args_dict_itemiterator_next_1 _))));refine A3 (A0l ty (A6 (A3 (wpAny_fieldsOf w0 rfl ?_))));rw[own];refine A3 (A6 (A3 (wpAny_dictEntries r1 r2 ?_)));rw[B2 (by simp)];refine A3 (A6 (A3 (wpAny_dictEpoch r1 r2 ?_)));rw[B2 (by simp)];refine A6 ?_;have pl:(if (i:Int)<0 then none else es[(i:Int).toNat]?)=es[i]?:=by rw[B2 (by omega),L3]
 simp only[pl];cases c:es[i]? with
 |some e=>
  refine A3 (A3 (A0l ty (A6 (A3 (wpAny_isOneOf_itemiter ty ?_)))));refine A3 (F9 w0 (k:=3) (x:=rawInt ((i:Int)+1)) (by simp) fun h' w1 k1=>A3 (E7 ?_))
  have st1:DL h' it d (i+1) es.size ep:=by
   refine⟨x,f,p,q,w1,hx.imp id fun⟨a,o,ea,eo⟩=>?_⟩;by_cases c:a=it
   .exact⟨a,_,ea,c▸w1⟩
   .exact⟨a,o,ea,k1.extBut a o c eo⟩
  have ty1:Shared.TypeIs ⟨h',g,dr,tk,os⟩ (.ref it) "dict_itemiterator":=⟨_,w1,rfl⟩;refine A3 (wpAny_isOneOf_itemiter ty1 (A3 (wpAny_isOneOf_itemiter ty1 (ZC (e:=e) st1 fun h'' st2 t2 k2=>?_))));have sz:h'.objs.size=H.objs.size:=k1.1;refine A6 ⟨_,rfl,A6 ?_⟩;rw[sz]at t2 ⊢;exact h1 e c h'' st2 t2 fun b o nb eb=>k2 b o nb (k1.extBut b o nb eb)
 |none=>
  refine A3 (A3 (A0l ty (A6 (A3 (O7 w0 (i:=2) (x:=.none) rfl (by simp) (A3 ?_))))));simp only[newExc,newTuple];refine A3 (C4 (A3 (m:=firstArgMember _ _) (wpAny_of_eq (a:=Value.none) (by simp only[firstArgMember];rfl) (C4 ?_ (by size_fits)))) (by size_fits));simp only[raiseNew];refine A3 (wpAny_handled ?_);rw[show A.in1.handled=none from hh];refine A3 (A6 (wpAny_throw ?_));refine A3 (Y4 (b:=true) (T:="StopIteration") ⟨_,B6 _ rfl,rfl⟩ isSubtype_stop ?_);exact A6 (h2 c _ (((J7 ..).extBut.push _).push _))
end
structure Handed(es:Array DictEntry)(lo:Addr)(h:Heap)(as:List Addr):Prop where
 rise:as.Pairwise (·<·)
 above:∀a∈as,lo<a
 duos:∀(j:Nat)(a:Addr),as[j]?=some a->∃e,es[j]?=some e/\h.get? a=some (duo e)
theorem Handed.to{es:Array DictEntry}{lo lo':Addr}{h h':Heap}{as:List Addr}(g:Handed es lo h as)(l:lo'<=lo)(k:∀a o,lo<a->h.get? a=some o->h'.get? a=some o):Handed es lo' h' as:=
 ⟨g.rise,fun a ha=>Nat.lt_of_le_of_lt l (g.above a ha),fun j a ha=>let⟨e,x,y⟩:=g.duos j a ha;⟨e,x,k a _ (g.above a (O9 ha)) y⟩⟩
theorem Handed.more{es:Array DictEntry}{lo a:Addr}{h:Heap}{as:List Addr}{e:DictEntry}(g:Handed es lo h as)(up:∀b∈as,b<a)(hl:lo<a)(he:es[as.length]?=some e)(ha:h.get? a=some (duo e)):Handed es lo h (as++[a]):=by
 refine⟨List.pairwise_append.mpr ⟨g.rise,List.pairwise_singleton _ _,fun b hb c hc=>by rw[List.mem_singleton.mp hc];exact up b hb⟩,fun b hb=>?_,fun j b hj=>?_⟩
 .exact(List.mem_append.mp hb).elim (g.above b) fun q=>List.mem_singleton.mp q▸hl
 .rw[List.getElem?_append]at hj;split at hj
  .exact g.duos j b hj
  .have z:j-as.length=0:=by
    have:=(List.getElem?_eq_some_iff.mp hj).1;simp at this;omega
   rw[z]at hj;cases hj;exact⟨e,by rw[show j=as.length by omega];exact he,ha⟩
abbrev rowOf(acc:Array Value)(c:Nat):Obj:={ cls:=.type "list",dict:=none,data:=.seq acc c,slots:=#[] }
section
variable{prog:Program}{w:World}{A:Around}{E:Value->Shared->Prop}{s:Shared}{S I d v:Addr}{es:Array DictEntry}{ep:Nat}{R:Result->Shared->Prop}{res:Value}
theorem ON(hh:A.handled=none)(hI:S<I)(dS:d≠S)(dI:d≠I)(hn:es.size<=sizeLine):
 ∀(m i:Nat)(h:Heap)(tk c:Nat)(acc:Array Value)(as:List Addr),i+m=es.size->DL h I d i es.size ep->Raw h d es ep->h.get? S=some (rowOf acc c)->acc.toList=as.map Value.ref->as.length=i->Handed es I h as->I<h.objs.size->
  (∀h' tk acc c as,(∀b o,b≠S->b≠I->h.get? b=some o->h'.get? b=some o)->h'.get? S=some (rowOf acc c)->as.length=es.size->Handed es I h' as->acc.toList=as.map Value.ref->R (.ok (.ret res)) { s with heap:=h',toks:=tk })->
  codeAny (model prog w) A (.builtin "list.extend.loop" ⟨[.ref S,.ref I,res],[]⟩) R { s with heap:=h,toks:=tk }:=by
 intro m
 induction m using Nat.strongRecOn with
 |_ m ih=>
  intro i h tk c acc as em st r hS ea el hG lI fin;have nS:S≠I:=B8 hI;refine S6 PySem.F.entry_extend_loop ?_;rw[L9 Z2 _];refine A3 (LV (A:=A.in1) (s:={ s with heap:=h,toks:=tk }) hh st r dI (fun e he h1 st1 t1 k1=>?_) fun he h1 k1=>?_)
  .have mi:i<es.size:=(Array.getElem?_eq_some_iff.mp he).1;have za:acc.size=i:=by rw[<- C6,ea,A7,el]
   have lS:S<h.objs.size:=A8 hS;have hS1:=k1 S _ nS hS;have sv:∀b o,b≠S->h1.get? b=some o->(h1.update S (Obj.mapSeq (·.push (Value.ref h.objs.size)))).get? b=some o:=fun b o nb e=>(J2 _ _ (L6 nb)).trans e;have hS2:=E8 (Obj.mapSeq (·.push (Value.ref h.objs.size))) hS1 rfl;have tp:=sv _ _ (J0 lS) t1;refine A3 (wpAny_updateSeq (f:=(·.push (Value.ref h.objs.size))) hS1 rfl (A6 ⟨Z9 Z2 _,?_⟩) (by rw[za];omega) (by show(acc.push _).size<=_;rw[Array.size_push,za];omega))
   refine ih (m-1) (by omega) (i+1) _ tk _ (acc.push (Value.ref h.objs.size)) (as++[h.objs.size]) (by omega) ?_ (r.to fun o e=>sv d o dS (k1 d o dI e)) hS2 (by rw[Array.toList_push,ea,L4];rfl) (by rw[C3,el];rfl)
    ((hG.to (B0 _) fun a o la e=>sv a o (J0 (U3 hI la)) (k1 a o (J0 la) e)).more (fun b hb=>?_) lI (by rw[el];exact he) tp) (U3 lI (A8 tp))
    fun h' tk' acc' c' as' k=>fin h' tk' acc' c' as' fun b o b1 b2 e=>k b o b1 b2 (sv b o b1 (k1 b o b2 e))
   .obtain⟨x,f,p,q,w1,hx⟩:=st1;refine⟨x,f,p,q,sv _ _ (L6 nS) w1,hx.imp id fun⟨a,o,e1,e2⟩=>?_⟩;by_cases q:a=S
    .subst q;exact⟨a,_,e1,hS2⟩
    .exact⟨a,o,e1,sv a o q e2⟩
   .obtain⟨j,hj⟩:=List.mem_iff_getElem?.mp hb;obtain⟨_,_,y⟩:=hG.duos j b hj;exact A8 y
  .have mi:es.size<=i:=Array.getElem?_eq_none_iff.mp he;exact A6 (fin h1 tk acc c as (fun b o _ b2 e=>k1 b o b2 e) (k1 S _ nS hS) (by omega) (hG.to (B0 _) fun a o la e=>k1 a o (J0 la) e) ea)
theorem UY{Q:List Value->Shared->Prop}(hh:A.handled=none)(hv:s.heap.IsItemsView v d)(r:Raw s.heap d es ep)(hn:es.size<=sizeLine)
 (hQ:∀(h':Heap)(tk:Nat)(as:List Addr),(∀b o,s.heap.get? b=some o->h'.get? b=some o)->as.length=es.size->Handed es s.heap.objs.size h' as->Q (as.map Value.ref) { s with heap:=h',toks:=tk }):
 wpAny (model prog w) A (collect (.ref v)) Q E s:=by
 obtain⟨H,g,dr,tk,os⟩:=s;have lv:v<H.objs.size:=let⟨_,ho,_⟩:=hv;A8 ho;have ld:d<H.objs.size:=let⟨_,ho,_⟩:=r;A8 ho;refine A3 (wpAny_runValue (S6 entry_proto_collect' ?_));rw[L9 PySem.F.plain_proto_collect _];refine A3 (m:=newList []) (C4 (A6 ⟨Z9 Z7 _,S6 entry_list_iadd' ?_⟩));rw[L9 Z7 _];have p0:∀b o,H.get? b=some o->(H.push (rowOf #[] 0)).get? b=some o:=fun b o e=>A4 _ e;have r0:=(B6 H (o:=rowOf #[] 0) rfl);have z0:(H.push (rowOf #[] 0)).objs.size=H.objs.size+1:=O6 ..;show wpAny _ A.in1 (Builtin.List.listExtendWith (.ref H.objs.size) (.ref v) (.ref H.objs.size)) _ _ ⟨H.push (rowOf #[] 0),g,dr,tk,os⟩;generalize H.push (rowOf #[] 0)=G at p0 r0 z0 ⊢;have lG:H.objs.size<G.objs.size:=by rw[z0];exact J9 _
 have hv1:G.IsItemsView v d:=let⟨o,a,b⟩:=hv;⟨o,p0 _ _ a,b⟩;refine A3 (Y7 (T:="dict_items") (hv1.typeIs (s:=⟨G,g,dr,tk,os⟩)) ?_);rw[show Builtin.List.listSameRef (.ref H.objs.size) (.ref v)=false from by simp[Builtin.List.listSameRef,Nat.ne_of_gt lv]];refine A3 (OK (s:=⟨G,g,dr,tk,os⟩) hv1 (r.to fun o e=>p0 d o e) (A3 (E7 (W.kdx_hint (r:=v) (let⟨o,a,b,_⟩:=hv1;⟨o,A4 _ a,b⟩) ?_))));have p1:∀b o,G.get? b=some o->(G.push (tF .none false d 0 es.size ep .none .none)).get? b=some o:=fun b o e=>A4 _ e;have r1:=B6 G (o:=tF .none false d 0 es.size ep .none .none) rfl;show wpAny _ _ _ _ _ ⟨G.push (tF .none false d 0 es.size ep .none .none),g,dr,tk,os⟩;generalize G.push (tF .none false d 0 es.size ep .none .none)=F at p1 r1 ⊢
 have go:∀h c,(∀b o,b≠H.objs.size->F.get? b=some o->h.get? b=some o)->h.get? H.objs.size=some (rowOf #[] c)->
  codeAny (model prog w) A (.builtin "list.extend.loop" ⟨[.ref H.objs.size,.ref G.objs.size,.ref H.objs.size],[]⟩) (fun r s'=>match r with|.ok (.ret v)=>wpAny (model prog w) A (match v with|.ref a=>load a >>= fun o=>(match o.data with|.seq xs _=>pure xs.toList|_=>unsupported "internal:collect")|_=>unsupported "internal:collect") Q E s'|.ok _=>False|.error e=>E e s') ⟨h,g,dr,tk,os⟩:=fun h c k hS=>
  ON (s:=⟨H,g,dr,tk,os⟩) (S:=H.objs.size) (I:=G.objs.size) hh lG (B8 ld) (B8 (U3 ld lG)) hn es.size 0 h tk c #[] [] (Nat.zero_add _) ⟨_,_,_,_,k _ _ (J0 lG) r1,.inl rfl⟩ (r.to fun o e=>k _ _ (B8 ld) (p1 _ _ (p0 _ _ e))) hS rfl rfl
   ⟨.nil,(fun _ q=>nomatch q),fun j a q=>by simp at q⟩ (A8 (k _ _ (J0 lG) r1)) fun h' tk' acc c as k' hS' el hG ea=>A3 (wpAny_load hS' (A6 (by
    rw[ea];exact hQ h' tk' as (fun b o e=>k' b o (B8 (A8 e)) (B8 (U3 (A8 e) lG)) (k b o (B8 (A8 e)) (p1 b o (p0 b o e)))) el (hG.to (Z8 lG) fun _ _ _ e=>e))))
 have q0:=p1 _ _ r0;have q1:=E8 (Obj.mapSeq (·.push Value.none)) q0 rfl;refine wpAny_ite_split (fun _=>A3 (A0k (A3 (A3 (wpAny_updateSeq (f:=(·.push Value.none)) q0 rfl (wpAny_updateSeq (hz:=by seq_fits) q1 rfl (A6 ⟨Z9 Z2 _,go _ _ (fun b o nb e=>?_) (E8 (Obj.mapSeq (·.pop)) q1 rfl)⟩))))))) fun _=>A6 ⟨Z9 Z2 _,go _ _ (fun _ _ _ e=>e) q0⟩;rw[J2 _ _ (L6 nb),J2 _ _ (L6 nb)];exact e
end
end PySem
namespace PySem
open PySem.Calls PyProof.Rows
section
variable{prog:Program}{w:World}{A:Around}{E:Value->Shared->Prop}{s:Shared}{it d:Addr}{es:Array DictEntry}{i ep:Nat}
theorem TQ{Q:Value->Shared->Prop}(hd:(d==sysModules)=false)(ty:s.TypeIs (.ref d) "dict")(r:Raw s.heap d es ep)
 (h:Q (.ref s.heap.objs.size) { s with heap:=s.heap.push { cls:=.type "dict_keyiterator",data:=.fields #[.ref d,.int 0 0,.int es.size 0,.int ep 0] } }):wpAny (model prog w) A (pyIter (.ref d)) Q E s:=by
 obtain⟨o,r1,r2⟩:=r;have q:Builtin.Dict.showsAll d=pure ():=by unfold Builtin.Dict.showsAll;rw[hd];rfl
 refine wpAny_pyIter_slot ty F.slot_dict_iter (E4 F.slot_dict_iter ty F.entry_dict_iter (A3 (A3 (wpAny_notOrdered_dict ty (A6 (?_:wpAny _ _ (Builtin.Dict.showsAll d >>= _) _ _ s))))) (F.args_dict_iter_1 _));rw[q];refine A3 (A6 (A3 (wpAny_dictEntries r1 r2 (A3 (wpAny_dictEpoch r1 r2 (A3 (C4 (A6 ⟨_,rfl,_,_,⟨_,B6 _ rfl,rfl⟩,F.slot_dict_keyiterator_next.lookup,?_⟩))))))));exact h
theorem DS{Q:Option Value->Shared->Prop}(hh:A.handled=none)(st:s.heap.IsKeyIter it d i es.size ep)(r:Raw s.heap d es ep)
 (h1:∀e,es[i]?=some e->∀h',h'.IsKeyIter it d (i+1) es.size ep->Heap.SameBut it s.heap h'->Q (some e.key) { s with heap:=h' })
 (h2:es[i]?=none->∀h',Heap.ExtBut it s.heap h'->Q none { s with heap:=h' }):wpAny (model prog w) A (pyNext (.ref it)) Q E s:=by
 obtain⟨o,w0,c0,f0⟩:=id st;obtain⟨od,r1,r2⟩:=r;have ty:=st.typeIs;have own:Builtin.Dict_items.ownsTuple "dict_keyiterator"=false:=by decide
 unfold pyNext;refine A3 (Z0 (E6 ty F.slot_dict_keyiterator_next (E4 F.slot_dict_keyiterator_next ty F.entry_dict_keyiterator_next (A3 (A6 (A3 (A3 ?_)))) (F.args_dict_keyiterator_next_1 _))));refine A3 (A0q ty (A6 (A3 (wpAny_fieldsOf w0 f0 ?_))));rw[own];refine A3 (A6 (A3 (wpAny_dictEntries r1 r2 ?_)));rw[B2 (by simp)];refine A3 (A6 (A3 (wpAny_dictEpoch r1 r2 ?_)));rw[B2 (by simp)];refine A6 ?_;have pl:(if (i:Int)<0 then none else es[(i:Int).toNat]?)=es[i]?:=by rw[B2 (by omega),L3]
 simp only[pl];cases c:es[i]? with
 |some e=>
  refine A3 (A3 (A0q ty (A6 (A3 (wpAny_isOneOf_keyiter ty ?_)))));refine A3 (O7 w0 (i:=1) (x:=rawInt ((i:Int)+1)) f0 (by simp) ?_)
  have st1:(s.heap.update it (Obj.mapFields (·.setIfInBounds 1 (rawInt ((i:Int)+1))))).IsKeyIter it d (i+1) es.size ep:=
   ⟨_,E8 _ w0 (S0 (J3 f0 _)),(A0h ..).trans c0,by rw[J3 f0];simp[rawInt]⟩
  refine A3 (E7 (A3 (wpAny_isOneOf_keyiter (s:={ s with heap:=s.heap.update it (Obj.mapFields (·.setIfInBounds 1 (rawInt ((i:Int)+1)))) }) st1.typeIs ?_)));exact A6 (A6 ⟨_,rfl,A6 (h1 e c _ st1 (J7 ..))⟩)
 |none=>
  refine A3 (A3 (A0q ty (A6 (A3 (O7 w0 (i:=0) (x:=.none) f0 (by simp) (A3 ?_))))));simp only[newExc,newTuple];refine A3 (C4 (A3 (m:=firstArgMember _ _) (wpAny_of_eq (a:=Value.none) (by simp only[firstArgMember];rfl) (C4 ?_ (by size_fits)))) (by size_fits));simp only[raiseNew];refine A3 (wpAny_handled ?_);rw[show A.in1.handled=none from hh];refine A3 (A6 (wpAny_throw ?_));refine A3 (Y4 (b:=true) (T:="StopIteration") ⟨_,B6 _ rfl,rfl⟩ isSubtype_stop ?_);exact A6 (h2 c _ (((J7 ..).extBut.push _).push _))
theorem HA{h h':Heap}{it d:Addr}{i n ep:Nat}(x:h.IsKeyIter it d i n ep)(k:∀o,h.get? it=some o->h'.get? it=some o):h'.IsKeyIter it d i n ep:=let⟨o,ho,r⟩:=x;⟨o,k o ho,r⟩
theorem TH(hh:A.handled=none)(ne:d≠it):
 Walks prog w A it [it,d] [it] es.size (fun i v=>(es[i]?).map (·.key)=some v) (fun i h=>h.IsKeyIter it d i es.size ep/\Raw h d es ep) where
 sub:=fun b hb=>by simp at hb;simp[hb]
 frame:=fun _ _ _ st hk=>⟨HA st.1 fun o e=>hk it (by simp) o e,st.2.to fun o e=>hk d (by simp) o e⟩
 item:=fun i s Q E hi st hQ=>by
  have hx:es[i]?=some es[i]:=E5 hi;refine DS hh st.1 st.2 (fun e he h' st' sb=>?_) fun hn=>by rw[hx]at hn;cases hn
  exact hQ _ h' s.toks (by rw[he];rfl) ⟨st',st.2.to fun o e=>sb.extBut d o ne e⟩ fun b o hb e=>sb.extBut b o (fun h=>hb (by simp[h])) e
 done:=fun s Q E st hQ=>by
  have hx:es[es.size]?=none:=O0 (B0 _);refine DS hh st.1 st.2 (fun e he=>by rw[hx]at he;cases he) fun _ h' sb=>hQ h' s.toks fun b o hb e=>sb b o (fun h=>hb (by simp[h])) e
 self:=fun _ _ _ _ st hQ=>wpAny_pyIter_keyiter st.1 hQ
theorem VG{o:Obj}(hd:(d==sysModules)=false)(cl:o.cls=.type "dict")(dt:o.data=.dict es ep):PySem.W.KdlSrc prog w "dict" d d es.size (fun i v=>(es[i]?).map (·.key)=some v) (fun h=>h.get? d=some o) where
 type:=fun s ho=>⟨o,ho,cl⟩
 there:=fun h ho=>⟨A8 ho,A8 ho⟩
 keep:=fun h h' ho k=>k d (.inl rfl) o ho
 notList:=by decide
 notTuple:=by decide
 hint:=fun A E s Q ho q=>PySem.W.kdl_hint_dict ⟨o,ho,cl⟩ q
 iter:=fun A s hh ho=>⟨_,fun i h=>h.IsKeyIter s.heap.objs.size d i es.size ep/\Raw h d es ep,(fun E Q q=>TQ hd ⟨o,ho,cl⟩ ⟨o,ho,dt⟩ q),TH hh (B8 (A8 ho)),⟨_,B6 _ rfl,rfl,rfl⟩,o,A4 _ ho,dt⟩
end
end PySem
namespace PySem.W
open PySem PySem.Calls PyProof.Rows PyProof.V PySem.Spec
section
variable{prog:Program}{w:World}{A:Around}{E:Value->Shared->Prop}{s:Shared}{h₀:Heap}{L:Addr}{m:Str->Option Value}{news:List (Addr×Obj)}{vs:List Value}
theorem l2_tail{Q:Value->Shared->Prop}(F:Fr h₀ L s.heap m)(N:News h₀ L s.heap news)(h2:2<=vs.length)(h64:vs.length<64)
 (h:∀D e1 h',Fr h₀ L h' m->News h₀ L h' ((D,seqObj "list" #[] e1)::news)->(∀q∈news,q.1<D)->
  wpAny (model prog w) A.in1 (keyKind' vs.toArray) (fun κ s'=>(kas_sort vs.length).kasWp (kas_ask prog w A.in1 κ vs) (fun p s''=>KasFin h₀ L m D e1 (p.toList.map fun i=>vs.getD i Value.none) (fun s3=>Q (.ref D) s3) s'') s') (fun _ _=>False) { s with heap:=h' }):
 wpAny (model prog w) A (do let l <- newList vs;let _ <- holding [l] (call (.builtin "list.sort") [l]);ret l) (fun fin s'=>∃v,fin=.done (.ret v)/\Q v s') E s:=by
 refine A3 (wpAny_newList ?_ (by rw[F0];omega));have hoL:(s.heap.push (seqObj "list" vs.toArray 0)).get? s.heap.objs.size=some (seqObj "list" vs.toArray 0):=B6 _ rfl;have keep:∀b o,s.heap.get? b=some o->(s.heap.push (seqObj "list" vs.toArray 0)).get? b=some o:=fun b o q=>A4 _ q;have hL:L<s.heap.objs.size:=F.ns.lt;show wpAny _ _ _ _ _ { s with heap:=s.heap.push (seqObj "list" vs.toArray 0) };refine A3 (E7 (E4 slot_list_sort ⟨_,hoL,rfl⟩ entry_list_sort ?body (args_list_sort _)))
 case body=>
  refine kat_list_sort (s:={ s with heap:=s.heap.push (seqObj "list" vs.toArray 0) }) (F.kept keep) (N.grown keep) hoL (J0 hL) (Heap.get?_none_of_le (D0 F.above (Z8 hL)))
   (fun p hp=>B8 (A8 (N p hp).1)) h2 h64 fun e1 h' F' N'=>?_
  refine E3 (h _ e1 h' F' N' fun q hq=>A8 (N q hq).1) (fun κ s' hk=>?_) fun _ _ x=>x;rw[kat_ask_eq rfl]at hk ⊢;exact kas_wp_mono hk fun p s'' hk'=>hk'.mono fun s3 hq=>⟨_,rfl,A6 ⟨_,rfl,hq⟩⟩
end
end PySem.W
namespace L2
variable{A:Around}{H:Hp}
open PySem PySem.Spec PyProof.Rows
section
variable{X:Cx}{pins:List (Addr×Obj)}{σ:St}{H:Hp}{s:Shared}{E:Value->Shared->Prop}
def rB(its:List Value):Sem PySem.Fin:=do let l <- newList its;let _ <- holding [l] (call (.builtin "list.sort") [l]);ret l
def MZ(K:Fg)(vs:List V)(H:Hp)(Q:VK):Prop:=
 (∃rows:List (List PyData),aJ K H (rows.map .tuple) vs/\2<=rows.length/\rows.length<64/\(∀r∈rows,r.all SeqAt.shaped=true/\kT r=true)/\(lO rows=true\/oS rows=true)/\(∀i j,i<rows.length->j<rows.length->(lX (rows.getD i []) (rows.getD j [])).isSome=true) /\
  ∀l,H l=none->Q (.ref l) (upd H l (.lst ((gN (oA rows) rows.length).map fun i=>vs.getD i .non))))\/(vs.length<2/\∀l,H l=none->Q (.ref l) (upd H l (.lst vs)))
theorem aEL{rows:List (List PyData)}{vs:List V}{its:List Value}{Q:VK}(hu:A.in1.units+64<cLine)(I:Inv X pins σ H s)(rv:aW vs its)(hrep:aJ X.K H (rows.map .tuple) vs)(h2:2<=rows.length)(h64:rows.length<64)
 (hsh:∀r∈rows,r.all SeqAt.shaped=true/\kT r=true) (hknd:lO rows=true\/oS rows=true) (hlt:∀i j,i<rows.length->j<rows.length->(lX (rows.getD i []) (rows.getD j [])).isSome=true)
 (q:∀l,H l=none->Q (.ref l) (upd H l (.lst ((gN (oA rows) rows.length).map fun i=>vs.getD i .non)))):
 wpAny (model X.prog X.w) A (rB its) (fun fin s'=>∃v,fin=.done (.ret v)/\∃x H',Inv X pins σ H' s'/\RelV x v/\Q x H') E s:=by
 obtain⟨as,hr⟩:=aJ.reads I _ vs its hrep rv;have hlen:its.length=rows.length:=by rw[ReadsAll.len hr,A7]
 obtain⟨m,F⟩:=I.fr;have N:News X.base X.env.locals s.heap (lL X.base s.heap X.env.locals):=LF;unfold rB;refine PySem.W.l2_tail (Q:=fun v s'=>∃x H',Inv X pins σ H' s'/\RelV x v/\Q x H') F N (by omega) (by omega) fun D e1 h' F' N' hD=>?_
 have kp:∀(h1:Heap),Fr X.base X.env.locals h1 m->(∀q∈lL X.base s.heap X.env.locals,h1.get? q.1=some q.2)->∀b o,b≠X.env.locals->s.heap.get? b=some o->h1.get? b=some o:=fun h1 G1 M1 b o hb e=>by
  cases z:X.base.get? b with
  |some v=>
   have:=I.bk b v z;rw[e]at this;cases this;exact G1.keep b _ z
  |none=>exact M1 (b,o) (lF hb z e)
 have k':=kp h' F' (fun q hq=>(N' q (B3 _ hq)).1)
 have hsz:s.heap.get? D=none:=by
  have hN:=N' _ B5;cases e:s.heap.get? D with
  |none=>rfl
  |some o=>exact absurd (hD (D,o) (lF hN.2.1 hN.2.2 e)) (J1 _)
 have seqL:∀b o vs n,s.heap.get? b=some o->o.data=.seq vs n->b≠X.env.locals:=fun b o vs n e d z=>by
  obtain⟨o',es,ep,x1,x2,_⟩:=F.ns;subst z;rw[e]at x1;cases x1;rw[d]at x2;cases x2
 have onl:kT (rows.map .tuple)=true:=by
  clear hrep hr hlen q hknd hlt h2 h64
  induction rows with
  |nil=>rfl
  |cons x r ih=>
   show(kT x&&kT (r.map .tuple))=true;rw[(hsh x B5).2,ih fun y hy=>hsh y (B3 _ hy)];rfl
 have hr':ReadsAll h' its (rows.map .tuple) as:=WJ (fun b o vs n e d=>k' b o (seqL b o vs n e d) e) _ _ _ onl hr;refine SL (s:={ s with heap:=h' }) hr' (by omega) hknd ?_;rw[hlen];refine KS.wp (lt:=oA rows) (n:=rows.length) (fun i j C hi hj c=>?_) (fun p hp'=>?_) ((QO (by omega)).ks (lt:=oA rows))
 .have at_:∀i,i<rows.length->∃bs,Reads h' (its.getD i .none) (.tuple (rows.getD i [])) bs:=fun i hi=>by
   obtain⟨bs,x⟩:=ReadsAll.at i hr' (by simpa using hi)
   have:(rows.map PyData.tuple).getD i .none=.tuple (rows.getD i []):=by
    rw[D4,C8,D4,B9 hi];rfl
   rw[this]at x;exact⟨bs,x⟩
  obtain⟨b1,r1⟩:=at_ i hi;obtain⟨b2,r2⟩:=at_ j hj
  have mem:∀i,i<rows.length->rows.getD i []∈rows:=fun i hi=>by
   rw[D4,B9 hi];exact Y1 hi
  have hd:lO rows=true->∀r∈rows,r.head?.all isI=true:=fun z r hr=>by
   unfold lO at z;have:=List.all_eq_true.mp z r hr;cases r with
   |nil=>rfl
   |cons d ds=>cases d<;>first|rfl|exact absurd this (by intro z;cases z)
  obtain⟨c0,hc0⟩:=Option.isSome_iff_exists.mp (hlt i j hi hj);have hc:oA rows i j=c0:=by unfold oA;rw[hc0];rfl
  rw[hc]at c;exact aGB (s:={ s with heap:=h' }) hu r1 r2 (hsh _ (mem i hi)).1 (hsh _ (mem j hj)).1 hc0 (fun z=>⟨hd z _ (mem i hi),hd z _ (mem j hj)⟩) c
 .obtain⟨e,_⟩:=hp';subst e;refine PySem.W.KasFin.intro F' N' (.head fun q hq=>B8 (hD q hq)) fun h'' c F'' N''=>?_;have k'':=kp h'' F'' (fun q hq=>(N'' q (B3 _ hq)).1);refine⟨.ref D,upd H D (.lst ((gN (oA rows) rows.length).map fun i=>vs.getD i .non)),?_,rfl,q D (I.hok.none hsz)⟩;refine I.laidL k'' (fun m' hm'=>?_) hsz ⟨?_,_,c,DD rv _,(N'' _ B5).1⟩
  .rw[<- PF F.ns hm'];exact F''.ns
  .rw[A7,(lM (oA rows) (by omega)).length_eq,U5];have:64<=sizeLine:=by decide
   omega
theorem aGf{A:Around}{vs:List V}{its:List Value}{Q:VK}(I:Inv X pins σ H s)(rv:aW vs its)(h2:vs.length<2)(q:∀l,H l=none->Q (.ref l) (upd H l (.lst vs))):
 wpAny (model X.prog X.w) A (rB its) (fun fin s'=>∃v,fin=.done (.ret v)/\∃x H',Inv X pins σ H' s'/\RelV x v/\Q x H') E s:=by
 have hl:=rv.length;have hz:its.length<=sizeLine:=by rw[F0];omega
 unfold rB;refine A3 (wpAny_newList ?_ hz);refine A3 (E7 ?_);have gD:(s.heap.push { cls:=.type "list",data:=.seq its.toArray }).get? s.heap.objs.size=some (seqObj "list" its.toArray 0):=B6 _ rfl;refine E4 slot_list_sort ⟨_,gD,rfl⟩ entry_list_sort (xN gD (by omega) ⟨_,rfl,?_⟩) (args_list_sort _)
 obtain⟨c,gg⟩:∃c,(sortedHeap (s.heap.push { cls:=.type "list",data:=.seq its.toArray }) s.heap.objs.size its its.toArray).get? s.heap.objs.size=some (seqObj "list" its.toArray c):=by
  unfold sortedHeap;have g1:=get?_update_seq gD (fun _=>#[]);have g2:=A4 (seqObj "tuple" its.toArray 0) g1;have g3:=A4 (seqObj "list" #[] 0) g2;exact⟨_,get?_update_seq g3 (fun _=>its.toArray)⟩
 refine A6 ⟨_,rfl,.ref s.heap.objs.size,upd H s.heap.objs.size (.lst vs),I.laid (t':=s.toks) (fun b o e=>?_) (B0 _) ⟨by omega,its,c,rv,gg⟩,rfl,q _ (I.hok.fresh (B0 _))⟩
 .have hb:b≠s.heap.objs.size:=B8 (A8 e);unfold sortedHeap;rw[Heap.get?_update_ne _ _ _ _ hb];refine A4 _ (A4 _ ?_);rw[Heap.get?_update_ne _ _ _ _ hb];exact A4 _ e
theorem XO{vs:List V}{its:List Value}{Q:VK}(hu:A.in1.units+64<cLine)(I:Inv X pins σ H s)(rv:aW vs its)(h:MZ X.K vs H Q):
 wpAny (model X.prog X.w) A (rB its) (fun fin s'=>∃v,fin=.done (.ret v)/\∃x H',Inv X pins σ H' s'/\RelV x v/\Q x H') E s:=by
 rcases h with⟨rows,a,b,c,d,e,f,g⟩|⟨a,b⟩
 .exact aEL hu I rv a b c d e f g
 .exact aGf I rv a b
def uW:List (V×V)->Hp->(List V->Hp->Prop)->Prop
 |[],H,k=>k [] H
 |(x,y)::r,H,k=>∀p,H p=none->uW r (upd H p (.tup [x,y])) fun vs H2=>k (.ref p::vs) H2
theorem Inv.trackT{e:Addr}{vs:List V}{its:List Value}{n:Nat}(I:Inv X pins σ H s)(he:s.heap.get? e=some { cls:=.type "tuple",data:=.seq its.toArray n })(rv:aW vs its)(hz:vs.length<=sizeLine)(hn:H e=none)(h0:X.s₀.heap.get? e=none)(hp:∀p∈X.pn++pins,p.1≠e):
 Inv X pins σ (upd H e (.tup vs)) s:=by
 have ne:∀b u,H b=some u->b≠e:=fun b u z=>aP z hn
 have nd:∀b (o:Obj),s.heap.get? b=some o->(∀vs n,o.data≠.seq vs n)->b≠e:=fun b o q z w=>by
  subst w;rw[he]at q;cases q;exact z _ _ rfl
 refine⟨I.ok,I.os,I.bare,⟨I.base.keep,I.base.slot,fun b o q n hx=>?_,I.base.there,fun b xs q=>?_,fun b o u q=>?_,fun b ps q=>?_⟩,I.loc,I.cell,?_,fun x c q=>?_,fun p h=>?_,fun b u q=>?_,I.len⟩
 .rw[aL (fun z=>by rw[z,h0]at q;cases q)];exact I.base.free b o q n hx
 .have:=I.base.tups b xs q;rw[aL (ne _ _ this)];exact this
 .have:=I.base.frzs b o u q;rw[aL (ne _ _ this)];exact this
 .obtain⟨more,this⟩:=I.base.tbls b ps q;exact⟨more,by rw[aL (ne _ _ this)];exact this⟩
 .obtain⟨m,⟨o,es,ep,ho,hd,_⟩,_⟩:=I.loc;rw[aL (nd _ o ho fun vs n z=>by rw[hd]at z;cases z)];exact I.free
 .obtain⟨v,o,ho,hd⟩:=I.cell x c q;rw[aL (nd _ o ho fun vs n z=>by rw[hd]at z;cases z)];exact I.freeC x c q
 .obtain⟨q1,q2,q3⟩:=I.pin p h;exact⟨q1,by rw[aL (hp p h)];exact q2,q3⟩
 .by_cases hb:b=e
  .subst hb;rw[aO]at q;cases q;exact⟨hz,its,rv,⟨_,he,rfl,n,rfl⟩⟩
  .rw[aL hb]at q;exact(I.hok b u q).stay (fun _ _ _ z=>z) (fun c z=>by rw[aL (ne _ _ z)];exact z) fun c xs z=>by rw[aL (ne _ _ z)];exact z
theorem RB:∀{ps:List (V×V)}{us:List (Value×Value)}{as:List Addr}{H:Hp}{k:List V->Hp->Prop},Inv X pins σ H s->Paired (fun p q=>RelV p.1 q.1/\RelV p.2 q.2) ps us->as.length=us.length->as.Pairwise (·<·)->(∀a∈as,H a=none)->
 (∀(j:Nat)(a:Addr),as[j]?=some a->∃p,us[j]?=some p/\s.heap.get? a=some { cls:=.type "tuple",data:=.seq #[p.1,p.2] })->(∀a∈as,X.s₀.heap.get? a=none/\∀p∈X.pn++pins,p.1≠a)->uW ps H k->∃H2,Inv X pins σ H2 s/\k (as.map .ref) H2
 |[],us,as,H,k=>fun I r hl _ _ _ _ h=>by
  cases r;have:as=[]:=A0g hl;subst this;exact⟨H,I,h⟩
 |(x,y)::ps,us,as,H,k=>fun I r hl hp hn hg h0 h=>by
  cases r with
  |@cons _ q _ us' r1 r2=>
   match as,hl,hp,hn,hg,h0 with
   |a::as',hl,hp,hn,hg,h0=>
    obtain⟨p,e1,e2⟩:=hg 0 a rfl;have e1:some q=some p:=e1;cases e1;obtain⟨p1,p2⟩:=List.pairwise_cons.mp hp;have I1:=I.trackT (e:=a) (vs:=[x,y]) (its:=[q.1,q.2]) e2 (.cons r1.1 (.cons r1.2 .nil)) (by show 2<=sizeLine;rw[F0];decide) (hn a B5) (h0 a B5).1 (h0 a B5).2;have hl':as'.length=us'.length:=Nat.succ.inj hl;obtain⟨H2,I2,hk⟩:=RB (as:=as') (k:=fun vs H2=>k (.ref a::vs) H2) I1 r2 hl' p2 (fun b hb=>by rw[aL (J0 (p1 b hb))];exact hn b (B3 _ hb)) (fun j b hb=>hg (j+1) b hb) (fun b hb=>h0 b (B3 _ hb)) (h a (hn a B5));exact⟨H2,I2,hk⟩
def aAH(K:Fg)(td:TE):TE:=fun σ H Q=>td σ H fun x H1=>∃a kvs,x=.ref a/\H1 a=some (.dT kvs) /\
 ∀bs:List Addr,Paired (fun(b:Addr)(kv:List Key×V)=>H1 b=some (.tup (kv.1.map kV))) bs kvs->uW ((bs.zip kvs).map fun p=>(.ref p.1,p.2.2)) H1 fun vs H2=>MZ K vs H2 Q
end
section
variable{X:Cx}{o:Expr}{td:TE}{pos apos cpos p:Pos}
theorem KT.addrs{H:Hp}:∀{kvs:List (List Key×V)}{xs:List (List Key×Addr×Value)},KT H kvs xs->Paired (fun(b:Addr)(kv:List Key×V)=>H b=some (.tup (kv.1.map kV))) (xs.map fun x=>x.2.1) kvs /\
 Paired (fun(p:V×V)(q:Value×Value)=>RelV p.1 q.1/\RelV p.2 q.2) (((xs.map fun x=>x.2.1).zip kvs).map fun p=>(V.ref p.1,p.2.2)) (xs.map fun x=>(Value.ref x.2.1,x.2.2))
 |_,_,.nil=>⟨.nil,.nil⟩
 |_,_,.cons r1 r2=>⟨.cons r1.2.1 (KT.addrs r2).1,.cons ⟨rfl,r1.2.2⟩ (KT.addrs r2).2⟩
theorem VE(hu:X.A.in1.in1.units+64<cLine)(hc:X.calm=true)(hg:Gl X "sorted")(hm:X.mg "sorted"=none)(ho:PE X o td)(hb:attributeBase o "items" X.env (eval o X.env)=eval o X.env)(hline:(apos.endLine==cpos.line)=true):
 PE X (.Call (.Name "sorted" p) [.Call (.Attribute o "items" apos) [] [] cpos] [] pos) (aAH X.K td):=by
 intro pins s σ H Q I h;refine L7 (iR I hg hm boot_sorted ?_ (by decide) (by decide));refine A0e ?_ rfl rfl;show wpAny _ _ (spliced ((false,eval (.Call (.Attribute o "items" apos) [] [] cpos) X.env)::[])) _ _ s;refine A0s ?_;refine wpAny_Call_method (T:="dict") (id:="dict.items") hb rfl hline PySem.F.plainAttrs_dict PySem.F.slot_dict_items PySem.F.type_dict_items (thn (ho pins s σ H _ I h) fun u s1 ⟨x,H1,I1,rx,a,kvs,ex,ea,q⟩=>?_);subst ex;obtain rfl:u=Value.ref a:=rx;obtain⟨z,hs,xs,r,od,es,ep,h1,h2,h3,h4,h5⟩:=(show cP X.prog X.w H1 s1.heap a (.dT kvs)from I1.hok a _ ea);have hT:s1.TypeIs (.ref a) "dict":=⟨od,h1,h2.1⟩;refine⟨hT,fun b e=>by cases e;exact⟨od,h1,h2.2.1⟩,?_⟩;show wpAny _ _ (callWith cpos (.builtin "dict.items") [.ref a] [] []) _ _ s1;refine method_meetsIn PySem.F.slot_dict_items PySem.F.entry_dict_items rfl (PySem.evalArgs_none ⟨rfl,hT,PySem.F.args_dict_items_1 _,_,OJ a hs,hT,?_⟩);refine Calls.spliced_nil ?_;have I2:Inv X pins σ H1 { s1 with heap:=s1.heap.push { cls:=.type "dict_items",data:=.fields #[.ref a] } }:=I1.kept (t':=s1.toks) fun b o e=>A4 _ e;have hv:(s1.heap.push { cls:=.type "dict_items",data:=.fields #[.ref a] }).IsItemsView s1.heap.objs.size a:=⟨_,B6 _ rfl,rfl,rfl⟩;have hat:Raw (s1.heap.push { cls:=.type "dict_items",data:=.fields #[.ref a] }) a es ep:=⟨od,A4 _ h1,h3⟩;have hzs:es.size=xs.length:=by rw[<- C6,h4,A7]
 have hl:kvs.length=xs.length:=Paired.len r;refine Calls.call_function_entry kind_sorted plain_sorted entry_sorted (args_sorted1 _) ?_;unfold Builtin.«sorted»;refine A3 (m:=checkCount "sorted" 1 1 _) (A6 ?_);refine A3 (UY (A:=X.A.in1) (I.ok.hd hc) hv hat (by rw[hzs,<- hl];exact z) fun h' tk as hk hal hG=>?_);have I3:Inv X pins σ H1 { s1 with heap:=h',toks:=tk }:=I2.kept hk;obtain⟨pk1,pk2⟩:=KT.addrs r;have hge:∀b∈as,s1.heap.objs.size<b:=fun b hb=>U3 (show s1.heap.objs.size<(s1.heap.push { cls:=.type "dict_items",data:=.fields #[.ref a] }).objs.size by rw[O6];exact J9 _) (hG.above b hb)
 obtain⟨H2,I4,hk2⟩:=RB (as:=as) (s:={ s1 with heap:=h',toks:=tk }) I3 pk2 (by rw[hal,hzs,A7]) hG.rise (fun b hb=>I1.hok.fresh (Z8 (hge b hb))) (fun j b hj=>by
  obtain⟨e,e1,e2⟩:=hG.duos j b hj;refine⟨(e.key,e.val),?_,e2⟩;rw[<- E1,h4,C8]at e1;rw[C8];cases c:xs[j]?<;>rw[c]at e1<;>cases e1;rfl) (fun b hb=>⟨Heap.get?_none_of_le (D0 I1.sz (Z8 (hge b hb))),fun p hp=>B8 (U3 (A8 (I1.pin p hp).1) (hge b hb))⟩) (q _ pk1)
 exact XO (A:=X.A.in1) hu I4 (its:=as.map Value.ref) (by
  clear hk2 hG hal hge
  induction as with
  |nil=>exact .nil
  |cons b as ih=>exact .cons rfl ih) hk2
end
section
variable{K:Fg}{td:TE}{fo:EF}
theorem Good.adopt{W:Wd}{M:Sto}{b:Addr}{us:List V}(G:Good K W M H)(hb:H b=some (.tup us)):W.Ext { W with F:=upd W.F b (.tup us) }/\Good K { W with F:=upd W.F b (.tup us) } M H:=by
 have ff:iN W.F (upd W.F b (.tup us)):=fun c o hc=>by
  by_cases q:c=b
  .subst q;have:=G.fh _ _ hc;rw[hb]at this;cases this;exact aO
  .rw[aL q];exact hc
 have e:W.Ext { W with F:=upd W.F b (.tup us) }:=⟨ff,B0 _,fun _ _=>rfl⟩;refine⟨e,fun c o hc=>?_,G.n,fun i c hi hc=>?_,G.inj⟩
 .have hc:upd W.F b (.tup us) c=some o:=hc;by_cases q:c=b
  .subst q;rw[aO]at hc;cases hc;exact hb
  .rw[aL q]at hc;exact G.fh c o hc
 .obtain⟨h1,o,h2,h3⟩:=G.cs i c hi hc
  have ne:W.α i≠b:=fun q=>by
   rw[q,hb]at h2;cases h2;cases c<;>exact False.elim h3
  exact⟨by show upd W.F b (.tup us) (W.α i)=none;rw[aL ne];exact h1,o,h2,h3.up e⟩
def JS(kv:List Key×PyData):List PyData:=[.tuple (kv.1.map tY),kv.2]
def ER:List (List Key×CD)->Option (List (List Key×PyData))
 |[]=>some []
 |(k,.d x)::r=>(ER r).bind fun q=>some ((k,x)::q)
 |_=>none
def fZ(rows:List (List PyData)):Option (List PyData):=if sortable rows=true then some (LH rows)else if rows.length<2 then some (rows.map .tuple)else none
def vJ(fo:EF):EF:=fun γ M=>(fo γ M).bind fun o=>match o.1 with
 |.c i=>match o.2[i]? with
  |some (.dt kvs)=>(ER kvs).bind fun ds=>(fZ (ds.map JS)).bind fun r=>some (.d (.list r),o.2)
  |_=>none
 |_=>none
theorem FB{H:Hp}:∀ks:List Key,aJ K H (ks.map tY) (ks.map kV)
 |[]=>rfl
 |k::ks=>⟨_,_,rfl,by cases k<;>rfl,FB ks⟩
theorem vN{M:Sto}{H:Hp}:∀{bs:List Addr}{kvs:List (List Key×V)}{W:Wd},Good K W M H->Paired (fun(b:Addr)(kv:List Key×V)=>H b=some (.tup (kv.1.map kV))) bs kvs->∃W',W.Ext W'/\Good K W' M H/\Paired (fun(b:Addr)(kv:List Key×V)=>W'.F b=some (.tup (kv.1.map kV))) bs kvs
 |_,_,W,G,.nil=>⟨W,.refl _,G,.nil⟩
 |_,_,W,G,.cons h1 h2=>by
  obtain⟨e1,G1⟩:=G.adopt h1;obtain⟨W2,e2,G2,p2⟩:=vN G1 h2;exact⟨W2,e1.trans e2,G2,.cons (e2.ff _ _ aO) p2⟩
theorem IE{M:Sto}:∀{bs:List Addr}{ds:List (List Key×PyData)}{kvs:List (List Key×V)}{W:Wd}{H:Hp}{k:List V->Hp->Prop},Good K W M H->Paired (fun(b:Addr)(kv:List Key×V)=>W.F b=some (.tup (kv.1.map kV))) bs kvs->Paired (fun(p:List Key×PyData)(q:List Key×V)=>p.1=q.1/\Rep K W.F p.2 q.2) ds kvs->
 (∀vs W' H',W.Ext W'->Good K W' M H'->aJ K W'.F ((ds.map JS).map .tuple) vs->k vs H')->uW ((bs.zip kvs).map fun p=>(.ref p.1,p.2.2)) H k
 |_,_,_,W,H,k,G,.nil,.nil=>fun c=>c [] W H (.refl _) G rfl
 |b::bs,(ks,d)::ds,(ks',v)::kvs,W,H,k,G,.cons h1 h2,.cons q1 q2=>fun c=>by
  obtain⟨rfl,rd⟩:=(show ks=ks'/\Rep K W.F d v from q1);intro p hp;obtain⟨e1,G1⟩:=G.lay (o:=.tup [.ref b,v]) hp;refine IE G1 (Paired.mapP h2 fun _ _ r=>e1.ff _ _ r) (Paired.mapP q2 fun _ _ r=>⟨r.1,Rep.same e1.ff _ _ r.2⟩) fun vs W2 H2 e2 G2 r2=>?_;refine c _ W2 H2 (e1.trans e2) G2 ⟨_,_,rfl,⟨p,_,rfl,SqT.of (e2.ff _ _ aO),?_⟩,r2⟩;exact⟨_,_,rfl,⟨b,_,rfl,SqT.of ((e1.trans e2).ff _ _ h1),FB ks⟩,_,_,rfl,Rep.same (e1.trans e2).ff _ _ rd,rfl⟩
theorem CS{W:Wd}:∀{kvs:List (List Key×CD)}{ds:List (List Key×PyData)}{us:List (List Key×V)},ER kvs=some ds->PKV K W kvs us->Paired (fun(p:List Key×PyData)(q:List Key×V)=>p.1=q.1/\Rep K W.F p.2 q.2) ds us
 |[],_,_,h,.nil=>by cases h;exact .nil
 |(k,.d x)::r,_,_,h,.cons r1 r2=>by
  obtain⟨q,h1,h⟩:=aI (show(ER r).bind _=_ from h);cases h;exact .cons r1 (CS h1 r2)
 |(k,.c _)::r,_,_,h,_=>by cases h
theorem aAy(a:SE K td fo):SE K (aAH K td) (vJ fo):=by
 intro γ M x M' hh W H σ Q G R k;obtain⟨⟨o,M1⟩,h1,hh⟩:=aI hh;revert hh;dsimp only;split
 .rename_i i;split
  .rename_i kvs hk;intro hh;obtain⟨ds,h2,hh⟩:=aI hh;obtain⟨r,h3,hh⟩:=aI hh;cases hh;refine a _ _ _ _ h1 W H σ _ G R fun v W1 H1 e1 G1 r1=>?_;obtain⟨us,hu,pu⟩:=G1.dtAt hk;refine⟨_,us,r1.2,hu,fun bs pb=>?_⟩;obtain⟨W2,e2,G2,p2⟩:=vN G1 pb;refine IE G2 p2 (Paired.mapP (CS h2 pu) fun _ _ r=>⟨r.1,Rep.same e2.ff _ _ r.2⟩) fun vs W3 H3 e3 G3 r3=>?_;have e13:=(e1.trans e2).trans e3;unfold fZ at h3;by_cases hs:sortable (ds.map JS)=true
   .rw[A9 hs]at h3;cases h3;obtain⟨s1,s2,s3,s4,s5⟩:=wV hs;refine .inl ⟨ds.map JS,aJ.same G3.fh _ _ r3,s1,s2,s3,s4,s5,fun l hl=>?_⟩;obtain⟨e4,G4⟩:=G3.lay (o:=.lst ((gN (oA (ds.map JS)) (ds.map JS).length).map fun i=>vs.getD i .non)) hl;exact k _ _ _ (e13.trans e4) G4 ⟨l,_,rfl,SqL.of aO,aJ.same e4.ff _ _ (zZ r3 _ (aEj (by omega)))⟩
   .rw[B2 hs]at h3;by_cases hl2:(ds.map JS).length<2
    .rw[A9 hl2]at h3;cases h3;refine .inr ⟨by rw[<- r3.length,A7];exact hl2,fun l hl=>?_⟩;obtain⟨e4,G4⟩:=G3.lay (o:=.lst vs) hl;exact k _ _ _ (e13.trans e4) G4 ⟨l,_,rfl,SqL.of aO,aJ.same e4.ff _ _ r3⟩
    .rw[B2 hl2]at h3;cases h3
  .intro hh;cases hh
 .intro hh;cases hh
theorem YE{ι:Type}{X:ι->Cx}{o:Expr}{f:EF}{pos apos cpos p:Pos}(hK:∀i,(X i).K=K)(hu:∀i,(X i).A.in1.in1.units+64<cLine)(hc:∀i,(X i).calm=true)(hm:∀i,(X i).mg "sorted"=none)(x:ME K X o f)(hg:∀i,Gl (X i) "sorted":=by intro _;rfl)
 (hb:∀env:Env,attributeBase o "items" env (eval o env)=eval o env:=by intro _;rfl) (hline:(apos.endLine==cpos.line)=true:=by rfl):ME K X (.Call (.Name "sorted" p) [.Call (.Attribute o "items" apos) [] [] cpos] [] pos) (vJ f):=by
 obtain⟨t,x1,x2⟩:=x.ex;exact⟨_,fun i=>by have:=VE (p:=p) (pos:=pos) (apos:=apos) (cpos:=cpos) (hu i) (hc i) (hg i) (hm i) (x1 i) (hb _) hline;rw[hK i]at this;exact this,aAy x2⟩
end
section
variable{K:Fg}
theorem Good.freezeL{W:Wd}{M:Sto}{i:Nat}{xs:List CD}{ds:List PyData}(G:Good K W M H)(hi:M[i]?=some (.lst xs))(hd:lB xs=some ds):
 ∃W',W.Ext W'/\Good K W' (M.set i .dead) H/\W'.α i=W.α i/\bK K W' (.d (.list ds)) (.ref (W.α i)):=by
 obtain⟨vs,hv,rv⟩:=G.lstAt hi;obtain⟨hn,_⟩:=G.cs i _ hi (by intro q;cases q);have lt:i<M.length:=(List.getElem?_eq_some_iff.mp hi).1;have e:W.Ext { W with F:=upd W.F (W.α i) (.lst vs) }:=⟨iN.upd hn,B0 _,fun _ _=>rfl⟩
 have at_:∀j d,(M.set i .dead)[j]?=some d->d≠.dead->j≠i/\M[j]?=some d:=fun j d h hd=>by
  by_cases q:i=j
  .subst q;rw[F5 lt]at h;exact absurd (E2 h).symm hd
  .rw[F6 q]at h;exact⟨fun z=>q z.symm,h⟩
 refine⟨_,e,⟨fun c o hc=>?_,by show W.n=_;rw[G.n,U2],fun j d hj hd=>?_,fun j k d1 d2 hj hk e1 e2 he=>?_⟩,rfl,⟨_,vs,rfl,SqL.of aO,aJ.same e.ff _ _ (fL hd rv)⟩⟩
 .have hc:upd W.F (W.α i) (.lst vs) c=some o:=hc;by_cases q:c=W.α i
  .subst q;rw[aO]at hc;cases hc;exact hv
  .rw[aL q]at hc;exact G.fh c o hc
 .obtain⟨q,h⟩:=at_ j d hj hd;obtain⟨k1,u,k2,k3⟩:=G.cs j d h hd;have ne:W.α j≠W.α i:=fun z=>q (G.inj j i d _ h hi hd (by intro z;cases z) z);exact⟨by show upd W.F (W.α i) (.lst vs) (W.α j)=none;rw[aL ne];exact k1,u,k2,k3.up e⟩
 .exact G.inj j k d1 d2 (at_ j d1 hj e1).2 (at_ k d2 hk e2).2 e1 e2 he
def uY(f:EF):EF:=fun γ M=>(f γ M).bind fun r=>match r.1 with
 |.c i=>match r.2[i]? with
  |some (.lst xs)=>(lB xs).bind fun ds=>some (.d (.list ds),r.2.set i .dead)
  |_=>none
 |.d x=>some (.d x,r.2)
 |_=>none
theorem UV{t:TE}{f:EF}(a:SE K t f):SE K t (uY f):=by
 intro γ M x M' hh W H σ Q G R k;obtain⟨⟨o,M1⟩,h1,hh⟩:=aI hh;revert hh;dsimp only;split
 .rename_i i;split
  .rename_i xs hx;intro hh;obtain⟨ds,h2,hh⟩:=aI hh;cases hh;refine a _ _ _ _ h1 W H σ _ G R fun v W1 H1 e1 G1 r1=>?_;obtain⟨W2,e2,G2,_,r2⟩:=G1.freezeL hx h2;rw[r1.2];exact k _ W2 H1 (e1.trans e2) G2 r2
  .intro hh;cases hh
 .intro hh;cases hh;exact a _ _ _ _ h1 W H σ _ G R k
 .intro hh;cases hh
theorem UN{ι:Type}{X:ι->Cx}{e:Expr}{f:EF}(x:ME K X e f):ME K X e (uY f):=by
 obtain⟨t,x1,x2⟩:=x.ex;exact⟨t,x1,UV x2⟩
def DG:FN:=fun xs M=>match xs with
 |[.d a]=>(bE a).bind fun ds=>some (.c M.length,M++[.lst (ds.map .d)])
 |[.c i]=>match M[i]? with
  |some (.lst ys)=>some (.c M.length,M++[.lst ys])
  |_=>none
 |_=>none
theorem aAP:PN K (MC K) DG:=by
 intro xs M z M' h W H vs Q G r k;unfold DG at h;split at h
 .rename_i a;obtain⟨ds,h1,h⟩:=aI h;cases h;rcases r with _|⟨r1,_|_⟩;obtain⟨p,us,rfl,hs,hr⟩:=lW (show Rep K W.F a _ from r1) h1;refine⟨p,us,rfl,hs.elim (fun q=>.inl (G.fh.seq q)) (fun q=>.inr (G.fh.seqT q)),fun l hl=>?_⟩;exact k _ (W.more l) _ (W.ext_more l) (G.new hl (c:=.lst (ds.map .d)) (o:=.lst us) (gH hr)) G.newV
 .rename_i i;split at h
  .rename_i ys hy;cases h;rcases r with _|⟨r1,_|_⟩;obtain⟨us,hv,hr⟩:=G.lstAt hy;refine⟨_,us,by rw[r1.2],.inl (SqL.of hv),fun l hl=>?_⟩;exact k _ (W.more l) _ (W.ext_more l) (G.new hl (c:=.lst ys) (o:=.lst us) hr) G.newV
  .cases h
 .cases h
theorem aDt{ι:Type}{X:ι->Cx}(hK:∀i,(X i).K=K):QN K X (.type "list") DG:=⟨_,fun i=>aEu (hK i),aAP⟩
def eqC(neg:Bool):F2:=fun x y M=>(snap 5 M x).bind fun a=>(snap 5 M y).bind fun b=>if (SeqAt.shaped a&&SeqAt.shaped b)=true then some (.d (.bool (if neg then !PyData.eqv a b else PyData.eqv a b)),M)else none
theorem aFX{neg:Bool}:P2 K (OD K neg) (eqC neg):=by
 intro x y M z M' h W H v u Q G rx ry k;obtain⟨a,h1,h⟩:=aI h;obtain⟨b,h2,h⟩:=aI h;by_cases hs:(SeqAt.shaped a&&SeqAt.shaped b)=true
 .rw[A9 hs]at h;cases h;rw[B7]at hs;exact⟨a,b,uZ G 5 x a v h1 rx,uZ G 5 y b u h2 ry,hs.1,hs.2,k _ W H (.refl _) G rfl⟩
 .rw[B2 hs]at h;cases h
def eqY(neg:Bool):F2:=zW (eqX neg) (eqC neg)
theorem aIP{ι:Type}{X:ι->Cx}(hK:∀i,(X i).K=K)(hu:∀i,(X i).A.units+64<cLine):Q2 K X (compareOp .Eq) (eqY false):=⟨_,fun i=>(kEq (hK i) (hu i)).or (show OpR (X i) (compareOp .Eq) (OD K false)by have:=ZY (X:=X i) (hu i);rw[hK i]at this;exact this),P2.or YJ aFX⟩
end
section
variable{X:Cx}{pins:List (Addr×Obj)}{σ:St}{H:Hp}{s:Shared}{a:Addr}{y v:V}{u r:Value}{A:Around}{E:Value->Shared->Prop}
theorem SY{H':Hp}{Q:Unit->Shared->Prop}(hu:A.units<cLine)(I:Inv X pins σ H s)(g:zI H a y v H')(ry:RelV y u)(rv:RelV v r)(h:∀s',Inv X pins σ H' s'->Q () s'):
 wpAny (model X.prog X.w) A (dictSet a u r) Q E s:=by
 rcases g with⟨kvs,k,e,ey,l,eH⟩|⟨kvs,k,b,e,ey,eb,l,eH⟩
 .subst ey eH;obtain⟨z,hd,vs,rel,dd⟩:=WX I.hok e;have hz:vs.length<=sizeLine:=by rw[<- rel.length];exact z
  have hl:(putK kvs k v).length<=sizeLine:=by have:=jA kvs k v;omega
  refine wpAny_dictSet_pairs (hsz:=hz) (CZ ry) dd fun h' dd' hs=>h _ ?_;have he:∃q,h'.get? a=some q:=let⟨q,_,_,hq,_⟩:=dd';⟨q,hq⟩;exact uQ I (by rw[e];exact True.intro) hs he (LR hl hd (rel.put k rv) dd')
 .subst ey eH;cases (show u=Value.ref b from ry);obtain⟨z,hd,xs,rel,dd⟩:=aEx I.hok e;have hz:xs.length<=sizeLine:=by rw[<- A0m rel];exact z
  have hl:(putK kvs k v).length<=sizeLine:=by have:=jA kvs k v;omega
  refine wpAny_dictSet_heap (hsz:=hz) hu (AM I.hok eb) dd fun h' dd' hs=>h _ ?_;obtain⟨q,es,ep,hq,h2,h3,h4,_,h5⟩:=dd';refine uQ I (by rw[e];exact True.intro) hs ⟨q,hq⟩ ⟨hl,hd,_,(rel.put k eb rv).keeps fun c ys ec=>?_,q,es,ep,hq,h2,h3,h4,h5⟩;rw[aL (aEq ec e (fun z=>nomatch z))];exact ec
end
section
variable{prog:Program}{w:World}{A:Around}{R:Result->Shared->Prop}{s:Shared}
theorem aDL{kx vx target iter:Expr}{ifs:List Expr}{scope:Scope}{pos:Pos}{it:Value}{D:Addr}{env:Env}(I:Nat->Shared->Prop)
 (turn:∀n s,I n s->wpAny (model prog w) A (pyNext it) (fun r s1=>(r=none/\R (.ok .next) s1)\/∃v,r=some v /\
  wpAny (model prog w) A (letOwnedTupleGo target it v) (fun _ s2=>wpAny (model prog w) A (assign target env v) (fun _ s3=>
   wpAny (model prog w) A (forIn ifs true fun c r=>if r=true then(do
    let ok <- isTrue c env (eval c env)
    pure (ForInStep.yield ok))else pure (ForInStep.yield r)) (fun ok s4=>
     (ok=true/\wpAny (model prog w) A (eval kx env) (fun kv s5=>wpAny (model prog w) A (eval vx env) (fun vv s6=>wpAny (model prog w) A (dictSet D kv vv) (fun _ s7=>∃m,m<n/\I m s7) (fun _ _=>False) s6) (fun _ _=>False) s5) (fun _ _=>False) s4) \/
     (ok=false/\∃m,m<n/\I m s4)) (fun _ _=>False) s3) (fun _ _=>False) s2) (fun _ _=>False) s1) (fun _ _=>False) s)
 (n:Nat) (h:I n s):codeAny (model prog w) A (.compLoop (.DictComp kx vx [⟨target,iter,ifs,0⟩] scope pos) 0 it (.ref D) env) R s:=by
 refine codeAny_loop rfl I (fun n s hI=>?_) n h
 show wpAny _ A ((compTurn (.DictComp kx vx [⟨target,iter,ifs,0⟩] scope pos) 0 it (.ref D) env).onRaise fun x=>do
  noteFrame x env
  theTreesLotGoes x) _ _ s
 refine wpAny_noted ?_;rw[compTurn_dict];refine A3 (A0n (A3 (E3 (turn n s hI) (fun r s1 h1=>?_) fun _ _ f=>f.elim)));rcases h1 with⟨rfl,h1⟩|⟨v,rfl,h1⟩
 .exact A6 h1
 .refine A3 (E3 h1 (fun _ s2 h2=>?_) fun _ _ f=>f.elim);refine A3 (E3 h2 (fun _ s3 h3=>?_) fun _ _ f=>f.elim);refine A3 (E3 h3 (fun ok s4 h4=>?_) fun _ _ f=>f.elim);rcases h4 with⟨rfl,h4⟩|⟨rfl,h4⟩
  .refine A3 (A3 (E3 h4 (fun kv s5 h5=>?_) fun _ _ f=>f.elim));refine A3 (E7 (E3 h5 (fun vv s6 h6=>?_) fun _ _ f=>f.elim));refine A3 (A0n (E7 (E3 h6 (fun _ s7 h7=>A6 ⟨rfl,h7⟩) fun _ _ f=>f.elim)))
  .exact A6 ⟨rfl,h4⟩
end
def tDc(o0:HO)(cap:List (Option Nat))(wi:TI)(g:TG)(tc:TT)(tk tv:TE):TE:=fun σ H Q=>wi σ H fun J H1=>∀D,H1 D=none->∃W:Nat->Nat->St->Hp->Prop,(∃m,W 0 m (xQ cap σ) (upd H1 D o0))/\∀i m σ' H',W i m σ' H'->
 (J.stop i H'/\Q (.ref D) H') \/
 (J.go i H'/\∃N:St->Hp->Prop,(∀σ2 H2,N σ2 H2->∃m',m'<m/\W (i+1) m' σ2 H2)/\∀x H2,J.yld i H' x H2->g x σ' H2 fun σ2 H3=>tc σ2 H3 fun b H4=>(b=true/\tk σ2 H4 fun y H5=>tv σ2 H5 fun v H6=>∃H7,zI H6 D y v H7/\N σ2 H7)\/(b=false/\N σ2 H4))
section
variable{X:Cx}{N':List Str}{cap:List (Option Nat)}{scope:Scope}
theorem aFA{o0:HO}(ho:o0=.dT []\/o0=.dK []){kx vx tg iter:Expr}{ifs:List Expr}{pos:Pos}{wi:TI}{g:TG}{tc:TT}{tk tv:TE}(hu:X.A.units<cLine)(hc:X.calm=true)(S:pX X N' cap scope)(hi:PI X tg iter wi)
 (hg:∀C s H fp pn,PG (eZ X N' scope C s H fp pn) tg g) (hif:∀C s H fp pn,JT (eZ X N' scope C s H fp pn) ifs tc) (hk:∀C s H fp pn,PE (eZ X N' scope C s H fp pn) kx tk) (hv:∀C s H fp pn,PE (eZ X N' scope C s H fp pn) vx tv)
 (hs:∀x,foldedSetIterable iter X.env x=pure x) {pins:List (Addr×Obj)} {s:Shared} {σ:St} {H:Hp} {Q:VK} (I:Inv X pins σ H s) (h:tDc o0 cap wi g tc tk tv σ H Q) {use:Option (Value->Sem Unit)} {QQ:Value->Shared->Prop}
 (post:∀(D C:Addr)(H':Hp)(s':Shared),(∃m,s'.heap.Ns C m)->(∀h',Heap.SameBut C s'.heap h'->Inv X pins σ H' { s' with heap:=h' })->qR X pins H' C->Q (.ref D) H'->compPost (model X.prog X.w) X.A X.xe use QQ (.ref D) C (.ok .next) s'):
 wpAny (model X.prog X.w) X.A (comprehension (.DictComp kx vx [⟨tg,iter,ifs,0⟩] scope pos) scope X.env (firstIterPos [⟨tg,iter,ifs,0⟩] pos) newDict false (firstIter [⟨tg,iter,ifs,0⟩] X.env) use) QQ X.xe s:=by
 refine wpAny_comprehension_free (e:=.DictComp kx vx [⟨tg,iter,ifs,0⟩] scope pos) (g:=⟨tg,iter,ifs,0⟩) (gs:=[]) rfl hs (zD (S.cells I.ok)) S.kind S.names ?_;refine thn (hi pins s σ H _ I h) fun v s1 h1=>thn h1 fun itv s2 h2=>?_;obtain⟨it,fp,tn,J,H2,e,I2,T,st2,f2,hD⟩:=h2;subst e
 have fplt2:∀b∈fp,b<s2.heap.objs.size:=fun b hb=>by
  obtain⟨o,e,_⟩:=T.obj _ _ st2 b hb;exact A8 e
 refine C4 ?_;obtain⟨W,⟨m0,w0⟩,turn⟩:=hD s2.heap.objs.size (I2.hok.fresh (B0 _));generalize hDn:s2.heap.objs.size=D at *
 have I3:Inv X pins σ (upd H2 D o0) { s2 with heap:=s2.heap.push { cls:=.type "dict",data:=.dict #[] } }:=by
  refine I2.laid (t':=s2.toks) (fun _ _ q=>A4 _ q) (Nat.le_of_eq hDn) ?_;rcases ho with rfl|rfl
  .rw[<- hDn];exact KG _ I2.big
  .rw[<- hDn];exact yZ _ I2.big
 have st3:tn 0 (s2.heap.push { cls:=.type "dict",data:=.dict #[] }):=T.keep _ _ _ st2 fun b _ o e=>A4 _ e
 have f3:∀b∈fp,qR X pins (upd H2 D o0) b:=fun b hb=>by
  obtain⟨q0,q1⟩:=f2 b hb;exact⟨by rw[aL (B8 (fplt2 b hb))];exact q0,q1⟩
 generalize hs3:({ s2 with heap:=s2.heap.push { cls:=.type "dict",data:=.dict #[] } }:Shared)=s3 at I3 ⊢;have st3:tn 0 s3.heap:=by rw[<- hs3];exact st3
 have fplt:∀b∈fp,b<s3.heap.objs.size:=fun b hb=>by
  obtain⟨o,e,_⟩:=T.obj _ _ st3 b hb;exact A8 e
 refine wpAny_newFunctionEnv S.nocell (fun y hy=>by simp at hy) (fun h1' hns hsb=>?_) S.kind;have old:∀b o,s3.heap.get? b=some o->h1'.get? b=some o:=fun b o e=>hsb.extBut b o (B8 (A8 e)) (A4 _ e)
 have I4:Inv (eZ X N' scope s3.heap.objs.size s3 (upd H2 D o0) fp pins) [] (xQ cap σ) (upd H2 D o0) { s3 with heap:=h1',toks:=s3.toks+([]:List (Str×Value)).length }:=
  JP S I3 f3 fplt (B0 _) (by simpa using hns) old
 have loop:∀s4:Shared,s4={ s3 with heap:=h1',toks:=s3.toks+([]:List (Str×Value)).length }->
  codeAny (model X.prog X.w) X.A (.compLoop (.DictComp kx vx [⟨tg,iter,ifs,0⟩] scope pos) 0 (.ref it) (.ref D) (compEnvC scope (eI X.env scope.names []) s3.heap.objs.size X.env)) (compPost (model X.prog X.w) X.A X.xe use QQ (.ref D) s3.heap.objs.size) s4:=by
  rintro s4 rfl
  have stat:∀{Hx:Hp},(∀b∈fp,Hx b=none)->∀b∈fp,qR (eZ X N' scope s3.heap.objs.size s3 (upd H2 D o0) fp pins) [] Hx b:=fun{Hx} hn b hb=>by
   refine⟨hn b hb,B8 (fplt b hb),I3.stkAll (f3 b hb).2.1 (f3 b hb).2.2.1,.inl hb,fun x c e=>(f3 b hb).2.2.2.2.1 x c (S.sub I3.ok x c e),fun p hp=>?_⟩;rcases List.mem_append.mp hp with z|z
   .exact(f3 b hb).2.2.2.2.2 p z
   .exact absurd z (by simp)
  refine aDL (fun n s'=>∃(i:Nat)(σ':St)(H':Hp),Inv (eZ X N' scope s3.heap.objs.size s3 (upd H2 D o0) fp pins) [] σ' H' s'/\tn i s'.heap/\(∀b∈fp,H' b=none)/\W i n σ' H') ?_ m0
   ⟨0,xQ cap σ,_,I4,T.keep _ _ _ st3 fun b _ o e=>old b o e,fun b hb=>(f3 b hb).1,w0⟩
  rintro n s5 ⟨i,σ',H',I5,t5,fr5,w5⟩;rcases turn i n σ' H' w5 with⟨stop,q⟩|⟨go,N,hN,step⟩
  .refine thn (T.done (eZ X N' scope s3.heap.objs.size s3 (upd H2 D o0) fp pins) rfl rfl rfl hc i _ s5 σ' H' _ I5 (stat fr5) t5 stop) fun r s6 ⟨hr,I6⟩=>.inl ⟨hr,?_⟩;have nC:H' s3.heap.objs.size=none:=I6.free;refine post D _ H' s6 (let⟨m,hn,_⟩:=I6.loc;⟨m,hn⟩) (fun h' hs'=>?_) (I3.fpOk (B0 _) nC) q;have up:∀b o,b≠s3.heap.objs.size->s6.heap.get? b=some o->h'.get? b=some o:=fun b o hb e=>hs'.extBut b o hb e;have ltC:∀b o,s3.heap.get? b=some o->b≠s3.heap.objs.size:=fun b o e=>B8 (A8 e);have u6:Un (frs X.stack) fp (upd H2 D o0) H' s3.heap s6.heap:=I6.base
   have u7:Un (frs X.stack) fp (upd H2 D o0) H' s3.heap h':=by
    refine⟨fun b o e n hb hx=>up b o (ltC b o e) (u6.keep b o e n hb hx),fun b o e n hb hx=>?_,u6.free,fun b o e hx=>?_,u6.tups,u6.frzs,u6.tbls⟩
    .obtain⟨sl,q⟩:=u6.slot b o e n hb hx;exact⟨sl,up b _ (ltC b o e) q⟩
    .obtain⟨o',q⟩:=u6.there b o e hx;exact⟨o',up b o' (ltC b o e) q⟩
   have ok7:HOk X.prog X.w H' h':=fun b u e=>by
    refine(I6.hok b u e).stay (fun c v hc' z=>up c v ?_ z) (fun c z=>z) fun c xs z=>z;rcases hc' with rfl|z
    .exact aP e nC
    .exact aP z nC
   have os6:s6.os=s3.os:=I6.os;have ba6:=I6.bare;obtain⟨hh,gg,dd,tt,oo⟩:=s6;subst os6;have z7:=I3.call (s:=s3) (h':=h') (g':=gg) (d':=dd) (t':=tt) (ch:=fp) u7 ok7 ba6 fun b hb=>⟨(f3 b hb).2.2.2.1,(f3 b hb).2.1,(f3 b hb).2.2.2.2.1,(f3 b hb).2.2.2.2.2⟩;exact z7
  .refine thn (T.item (eZ X N' scope s3.heap.objs.size s3 (upd H2 D o0) fp pins) rfl rfl rfl hc i _ s5 σ' H' _ I5 (stat fr5) t5 go) fun r s6 ⟨u,hr,h6⟩=>.inr ⟨u,hr,?_⟩;refine thn h6 fun _ s7 ⟨x,H7,I7,r7,y7,t7,fr7⟩=>?_;have I7':=I7.pinned (stat fr7) (T.obj _ _ t7)
   have back:∀{σx:St}{Hx:Hp}{sx:Shared},Inv (eZ X N' scope s3.heap.objs.size s3 (upd H2 D o0) fp pins) ([]++vR fp s7.heap) σx Hx sx->(∀b∈fp,∀o,s7.heap.get? b=some o->sx.heap.get? b=some o)/\(∀b∈fp,Hx b=none):=fun{σx Hx sx} Ix=>by
    refine⟨fun b hb o e=>(Ix.pin (b,o) (D5 _ (D5 _ (iQ hb e)))).1,fun b hb=>?_⟩;obtain⟨o,e,_⟩:=T.obj _ _ t7 b hb;exact(Ix.pin (b,o) (D5 _ (D5 _ (iQ hb e)))).2.1
   refine thn (hg _ _ _ _ _ _ s7 σ' H7 x u _ I7' r7 (step x H7 y7)) fun _ s8 ⟨σ8,H8,I8,q8⟩=>?_;refine thn (hif _ _ _ _ _ _ s8 σ8 H8 _ I8 q8) fun b s9 ⟨H9,I9,q9⟩=>?_;rcases q9 with⟨rfl,q9⟩|⟨rfl,n9⟩
   .refine .inl ⟨rfl,thn (hk _ _ _ _ _ _ s9 σ8 H9 _ I9 q9) fun uk s10 ⟨y,H10,I10,ry,q10⟩=>thn (hv _ _ _ _ _ _ s10 σ8 H10 _ I10 q10) fun uv s11 ⟨v,H11,I11,rv,H12,g12,n12⟩=>?_⟩;obtain⟨m',hm,w12⟩:=hN _ _ n12;refine SY (X:=eZ X N' scope s3.heap.objs.size s3 (upd H2 D o0) fp pins) hu I11 g12 ry rv fun s12 I12=>?_;obtain⟨b1,b2⟩:=back I12;exact⟨m',hm,i+1,σ8,H12,I12.pins_of fun p hp=>absurd hp (by simp),T.keep _ _ _ t7 b1,b2,w12⟩
   .obtain⟨m',hm,w9⟩:=hN _ _ n9;obtain⟨b1,b2⟩:=back I9;exact .inr ⟨rfl,m',hm,i+1,σ8,H9,I9.pins_of fun p hp=>absurd hp (by simp),T.keep _ _ _ t7 b1,b2,w9⟩
 exact codeAny_compStart_dict (loop _ rfl) (T.self _ 0 _ _ _ (T.keep _ _ _ st3 fun b _ o e=>old b o e) (loop _ rfl))
theorem aEi{o0:HO}(ho:o0=.dT []\/o0=.dK []){kx vx tg iter:Expr}{ifs:List Expr}{pos:Pos}{wi:TI}{g:TG}{tc:TT}{tk tv:TE}(hu:X.A.units<cLine)(hc:X.calm=true)(S:pX X N' cap scope)(hi:PI X tg iter wi)
 (hg:∀C s H fp pn,PG (eZ X N' scope C s H fp pn) tg g) (hif:∀C s H fp pn,JT (eZ X N' scope C s H fp pn) ifs tc) (hk:∀C s H fp pn,PE (eZ X N' scope C s H fp pn) kx tk) (hv:∀C s H fp pn,PE (eZ X N' scope C s H fp pn) vx tv)
 (hs:∀x,foldedSetIterable iter X.env x=pure x:=by intro _;rfl):PE X (.DictComp kx vx [⟨tg,iter,ifs,0⟩] scope pos) (tDc o0 cap wi g tc tk tv):=fun pins s σ H Q I h=>
 aFA (use:=none) ho hu hc S hi hg hif hk hv hs I h fun D _ H' _ ⟨m,hn⟩ hI _ q=>⟨m,hn,fun h' hs'=>⟨.ref D,H',hI h' hs',rfl,q⟩⟩
end
def dcF(d:Nat)(g:GF)(c:TF)(fk:KF)(e:EF):List CD->Ga->Sto->Option Sto
 |[],_,M=>some M
 |x::xs,γ,M=>(g x γ M).bind fun a=>(c a.1 a.2).bind fun b=>if b.1=true then(fk a.1 b.2).bind fun k=>(e a.1 k.2).bind fun v=>(BQ v.2 (.c d) k.1 v.1).bind fun M'=>dcF d g c fk e xs a.1 M' else dcF d g c fk e xs a.1 b.2
def fDc(c0:Cell)(cap:List (Option Nat))(f:AF)(g:GF)(c:TF)(fk:KF)(e:EF):EF:=fun γ M=>(f γ M).bind fun r=>(dcF r.2.length g c fk e r.1 (lC cap γ) (r.2++[c0])).bind fun M'=>some (.c r.2.length,M')
section
variable{K:Fg}{tg:TG}{tt:TT}{hg:GF}{ft:TF}{fa:AF}
theorem aDU{o0:HO}{c0:Cell}(h0:(o0=.dT []/\c0=.dt [])\/(o0=.dK []/\c0=.dk [])){wi:TI}{cap:List (Option Nat)}{tk tv:TE}{fk:KF}{fe:EF}(i:SI K wi fa)(a:SG K tg hg)(c:STt K tt ft)(b:SK K tk fk)(e:SE K tv fe):
 SE K (tDc o0 cap wi tg tt tk tv) (fDc c0 cap fa hg ft fk fe):=by
 intro γ M x M' hh W H σ Q G R k;obtain⟨⟨ys,M1⟩,h1,hh⟩:=aI hh;obtain⟨M9,h9,hh⟩:=aI hh;cases hh;refine i _ _ _ _ h1 W H σ _ G R fun J W1 H1 e1 G1 gv=>fun D hD=>?_;have G2:Good K (W1.more D) (M1++[c0]) (upd H1 D o0):=G1.new hD (by rcases h0 with⟨rfl,rfl⟩|⟨rfl,rfl⟩<;>exact .nil);have e2:=W1.ext_more D;have rD:bK K (W1.more D) (.c M1.length) (.ref D):=G1.newV;refine⟨fun j m σ' H'=>∃γ' M3 W3,j<=ys.length/\m=ys.length-j/\(W1.more D).Ext W3/\Good K W3 M3 H'/\cH K W3 γ' σ'/\dcF M1.length hg ft fk fe (ys.drop j) γ' M3=some M',⟨_,lC cap γ,_,_,J4 _,rfl,.refl _,G2,HC ((R.up e1).up e2) cap,h9⟩,?_⟩;rintro j m σ' H' ⟨γ',M3,W3,hj,rfl,e3,G3,R3,h3⟩;obtain⟨gv1,gv2⟩:=gv W3 M3 H' (e2.trans e3) G3;by_cases hlt:j<ys.length
 .obtain⟨go,yl⟩:=gv1 j ys[j] (B9 hlt);rw[Z1 hlt]at h3;refine .inr ⟨go,fun σ4 H4=>∃γ4 M4 W4,W3.Ext W4/\Good K W4 M4 H4/\cH K W4 γ4 σ4/\dcF M1.length hg ft fk fe (ys.drop (j+1)) γ4 M4=some M',?_,fun y H4 hy=>?_⟩
  .rintro σ4 H4 ⟨γ4,M4,W4,e4,G4,R4,h4⟩;exact⟨_,by omega,γ4,M4,W4,hlt,rfl,e3.trans e4,G4,R4,h4⟩
  .obtain⟨W8,e8,G8,ry⟩:=yl y H4 hy;obtain⟨⟨γ5,M5⟩,h5,h3⟩:=aI (show(hg ys[j] γ' M3).bind _=_ from h3);obtain⟨⟨b6,M6⟩,h6,h3⟩:=aI h3;refine a _ _ _ _ _ h5 W8 _ σ' y _ G8 (R3.up e8) ry fun σ5 W5 H5 e5 G5 R5=>?_;refine c _ _ _ _ h6 W5 H5 σ5 _ G5 R5 fun W6 H6 e6 G6=>?_;have e36:=(e8.trans e5).trans e6;cases b6 with
   |true=>
    rw[A9 rfl]at h3;obtain⟨⟨ky,M7⟩,h7,h3⟩:=aI h3;obtain⟨⟨z,M10⟩,h10,h3⟩:=aI h3;obtain⟨M11,h11,h3⟩:=aI h3;refine .inl ⟨rfl,b _ _ _ _ h7 W6 H6 σ5 _ G6 (R5.up e6) fun yv W7 H7 e7 G7 r7=>e _ _ _ _ h10 W7 H7 σ5 _ G7 (R5.up (e6.trans e7)) fun v W10 H10 e10 G10 r10=>?_⟩;have e310:=(e36.trans e7).trans e10;obtain⟨p,H11,ep,g11,G11⟩:=KC G10 h11 (rD.up (e3.trans e310)) (r7.up e10) r10;cases ep;exact⟨H11,g11,γ5,M11,W10,e310,G11,R5.up ((e6.trans e7).trans e10),h3⟩
   |false=>
    rw[B2 B1]at h3;exact .inr ⟨rfl,γ5,M6,W6,e36,G6,R5.up e6,h3⟩
 .have ej:j=ys.length:=by omega
  subst ej;rw[List.drop_length]at h3;cases h3;exact .inl ⟨gv2,k _ W3 H' ((e1.trans e2).trans e3) G3 (rD.up e3)⟩
variable{ι:Type}{X:ι->Cx}{N':List Str}{cap:List (Option Nat)}{scope:Scope}{tg' iter kx vx:Expr}{ifs:List Expr}{gf:GF}{fk:KF}{f:EF}{pos:Pos}
theorem aGg(hu:∀i,(X i).A.units<cLine)(hc:∀i,(X i).calm=true)(S:∀i,pX (X i) N' cap scope)(x:MI K X tg' iter fa)(y:MG K (mC X N' scope) tg' gf)(z:MF K (mC X N' scope) ifs ft)(w:MK K (mC X N' scope) kx fk)(q:ME K (mC X N' scope) vx f)(hs:∀(env:Env)(x:Value),foldedSetIterable iter env x=pure x:=by intro _ _;rfl):
 ME K X (.DictComp kx vx [⟨tg',iter,ifs,0⟩] scope pos) (fDc (.dt []) cap fa gf ft fk f):=by
 obtain⟨t,x1,x2⟩:=x.ex;obtain⟨u,y1,y2⟩:=y.ex;obtain⟨v,z1,z2⟩:=z.ex;obtain⟨o,w1,w2⟩:=w.ex;obtain⟨p,q1,q2⟩:=q.ex;exact⟨_,fun i=>aEi (.inl rfl) (hu i) (hc i) (S i) (x1 i) (fun C s H fp pn=>y1 (i,C,s,H,fp,pn)) (fun C s H fp pn=>z1 (i,C,s,H,fp,pn)) (fun C s H fp pn=>w1 (i,C,s,H,fp,pn)) (fun C s H fp pn=>q1 (i,C,s,H,fp,pn)) (hs _),aDU (.inl ⟨rfl,rfl⟩) x2 y2 z2 w2 q2⟩
theorem aHb(hu:∀i,(X i).A.units<cLine)(hc:∀i,(X i).calm=true)(S:∀i,pX (X i) N' cap scope)(x:MI K X tg' iter fa)(y:MG K (mC X N' scope) tg' gf)(z:MF K (mC X N' scope) ifs ft)(w:MK K (mC X N' scope) kx fk)(q:ME K (mC X N' scope) vx f)(hs:∀(env:Env)(x:Value),foldedSetIterable iter env x=pure x:=by intro _ _;rfl):
 ME K X (.DictComp kx vx [⟨tg',iter,ifs,0⟩] scope pos) (fDc (.dk []) cap fa gf ft fk f):=by
 obtain⟨t,x1,x2⟩:=x.ex;obtain⟨u,y1,y2⟩:=y.ex;obtain⟨v,z1,z2⟩:=z.ex;obtain⟨o,w1,w2⟩:=w.ex;obtain⟨p,q1,q2⟩:=q.ex;exact⟨_,fun i=>aEi (.inr rfl) (hu i) (hc i) (S i) (x1 i) (fun C s H fp pn=>y1 (i,C,s,H,fp,pn)) (fun C s H fp pn=>z1 (i,C,s,H,fp,pn)) (fun C s H fp pn=>w1 (i,C,s,H,fp,pn)) (fun C s H fp pn=>q1 (i,C,s,H,fp,pn)) (hs _),aDU (.inr ⟨rfl,rfl⟩) x2 y2 z2 w2 q2⟩
end
def YH(K:Fg):List V->Hp->VK->Prop:=fun xs H Q=>∃a kvs,xs=[.ref a]/\H a=some (.dT kvs)/\∀bs:List Addr,Paired (fun(b:Addr)(kv:List Key×V)=>H b=some (.tup (kv.1.map kV))) bs kvs->MZ K (bs.map .ref) H Q
theorem DZ:∀bs:List Addr,aW (bs.map V.ref) (bs.map Value.ref)
 |[]=>.nil
 |_::bs=>.cons rfl (DZ bs)
theorem FW{X:Cx}(hu:X.A.in1.in1.units+64<cLine)(hc:X.calm=true):eU X (.builtin "sorted") (YH X.K):=by
 intro pins s σ H xs us Q I r h;obtain⟨a,kvs,rfl,ea,q⟩:=h;obtain⟨u,rfl,ru⟩:=vals1 r;cases ru;obtain⟨z,hs,ks,rk,od,es,ep,h1,h2,h3,h4,h5⟩:=(show cP X.prog X.w H s.heap a (.dT kvs)from I.hok a _ ea);have hl:kvs.length=ks.length:=Paired.len rk;have el:es.size=ks.length:=by rw[<- C6,h4,A7]
 refine Calls.call_function_entry kind_sorted plain_sorted entry_sorted (args_sorted1 _) ?_;unfold Builtin.«sorted»;refine A3 (m:=checkCount "sorted" 1 1 _) (A6 ?_);refine A3 (PySem.W.kdu_collect (A:=X.A.in1) (VG (ep:=ep) hs h2.1 h3) (I.ok.hd hc) h1 (by rw[el,<- hl];exact z) fun h' tk acc hk hacc=>?_);have I3:Inv X pins σ H { s with heap:=h',toks:=tk }:=I.kept hk
 have ev:acc.toList=(ks.map fun x=>x.2.1).map Value.ref:=by
  refine A0a fun j=>?_;rw[E1];cases e:acc[j]? with
  |none=>
   have:(ks.map fun x=>x.2.1).length<=j:=by
    have hz:=hacc.1;have:=Array.getElem?_eq_none_iff.mp e;rw[A7];omega
   rw[S9 (by rw[A7];exact this)]
  |some v=>
   have e1:(es[j]?).map (·.key)=some v:=hacc.2 j v e;rw[<- E1,h4,C8]at e1;rw[C8,C8];cases e3:ks[j]? with
   |none=>rw[e3]at e1;cases e1
   |some w=>rw[e3]at e1;cases e1;rfl
 rw[ev];exact XO (A:=X.A.in1) hu I3 (DZ _) (q _ (KT.addrs rk).1)
section
variable{K:Fg}
def tL:FN:=fun xs M=>match xs with
 |[.c i]=>match M[i]? with
  |some (.dt kvs)=>(fZ (kvs.map fun kv=>kv.1.map tY)).bind fun r=>some (.d (.list r),M)
  |_=>none
 |_=>none
theorem KZ{W:Wd}:∀{bs:List Addr}{kvs:List (List Key×V)},Paired (fun(b:Addr)(kv:List Key×V)=>W.F b=some (.tup (kv.1.map kV))) bs kvs->aJ K W.F ((kvs.map fun kv=>kv.1.map tY).map .tuple) (bs.map .ref)
 |_,_,.nil=>rfl
 |_,_,.cons h1 h2=>⟨_,_,rfl,⟨_,_,rfl,SqT.of h1,FB _⟩,KZ h2⟩
theorem KO{W:Wd}:∀{kvs:List (List Key×CD)}{us:List (List Key×V)},PKV K W kvs us->(us.map fun kv=>kv.1.map tY)=kvs.map fun kv=>kv.1.map tY
 |_,_,.nil=>rfl
 |_,_,.cons h1 h2=>by rw[C7,C7,KO h2,h1.1]
theorem WE:PN K (YH K) tL:=by
 intro xs M z M' h W H vs Q G r k;unfold tL at h;split at h
 .rename_i i;split at h
  .rename_i kvs hk;obtain⟨ds,h3,h⟩:=aI h;cases h;rcases r with _|⟨r1,_|_⟩;obtain⟨us,hu,pu⟩:=G.dtAt hk;refine⟨_,us,by rw[r1.2],hu,fun bs pb=>?_⟩;obtain⟨W2,e2,G2,p2⟩:=vN G pb;have r3:=KZ (K:=K) p2;rw[KO pu]at r3;unfold fZ at h3;by_cases hs:sortable (kvs.map fun kv=>kv.1.map tY)=true
   .rw[A9 hs]at h3;cases h3;obtain⟨s1,s2,s3,s4,s5⟩:=wV hs;refine .inl ⟨_,aJ.same G2.fh _ _ r3,s1,s2,s3,s4,s5,fun l hl=>?_⟩;obtain⟨e4,G4⟩:=G2.lay (o:=.lst ((gN (oA (kvs.map fun kv=>kv.1.map tY)) (kvs.map fun kv=>kv.1.map tY).length).map fun i=>(bs.map V.ref).getD i .non)) hl;exact k _ _ _ (e2.trans e4) G4 ⟨l,_,rfl,SqL.of aO,aJ.same e4.ff _ _ (zZ r3 _ (aEj (by omega)))⟩
   .rw[B2 hs]at h3;by_cases hl2:(kvs.map fun kv=>kv.1.map tY).length<2
    .rw[A9 hl2]at h3;cases h3;refine .inr ⟨by rw[<- r3.length,A7];exact hl2,fun l hl=>?_⟩;obtain⟨e4,G4⟩:=G2.lay (o:=.lst (bs.map V.ref)) hl;exact k _ _ _ (e2.trans e4) G4 ⟨l,_,rfl,SqL.of aO,aJ.same e4.ff _ _ r3⟩
    .rw[B2 hl2]at h3;cases h3
  .cases h
 .cases h
theorem aDc{ι:Type}{X:ι->Cx}(hK:∀i,(X i).K=K)(hu:∀i,(X i).A.in1.in1.units+64<cLine)(hc:∀i,(X i).calm=true):QN K X (.builtin "sorted") tL:=
 ⟨_,fun i=>by have:=FW (X:=X i) (hu i) (hc i);rw[hK i]at this;exact this,WE⟩
end
theorem cA.u1{k:Nat}(r:cA k A):A.units+1<cLine:=by have:=r.un;omega
theorem cA.u0{k:Nat}(r:cA k A):A.units<cLine:=by have:=r.un;omega
abbrev IPF:=Ga->Sto->Option ((List CD×(Sto->Prop))×Sto)
section
variable{X:Cx}{a b:Expr}{ta:TA}{p p' pos pos':Pos}
def BU(lo:Int)(n:Nat):List V:=(List.range n).map fun(i:Nat)=>V.int (lo+(i:Nat))
theorem RW{lo:Int}{n:Nat}{acc:Array Value}(h:ItemsOf (fun i v=>∃t,v=.int (lo+i*1) t) acc n):aW (BU lo n) acc.toList:=by
 have key:∀(k:Nat)(l:List Value)(m:Nat),l.length=k->(∀j v,l[j]?=some v->∃t,v=Value.int (lo+((m+j:Nat):Int)*1) t)->aW ((List.range' m k).map fun(i:Nat)=>V.int (lo+(i:Nat))) l:=by
  intro k
  induction k with
  |zero=>intro l m hl _;rw[A0g hl];exact .nil
  |succ k ih=>
   intro l m hl hv
   match l,hl,hv with
   |v::l,hl,hv=>
    obtain⟨t,rfl⟩:=hv 0 v rfl;rw[List.range'_succ,C7];refine .cons ⟨t,by simp⟩ (ih l (m+1) (Nat.succ.inj hl) fun j v e=>?_);obtain⟨t',e'⟩:=hv (j+1) v e;exact⟨t',by rw[e'];congr 2;omega⟩
 have:=key n acc.toList 0 (by rw[C6];exact h.1) fun j v e=>by
  obtain⟨t,e'⟩:=h.2 j v (by rw[<- E1];exact e);exact⟨t,by rw[e',Nat.zero_add]⟩
 unfold BU;rw[List.range_eq_range'];exact this
end
section
variable{K:Fg}{tA:TA}{fa:AF}
def NW(lo:Int)(n:Nat):List PyData:=(List.range n).map fun(i:Nat)=>.int (lo+(i:Nat))
theorem aBG{lo:Int}{n:Nat}:aJ K H (NW lo n) (BU lo n):=by
 unfold NW BU;generalize List.range n=l
 induction l with
 |nil=>rfl
 |cons i l ih=>exact⟨_,_,rfl,rfl,ih⟩
end
def Itz(K:Fg)(l1 l2:Addr):It:=
 ⟨fun i H=>∃xs ys x y,SqL K H l1 xs/\SqL K H l2 ys/\xs[i]?=some x/\ys[i]?=some y,
  fun i H v H'=>∃p x y,H p=none/\v=.ref p/\H'=upd H p (.tup [x,y])/\(∀xs,SqL K H l1 xs->xs[i]?=some x)/\∀ys,SqL K H l2 ys->ys[i]?=some y,
  fun i H=>∃xs ys,SqL K H l1 xs/\SqL K H l2 ys/\(xs[i]?=none\/ys[i]?=none)⟩
def tnZ(z TI TO i1 i2 l1 l2:Addr)(i:Nat)(h:Heap):Prop:=IsZip h z TI TO .none/\IsPair h TI (.ref i1) (.ref i2)/\(∃a b,IsPair h TO a b)/\h.IsListIter i1 l1 i/\h.IsListIter i2 l2 i
structure Apart5(z TI TO i1 i2:Addr):Prop where
 TIz:TI≠z
 TOz:TO≠z
 i1z:i1≠z
 i2z:i2≠z
 TITO:TI≠TO
 TIi1:TI≠i1
 TIi2:TI≠i2
 TOi1:TO≠i1
 TOi2:TO≠i2
 i12:i1≠i2
theorem DM(n:Nat):Apart5 (n+4) (n+2) (n+3) n (n+1):=by
 have key:∀a b:Nat,¬a=b->(a:Addr)≠b:=fun _ _ h=>h;exact⟨key _ _ (by omega),key _ _ (by omega),key _ _ (by omega),key _ _ (by omega),key _ _ (by omega),key _ _ (by omega),key _ _ (by omega),key _ _ (by omega),key _ _ (by omega),key _ _ (by omega)⟩
section
variable{P:Program}{w:World}{K:Fg}{elts:List Expr}{x1:Nat}{tpos:Pos}{z TI TO i1 i2 l1 l2:Addr}
theorem DN{h:Heap}{i:Nat}{xs ys:Array Value}(A5:Apart5 z TI TO i1 i2)(st:tnZ z TI TO i1 i2 l1 l2 i h)(h1:h.IsList l1 xs)(h2:h.IsList l2 ys):ZipApart z TI TO i1 i2 l1 l2:=by
 obtain⟨hz,hTI,⟨a,b,hTO⟩,⟨o1,e1,c1,d1⟩,⟨o2,e2,c2,d2⟩⟩:=st
 have nl:∀(l:Addr)(ws:Array Value),h.IsList l ws->∀(b:Addr)(o:Obj),h.get? b=some o->o.cls≠.type "list"->l≠b:=fun l ws hl b o e n q=>by
  subst q;obtain⟨o',e',c',_⟩:=hl;rw[e]at e';cases e';exact n c'
 have nz:(Value.type "zip")≠.type "list":=by intro q;injection q with q;exact absurd q (by decide)
 have nt:(Value.type "tuple")≠.type "list":=by intro q;injection q with q;exact absurd q (by decide)
 have ni:(Value.type "list_iterator")≠.type "list":=by intro q;injection q with q;exact absurd q (by decide)
 exact⟨A5.TIz,A5.TOz,A5.i1z,A5.i2z,A5.TITO,A5.TIi1,A5.TIi2,A5.TOi1,A5.TOi2,A5.i12,
  nl l1 xs h1 z _ hz nz,nl l1 xs h1 TO _ hTO nt,nl l1 xs h1 i1 _ e1 (by rw[c1];exact ni),nl l1 xs h1 i2 _ e2 (by rw[c2];exact ni),
  nl l2 ys h2 z _ hz nz,nl l2 ys h2 TO _ hTO nt,nl l2 ys h2 i1 _ e1 (by rw[c1];exact ni),nl l2 ys h2 i2 _ e2 (by rw[c2];exact ni)⟩
theorem YY(A5:Apart5 z TI TO i1 i2):Turn P w K (.Tuple elts x1 tpos) (Itz K l1 l2) [z,TI,TO,i1,i2] z (tnZ z TI TO i1 i2 l1 l2) where
 mem:=by simp
 obj:=fun i h st b hb=>by
  obtain⟨hz,hTI,⟨a,c,hTO⟩,⟨o1,e1,_,d1⟩,⟨o2,e2,_,d2⟩⟩:=st;simp only[List.mem_cons,List.not_mem_nil,or_false]at hb;rcases hb with rfl|rfl|rfl|rfl|rfl
  .exact⟨_,hz,fun v q=>by cases q⟩
  .exact⟨_,hTI,fun v q=>by cases q⟩
  .exact⟨_,hTO,fun v q=>by cases q⟩
  .exact⟨_,e1,fun v q=>by rw[d1]at q;cases q⟩
  .exact⟨_,e2,fun v q=>by rw[d2]at q;cases q⟩
 keep:=fun i h h' st k=>by
  obtain⟨hz,hTI,⟨a,c,hTO⟩,h1,h2⟩:=st;exact⟨k z (by simp) _ hz,k TI (by simp) _ hTI,⟨a,c,k TO (by simp) _ hTO⟩,h1.at fun o e=>k i1 (by simp) o e,h2.at fun o e=>k i2 (by simp) o e⟩
 item:=by
  intro X hP hw hK hc i pins s σ H E I hf st hg;subst hP hw hK;obtain⟨xs,ys,x,y,hq1,hq2,hx,hy⟩:=hg;obtain⟨its,rv,p,_⟩:=I.list hq1;obtain⟨jts,rw',p',_⟩:=I.list hq2;obtain⟨u,hu,ru⟩:=rv.get hx;obtain⟨v,hv,rv'⟩:=rw'.get hy;have D:=DN A5 st p.isList p'.isList;obtain⟨hz,hTI,⟨a,c,hTO⟩,h1,h2⟩:=id st;refine wpAny_pyNext_zip_item D hz hTI hTO h1 h2 p.isList p'.isList (x:=u) (y:=v) (by simpa using hu) (by simpa using hv) fun h' a1 a2 a3 a4 a5 a6 hk=>⟨_,rfl,?_⟩;refine wpAny_letOwnedTupleGo_zip a1 fun h2' hz2 sb=>?_
  have lt:∀b∈[z,TI,TO,i1,i2],s.heap.objs.size≠b:=fun b hb q=>by
   obtain⟨o1,e1,_⟩:=id h1;obtain⟨o2,e2,_⟩:=id h2;simp only[List.mem_cons,List.not_mem_nil,or_false]at hb
   have:∃o,s.heap.get? b=some o:=by
    rcases hb with rfl|rfl|rfl|rfl|rfl
    .exact⟨_,hz⟩
    .exact⟨_,hTI⟩
    .exact⟨_,hTO⟩
    .exact⟨_,e1⟩
    .exact⟨_,e2⟩
   obtain⟨o,e⟩:=this;rw[<- q]at e;exact absurd (A8 e) (J1 _)
  have kk:∀b o,b∉[z,TI,TO,i1,i2]->s.heap.get? b=some o->h2'.get? b=some o:=fun b o hb q=>by
   simp only[List.mem_cons,List.not_mem_nil,or_false,not_or]at hb;exact(sb.2 b hb.1).trans (hk b o hb.1 hb.2.2.1 hb.2.2.2.1 hb.2.2.2.2 q)
  have ht2:h2'.get? s.heap.objs.size=some { cls:=.type "tuple",data:=.seq #[u,v] }:=(sb.2 _ (lt z (by simp))).trans a5
  have I2:Inv X pins σ (upd H s.heap.objs.size (.tup [x,y])) { s with heap:=h2',toks:=s.toks }:=
   I.turnLay hf kk (B0 _) ⟨by show 2<=sizeLine;rw[F0];decide,[u,v],.cons ru (.cons rv' .nil),⟨_,ht2,rfl,_,rfl⟩⟩
  refine⟨.ref s.heap.objs.size,_,I2,rfl,⟨_,x,y,I.hok.fresh (B0 _),rfl,rfl,fun ws hw=>by rw[I.list_inj hw hq1];exact hx,fun ws hw=>by rw[I.list_inj hw hq2];exact hy⟩,⟨hz2,?_,⟨_,_,(sb.2 TO A5.TOz).trans a2⟩,a3.at fun o e=>(sb.2 i1 A5.i1z).trans e,a4.at fun o e=>(sb.2 i2 A5.i2z).trans e⟩,fun b hb=>?_⟩
  .exact(sb.2 TI A5.TIz).trans (hk TI _ A5.TIz A5.TITO A5.TIi1 A5.TIi2 hTI)
  .rw[aL (fun q=>lt b hb q.symm)];exact(hf b hb).1
 done:=by
  intro X hP hw hK hc i pins s σ H E I hf st hg;subst hP hw hK;obtain⟨xs,ys,hq1,hq2,hend⟩:=hg;obtain⟨its,rv,p,_⟩:=I.list hq1;obtain⟨jts,rw',p',_⟩:=I.list hq2;have D:=DN A5 st p.isList p'.isList;obtain⟨hz,hTI,⟨a,c,hTO⟩,h1,h2⟩:=id st;have l1':=rv.length;have l2':=rw'.length;refine wpAny_pyNext_zip_end (I.ok.hd hc) D hz hTI hTO h1 h2 p.isList p'.isList ?_ fun h' hk=>⟨rfl,I.turnF (t':=s.toks) hf fun b o hb q=>?_⟩
  .rcases hend with e|e
   .refine .inl ?_;have:=List.getElem?_eq_none_iff.mp e;exact O0 (by rw[C0];omega)
   .refine .inr ?_;have:=List.getElem?_eq_none_iff.mp e;exact O0 (by rw[C0];omega)
  .simp only[List.mem_cons,List.not_mem_nil,or_false,not_or]at hb;exact hk b o hb.1 hb.2.2.1 hb.2.2.2.1 hb.2.2.2.2 q
 self:=fun A i s Q E st h=>wpAny_pyIter_zip st.1 h
end
section
variable{X:Cx}{elts:List Expr}{x1:Nat}{tpos:Pos}
theorem boot_zip:bootBuiltins "zip"=some (.type "zip"):=by decide +kernel
end
def mZ:List PyData->List PyData->List CD
 |x::xs,y::ys=>.d (.tuple [x,y])::mZ xs ys
 |_,_=>[]
theorem AS:∀{xs ys:List PyData}{i:Nat}{x:CD},(mZ xs ys)[i]?=some x->∃a b,xs[i]?=some a/\ys[i]?=some b/\x=.d (.tuple [a,b])
 |[],_,i,x=>fun h=>by unfold mZ at h;cases i<;>cases h
 |_::_,[],i,x=>fun h=>by unfold mZ at h;cases i<;>cases h
 |a::xs,b::ys,0,x=>fun h=>⟨a,b,rfl,rfl,by unfold mZ at h;exact(E2 h).symm⟩
 |a::xs,b::ys,i+1,x=>fun h=>by
  obtain⟨c,d,h1,h2,h3⟩:=AS (xs:=xs) (ys:=ys) (i:=i) (by unfold mZ at h;exact h);exact⟨c,d,h1,h2,h3⟩
theorem JH:∀{xs ys:List PyData},xs[(mZ xs ys).length]?=none\/ys[(mZ xs ys).length]?=none
 |[],_=>.inl rfl
 |_::_,[]=>.inr rfl
 |a::xs,b::ys=>by
  show(a::xs)[(mZ xs ys).length+1]?=none\/(b::ys)[(mZ xs ys).length+1]?=none;exact JH (xs:=xs) (ys:=ys)
end L2
namespace PySem
open Sem (wp)
namespace F
end F
end PySem
namespace L2
open PySem PySem.Spec PyProof.Rows
theorem cA.le{ι:Type}{j k:Nat}{A:Around}{q:Bool}(r:cA k A q)(h:j<=k:=by decide):ι->cA j A q:=fun _=>r.mono h
section
variable{X:Cx}
theorem CO:∀{vs:List Value}{ns:List Int},IntsAre vs ns->aW (ns.map V.int) vs
 |_,_,.nil=>.nil
 |_,_,.cons _ t h=>.cons ⟨t,rfl⟩ (CO h)
theorem OR:∀{ws:List Value}{ns:List Int},ws.length=ns.length->(∀(j:Nat) v i,ws[j]?=some v->ns[j]?=some i->∃t,v=Value.int i t)->IntsAre ws ns
 |[],[],_,_=>.nil
 |v::ws,n::ns,hl,h=>by
  obtain⟨t,rfl⟩:=h 0 v n rfl rfl;exact .cons n t (OR (Nat.succ.inj hl) fun j=>h (j+1))
end
theorem vP:∀{xs ys:List Int},xs.Pairwise (·<=·)->ys.Pairwise (·<=·)->xs.Perm ys->xs=ys
 |[],ys=>fun _ _ p=>(List.nil_perm.mp p).symm
 |x::xs,[]=>fun _ _ p=>by have:=p.length_eq;simp at this
 |x::xs,y::ys=>fun hx hy p=>by
  have h1:=List.pairwise_cons.mp hx;have h2:=List.pairwise_cons.mp hy
  have e:x=y:=by
   have a:y<=x:=by
    rcases List.mem_cons.mp (p.mem_iff.mp B5)with q|q
    .exact Int.le_of_eq q.symm
    .exact h2.1 x q
   have b:x<=y:=by
    rcases List.mem_cons.mp (p.mem_iff.mpr B5)with q|q
    .exact Int.le_of_eq q.symm
    .exact h1.1 y q
   omega
  subst e;rw[vP h1.2 h2.2 (List.perm_cons x |>.mp p)]
def gG(ns:List Int):List Int:=ns.mergeSort fun a b=>decide (a<=b)
theorem kS(ns:List Int):(gG ns).Perm ns:=List.mergeSort_perm _ _
theorem oF(ns:List Int):(gG ns).Pairwise (·<=·):=by
 have:=List.pairwise_mergeSort (le:=fun a b:Int=>decide (a<=b)) (fun a b c h1 h2=>D3 (Int.le_trans (C9 h1) (C9 h2))) (fun a b=>by simp;omega) ns;exact this.imp fun h=>C9 h
section
variable{K:Fg}
theorem aAU{H:Hp}:∀ns:List Int,aJ K H (ns.map .int) (ns.map .int)
 |[]=>rfl
 |n::ns=>⟨_,_,rfl,rfl,aAU ns⟩
end
section
variable{K:Fg}
def XX(k:Nat)(γ:Ga)(M:Sto):Option (Ga×Sto):=match γ[k]? with
 |some (some (.c i))=>match M[i]? with
  |some (.lst xs)=>(lB xs).bind fun ds=>some (γ.set k (some (.d (.list ds))),M.set i .dead)
  |_=>none
 |_=>none
def VZ(k:Nat)(f:SF):SF:=fun γ M=>(f γ M).bind fun r=>match r.1 with
 |.nx γ'=>(XX k γ' r.2).bind fun q=>some (.nx q.1,q.2)
 |o=>some (o,r.2)
theorem zB{α β:Type}{R:α->β->Prop}:∀{xs:List α}{ys:List β}{k:Nat}{x:α}{y:β},Paired R xs ys->ys[k]?=some y->R x y->Paired R (xs.set k x) ys
 |_,_,0,x,y,.cons r t=>fun e h=>by cases e;exact .cons h t
 |_,_,k+1,x,y,.cons r t=>fun e h=>.cons r (zB t (by simpa using e) h)
 |_,_,0,x,y,.nil=>fun e h=>by cases e
 |_,_,k+1,x,y,.nil=>fun e h=>by cases e
theorem aGM{t:TS}{f:SF}{k:Nat}(a:SS K t f):SS K t (VZ k f):=by
 intro γ M o M' hh W H σ D G R c;obtain⟨⟨o1,M1⟩,h1,hh⟩:=aI hh;refine a _ _ _ _ h1 W H σ D G R fun W1 H1 e1 G1=>?_;cases o1 with
 |nx γ1=>
  obtain⟨⟨γ2,M2⟩,h2,hh⟩:=aI (show(XX k γ1 M1).bind _=_ from hh);cases hh;unfold XX at h2;split at h2
  .rename_i i hi;split at h2
   .rename_i xs hx;obtain⟨ds,h3,h2⟩:=aI h2;cases h2;intro σ1 R1;obtain⟨W2,e2,G2,_,r2⟩:=G1.freezeL hx h3;obtain⟨y,hy,ry⟩:=Paired.get R1 hi;refine c W2 H1 (e1.trans e2) G2 σ1 ?_;cases y with
    |none=>exact False.elim ry
    |some v=>
     refine zB (R1.up e2) hy ?_;rw[show v=.ref (W1.α i)from ry.2];exact r2
   .cases h2
  .cases h2
 |bk γ1=>cases hh;exact c W1 H1 e1 G1
 |ct γ1=>cases hh;exact c W1 H1 e1 G1
 |rt x=>cases hh;exact c W1 H1 e1 G1
end
section
variable{ι:Type}{K:Fg}{X:ι->Cx}{e a:Expr}{es:List Expr}{f:EF}{fa:AF}{sf:SF}{st:Stmt}{pos:Pos}
theorem aFM(k:Nat)(x:MS K X st sf):MS K X st (VZ k sf):=by
 obtain⟨t,x1,x2⟩:=x.ex;exact⟨_,x1,aGM x2⟩
end
section
variable{ι:Type}{K:Fg}{X:ι->Cx}{N':List Str}{cap:List (Option Nat)}{scope:Scope}{tg iter elt:Expr}{ifs:List Expr}{f fi:EF}{gf:GF}{ft:TF}{pos:Pos}
theorem BC(hK:∀i,(X i).K=K):Q2 K X (binaryOp .Add) vM:=⟨_,fun i=>(show OpR (X i) (binaryOp .Add) (JR K)by have:=op_catS (X:=X i);rw[hK i]at this;exact this),aCS⟩
end
end L2
namespace HT
open PySem  PySem.Spec PyProof.Rows
theorem fm_congr{α β:Type}{f g:α->Option β}:∀{l:List α},(∀x∈l,f x=g x)->l.filterMap f=l.filterMap g
 |[]=>fun _=>rfl
 |x::l=>fun h=>by
  rw[O1,O1,h x B5,fm_congr fun y hy=>h y (B3 _ hy)]
theorem rev_pick{α:Type}(xs:List α):(List.range xs.length).filterMap (fun m=>xs[xs.length-1-m]?)=xs.reverse:=by
 have e:∀m∈List.range xs.length,xs[xs.length-1-m]?=xs.reverse[m]?:=fun m hm=>by
  rw[List.getElem?_reverse (List.mem_range.mp hm)]
 rw[fm_congr e];refine A0a fun i=>?_;have l:xs.length=xs.reverse.length:=List.length_reverse.symm;rw[l];generalize xs.reverse=ys;clear e l xs
 have:(List.range ys.length).filterMap (fun m=>ys[m]?)=ys:=by
  induction ys with
  |nil=>rfl
  |cons y ys ih=>
   rw[E9,List.range_succ_eq_map,O1];show y::_=_;rw[List.filterMap_map];congr 1
 rw[this]
section
variable{prog:Program}{w:World}{A:Around}{E:Value->Shared->Prop}{s:Shared}
theorem LY(n:Nat):Builtin.Slice.slicePlaces ((n:Int)-1) (-1) (-1)=n:=by
 unfold Builtin.Slice.slicePlaces;rw[B2 (by decide)];by_cases h:(n:Int)-1 > -1
 .rw[A9 h,show(-(-1:Int))=1 from rfl,Int.ediv_one];omega
 .rw[B2 h];omega
theorem vV{sl:Addr}{vs:Value}{n:Nat}{Q:Int×Int×Nat->Shared->Prop}(hs:s.heap.IsSliceOf sl .none .none vs)(ps:IsPart vs (some (-1)))
 (h:Q ((n:Int)-1,-1,n) s):wpAny (model prog w) A (Builtin.Slice.sliceApplied (.ref sl) (pure (n:Int))) Q E s:=by
 obtain⟨os,hos,hcs,hds⟩:=id hs;unfold Builtin.Slice.sliceApplied Builtin.Slice.sliceFields;refine A3 (A3 (D7 hos hds (x:=.none) rfl (A3 (D7 hos hds (x:=.none) rfl (A3 (D7 hos hds (x:=vs) rfl (A6 ?_)))))));refine A3 (sY ps ?_);show wpAny _ _ (if ((-1:Int)==0)=true then _ else _) _ _ s;rw[B2 (by decide)];refine A3 (slicePart_none (A3 (slicePart_none (A3 (A6 ?_)))));show wpAny _ _ (pure ((n:Int)-1,(-1:Int),Builtin.Slice.slicePlaces ((n:Int)-1) (-1) (-1))) _ _ s;rw[LY];exact A6 h
theorem aAJ(xs:Array Value):((List.range xs.size).filterMap fun(m:Nat)=>xs[((xs.size:Int)-1+(m:Int)*(-1)).toNat]?).toArray=xs.toList.reverse.toArray:=by
 have l:xs.size=xs.toList.length:=Array.length_toList.symm;rw[<- rev_pick xs.toList,l];congr 1;refine fm_congr fun m hm=>?_;have:=List.mem_range.mp hm;rw[show((xs.toList.length:Int)-1+(m:Int)*(-1)).toNat=xs.toList.length-1-m by omega,E1]
theorem getItem_tuple_rev{t sl:Addr}{items:Array Value}{vs:Value}{Q:Value->Shared->Prop}(ht:IsTup s.heap t items)(hs:s.heap.IsSliceOf sl .none .none vs)(ps:IsPart vs (some (-1)))
 (h:Q (.ref s.heap.objs.size) { s with heap:=s.heap.push { cls:=.type "tuple",data:=.seq items.toList.reverse.toArray } })
 (hsz:items.size<=sizeLine):wpAny (model prog w) A (getItem (.ref t) (.ref sl)) Q E s:=by
 have htake:sizeOk (.seq items.toList.reverse.toArray):=by
  show items.toList.reverse.toArray.size<=sizeLine;rw[C0,U8,C6];exact hsz
 obtain⟨os,hos,hcs,hds⟩:=id hs;have hTs:s.TypeIs (.ref sl) "slice":=⟨os,hos,hcs⟩;unfold getItem
 try with_reducible refine E7 ?_
 first|refine A3 (A6 ?_)|skip
 refine A3 (wpAny_sequenceKey ht.typeIs (by decide) ?_)
 refine A3 (E6 (name:=Str.ofString "__getitem__") ht.typeIs J8
  (E4 J8 ht.typeIs entry_tuple_getitem ?_ (args_tuple_getitem _ _)))
 show wpAny _ _ (Builtin.Tuple.tupleItemsOf (.ref t) >>= _) _ _ s;refine A3 (tupleItemsOf_ ht ?_);refine A3 (Y7 hTs ?_);rw[A9 (by decide)];refine A3 (vV hs ps ?_);show wpAny _ _ (if (((items.size:Int)-1)==0&&(-1:Int)==1&&items.size==items.size)=true then _ else _) _ _ s;rw[B2 (by rw[show((-1:Int)==1)=false from rfl,Bool.and_false,A0o];exact B1),aAJ]
 first
  |exact A3 (m:=Builtin.Tuple.tupleExact _) (C4 (A6 ⟨_,rfl,A6 h⟩) htake)
  |exact A3 (m:=Builtin.Tuple.tupleExact _) (C4 (A3 (A6 (A6 ⟨_,rfl,A6 h⟩))) htake)
  |exact A3 (A3 (m:=Builtin.Tuple.tupleExact _) (C4 (A6 (A6 ⟨_,rfl,A6 h⟩)) htake))
  |exact A3 (A3 (m:=Builtin.Tuple.tupleExact _) (C4 (A6 ⟨_,rfl,A6 h⟩) htake))
end
end HT
namespace L2
variable{s:Shared}{H:Hp}{σ:St}{K:Fg}
open PySem PySem.Spec PyProof.Rows
theorem aW.rev:∀{xs:List V}{us:List Value},aW xs us->aW xs.reverse us.reverse
 |_,_,.nil=>.nil
 |_,_,.cons r t=>by
  rw[S3,S3];exact(aW.rev t).append (.cons r .nil)
def aGX(K:Fg):V->Hp->VK->Prop:=fun x H Q=>(∃a xs,x=.ref a/\SqL K H a xs/\∀p,H p=none->Q (.ref p) (upd H p (.lst xs.reverse)))\/∃a xs,x=.ref a/\SqT K H a xs/\∀p,H p=none->Q (.ref p) (upd H p (.tup xs.reverse))
theorem BZ(its:List Value):slicePick its.toArray none none (some (-1))=its.reverse.toArray:=by
 have b:sliceBounds none none (some (-1)) its.toArray.size=((its.length:Int)-1,-1,-1):=by
  unfold sliceBounds;rfl
 unfold slicePick;rw[b];congr 1;rw[<- HT.rev_pick its];unfold sliceRange;dsimp only;rw[B2 (by decide)]
 have c:(if (its.length:Int)-1 > -1 then((its.length:Int)-1 - -1 - -1-1) / -(-1)else 0).toNat=its.length:=by
  by_cases h:(its.length:Int)-1 > -1
  .rw[A9 h,show(-(-1:Int))=1 from rfl,Int.ediv_one];omega
  .rw[B2 h];omega
 rw[c,List.filterMap_map];refine HT.fm_congr fun m hm=>?_;have:=List.mem_range.mp hm;show its.toArray[((its.length:Int)-1+-1*(m:Int)).toNat]?=_;rw[show((its.length:Int)-1+-1*(m:Int)).toNat=its.length-1-m by omega,S8]
section
variable{X:Cx}{e st:Expr}{te:TE}{th:TO}{pos p2:Pos}
theorem aCN{pins:List (Addr×Obj)}{x:V}{v vs:Value}{sl:Addr}{Q:VK}(I:Inv X pins σ H s)(rx:RelV x v)(hs:s.heap.IsSliceOf sl .none .none vs)(ps:IsPart vs (some (-1)))(h:aGX X.K x H Q):
 ∃T id,typeLookup (.type T) "__getitem__"=pure (some (.builtin id))/\s.TypeIs v T/\wpAny (model X.prog X.w) X.A (getItem v (.ref sl)) (EP X pins σ Q) X.xe s:=by
 rcases h with⟨a,xs,rfl,hx,q⟩|⟨a,xs,rfl,hx,q⟩
 .cases rx;obtain⟨its,r,ht,hz⟩:=I.list hx;have hlen:=r.length;refine⟨"list",_,slot_list_getitem.lookup,ht.isList.typeIs,?_⟩;refine wpAny_getItem_list_slice ht.isList hs .none .none ps (by decide) ?_ (by rw[C0]<;>omega);rw[BZ];refine⟨.ref s.heap.objs.size,_,I.laid (t':=s.toks) (o:=.lst xs.reverse) (fun b ob q=>A4 _ q) (B0 _) ?_,rfl,q _ (I.hok.fresh (B0 _))⟩;exact⟨by rw[U8];exact hz,_,0,r.rev,B6 _ rfl⟩
 .cases rx;obtain⟨its,r,ht,hz⟩:=I.tuple hx;have hlen:its.toArray.size=xs.length:=by rw[C0];exact r.length.symm
  refine⟨"tuple",_,PyProof.Rows.slot_tuple_getitem.lookup,ht.typeIs,?_⟩;refine HT.getItem_tuple_rev ht hs ps ?_ (by rw[hlen];exact hz);refine⟨.ref s.heap.objs.size,_,I.laid (t':=s.toks) (o:=.tup xs.reverse) (fun b ob q=>A4 _ q) (B0 _) ?_,rfl,q _ (I.hok.fresh (B0 _))⟩;exact⟨by rw[U8];exact hz,_,r.rev,IsTup.new _ _⟩
def aIY(K:Fg)(te:TE)(th:TO):TE:=fun σ H Q=>te σ H fun x H1=>th σ H1 fun u H2=>u=some (-1)/\aGX K x H2 Q
theorem aHt(he:PE X e te)(hu:PO X (some st) th):PE X (.Subscript e (.Slice none none (some st) p2) pos) (aIY X.K te th):=by
 intro pins s σ H Q I h;refine Subscript_ (thn (he pins s σ H _ I h) fun v s1 ⟨x,H1,I1,r1,q1⟩=>?_);refine wpAny_Slice ?_;rw[evalPart_none];refine A6 (A6 ?_);refine thn (hu pins s1 σ H1 _ I1 q1) fun vu s3 ⟨u,H3,I3,pu,q3⟩=>?_;obtain⟨rfl,q⟩:=q3;have I4:Inv X pins σ H3 { s3 with heap:=s3.heap.push { cls:=.type "slice",data:=.fields #[.none,.none,vu] } }:=I3.kept (t':=s3.toks) fun b ob q=>A4 _ q;obtain⟨T,id,hT,ht,hg⟩:=aCN I4 r1 (Heap.IsSliceOf.new ..) pu q;show wpAny (model X.prog X.w) X.A (subscriptTail e (.Slice none none (some st) p2) v (.ref s3.heap.objs.size)) (EP X pins σ Q) X.xe { s3 with heap:=s3.heap.push { cls:=.type "slice",data:=.fields #[.none,.none,vu] } };exact tail_any (ops:=[v,.ref s3.heap.objs.size]) ht hT hg (by with_unfolding_all rfl)
end
def aDm:CD->Sto->Option (CD×Sto)
 |.d (.list ds),M=>some (.d (.list ds.reverse),M)
 |.d (.tuple ds),M=>some (.d (.tuple ds.reverse),M)
 |_,_=>none
def RX(f:EF)(u:OF):EF:=fun γ M=>(f γ M).bind fun r=>(u γ r.2).bind fun q=>if q.1=some (-1)then aDm r.1 q.2 else none
section
variable{K:Fg}
theorem aJ.rev{H:Hp}:∀{ds:List PyData}{vs:List V},aJ K H ds vs->aJ K H ds.reverse vs.reverse
 |[],vs=>fun h=>by rw[show vs=[]from h];rfl
 |d::ds,vs=>fun h=>by
  obtain⟨v,r,rfl,h2,h3⟩:=h;rw[S3,S3];exact aJ.app (aJ.rev h3) ⟨v,[],rfl,h2,rfl⟩
theorem TU{x:CD}{M:Sto}{z:CD}{M':Sto}(h:aDm x M=some (z,M')){W:Wd}{v:V}{Q:VK}(G:Good K W M H)(rx:bK K W x v)(k:∀w W' H',W.Ext W'->Good K W' M' H'->bK K W' z w->Q w H'):aGX K v H Q:=by
 unfold aDm at h;split at h
 .rename_i ds;cases h;obtain⟨p,us,rfl,hq,hr⟩:=(show ∃a us,_=V.ref a/\SqL K W.F a us/\aJ K W.F ds us from rx);refine .inl ⟨p,us,rfl,G.fh.seq hq,fun l hl=>?_⟩;obtain⟨e2,G2⟩:=G.lay (o:=.lst us.reverse) hl;exact k _ _ _ e2 G2 ⟨l,_,rfl,SqL.of aO,aJ.same e2.ff _ _ hr.rev⟩
 .rename_i ds;cases h;obtain⟨p,us,rfl,hq,hr⟩:=(show ∃a us,_=V.ref a/\SqT K W.F a us/\aJ K W.F ds us from rx);refine .inr ⟨p,us,rfl,G.fh.seqT hq,fun l hl=>?_⟩;obtain⟨e2,G2⟩:=G.lay (o:=.tup us.reverse) hl;exact k _ _ _ e2 G2 ⟨l,_,rfl,SqT.of aO,aJ.same e2.ff _ _ hr.rev⟩
 .cases h
theorem aHf{ta:TE}{f:EF}{th:TO}{u:OF}(a:SE K ta f)(c:SO K th u):SE K (aIY K ta th) (RX f u):=by
 intro γ M x M' hh W H σ Q G R k;obtain⟨⟨y,M1⟩,h1,hh⟩:=aI hh;obtain⟨⟨q,M3⟩,h3,hh⟩:=aI hh;refine a _ _ _ _ h1 W H σ _ G R fun v W1 H1 e1 G1 r1=>?_;refine c _ _ _ _ h3 W1 H1 σ _ G1 (R.up e1) fun W3 H3 e3 G3=>?_;have hh:(if q=some (-1)then aDm y M3 else none)=some (x,M'):=hh;by_cases hq:q=some (-1)
 .rw[A9 hq]at hh;exact⟨hq,TU hh G3 (r1.up e3) fun w W4 H4 e4 G4 r4=>k w W4 H4 ((e1.trans e3).trans e4) G4 r4⟩
 .rw[B2 hq]at hh;cases hh
end
section
variable{ι:Type}{K:Fg}{X:ι->Cx}{a st:Expr}{f:EF}{u:OF}{pos p2:Pos}
theorem aHs(hK:∀i,(X i).K=K)(x:ME K X a f)(z:MO K X (some st) u):ME K X (.Subscript a (.Slice none none (some st) p2) pos) (RX f u):=by
 obtain⟨t,x1,x2⟩:=x.ex;obtain⟨t',z1,z2⟩:=z.ex;exact⟨_,fun i=>by have:=aHt (p2:=p2) (pos:=pos) (x1 i) (z1 i);rw[hK i]at this;exact this,aHf x2 z2⟩
end
section
variable{prog:Program}{w:World}{A:Around}{E:Value->Shared->Prop}{s:Shared}
theorem JJ{r:Addr}{a b c:Int}{t u v:Tok}{n:Nat}{Q:List Value->Shared->Prop}(hh:A.handled=none)(hr:IsRange s.heap r a b c t u v)(hs:Builtin.Range.small a b c=true)(hn:Builtin.Range.rangeSize a b c=(n:Nat))(h24:n<=2 ^ 24)
 (hQ:∀(h':Heap)(tk:Nat)(acc:Array Value),(∀b o,s.heap.get? b=some o->h'.get? b=some o)->ItemsOf (fun i v=>∃t,v=Value.int (a+(i:Nat)*c) t) acc n->Q acc.toList { s with heap:=h',toks:=tk }):wpAny (model prog w) A (collect (.ref r)) Q E s:=by
 obtain⟨H,g,dr,tk,os⟩:=s;refine A3 (wpAny_runValue (S6 entry_proto_collect' ?_));rw[L9 PySem.F.plain_proto_collect _];refine A3 (m:=newList []) (C4 (A6 ⟨Z9 Z7 _,S6 entry_list_iadd' ?_⟩));rw[L9 Z7 _];have p0:∀b o,H.get? b=some o->(H.push { cls:=.type "list",data:=.seq #[] }).get? b=some o:=fun b o e=>A4 _ e;have r0:=(B6 H (o:={ cls:=.type "list",data:=.seq #[] }) rfl);show wpAny _ A.in1 (Builtin.List.listExtendWith (.ref H.objs.size) (.ref r) (.ref H.objs.size)) _ _ ⟨H.push { cls:=.type "list",data:=.seq #[] },g,dr,tk,os⟩;refine wpAny_extend_range (R:=fun r s'=>match r with|.ok (.ret v)=>wpAny (model prog w) A (match v with|.ref a=>load a >>= fun o=>(match o.data with|.seq xs _=>pure xs.toList|_=>unsupported "internal:collect")|_=>unsupported "internal:collect") Q E s'|.ok _=>False|.error e=>E e s') (s:=⟨H.push { cls:=.type "list",data:=.seq #[] },g,dr,tk,os⟩) hh (p0 _ _ hr) hs hn h24 H.objs.size (.ref H.objs.size) 0 r0 fun h' tk' acc c' hk hS hacc=>?_;exact A3 (wpAny_load hS (A6 (hQ h' tk' acc (fun b o e=>hk b o (B8 (A8 e)) (p0 b o e)) hacc)))
end
theorem xK(r:Addr)(a b c:Int)(t u v:Tok)(n:Nat)(hs:Builtin.Range.small a b c=true)(hn:Builtin.Range.rangeSize a b c=(n:Nat))(h24:n<=2 ^ 24):
 Meets (Builtin.«tuple.__new__» ⟨[.type "tuple",.ref r],[]⟩) (fun A R s=>A.in1.handled=none/\IsRange s.heap r a b c t u v /\
  ∀(h':Heap)(tk:Nat)(acc:Array Value),(∀b o,s.heap.get? b=some o->h'.get? b=some o)->ItemsOf (fun i v=>∃t,v=Value.int (a+(i:Nat)*c) t) acc n->R (.ok (.ret (.ref h'.objs.size))) { s with heap:=h'.push { cls:=.type "tuple",data:=.seq acc },toks:=tk }):=
 .of_wp fun prog w A R s h=>by
  obtain⟨hp,g,d,tk,os⟩:=s;obtain⟨hh,hr,h⟩:=h;have f1:=sub_tuple_self;have f2:=init_tuple_lookup;have f3:=madeHere_tuple;have ht:Shared.TypeIs ⟨hp,g,d,tk,os⟩ (.ref r) "range":=⟨_,hr,rfl⟩
  wp_walk using Y7 ht,JJ hh hr hs hn h24
  intro h' tk' acc hk hacc
  have hz:acc.toList.toArray.size<=sizeLine:=by
   have:=hacc.1;rw[F0];simp only[Array.toArray_toList];omega
  refine A3 (A6 ?_);refine A3 (m:=Builtin.Tuple.tupleExact _) (C4 ?_ hz);refine A6 ⟨_,rfl,?_⟩;simpa using h h' tk' acc hk hacc
section
variable{X:Cx}{a b:Expr}{ta:TA}{p p' pos pos':Pos}
theorem UK{pins:List (Addr×Obj)}{Q:VK}{lo hi:Int}{t u v:Tok}{tk:Nat}(hc:X.calm=true)(I:Inv X pins σ H s)(h1:-(2 ^ 62)<=lo)(h2:lo<2 ^ 62)(h3:-(2 ^ 62)<=hi)(h4:hi<2 ^ 62)(hz:(hi-lo).toNat<=sizeLine)
 (q:∀l,H l=none->Q (.ref l) (upd H l (.tup (BU lo (hi-lo).toNat)))):
 wpAny (model X.prog X.w) X.A (call (.type "tuple") [.ref s.heap.objs.size]) (fun v s'=>∃x H',Inv X pins σ H' s'/\RelV x v/\Q x H') X.xe { s with heap:=s.heap.push { cls:=.type "range",data:=.fields #[.int lo t,.int hi u,.int 1 v] },toks:=tk }:=by
 have hsz:(hi-lo).toNat<=2 ^ 24:=by rw[F0]at hz;exact hz
 have I1:Inv X pins σ H { s with heap:=s.heap.push { cls:=.type "range",data:=.fields #[.int lo t,.int hi u,.int 1 v] },toks:=tk }:=I.kept fun b o e=>A4 _ e;have hr:IsRange (s.heap.push { cls:=.type "range",data:=.fields #[.int lo t,.int hi u,.int 1 v] }) s.heap.objs.size lo hi 1 t u v:=IsRange.new ..;refine callType_new PySem.F.called_tuple (by decide) (PySem.F.typeCall_tuple_1 _) (PySem.F.newCall_tuple_1 _) (fun obj=>PySem.F.args_object_init_2 _ _) PySem.F.entry_tuple_new (xK _ lo hi 1 t u v (hi-lo).toNat (small_one h1 h2 h3 h4) (by rw[rangeSize_one];split<;>omega) hsz) ⟨I.ok.hd hc,hr,fun h' tk' acc hk hacc=>?_⟩
 have sz:(s.heap.push { cls:=.type "range",data:=.fields #[.int lo t,.int hi u,.int 1 v] }).objs.size<=h'.objs.size:=by
  rw[O6];exact A8 (hk _ _ hr)
 refine⟨⟨_,B6 _ rfl,rfl⟩,.ref h'.objs.size,upd H h'.objs.size (.tup (BU lo (hi-lo).toNat)),I1.laid (t':=tk') (o:=.tup (BU lo (hi-lo).toNat)) (fun b o e=>A4 _ (hk b o e)) sz ?_,rfl,q _ (I1.hok.fresh sz)⟩;exact⟨by rw[BU,A7,U5];exact hz,acc.toList,RW hacc,IsTup.new _ _⟩
def aAx(ta:TA):TE:=fun σ H Q=>ta σ H fun vs H1=>∃j:Int,vs=[.int j]/\-(2 ^ 62)<=j/\j<2 ^ 62/\j.toNat<=sizeLine/\∀l,H1 l=none->Q (.ref l) (upd H1 l (.tup (BU 0 j.toNat)))
theorem WR(hc:X.calm=true)(hg:Gl X "range")(hm:X.mg "range"=none)(hgl:Gl X "tuple")(hml:X.mg "tuple"=none)(ha:PA X [a] ta)(hs:starEach [a] X.env=[(false,eval a X.env)]):
 PE X (.Call (.Name "tuple" p) [.Call (.Name "range" p') [a] [] pos'] [] pos) (aAx ta):=by
 intro pins s σ H Q I h;refine L7 (iR I hgl hml A0c ?_ (by decide) (by decide));refine F7 ?_ rP rfl;rw[rP];show wpAny _ _ (spliced ((false,eval (.Call (.Name "range" p') [a] [] pos') X.env)::[])) _ _ s;refine A0s ?_;refine Call_ (iR I hg hm boot_range (F7 (thn (ha pos' pins s σ H _ I h) fun us s1 ⟨vs,H1,I1,r1,q1⟩=>?_) hs rfl));obtain⟨j,e,q1,q2,q3,q⟩:=q1;subst e;cases r1 with
 |cons r rr=>
  cases rr;obtain⟨t,rfl⟩:=r;refine call_range_1 (Calls.spliced_nil ?_);exact UK hc I1 (by omega) (by omega) q1 q2 (by simpa using q3) (by simpa using q)
end
section
variable{K:Fg}{tA:TA}{fa:AF}
def vT(f:AF):EF:=fun γ M=>(f γ M).bind fun r=>match r.1 with
 |[.d (.int j)]=>if dC j=true/\j.toNat<=sizeLine then some (.d (.tuple (NW 0 j.toNat)),r.2)else none
 |_=>none
theorem VJ(b:SA K tA fa):SE K (aAx tA) (vT fa):=by
 intro γ M x M' hh W H σ Q G R k;obtain⟨⟨ys,M1⟩,h1,hh⟩:=aI hh;refine b _ _ _ _ h1 W H σ _ G R fun vs W1 H1 e1 G1 r1=>?_;revert hh;dsimp only;split
 .rename_i j;intro hh;by_cases hs:dC j=true/\j.toNat<=sizeLine
  .rw[A9 hs]at hh;cases hh;cases r1 with
   |cons r r'=>
    cases r';refine⟨j,by rw[show _=V.int j from r],(fF hs.1).1,(fF hs.1).2,hs.2,fun l hl=>?_⟩;obtain⟨e2,G2⟩:=G1.lay (o:=.tup (BU 0 j.toNat)) hl;exact k _ _ _ (e1.trans e2) G2 ⟨l,_,rfl,SqT.of aO,aBG⟩
  .rw[B2 hs]at hh;cases hh
 .intro hh;cases hh
theorem VH{ι:Type}{X:ι->Cx}{a:Expr}{p p' pos pos':Pos}(hc:∀i,(X i).calm=true)(hm:∀i,(X i).mg "range"=none)(hml:∀i,(X i).mg "tuple"=none)(x:MA K X [a] fa)(hg:∀i,Gl (X i) "range":=by intro _;rfl)(hgl:∀i,Gl (X i) "tuple":=by intro _;rfl):
 ME K X (.Call (.Name "tuple" p) [.Call (.Name "range" p') [a] [] pos'] [] pos) (vT fa):=by
 obtain⟨t,x1,x2⟩:=x.ex;exact⟨_,fun i=>WR (hc i) (hg i) (hm i) (hgl i) (hml i) (x1 i) (x.st.1 _),VJ x2⟩
end
theorem AQ:∀{ds:List PyData}{ns:List Int},oR ds=some ns->ds=ns.map .int
 |[],_=>fun h=>by cases h;rfl
 |d::ds,ns=>fun h=>by
  cases d with
  |int n=>
   obtain⟨ms,h1,h2⟩:=Option.bind_eq_some_iff.mp (show(oR ds).bind (fun ns=>some (n::ns))=some ns from h);cases h2;rw[AQ h1];rfl
  |_=>cases h
theorem qS{K:Fg}{H:Hp}:∀{ns:List Int}{us:List V},aJ K H (ns.map .int) us->us=ns.map .int
 |[],_=>fun h=>h
 |n::ns,_=>fun h=>by
  obtain⟨v,r,rfl,h1,h2⟩:=(show ∃v r,_=v::r/\Rep K H (.int n) v/\aJ K H (ns.map .int) r from h);rw[qS h2,show v=V.int n from h1];rfl
def XY(K:Fg):List V->Hp->VK->Prop:=fun xs H Q=>∃(p:Addr)(ns:List Int),xs=[.ref p]/\SqL K H p (ns.map .int)/\Q (.int ns.sum) H
theorem TY{X:Cx}(hc:X.calm=true):eU X (.builtin "sum") (XY X.K):=by
 intro pins s σ H xs us Q I r h;obtain⟨p,ns,rfl,hp,q⟩:=h;obtain⟨u,rfl,ru⟩:=vals1 r;cases ru;obtain⟨its,rv,pl,hz⟩:=I.list hp;have hi:=intsAre_of rv;obtain⟨zs,e⟩:=hi.allInts.items;have pl':=pl.isList;have e1:=hi.numsOf;rw[show its=its.toArray.toList from rfl,e,nums_intItems]at e1;rw[e]at pl';refine sum_intListG (I.ok.hd hc) pl' fun h' tk t' hk=>?_;refine⟨.int _,H,I.kept (h':=h') (t':=tk) hk,⟨t',rfl⟩,?_⟩;rw[preSum_eq,List.take_of_length_le (by simp),e1];exact q
theorem aJo{X:Cx}(h:X.K=K)(hc:X.calm=true):eU X (.builtin "sum") (XY K):=by subst h;exact TY hc
def sumF:FN:=fun xs M=>match xs with
 |[.d (.list ds)]=>(oR ds).bind fun ns=>some (.d (.int ns.sum),M)
 |_=>none
theorem aCg:PN K (XY K) sumF:=by
 intro xs M z M' h W H vs Q G r k;unfold sumF at h;split at h
 .rename_i ds;obtain⟨ns,h1,h⟩:=aI h;cases h;rcases r with _|⟨r1,_|_⟩;obtain⟨p,us,rfl,hq,hr⟩:=(show ∃a us,_=V.ref a/\SqL K W.F a us/\aJ K W.F ds us from r1);rw[AQ h1]at hr;have e:=qS hr;subst e;exact⟨p,ns,rfl,G.fh.seq hq,k _ W H (.refl _) G rfl⟩
 .cases h
theorem aFn{ι:Type}{X:ι->Cx}(hK:∀i,(X i).K=K)(hc:∀i,(X i).calm=true):QN K X (.builtin "sum") sumF:=⟨_,fun i=>aJo (hK i) (hc i),aCg⟩
def Rsg(xs:Array Nat):Prop:=∀i k:Nat,i<k->k<xs.size->xs.getD i 0<xs.getD k 0
structure Cut(xs:Array Nat)(j r:Nat):Prop where
 le:r<=xs.size
 lo:∀i,i<r->xs.getD i 0<j
 hi:∀i,r<=i->i<xs.size->j<=xs.getD i 0
theorem XT{xs:Array Nat}{i a b:Nat}(h:i<xs.size):xs.getD i a=xs.getD i b:=by
 rw[C5,C5,E5 h];rfl
theorem zF{xs:Array Nat}{j:Nat}(R:Rsg xs):∀(fuel lo hi:Nat),hi<=lo+fuel->lo<=hi->hi<=xs.size->(∀i,i<lo->xs.getD i 0<j)->(∀i,hi<=i->i<xs.size->j<=xs.getD i 0)->Cut xs j (SetTable.below.go xs j fuel lo hi)
 |0=>fun lo hi h1 h2 h3 h4 h5=>by
  have:lo=hi:=by omega
  subst this;exact⟨h3,h4,h5⟩
 |fuel+1=>fun lo hi h1 h2 h3 h4 h5=>by
  unfold SetTable.below.go;by_cases h:lo<hi
  .rw[A9 h];dsimp only;have ml:(lo+hi) / 2<hi:=by omega
   have mg:lo<=(lo+hi) / 2:=by omega
   generalize (lo+hi) / 2=m at ml mg;rw[XT (b:=0) (by omega)];by_cases c:xs.getD m 0<j
   .rw[A9 c];refine zF R fuel (m+1) hi (by omega) (by omega) h3 (fun i hi'=>?_) h5;by_cases e:i=m
    .rw[e];exact c
    .have:=R i m (by omega) (by omega);omega
   .rw[B2 c];refine zF R fuel lo m (by omega) mg (by omega) h4 (fun i h6 h7=>?_);by_cases e:i=m
    .rw[e];omega
    .have:=R m i (by omega) h7;omega
  .rw[B2 h];have:lo=hi:=by omega
   subst this;exact⟨h3,h4,h5⟩
theorem nJ{xs:Array Nat}(j:Nat)(R:Rsg xs):Cut xs j (SetTable.below xs j):=
 zF R xs.size 0 xs.size (by omega) (J4 _) (B0 _) (fun i h=>absurd h (Nat.not_lt_zero _)) fun i h h'=>by omega
theorem NM{xs:Array Nat}{i:Nat}(R:Rsg xs)(h:i<xs.size):SetTable.below xs (xs.getD i 0+1)=i+1:=by
 have c:=nJ (xs.getD i 0+1) R;by_cases h1:SetTable.below xs (xs.getD i 0+1)<=i
 .have:=c.hi i h1 h;omega
 .by_cases h2:i+1<SetTable.below xs (xs.getD i 0+1)
  .have a:=c.lo (i+1) h2;have b:=R i (i+1) (by omega) (by have:=c.le;omega);omega
  .omega
theorem NU{xs:Array Nat}(R:Rsg xs):SetTable.below xs 0=0:=by
 have c:=nJ 0 R;by_cases h:SetTable.below xs 0=0
 .exact h
 .have:=c.lo 0 (by omega);omega
theorem yQ{xs:Array Nat}{p x:Nat}(h:p<=xs.size):(SetTable.insertAt xs p x).size=xs.size+1:=by
 unfold SetTable.insertAt;simp;omega
theorem LU{xs:Array Nat}{p x i:Nat}(h:p<=xs.size):(SetTable.insertAt xs p x).getD i 0=if i<p then xs.getD i 0 else if i=p then x else xs.getD (i-1) 0:=by
 unfold SetTable.insertAt;rw[C5,Array.getElem?_append];have sz:((xs.extract 0 p).push x).size=p+1:=by simp;omega
 rw[sz];by_cases h1:i<p
 .rw[A9 (by omega),A9 h1,Array.getElem?_push,B2 (by simp;omega),Array.getElem?_extract,C5];simp;rw[A9 (by omega)]
 .rw[B2 h1];by_cases h2:i=p
  .rw[A9 (by omega),A9 h2,Array.getElem?_push,A9 (by simp;omega)];rfl
  .rw[B2 (by omega),B2 h2,Array.getElem?_extract,C5];by_cases h3:i-1<xs.size
   .rw[A9 (by omega),show p+(i-(p+1))=i-1 by omega]
   .rw[B2 (by omega),O0 (by omega)]
theorem PP{xs:Array Nat}{j:Nat}(R:Rsg xs)(nh:SetTable.has xs j=false):Rsg (SetTable.insertAt xs (SetTable.below xs j) j):=by
 have c:=nJ j R
 have nh:∀i,i<xs.size->i=SetTable.below xs j->xs.getD i 0≠j:=fun i hi e q=>by
  unfold SetTable.has at nh;rw[<- e,E5 hi]at nh;rw[C5,E5 hi]at q;have q:xs[i]=j:=q;rw[q]at nh;simp at nh
 generalize SetTable.below xs j=p at c nh;have cl:=c.le;intro i k hik hk;rw[yQ c.le]at hk;rw[LU c.le,LU c.le]
 have gt:∀i,p<=i->i<xs.size->j<xs.getD i 0:=fun i h1 h2=>by
  have a:=c.hi i h1 h2;by_cases e:i=p
  .have:=nh i h2 e;omega
  .have b:=c.hi p (B0 _) (by omega);have d:=R p i (by omega) h2;omega
 by_cases h1:i<p
 .rw[A9 h1];have:=c.lo i h1;by_cases h2:k<p
  .rw[A9 h2];exact R i k hik (by omega)
  .rw[B2 h2];by_cases h3:k=p
   .rw[A9 h3];exact this
   .rw[B2 h3];have:=gt (k-1) (by omega) (by omega);omega
 .rw[B2 h1,B2 (by omega:¬k<p),B2 (by omega:¬k=p)];by_cases h3:i=p
  .rw[A9 h3];exact gt (k-1) (by omega) (by omega)
  .rw[B2 h3];exact R (i-1) (k-1) (by omega) (by omega)
theorem sZ{t:SetTable}{f:Nat->Int}{h:Int}:∀(fuel:Nat)(p:SetTable.Probe)(j:Nat)(d:Option Nat),(∀x,p.dummy=some x->SetTable.has t.place x=false)->SetTable.probe.go t f h fuel p=some (.empty j d)->SetTable.has t.place j=false/\∀x,d=some x->SetTable.has t.place x=false
 |0=>fun p j d hp e=>by cases e
 |fuel+1=>fun p j d hp e=>by
  unfold SetTable.probe.go at e
  have nl:∀x,(∀i,t.slot x≠.live i)->SetTable.has t.place x=false:=fun x hx=>by
   unfold SetTable.slot at hx;unfold SetTable.has;dsimp only at hx;cases q:(t.place[SetTable.below t.place x]?==some x)with
   |false=>rfl
   |true=>rw[q]at hx;exact absurd rfl (hx _)
  cases sl:t.slot p.j with
  |empty=>
   rw[sl]at e;cases e;exact⟨nl _ (fun i=>by rw[sl];exact nofun),hp⟩
  |dummy=>
   rw[sl]at e;refine sZ fuel _ j d (fun x hx=>?_) e
   have:(t.advance { p with dummy:=some p.j }).dummy=some p.j:=by
    unfold SetTable.advance;split<;>rfl
   rw[this]at hx;cases hx;exact nl _ (fun i=>by rw[sl];exact nofun)
  |live i=>
   rw[sl]at e;dsimp only at e;split at e
   .cases e
   .refine sZ fuel _ j d (fun x hx=>hp x ?_) e;rw[<- hx];unfold SetTable.advance;split<;>rfl
theorem SX{t:SetTable}{h:Int}{j:Nat}{b:Bool}(e:t.freeSlot h=some (j,b)):SetTable.has t.place j=false:=by
 unfold SetTable.freeSlot at e;split at e
 .rename_i k d he;cases e;unfold SetTable.probe at he;obtain⟨h1,h2⟩:=sZ _ _ _ _ (fun x hx=>by cases hx) he;cases d with
  |none=>exact h1
  |some x=>exact h2 x rfl
 .cases e
theorem aAz{l:List (Nat×Nat)}(h:(l.map (·.1)).Pairwise (·<·)):Rsg (l.map (·.1)).toArray:=by
 intro i k hik hk;rw[C0]at hk;have:=List.pairwise_iff_getElem.mp h i k (by omega) hk hik;rw[C5,C5,S8,S8,B9 (by omega),B9 hk];exact this
theorem OS{f:Nat->Option Nat}:∀(l:List Nat),l.Pairwise (·<·)->((l.filterMap fun j=>(f j).map (j,·)).map (·.1)).Pairwise (·<·)
 |[]=>fun _=>List.Pairwise.nil
 |a::l=>fun h=>by
  obtain⟨h1,h2⟩:=List.pairwise_cons.mp h;have ih:=OS (f:=f) l h2;rw[O1];cases e:f a with
  |none=>exact ih
  |some b=>
   show(a::_).Pairwise (·<·);refine List.pairwise_cons.mpr ⟨fun x hx=>?_,ih⟩;obtain⟨y,hy,rfl⟩:=List.mem_map.mp hx;obtain⟨j,hj,hy⟩:=List.mem_filterMap.mp hy;obtain⟨z,_,rfl⟩:=Option.map_eq_some_iff.mp hy;exact h1 j hj
abbrev t7(b:Bool)(p:Array Nat):SetTable:=⟨7,p,#[],0,b,0,true⟩
abbrev t31(b:Bool)(p:Array Nat):SetTable:=⟨31,p,#[],0,b,1,true⟩
def okF(p:Array Nat):Bool:=[true,false].all fun b=>(List.range 9).all fun v=>match SetTable.freeSlot (t7 b p) ((v:Nat):Int)with
 |some (j,false)=>decide (j<=7)
 |_=>false
def aEn:Bool:=okF #[]&&(List.range 8).all fun a=>okF #[a]&&(List.range 8).all fun b=>!(decide (a<b)) || (okF #[a,b]&&(List.range 8).all fun c=>!(decide (b<c)) || (okF #[a,b,c]&&(List.range 8).all fun d=>!(decide (c<d)) || okF #[a,b,c,d]))
theorem NF:aEn=true:=by decide +kernel
theorem CJ{f:Nat->Bool}(h:(List.range 8).all f=true){a:Nat}(ha:a<=7):f a=true:=List.all_eq_true.mp h a (List.mem_range.mpr (by omega))
theorem aFV{p:Array Nat}(R:Rsg p)(le:∀i,i<p.size->p.getD i 0<=7)(h4:p.size<=4):okF p=true:=by
 have A:=NF;unfold aEn at A;obtain⟨A0,A⟩:=Bool.and_eq_true_iff.mp A;obtain⟨l⟩:=p
 match l,R,le,h4 with
 |[],_,_,_=>exact A0
 |[a],R,le,_=>exact(Bool.and_eq_true_iff.mp (CJ A (le 0 (by simp)))).1
 |[a,b],R,le,_=>
  have A:=CJ (Bool.and_eq_true_iff.mp (CJ A (le 0 (by simp)))).2 (le 1 (by simp));have ab:a<b:=R 0 1 (by omega) (by simp);rcases Bool.or_eq_true_iff.mp A with A|A
  .exact absurd ab (by simpa using A)
  .exact(Bool.and_eq_true_iff.mp A).1
 |[a,b,c],R,le,_=>
  have A:=CJ (Bool.and_eq_true_iff.mp (CJ A (le 0 (by simp)))).2 (le 1 (by simp));have ab:a<b:=R 0 1 (by omega) (by simp);have bc:b<c:=R 1 2 (by omega) (by simp);rcases Bool.or_eq_true_iff.mp A with A|A
  .exact absurd ab (by simpa using A)
  .have A:=CJ (Bool.and_eq_true_iff.mp A).2 (le 2 (by simp));rcases Bool.or_eq_true_iff.mp A with A|A
   .exact absurd bc (by simpa using A)
   .exact(Bool.and_eq_true_iff.mp A).1
 |[a,b,c,d],R,le,_=>
  have A:=CJ (Bool.and_eq_true_iff.mp (CJ A (le 0 (by simp)))).2 (le 1 (by simp));have ab:a<b:=R 0 1 (by omega) (by simp);have bc:b<c:=R 1 2 (by omega) (by simp);have cd:c<d:=R 2 3 (by omega) (by simp);rcases Bool.or_eq_true_iff.mp A with A|A
  .exact absurd ab (by simpa using A)
  .have A:=CJ (Bool.and_eq_true_iff.mp A).2 (le 2 (by simp));rcases Bool.or_eq_true_iff.mp A with A|A
   .exact absurd bc (by simpa using A)
   .have A:=CJ (Bool.and_eq_true_iff.mp A).2 (le 3 (by simp));rcases Bool.or_eq_true_iff.mp A with A|A
    .exact absurd cd (by simpa using A)
    .exact A
 |_::_::_::_::_::_,_,_,h4=>simp at h4
theorem aIn{b:Bool}{p:Array Nat}{h:Int}(h0:0<=h)(h9:h<9)(R:Rsg p)(le:∀i,i<p.size->p.getD i 0<=7)(h4:p.size<=4):∃j,SetTable.freeSlot (t7 b p) h=some (j,false)/\j<=7:=by
 have A:=aFV R le h4;unfold okF at A;have A:=List.all_eq_true.mp (List.all_eq_true.mp A b (by cases b<;>simp)) h.toNat (List.mem_range.mpr (by omega));rw[show((h.toNat:Nat):Int)=h by omega]at A;revert A;split
 .rename_i j e;intro A;exact⟨j,e,by simpa using A⟩
 .intro A;cases A
theorem PQ{h:Int}(h0:0<=h)(h9:h<9):SetTable.bits h=h.toNat:=by
 unfold SetTable.bits;rw[Int.emod_eq_of_lt h0 (by omega)]
theorem aDn{xs:Array Nat}{j:Nat}(h:SetTable.has xs j=true):∃i:Nat,xs[i]?=some j:=by
 unfold SetTable.has at h;exact⟨_,by simpa using h⟩
theorem aHx{b:Bool}{p:Array Nat}{h:Int}(h0:0<=h)(h9:h<9)(nh:SetTable.has p h.toNat=false):SetTable.freeSlot (t31 b p) h=some (h.toNat,false):=by
 have hm:h.toNat % (31+1)=h.toNat:=Nat.mod_eq_of_lt (by omega)
 have sl:(t31 b p).slot h.toNat=.empty:=by
  unfold SetTable.slot;unfold SetTable.has at nh;dsimp only;rw[nh];rfl
 have e:(t31 b p).probe (fun _=>h+1) h ((t31 b p).probeStart h)=some (.empty h.toNat none):=by
  unfold SetTable.probe SetTable.probeStart;show SetTable.probe.go (t31 b p) _ h (459+1) _=_;unfold SetTable.probe.go;dsimp only;rw[PQ h0 h9,hm,sl]
 unfold SetTable.freeSlot;rw[e];rfl
def aGz(acc:Option (Array (Option Nat)×Nat))(h:Int):Option (Array (Option Nat)×Nat):=acc.bind fun x=>(SetTable.layClean.free 31 x.1 (SetTable.turns 31) (SetTable.bits h % (31+1)) (SetTable.bits h)).bind fun j=>some (x.1.setIfInBounds j (some x.2),x.2+1)
theorem aBD{ow:Array (Option Nat)}{i f pt:Nat}(hi:i<9)(hn:ow.getD i (some 0)=none):SetTable.layClean.free 31 ow (f+1) i pt=some i:=by
 unfold SetTable.layClean.free
 have e:SetTable.runEnd 31 i+1-i=9+1:=by
  unfold SetTable.runEnd;rw[A9 (by omega)];omega
 rw[e,List.range_succ_eq_map,List.find?_cons_of_pos (by rw[Nat.add_zero,hn];rfl)];rfl
theorem KN:∀(hs:List Int)(ow:Array (Option Nat))(k:Nat),ow.size=32->(∀h∈hs,0<=h/\h<9/\ow.getD h.toNat (some 0)=none)->hs.Nodup->
 ∃ow',hs.foldl aGz (some (ow,k))=some (ow',k+hs.length)/\∀j i:Nat,ow'.getD j none=some i↔(ow.getD j none=some i\/(k<=i/\hs[i-k]?=some (j:Int)))
 |[]=>fun ow k sz H nd=>⟨ow,rfl,fun j i=>by simp⟩
 |h::hs=>fun ow k sz H nd=>by
  obtain⟨h0,h9,hn⟩:=H h B5;obtain⟨nd1,nd2⟩:=List.nodup_cons.mp nd
  have st:aGz (some (ow,k)) h=some (ow.setIfInBounds h.toNat (some k),k+1):=by
   show(SetTable.layClean.free 31 ow (45+1) (SetTable.bits h % (31+1)) (SetTable.bits h)).bind _=_;rw[PQ h0 h9,Nat.mod_eq_of_lt (by omega),aBD (by omega) hn];rfl
  have ga:∀(j:Nat)(d:Option Nat),j<32->(ow.setIfInBounds h.toNat (some k)).getD j d=if j=h.toNat then some k else ow.getD j d:=fun j d hj=>by
   rw[C5,Array.getElem?_setIfInBounds,C5];by_cases e:h.toNat=j
   .rw[A9 e,A9 e.symm,A9 (by omega)];rfl
   .rw[B2 e,B2 (fun q=>e q.symm)]
  obtain⟨ow',e1,e2⟩:=KN hs (ow.setIfInBounds h.toNat (some k)) (k+1) (by rw[Array.size_setIfInBounds];exact sz) (fun g hg=>by
   obtain⟨g0,g9,gn⟩:=H g (B3 _ hg);refine⟨g0,g9,?_⟩;rw[ga _ _ (by omega),B2 fun q=>nd1 (by rw[show h=g by omega];exact hg)];exact gn) nd2
  refine⟨ow',by rw[List.foldl_cons,st,e1,E9];congr 2;omega,fun j i=>?_⟩;rw[e2];by_cases hj:j<32
  .rw[ga _ _ hj];by_cases e:j=h.toNat
   .rw[A9 e]
    have jn:ow.getD j none=none:=by
     rw[C5]at hn ⊢;rw[e];cases q:ow[h.toNat]? with
     |none=>rfl
     |some v=>rw[q]at hn;exact hn
    rw[jn];constructor
    .rintro(q|⟨q1,q2⟩)
     .cases q;exact .inr ⟨B0 _,by rw[U6];simp;omega⟩
     .refine absurd (O9 q2) ?_;rw[show((j:Nat):Int)=h by omega];exact nd1
    .rintro(q|⟨q1,q2⟩)
     .cases q
     .by_cases ek:i=k
      .exact .inl (by rw[ek])
      .refine .inr ⟨by omega,?_⟩;rw[show i-k=(i-(k+1))+1 by omega,List.getElem?_cons_succ]at q2;exact q2
   .rw[B2 e];constructor
    .rintro(q|⟨q1,q2⟩)
     .exact .inl q
     .refine .inr ⟨by omega,?_⟩;rw[show i-k=(i-(k+1))+1 by omega,List.getElem?_cons_succ];exact q2
    .rintro(q|⟨q1,q2⟩)
     .exact .inl q
     .refine .inr ?_;by_cases ek:i=k
      .rw[ek,U6,List.getElem?_cons_zero]at q2;cases q2;exact absurd (L3 j).symm e
      .refine⟨by omega,?_⟩;rw[show i-k=(i-(k+1))+1 by omega,List.getElem?_cons_succ]at q2;exact q2
  .have n1:∀o:Array (Option Nat),o.size=32->o.getD j none=none:=fun o ho=>by
    rw[C5,O0 (by omega)];rfl
   rw[n1 _ sz,n1 _ (by rw[Array.size_setIfInBounds];exact sz)]
   have no:∀(l:List Int)(x:Nat),(∀g∈l,g<9)->l[x]?≠some (j:Int):=fun l x hl q=>by
    have:=hl _ (O9 q);omega
   constructor
   .rintro(q|⟨q1,q2⟩)
    .cases q
    .exact absurd q2 (no _ _ fun g hg=>(H g (B3 _ hg)).2.1)
   .rintro(q|⟨q1,q2⟩)
    .cases q
    .exact absurd q2 (no _ _ fun g hg=>(H g hg).2.1)
theorem aHT{hs:Array Int}(H:∀h∈hs.toList,0<=h/\h<9)(nd:hs.toList.Nodup):∃ow,SetTable.layClean 31 hs=some ow/\∀j i:Nat,ow.getD j none=some i↔hs.toList[i]?=some (j:Int):=by
 have g0:∀(j:Nat)(d:Option Nat),(Array.replicate (31+1) (none:Option Nat)).getD j d=if j<32 then none else d:=fun j d=>by
  rw[C5,Array.getElem?_replicate];by_cases h:j<32
  .rw[A9 h,A9 h];rfl
  .rw[B2 h,B2 h];rfl
 obtain⟨ow,e1,e2⟩:=KN hs.toList (Array.replicate (31+1) none) 0 (by rw[Array.size_replicate]) (fun h hh=>⟨(H h hh).1,(H h hh).2,by rw[g0,A9 (by have:=H h hh;omega)]⟩) nd;refine⟨ow,?_,fun j i=>?_⟩
 .unfold SetTable.layClean;rw[<- Array.foldl_toList];show Option.map (fun x=>x.1) (List.foldl aGz (some (Array.replicate (31+1) none,0)) hs.toList)=some ow;rw[e1];rfl
 .rw[e2,g0];have:(if j<32 then(none:Option Nat)else none)=none:=by split<;>rfl
  rw[this];simp
theorem aBb{es:Array (Int×Value)}:∀(l:List (Nat×Nat)),(∀q∈l,∃e,es[q.2]?=some e/\e.1.toNat=q.1)->((l.map (·.2)).filterMap (es[·]?)).map (fun e=>e.1.toNat)=l.map (·.1)
 |[]=>fun _=>rfl
 |q::l=>fun H=>by
  obtain⟨e,h1,h2⟩:=H q B5;have ih:=aBb l fun p hp=>H p (B3 _ hp);rw[C7,O1,h1,C7,ih,h2];rfl
theorem aDC{b:Bool}{p:Array Nat}{es:Array (Int×Value)}{w:Nat}(hw:SetTable.sizeAbove w=32)(H:∀h∈(es.map (·.1)).toList,0<=h/\h<9)(nd:(es.map (·.1)).toList.Nodup)(n9:es.size<=31):
 ∃q,(relayAll (t7 b p) es w).2.1=t31 b q/\Rsg q/\q.toList=(relayAll (t7 b p) es w).1.toList.map fun e=>e.1.toNat:=by
 obtain⟨ow,e1,e2⟩:=aHT H nd;have sz:(es.map (·.1)).toList.length=es.size:=by simp
 have live:∀q∈(List.range (31+1)).filterMap (fun j=>(ow.getD j none).map (j,·)),(es.map (·.1)).toList[q.2]?=some (q.1:Int)/\q.1<32:=fun q hq=>by
  obtain⟨j,hj,h⟩:=List.mem_filterMap.mp hq;obtain⟨i,hi,rfl⟩:=Option.map_eq_some_iff.mp h;exact⟨(e2 j i).mp hi,List.mem_range.mp hj⟩
 have rl:(t7 b p).relaid (es.map (·.1)) w=some (t31 b (((List.range (31+1)).filterMap fun j=>(ow.getD j none).map (j,·)).map (·.1)).toArray,(((List.range (31+1)).filterMap fun j=>(ow.getD j none).map (j,·)).map (·.2)).toArray):=by
  unfold SetTable.relaid SetTable.laid;rw[hw,show 32-1=31 from rfl,e1];rfl
 have pm:((((List.range (31+1)).filterMap fun j=>(ow.getD j none).map (j,·)).map (·.2))).Perm (List.range es.size):=by
  refine(List.perm_ext_iff_of_nodup ?_ List.nodup_range).mpr fun i=>?_
  .rw[List.map_filterMap];refine List.Pairwise.filterMap (R:=(·≠·)) _ (fun j j' hne i hi i' hi' q=>?_) List.nodup_range;subst q;rw[Option.map_map]at hi hi';obtain⟨x,hx,e⟩:=Option.map_eq_some_iff.mp hi;obtain⟨x',hx',e'⟩:=Option.map_eq_some_iff.mp hi';have e:x=i:=e;have e':x'=i:=e';subst e;subst e';have a1:=(e2 _ _).mp hx;have a2:=(e2 _ _).mp hx';rw[a1]at a2;have:(j:Int)=j':=by simpa using a2
   exact hne (by omega)
  .rw[List.mem_range];constructor
   .intro h;obtain⟨q,hq,rfl⟩:=List.mem_map.mp h;have:=(live q hq).1;have:=(List.getElem?_eq_some_iff.mp this).1;omega
   .intro h;have hi:i<(es.map (·.1)).toList.length:=by omega
    obtain⟨x,hx⟩:∃x,(es.map (·.1)).toList[i]?=some x:=⟨_,B9 hi⟩;have bx:0<=x/\x<9:=H _ (O9 hx);refine List.mem_map.mpr ⟨(x.toNat,i),List.mem_filterMap.mpr ⟨x.toNat,List.mem_range.mpr (by omega),?_⟩,rfl⟩;rw[(e2 _ i).mpr (by rw[hx];congr 1;omega)];rfl
 have rr:Rsg (((List.range (31+1)).filterMap fun j=>(ow.getD j none).map (j,·)).map (·.1)).toArray:=aAz (OS _ List.pairwise_lt_range);generalize (List.range (31+1)).filterMap (fun j=>(ow.getD j none).map (j,·))=L at live rl pm rr
 have fs:=aBb (es:=es) L fun q hq=>by
  obtain⟨h1,h2⟩:=live q hq;have hl:=(List.getElem?_eq_some_iff.mp h1).1;rw[sz]at hl;refine⟨es[q.2],E5 hl,?_⟩
  have:(es.map (·.1)).toList[q.2]?=some es[q.2].1:=by
   rw[E1,Array.getElem?_map,E5 hl];rfl
  rw[this]at h1;have:es[q.2].1=(q.1:Int):=by simpa using h1
  omega
 have ln:L.length=es.size:=by
  have:=pm.length_eq
  rwa [A7,U5]at this
 have cv:(coversAll (L.map (·.2)).toArray es.size&&(t31 b (L.map (·.1)).toArray).fits ((L.map (·.2)).toArray.filterMap (es[·]?)).size)=true:=by
  rw[B7];refine⟨List.isPerm_iff.mpr pm,?_⟩;unfold SetTable.fits SetTable.fill
  have s1:((L.map (·.2)).toArray.filterMap (es[·]?)).size=L.length:=by
   have:=Y0 List.length fs;rw[A7,A7]at this;rw[List.filterMap_toArray,C0];exact this
  rw[s1];simp;omega
 refine⟨(L.map (·.1)).toArray,?_,rr,?_⟩
 .unfold relayAll;rw[rl];dsimp only;rw[A9 cv]
 .unfold relayAll;rw[rl];dsimp only;rw[A9 cv];rw[List.filterMap_toArray];exact fs.symm
def vI:Value->Int
 |.int i _=>i
 |_=>0
structure Tp(b:Bool)(t:SetTable)(es:Array (Int×Value)):Prop where
 bd:∀e∈es.toList,0<=e.1/\e.1<9
 vl:∀e∈es.toList,vI e.2=e.1
 nd:(es.toList.map (·.1)).Nodup
 fm:∃p,Rsg p/\((t=t7 b p/\(∀i,i<p.size->p.getD i 0<=7)/\p.size<=4/\p.size=es.size)\/(t=t31 b p/\p.toList=es.toList.map fun e=>e.1.toNat))
theorem Tp.fresh(b:Bool):Tp b (.fresh 0 0 b) #[]:=⟨fun e h=>by simp at h,fun e h=>by simp at h,List.nodup_nil,#[],fun i k _ h=>absurd h (Nat.not_lt_zero _),.inl ⟨rfl,fun i h=>absurd h (Nat.not_lt_zero _),J4 _,rfl⟩⟩
theorem Tp.plain{b:Bool}{t:SetTable}{es:Array (Int×Value)}(T:Tp b t es):t.plain=true/\t.led=b/\Rsg t.place:=by
 obtain⟨p,R,⟨rfl,_⟩|⟨rfl,_⟩⟩:=T.fm<;>exact⟨rfl,rfl,R⟩
theorem VR{p:Array Nat}(R:Rsg p):∀i,i<p.size->i<=p.getD i 0
 |0=>fun _=>J4 _
 |i+1=>fun h=>by
  have a:=VR R i (by omega);have b:=R i (i+1) (by omega) h;omega
theorem pN{α:Type}{xs:Array α}{p:Nat}{x:α}:(SetTable.insertAt xs p x).toList=xs.toList.take p++x::xs.toList.drop p:=by
 unfold SetTable.insertAt;simp;rw[List.take_of_length_le (by simp)]
theorem Tp.lay{b:Bool}{t:SetTable}{es:Array (Int×Value)}(T:Tp b t es){h:Int}{x:Value}(h0:0<=h)(h9:h<9)(hv:vI x=h)(out:h∉es.toList.map (·.1)):
 (layNew t es h x).2.2.1=false/\(layNew t es h x).2.1.plain=true /\
 (((layNew t es h x).2.1.tooFull=false/\Tp b (layNew t es h x).2.1 (layNew t es h x).1)\/((layNew t es h x).2.1.tooFull=true/\Tp b (relayAll (layNew t es h x).2.1 (layNew t es h x).1 (SetTable.grown (layNew t es h x).1.size)).2.1 (relayAll (layNew t es h x).2.1 (layNew t es h x).1 (SetTable.grown (layNew t es h x).1.size)).1)):=by
 have bd':∀k,∀e∈(SetTable.insertAt es k (h,x)).toList,0<=e.1/\e.1<9:=fun k e he=>by
  rw[pN]at he;rcases List.mem_append.mp he with he|he
  .exact T.bd e (List.mem_of_mem_take he)
  .rcases List.mem_cons.mp he with rfl|he
   .exact⟨h0,h9⟩
   .exact T.bd e (List.mem_of_mem_drop he)
 have vl':∀k,∀e∈(SetTable.insertAt es k (h,x)).toList,vI e.2=e.1:=fun k e he=>by
  rw[pN]at he;rcases List.mem_append.mp he with he|he
  .exact T.vl e (List.mem_of_mem_take he)
  .rcases List.mem_cons.mp he with rfl|he
   .exact hv
   .exact T.vl e (List.mem_of_mem_drop he)
 have pmk:∀k,(SetTable.insertAt es k (h,x)).toList.Perm ((h,x)::es.toList):=fun k=>by
  rw[pN];refine List.perm_middle.trans ?_;rw[List.take_append_drop]
 have nd':∀k,((SetTable.insertAt es k (h,x)).toList.map (·.1)).Nodup:=fun k=>((pmk k).map (·.1)).symm.nodup (List.nodup_cons.mpr ⟨out,T.nd⟩)
 have sz':∀k,(SetTable.insertAt es k (h,x)).size=es.size+1:=fun k=>by
  have:=(pmk k).length_eq;rw[C6,E9,C6]at this;exact this
 obtain⟨p,R,⟨rfl,le,h4,sz⟩|⟨rfl,hp⟩⟩:=T.fm
 .obtain⟨j,fj,j7⟩:=aIn (b:=b) h0 h9 R le h4;have nh:=SX fj;have R':=PP R nh;have cb:=(nJ j R).le;have pz:(SetTable.insertAt p (SetTable.below p j) j).size=p.size+1:=yQ cb
  have L:layNew (t7 b p) es h x=(SetTable.insertAt es (SetTable.below p j) (h,x),t7 b (SetTable.insertAt p (SetTable.below p j) j),false,false):=by
   unfold layNew;rw[fj]
   have ft:(t7 b (SetTable.insertAt p (SetTable.below p j) j)).fits (SetTable.insertAt es (SetTable.below p j) (h,x)).size=true:=by
    unfold SetTable.fits SetTable.fill;rw[sz',B7];exact⟨by simp[pz,sz],by simp[pz];omega⟩
   have pt:(t7 b p).put j=(t7 b (SetTable.insertAt p (SetTable.below p j) j),SetTable.below p j):=rfl;dsimp only;rw[pt];dsimp only;unfold SetTable.orStandIn;rw[ft];rfl
  have le':∀i,i<(SetTable.insertAt p (SetTable.below p j) j).size->(SetTable.insertAt p (SetTable.below p j) j).getD i 0<=7:=fun i hi=>by
   rw[LU cb];rw[pz]at hi;split
   .exact le i (by omega)
   .split
    .exact j7
    .exact le (i-1) (by omega)
  rw[L];dsimp only;refine⟨rfl,rfl,?_⟩;by_cases c:p.size+1<=4
  .refine .inl ⟨?_,bd' _,vl' _,nd' _,_,R',.inl ⟨rfl,le',by omega,by rw[pz,sz',sz]⟩⟩;unfold SetTable.tooFull SetTable.fill;simp[pz];omega
  .have p4:p.size=4:=by omega
   have gs:SetTable.sizeAbove (SetTable.grown (SetTable.insertAt es (SetTable.below p j) (h,x)).size)=32:=by
    rw[sz',<- sz,p4];rfl
   obtain⟨q,e1,e2,e3⟩:=aDC (b:=b) (p:=SetTable.insertAt p (SetTable.below p j) j) (es:=SetTable.insertAt es (SetTable.below p j) (h,x)) gs (fun g hg=>by
    rw[Array.toList_map]at hg;obtain⟨e,he,rfl⟩:=List.mem_map.mp hg;exact bd' _ e he) (by rw[Array.toList_map];exact nd' _) (by rw[sz',<- sz];omega)
   refine .inr ⟨?_,fun e he=>?_,fun e he=>?_,?_,q,e2,.inr ⟨e1,e3⟩⟩
   .unfold SetTable.tooFull SetTable.fill;simp[pz];omega
   .exact bd' _ e ((relayAll_perm ..).mem_iff.mp he)
   .exact vl' _ e ((relayAll_perm ..).mem_iff.mp he)
   .exact((relayAll_perm ..).map (·.1)).symm.nodup (nd' _)
 .have nh:SetTable.has p h.toNat=false:=by
   cases c:SetTable.has p h.toNat with
   |false=>rfl
   |true=>
    obtain⟨i,hi⟩:=aDn c;have hi:=O9 (show p.toList[i]?=some h.toNat by rw[E1];exact hi);rw[hp]at hi;obtain⟨e,he,q⟩:=List.mem_map.mp hi;have:=T.bd e he;exact absurd (List.mem_map.mpr ⟨e,he,(by omega:e.1=h)⟩) out
  have fj:=aHx (b:=b) h0 h9 nh;have R':=PP R nh;have cb:=(nJ h.toNat R).le;have pz:(SetTable.insertAt p (SetTable.below p h.toNat) h.toNat).size=p.size+1:=yQ cb
  have sz:p.size=es.size:=by
   have:=Y0 List.length hp;rw[A7,C6,C6]at this;exact this
  have p9:p.size<=9:=by
   by_cases c:p.size=0
   .omega
   .have a:=VR R (p.size-1) (by omega)
    have m:p.getD (p.size-1) 0∈p.toList:=by
     rw[C5,E5 (by omega)];exact Array.getElem_mem_toList _
    rw[hp]at m;obtain⟨e,he,q⟩:=List.mem_map.mp m;have:=T.bd e he;omega
  have L:layNew (t31 b p) es h x=(SetTable.insertAt es (SetTable.below p h.toNat) (h,x),t31 b (SetTable.insertAt p (SetTable.below p h.toNat) h.toNat),false,false):=by
   unfold layNew;rw[fj]
   have ft:(t31 b (SetTable.insertAt p (SetTable.below p h.toNat) h.toNat)).fits (SetTable.insertAt es (SetTable.below p h.toNat) (h,x)).size=true:=by
    unfold SetTable.fits SetTable.fill;rw[sz',B7];exact⟨by simp[pz,sz],by simp[pz];omega⟩
   have pt:(t31 b p).put h.toNat=(t31 b (SetTable.insertAt p (SetTable.below p h.toNat) h.toNat),SetTable.below p h.toNat):=rfl;dsimp only;rw[pt];dsimp only;unfold SetTable.orStandIn;rw[ft];rfl
  rw[L];dsimp only;refine⟨rfl,rfl,.inl ⟨?_,bd' _,vl' _,nd' _,_,R',.inr ⟨rfl,?_⟩⟩⟩
  .unfold SetTable.tooFull SetTable.fill;simp[pz];omega
  .rw[pN,pN,L4,C7,List.map_take,List.map_drop,hp]
structure aJH(prog:Program)(w:World)(b:Bool)(h:Heap)(a:Addr)(es:Array (Int×Value))(σ:List Int):Prop where
 ob:∃o ep t,h.get? a=some o/\o.ExactSet/\o.data=.set es ep t/\t.fits es.size=true/\Tp b t es
 el:ElemsOf (intKind prog w) es.toList
 sm:es.size<scanBound
 pm:(es.toList.map fun e=>vI e.2).Perm σ
def BF(prog:Program)(w:World)(b:Bool)(h:Heap)(a:Addr)(σ:List Int):Prop:=∃es,aJH prog w b h a es σ
section
variable{prog:Program}{w:World}{A:Around}{E:Value->Shared->Prop}{s:Shared}
theorem VQ{es:List (Int×Value)}(h:ElemsOf (intKind prog w) es){e:Int×Value}(he:e∈es):∃t,e.2=.int (vI e.2) t:=by
 obtain⟨⟨k,hk,_⟩,_⟩:=h e he;obtain⟨t,ht⟩:=Value.isInt_shape (show Value.isInt k e.2=true from hk);exact⟨t,by rw[ht];rfl⟩
theorem aIA{k:Int}{v:Value}(h:(intKind prog w).is k v=true):vI v=k:=by
 obtain⟨t,ht⟩:=Value.isInt_shape (show Value.isInt k v=true from h);rw[ht];rfl
theorem WZ{h:Heap}{a:Addr}{o:Obj}{es es':Array (Int×Value)}{ep:Nat}{t t':SetTable}(ho:h.get? a=some o)(hd:o.data=.set es ep t):(h.update a (Obj.putSet es' t')).get? a=some { o with data:=.set es' (ep+1) t' }:=by
 have:=E8 (Obj.putSet es' t') ho (by rw[putSet_of es' t' hd];rfl);rw[putSet_of es' t' hd]at this;exact this
theorem MJ{k:Int}(h0:0<=k)(h9:k<9):(intKind prog w).hash k=k:=by
 show hashInt k=k;obtain rfl|rfl|rfl|rfl|rfl|rfl|rfl|rfl|rfl:k=0\/k=1\/k=2\/k=3\/k=4\/k=5\/k=6\/k=7\/k=8:=by omega
 all_goals decide
theorem stored{b:Bool}{h:Heap}{a:Addr}{o:Obj}{es es':Array (Int×Value)}{ep:Nat}{t t':SetTable}{σ:List Int}(ho:h.get? a=some o)(hex:o.ExactSet)(hd:o.data=.set es ep t)(el:ElemsOf (intKind prog w) es'.toList)(sm:es'.size<scanBound)(hf:t'.fits es'.size=true)(T:Tp b t' es')(pm:(es'.toList.map fun e=>vI e.2).Perm σ):
 (h.update a (Obj.putSet es' t')).get? a=some { o with data:=.set es' (ep+1) t' }/\aJH prog w b (h.update a (Obj.putSet es' t')) a es' σ:=by
 have hg:=WZ (es':=es') (t':=t') ho hd;exact⟨hg,⟨_,_,_,hg,hex,rfl,hf,T⟩,el,sm,pm⟩
theorem aCl{b:Bool}{g:Bool->Sem Unit}(hg:∀(c:Bool)(s1:Shared)(Q':Unit->Shared->Prop),Q' () s1->wpAny (model prog w) A (g c) Q' E s1)
 {a:Addr} {o:Obj} {es es1:Array (Int×Value)} {ep:Nat} {t t2:SetTable} {σ:List Int} {R:Option Bool->Shared->Prop} (ho:s.heap.get? a=some o) (hex:o.ExactSet) (hd:o.data=.set es ep t) (el:ElemsOf (intKind prog w) es1.toList) (sm:es1.size<scanBound) (hf:t2.fits es1.size=true) (pm:(es1.toList.map fun e=>vI e.2).Perm σ)
 (T:(t2.tooFull=false/\Tp b t2 es1)\/(t2.tooFull=true/\Tp b (relayAll t2 es1 (SetTable.grown es1.size)).2.1 (relayAll t2 es1 (SetTable.grown es1.size)).1))
 (h:∀h',Heap.SameBut a s.heap h'->BF prog w b h' a σ->R (some true) { s with heap:=h' }):
 wpAny (model prog w) A (do
  storeSet a es1 t2
  if (!false&&t2.tooFull)=true then do
      g (relayAll t2 es1 (SetTable.grown es1.size)).2.2
      storeSet a (relayAll t2 es1 (SetTable.grown es1.size)).1 (relayAll t2 es1 (SetTable.grown es1.size)).2.1
      pure (some true)
   else pure (some true)) R E s:=by
 have b1:=J7 s.heap a (Obj.putSet es1 t2);refine A3 (wpAny_storeSet_of ho hd ?_ (fits_of_scanBound sm));rcases T with⟨tf,T⟩|⟨tf,T⟩
 .obtain⟨g1,D1⟩:=stored (prog:=prog) (w:=w) ho hex hd el sm hf T pm;rw[tf,B2 (by decide)];exact A6 (h _ b1 ⟨_,D1⟩)
 .rw[tf,A9 (by decide)];have g1:=WZ (es':=es1) (t':=t2) ho hd;have rp:=relayAll_perm t2 es1 (SetTable.grown es1.size);have rf:=relayAll_fits t2 es1 (SetTable.grown es1.size);generalize relayAll t2 es1 (SetTable.grown es1.size)=L at rp rf T ⊢;obtain⟨es2,t3,gv⟩:=L;dsimp only at rp rf T ⊢
  have sz:es2.size<scanBound:=by
   rw[<- C6,rp.length_eq,C6];exact sm
  refine A3 (hg _ _ _ (A3 (wpAny_storeSet_of g1 rfl ?_ (fits_of_scanBound sz))));obtain⟨_,D2⟩:=stored (prog:=prog) (w:=w) g1 hex rfl (el.perm rp) sz rf T ((rp.map _).trans pm);exact A6 (h _ (b1.trans (J7 _ a _)) ⟨_,D2⟩)
theorem aHk{b:Bool}{a:Addr}{σ:List Int}{k:Int}{u:Tok}{Q:Bool->Shared->Prop}(k0:0<=k)(k9:k<9)(hS:BF prog w b s.heap a σ)(room:σ.length+1<scanBound)
 (h:∀h' r,Heap.SameBut a s.heap h'->BF prog w b h' a (step_dedup σ k)->Q r { s with heap:=h' }):
 wpAny (model prog w) A (setAddHashed a (.int k u) ((intKind prog w).hash k)) Q E s:=by
 obtain⟨es,⟨o,ep,t,ho,hex,hd,hf,T⟩,el,sm,pm⟩:=hS;have hkey:=intKind_is prog w k u;have hsc:(Value.int k u).scannable=true:=rfl;have len:es.size=σ.length:=by rw[<- C6,<- pm.length_eq,A7]
 unfold setAddHashed setAddHashedIn;refine E7 (A3 (A0i ho hd hf ?_));dsimp only;rw[byScan_of hsc sm el];simp only[↓reduceIte];unfold setAddByScan;refine A3 (A3 (A0k (A3 (wpAny_setScan_of hkey ho hd hf el ?_))));have es0:s={ s with heap:=s.heap }:=by cases s;rfl
 cases hr:List.findIdx? (fun e=>(intKind prog w).is k e.2) es.toList with
 |some j=>
  obtain⟨hj,hp,_⟩:=List.findIdx?_eq_some_iff_getElem.mp hr;have inn:k∈σ:=pm.mem_iff.mp (List.mem_map.mpr ⟨_,Y1 hj,aIA hp⟩)
  have sd:step_dedup σ k=σ:=by
   unfold step_dedup;rw[A9 (List.any_eq_true.mpr ⟨k,inn,by simp⟩)]
  rw[sd]at h;refine A6 (A6 ?_);rw[es0];exact h s.heap _ (Heap.SameBut.refl a s.heap) ⟨es,⟨o,ep,t,ho,hex,hd,hf,T⟩,el,sm,pm⟩
 |none=>
  have out:k∉σ:=fun hk=>by
   obtain⟨e,he,q⟩:=List.mem_map.mp (pm.mem_iff.mpr hk);have:=List.findIdx?_eq_none_iff.mp hr e he;obtain⟨t',ht'⟩:=VQ el he;rw[ht',q]at this;rw[intKind_is]at this;cases this
  have sd:step_dedup σ k=σ++[k]:=by
   unfold step_dedup
   rw[B2 fun h=>by
    obtain⟨x,hx,e⟩:=List.any_eq_true.mp h;have:x=k:=by simpa using e
    exact out (this▸hx)]
  rw[sd]at h
  have gw:∀(c:Bool)(s1:Shared)(Q':Unit->Shared->Prop),Q' () s1->wpAny (model prog w) A (match c with|true=>rule "set.scan.the-table-gave-way"|false=>pure ()) Q' E s1:=fun c s1 Q' q=>by
   cases c
   .exact A6 q
   .exact A0k q
  dsimp only;have lp:=layNew_perm t es ((intKind prog w).hash k) (.int k u);have lf:=layNew_fits t es ((intKind prog w).hash k) (.int k u);have hk:=MJ (prog:=prog) (w:=w) k0 k9
  have nk:k∉es.toList.map (·.1):=fun hm=>by
   obtain⟨e,he,q⟩:=List.mem_map.mp hm;exact out (pm.mem_iff.mp (List.mem_map.mpr ⟨e,he,(T.vl e he).trans q⟩))
  have lt:=T.lay (x:=.int k u) (h:=(intKind prog w).hash k) (by rw[hk];exact k0) (by rw[hk];exact k9) hk.symm (by rw[hk];exact nk);generalize layNew t es ((intKind prog w).hash k) (.int k u)=L at lp lf lt ⊢;obtain⟨es1,t1,wd,gv⟩:=L;dsimp only at lp lf lt ⊢;obtain⟨rfl,pl,lt⟩:=lt;rw[Array.toList_push]at lp;have el1:=(el.push hkey hsc).perm lp
  have sm1:es1.size<scanBound:=by
   rw[<- C6,lp.length_eq,C3,C6,len];exact room
  have pm1:(es1.toList.map fun e=>vI e.2).Perm (σ++[k]):=by
   refine(lp.map _).trans ?_;rw[L4];exact pm.append_right _
  refine A3 (gw _ _ _ ?_);rw[A9 pl];refine A3 ?_;rw[hashByValue_scannable 8 hsc];refine A6 ?_;exact aCl gw ho hex hd el1 sm1 lf pm1 lt fun h' hb hS'=>A6 (h h' _ hb hS')
end
abbrev iT(w:World):Bool:=w.params.followText "set-order"
theorem BF.same{prog:Program}{w:World}{b:Bool}{h h':Heap}{a:Addr}{σ:List Int}(S:BF prog w b h a σ)(k:∀o,h.get? a=some o->h'.get? a=some o):BF prog w b h' a σ:=by
 obtain⟨es,⟨o,ep,t,ho,r⟩,el,sm,pm⟩:=S;exact⟨es,⟨o,ep,t,k o ho,r⟩,el,sm,pm⟩
section
variable{prog:Program}{w:World}{A:Around}{E:Value->Shared->Prop}{s:Shared}
theorem DE{R:Result->Shared->Prop}{I:Addr}{fp wr:List Addr}{G:Array GenState->Array GenState->Prop}{n:Nat}{P:Nat->Value->Prop}{St:Nat->Shared->Prop}{b:Bool}(W:WalksS prog w A.in1 I fp wr G n P St)(S:Addr)(hSf:S∉fp)(val:Nat->Int)(hval:∀i v,P i v->(∃t,v=.int (val i) t)/\0<=val i/\val i<9)(hb:n+1<scanBound):
 ∀(k i:Nat)(s:Shared),n-i=k->i<=n->St i s->BF prog w b s.heap S (firstMet val i)->
  (∀s',Moved (S::wr) G s s'->BF prog w b s'.heap S (firstMet val n)->R (.ok (.ret .none)) s')->
  codeAny (model prog w) A (.builtin "set.update.loop" ⟨[.ref S,.ref I],[]⟩) R s
 |0=>fun i s hk hi st hS hR=>by
  have hin:i=n:=by omega
  subst hin;have hw:S∉wr:=fun h=>hSf (W.sub _ h);refine S6 F.entry_set_update_loop ?_;rw[L9 F.plain_set_update_loop _];show wpAny _ A.in1 (pyNext (.ref I) >>= _) _ _ s;refine A3 (W.done s _ _ st fun s' hm=>?_);show wpAny _ A.in1 (ret Value.none) _ _ s';exact A6 (hR s' (hm.mono fun b hb=>B3 _ hb) (hS.same fun o e=>hm.heap S _ hw e))
 |k+1=>fun i s hk hi st hS hR=>by
  have hlt:i<n:=by omega
  have hw:S∉wr:=fun h=>hSf (W.sub _ h);have sub:∀b∈wr,b∈S::wr:=fun b hb=>B3 _ hb;refine S6 F.entry_set_update_loop ?_;rw[L9 F.plain_set_update_loop _];show wpAny _ A.in1 (pyNext (.ref I) >>= _) _ _ s;refine A3 (W.item i s _ _ hlt st fun v s' hP st' hm=>?_);obtain⟨⟨t,rfl⟩,v0,v9⟩:=hval i v hP;have hS':=hS.same fun o e=>hm.heap S _ hw e;show wpAny _ A.in1 (holding [Value.int (val i) t] (setAdd S (.int (val i) t)) >>= _) _ _ s';refine A3 (E7 ?_);unfold setAdd;refine E7 (A3 ((intKind prog w).pyHash (k:=val i) (intKind_is _ _ _ _) ?_));have room:(firstMet val i).length+1<scanBound:=by have:=firstMet_length_le val i;omega
  refine aHk (s:={ s' with toks:=s'.toks+1 }) v0 v9 hS' room fun h' r hsb hS2=>?_;rw[<- firstMet_succ]at hS2;refine A6 ⟨Z9 F.plain_set_update_loop _,DE W S hSf val hval hb k (i+1) _ (by omega) hlt (W.frame _ s' _ _ st' (A0f _) fun b hb o e=>?_) hS2 fun s'' hm'' hS''=>?_⟩
  .rw[hsb.2 b (fun h:b=S=>hSf (by rw[<- h];exact hb))];exact e
  .refine hR s'' (Moved.trans W.gtrans ((hm.mono sub).then_heap (A0f _) fun b o hb e=>?_) hm'') hS'';rw[hsb.2 b (fun h:b=S=>hb (by rw[h];exact B5))];exact e
theorem aAt(a:Value){Q1:Value->Shared->Prop}
 (h:Q1 (.ref s.heap.objs.size) { s with heap:=s.heap.push { cls:=.type "set",dict:=none,data:=.set #[] 0 (.fresh 0 0 (!iT w)) } }):
 codeAny (model prog w) A (.call (.builtin "set.__new__") ⟨[.type "set",a],[]⟩) (wants Q1 E) s:=by
 refine codeAny_of_tree ?_;show wpAny _ A.in1 (do checkBuiltinCall "set.__new__" ⟨[.type "set",a],[]⟩;again (.builtin "set.__new__" ⟨[.type "set",a],[]⟩)) _ _ s;refine A3 (wpAny_of_eq (F.newCall_set_1 a) (A6 ⟨Z9 F.plain_set_new _,S6 F.entry_set_new ?_⟩));rw[L9 F.plain_set_new _];unfold Builtin.«set.__new__» Builtin.Frozenset.newClass;have hsub:=sub_set_self;obtain⟨hp,g,d,tk,os⟩:=s;dsimp only at h
 wp_walk
 refine wpAny_askSetting (A6 ?_);dsimp only;simp only[newObj];refine A3 (wpAny_alloc (A6 ?_));exact A6 h
end
theorem slot_si_next:Slot "set_iterator" "__next__" "set_iterator.__next__":=
 .of (owner:="set_iterator") (n:="__next__") (by rw[typeLookup_type,builtinLookup_eq_fast];kernel_rfl) (by decide +kernel) (by decide +kernel) (by decide +kernel)
  (by first|exact .inl (by decide +kernel)|exact .inr (by decide +kernel)) (by rw[isSubtype_type];kernel_rfl)
theorem sT:entryFor table "set_iterator.__next__"=some Builtin.«set_iterator.__next__»:=entryFor_of_tree (by kernel_rfl)
theorem FF:entryFor table "set.__iter__"=some Builtin.«frozenset.__iter__»:=
 entryFor_alias (id':="frozenset.__iter__") (by kernel_rfl) rfl (by decide +kernel) (by kernel_rfl)
theorem uP(a:Value):argsOk "set_iterator.__next__" ⟨[a],[]⟩:=by unfold argsOk;kernel_rfl
def tE(h:Heap)(it a:Addr)(q i n ep:Nat):Prop:=∃o,h.get? it=some o/\o.cls=.type "set_iterator"/\o.data=.fields #[.int q 0,.int i 0,.ref a,.int n 0,.int ep 0]
theorem tE.typeIs{it a:Addr}{q i n ep:Nat}(h:tE s.heap it a q i n ep):s.TypeIs (.ref it) "set_iterator":=let⟨o,ho,hc,_⟩:=h;⟨o,ho,hc⟩
section
variable{prog:Program}{w:World}{A:Around}{E:Value->Shared->Prop}{s:Shared}
theorem uD{Q:Bool->Shared->Prop}(h:Q (iT w) s):wpAny (model prog w) A setsByText Q E s:=by
 unfold setsByText;exact A3 (wpAny_askSetting (A6 h))
theorem sN{a:Addr}{o:Obj}{es:Array (Int×Value)}{ep ep':Nat}{t:SetTable}{q g i:Nat}{Q:Option (Value×Nat)->Shared->Prop}(nt:iT w=false)(ho:s.heap.get? a=some o)(hd:o.data=.set es ep t)(hf:t.fits es.size=true)(led:t.led=true)(pl:t.plain=true)(bl:SetTable.below t.place q=i)(h:Q (match es[i]?,t.place[i]? with|some (_,x),some j=>some (x,j+1)|_,_=>none) s):wpAny (model prog w) A (setNext a q g ep') Q E s:=by
 unfold setNext;refine A3 (A0i ho hd hf ?_);dsimp only;refine A3 (uD ?_);rw[nt,B2 (by decide)];split
 .rename_i c;have c:(!t.plain&&decide (es.size > 1))=true:=c;rw[pl]at c;cases c
 .refine A3 ?_;show wpAny _ _ (if (!t.led&&!es.isEmpty)=true then unsupported "set:maker-not-led" else pure ()) _ _ _;rw[led,B2 (by rw[Bool.not_true,A0o];decide)];refine A6 ?_;rw[bl];exact A6 h
theorem JW{a:Addr}{o:Obj}{es:Array (Int×Value)}{ep:Nat}{t:SetTable}{Q:Array (Int×Value)->Shared->Prop}(nt:iT w=true)(ho:s.heap.get? a=some o)(hd:o.data=.set es ep t)(hf:t.fits es.size=true)(h:Q (pickOrder (w.params.setOrder a ep) es) s):wpAny (model prog w) A (setWalk a) Q E s:=by
 unfold setWalk;refine A3 (A0i ho hd hf ?_);dsimp only;refine A3 (uD ?_);rw[nt];simp only[if_true];exact A3 (wpAny_askSetting (A6 h))
theorem RF{α:Type}{next:Nat->Nat}:∀(fuel k:Nat)(left:List α)(out:Array α),left.length=fuel->(pickOrder.go next fuel k left out).toList.Perm (out.toList++left)
 |0=>fun k left out h=>by
  have:left=[]:=List.length_eq_zero_iff.mp h;subst this;rw[F4];exact List.Perm.refl _
 |fuel+1=>fun k left out h=>by
  have hl:next k % left.length<left.length:=Nat.mod_lt _ (by omega);unfold pickOrder.go;rw[B9 hl];dsimp only;refine(RF fuel (k+1) _ _ (by rw[List.length_eraseIdx,A9 hl];omega)).trans ?_;rw[Array.toList_push,S4];refine List.Perm.append_left _ ?_;rw[List.eraseIdx_eq_take_drop_succ];have pm:=(List.perm_middle (a:=left[next k % left.length]) (l₁:=left.take (next k % left.length)) (l₂:=left.drop (next k % left.length+1))).symm;rw[<- Z1 hl,List.take_append_drop]at pm;exact pm
theorem wK{α:Type}(next:Nat->Nat)(xs:Array α):(pickOrder next xs).toList.Perm xs.toList:=by
 have:=RF (next:=next) xs.size 0 xs.toList #[] (by rw[C6]);simpa[pickOrder]using this
end
section
variable{prog:Program}{w:World}{A:Around}{E:Value->Shared->Prop}{s:Shared}
theorem aGj{h:Heap}{it a:Addr}{q i n ep q':Nat}(hit:tE h it a q i n ep):tE ((h.update it (Obj.mapFields (·.setIfInBounds 0 (rawInt q')))).update it (Obj.mapFields (·.setIfInBounds 1 (rawInt ((i:Int)+1))))) it a q' (i+1) n ep:=by
 obtain⟨o,ho,hc,hd⟩:=hit;have d1:=J3 hd (·.setIfInBounds 0 (rawInt q'));have g1:=E8 (Obj.mapFields (·.setIfInBounds 0 (rawInt q'))) ho (S0 d1);have d2:=J3 d1 (·.setIfInBounds 1 (rawInt ((i:Int)+1)));have g2:=E8 (Obj.mapFields (·.setIfInBounds 1 (rawInt ((i:Int)+1)))) g1 (S0 d2);refine⟨_,g2,(A0h ..).trans ((A0h ..).trans hc),?_⟩;rw[d2];simp[rawInt]
theorem QH{it a:Addr}{q i n ep q':Nat}{o:Obj}{es:Array (Int×Value)}{ep0:Nat}{t:SetTable}{x:Value}{Q:Option Value->Shared->Prop}(hit:tE s.heap it a q i n ep)(ho:s.heap.get? a=some o)(hd:o.data=.set es ep0 t)(hf:t.fits es.size=true)(hn:es.size=n)
 (nx:∀(A:Around)(E:Value->Shared->Prop)(Q:Option (Value×Nat)->Shared->Prop),Q (some (x,q')) s->wpAny (model prog w) A (setNext a q i ep) Q E s)
 (hQ:∀h',tE h' it a q' (i+1) n ep->Heap.SameBut it s.heap h'->Q (some x) { s with heap:=h' }):wpAny (model prog w) A (pyNext (.ref it)) Q E s:=by
 obtain⟨oi,hoi,hci,hdi⟩:=id hit;have d1:=J3 hdi (·.setIfInBounds 0 (rawInt q'));have g1:=E8 (Obj.mapFields (·.setIfInBounds 0 (rawInt q'))) hoi (S0 d1);unfold pyNext;refine A3 (Z0 (E6 (name:=Str.ofString "__next__") hit.typeIs slot_si_next (E4 slot_si_next hit.typeIs sT ?_ (uP _))));unfold Builtin.«set_iterator.__next__»;refine A3 (m:=slotArgs "__next__" 0 _) (A6 ?_);refine A3 (wpAny_fieldsOf hoi hdi ?_);dsimp only;refine A3 (wpAny_setEntries_of ho hd hf ?_);have ne:(((es.size:Nat):Int) != (n:Int))=false:=by rw[hn];simp
 rw[ne,B2 (by decide)];dsimp only[Int.toNat_natCast];refine A3 (nx _ _ _ ?_);dsimp only;refine A3 (O7 hoi hdi (by simp) ?_);refine A3 (O7 g1 d1 (by simp) ?_);exact A6 ⟨x,rfl,A6 (hQ _ (aGj hit) ((J7 ..).trans (J7 ..)))⟩
theorem ZR{it a:Addr}{q i n ep:Nat}{o:Obj}{es:Array (Int×Value)}{ep0:Nat}{t:SetTable}{Q:Option Value->Shared->Prop}(hh:A.handled=none)(hit:tE s.heap it a q i n ep)(ho:s.heap.get? a=some o)(hd:o.data=.set es ep0 t)(hf:t.fits es.size=true)(hn:es.size=n)
 (nx:∀(A:Around)(E:Value->Shared->Prop)(Q:Option (Value×Nat)->Shared->Prop),Q none s->wpAny (model prog w) A (setNext a q i ep) Q E s)
 (hQ:∀h',Heap.ExtBut it s.heap h'->Q none { s with heap:=h' }):wpAny (model prog w) A (pyNext (.ref it)) Q E s:=by
 obtain⟨oi,hoi,hci,hdi⟩:=id hit;unfold pyNext;refine A3 (Z0 (E6 (name:=Str.ofString "__next__") hit.typeIs slot_si_next (E4 slot_si_next hit.typeIs sT ?_ (uP _))));unfold Builtin.«set_iterator.__next__»;refine A3 (m:=slotArgs "__next__" 0 _) (A6 ?_);refine A3 (wpAny_fieldsOf hoi hdi ?_);dsimp only;refine A3 (wpAny_setEntries_of ho hd hf ?_);have ne:(((es.size:Nat):Int) != (n:Int))=false:=by rw[hn];simp
 rw[ne,B2 (by decide)];dsimp only[Int.toNat_natCast];refine A3 (nx _ _ _ ?_);dsimp only;refine A3 (O7 hoi hdi (by simp) (A3 ?_));simp only[newExc,newTuple];refine A3 (C4 (A3 (m:=firstArgMember _ _) (wpAny_of_eq (a:=Value.none) (by simp only[firstArgMember];rfl) (C4 ?_ (by size_fits)))) (by size_fits));simp only[raiseNew];refine A3 (wpAny_handled ?_);rw[show A.in1.handled=none from hh];refine A3 (A6 (wpAny_throw ?_));refine A3 (Y4 (b:=true) (T:="StopIteration") ⟨_,B6 _ rfl,rfl⟩ isSubtype_stop ?_);exact A6 (hQ _ (((J7 ..).extBut.push _).push _))
theorem OB{a:Addr}{o:Obj}{es:Array (Int×Value)}{ep:Nat}{t:SetTable}{Q:Bool->Shared->Prop}(ho:s.heap.get? a=some o)(hd:o.data=.set es ep t)(hf:t.fits es.size=true)(dr:iT w=true\/t.plain=true)(h:Q false s):wpAny (model prog w) A (setDrawn a) Q E s:=by
 unfold setDrawn;refine A3 (A0i ho hd hf ?_);dsimp only;refine A3 (uD (A6 ?_));show Q (!iT w&&(!t.plain&&decide (es.size > 1))) s;rcases dr with e|e
 .rw[e];exact h
 .rw[e,Bool.not_true,A0o,Bool.and_false];exact h
theorem PK{a:Addr}{o:Obj}{es:Array (Int×Value)}{ep:Nat}{t:SetTable}{Q:Value->Shared->Prop}(ho:s.heap.get? a=some o)(hx:o.ExactSet)(hd:o.data=.set es ep t)(hf:t.fits es.size=true)(dr:iT w=true\/t.plain=true)
 (h:Q (.ref s.heap.objs.size) { s with heap:=s.heap.push { cls:=.type "set_iterator",data:=.fields #[.int 0 0,.int 0 0,.ref a,.int es.size 0,.int ep 0] } }):wpAny (model prog w) A (pyIter (.ref a)) Q E s:=by
 have ty:s.TypeIs (.ref a) "set":=⟨o,ho,hx.1⟩;refine wpAny_pyIter_slot ty F.slot_set_iter (E4 F.slot_set_iter ty FF ?_ (F.args_set_iter_1 _));unfold Builtin.«frozenset.__iter__» Builtin.Frozenset.slot0 Builtin.Frozenset.sizeOf;refine A3 (A3 (m:=slotArgs "__iter__" 0 _) (A6 ?_));refine A6 ?_;refine A3 (A3 (wpAny_setEntries_of ho hd hf (A6 ?_)));refine A3 (OB ho hd hf dr ?_);rw[B2 (by decide)];refine A3 (A6 ?_);refine A3 (wpAny_setEpoch_of ho hd hf ?_);refine A3 (C4 (A6 ⟨_,rfl,_,_,⟨_,B6 _ rfl,rfl⟩,slot_si_next.lookup,?_⟩));exact h
end
theorem uA:Slot "set_iterator" "__iter__" "set_iterator.__iter__":=
 .of (owner:="set_iterator") (n:="__iter__") (by rw[typeLookup_type,builtinLookup_eq_fast];kernel_rfl) (by decide +kernel) (by decide +kernel) (by decide +kernel)
  (by first|exact .inl (by decide +kernel)|exact .inr (by decide +kernel)) (by rw[isSubtype_type];kernel_rfl)
theorem BW:entryFor table "set_iterator.__iter__"=some Builtin.«dict_keyiterator.__iter__»:=
 entryFor_alias (id':="dict_keyiterator.__iter__") (by kernel_rfl) rfl (by decide +kernel) (by kernel_rfl)
theorem FD(a:Value):argsOk "set_iterator.__iter__" ⟨[a],[]⟩:=by unfold argsOk;kernel_rfl
section
variable{prog:Program}{w:World}{A:Around}{E:Value->Shared->Prop}{s:Shared}
theorem OZ{it a:Addr}{q i n ep:Nat}{Q:Value->Shared->Prop}(hit:tE s.heap it a q i n ep)(h:Q (.ref it) s):wpAny (model prog w) A (pyIter (.ref it)) Q E s:=by
 refine wpAny_pyIter_slot hit.typeIs uA (E4 uA hit.typeIs BW ?_ (FD _));show wpAny _ _ (ret (.ref it)) _ _ s;exact A6 ⟨_,rfl,"set_iterator",_,hit.typeIs,slot_si_next.lookup,h⟩
theorem tE.at{h h':Heap}{it a:Addr}{q i n ep:Nat}(x:tE h it a q i n ep)(k:∀o,h.get? it=some o->h'.get? it=some o):tE h' it a q i n ep:=let⟨o,ho,r⟩:=x;⟨o,k o ho,r⟩
theorem wZ{a:Addr}{o:Obj}{es:Array (Int×Value)}{ep:Nat}{t:SetTable}{q g:Nat}{Q:Option (Value×Nat)->Shared->Prop}(nt:iT w=true)(ho:s.heap.get? a=some o)(hd:o.data=.set es ep t)(hf:t.fits es.size=true)(h:Q (((pickOrder (w.params.setOrder a ep) es)[g]?).map fun e=>(e.2,q)) s):wpAny (model prog w) A (setNext a q g ep) Q E s:=by
 unfold setNext;refine A3 (A0i ho hd hf ?_);dsimp only;refine A3 (uD ?_);rw[nt,A9 rfl,B2 (by simp)];exact A3 (JW nt ho hd hf (A6 h))
theorem aAc(hh:A.handled=none){I a:Addr}{o:Obj}{es:Array (Int×Value)}{ep:Nat}{t:SetTable}(ne:a≠I)(nt:iT w=true)(hd:o.data=.set es ep t)(hf:t.fits es.size=true):
 Walks prog w A I [I,a] [I] es.size (fun i v=>((pickOrder (w.params.setOrder a ep) es)[i]?).map (·.2)=some v) (fun i h=>tE h I a 0 i es.size ep/\h.get? a=some o) where
 sub:=fun b hb=>by simp at hb;simp[hb]
 frame:=fun _ _ _ st hk=>⟨st.1.at fun o e=>hk I (by simp) o e,hk a (by simp) o st.2⟩
 item:=fun i s Q E hi st hQ=>by
  have sz:(pickOrder (w.params.setOrder a ep) es).size=es.size:=by rw[<- C6,(wK _ _).length_eq,C6]
  have hx:(pickOrder (w.params.setOrder a ep) es)[i]?=some (pickOrder (w.params.setOrder a ep) es)[i]:=E5 (by omega);refine QH st.1 st.2 hd hf rfl (fun A E Q h=>wZ nt st.2 hd hf (by rw[hx];exact h)) fun h' x sb=>?_;exact hQ _ h' s.toks (by rw[hx];rfl) ⟨x,sb.extBut a o ne st.2⟩ fun b o hb e=>sb.extBut b o (fun h=>hb (by simp[h])) e
 done:=fun s Q E st hQ=>by
  have sz:(pickOrder (w.params.setOrder a ep) es).size=es.size:=by rw[<- C6,(wK _ _).length_eq,C6]
  have hx:(pickOrder (w.params.setOrder a ep) es)[es.size]?=none:=O0 (by omega);exact ZR hh st.1 st.2 hd hf rfl (fun A E Q h=>wZ nt st.2 hd hf (by rw[hx];exact h)) fun h' he=>hQ h' s.toks fun b o hb e=>he b o (fun h=>hb (by simp[h])) e
 self:=fun _ _ _ _ st hQ=>OZ st.1 hQ
theorem LW(hh:A.handled=none){I a:Addr}{o:Obj}{es:Array (Int×Value)}{ep:Nat}{t:SetTable}(ne:a≠I)(nt:iT w=false)(hd:o.data=.set es ep t)(hf:t.fits es.size=true)(led:t.led=true)(pl:t.plain=true)(R:Rsg t.place):
 Walks prog w A I [I,a] [I] es.size (fun i v=>(es[i]?).map (·.2)=some v) (fun i h=>∃q,SetTable.below t.place q=i/\tE h I a q i es.size ep/\h.get? a=some o) where
 sub:=fun b hb=>by simp at hb;simp[hb]
 frame:=fun _ _ _ st hk=>let⟨q,e,x,y⟩:=st;⟨q,e,x.at fun o e=>hk I (by simp) o e,hk a (by simp) o y⟩
 item:=fun i s Q E hi st hQ=>by
  obtain⟨q,bl,x,y⟩:=st
  have ps:t.place.size=es.size:=by
   unfold SetTable.fits at hf;rw[B7]at hf;exact C9 (by simpa using hf.1)
  have hx:es[i]?=some es[i]:=E5 hi;have hp:t.place[i]?=some t.place[i]:=E5 (by omega);refine QH (x:=es[i].2) (q':=t.place[i]+1) x y hd hf rfl (fun A E Q h=>sN nt y hd hf led pl bl (by rw[hx,hp];exact h)) fun h' x' sb=>?_
  have nb:SetTable.below t.place (t.place[i]+1)=i+1:=by
   have:=NM R (i:=i) (by omega);rw[C5,hp]at this;exact this
  exact hQ _ h' s.toks (by rw[hx];rfl) ⟨_,nb,x',sb.extBut a o ne y⟩ fun b o hb e=>sb.extBut b o (fun h=>hb (by simp[h])) e
 done:=fun s Q E st hQ=>by
  obtain⟨q,bl,x,y⟩:=st;have hx:es[es.size]?=none:=O0 (B0 _);exact ZR hh x y hd hf rfl (fun A E Q h=>sN nt y hd hf led pl bl (by rw[hx];exact h)) fun h' he=>hQ h' s.toks fun b o hb e=>he b o (fun h=>hb (by simp[h])) e
 self:=fun _ _ _ _ st hQ=>let⟨_,_,x,_⟩:=st;OZ x hQ
end
abbrev fD(w:World):Obj:={ cls:=.type "set",dict:=none,data:=.set #[] 0 (.fresh 0 0 (!iT w)) }
section
variable{prog:Program}{w:World}{A:Around}{E:Value->Shared->Prop}{s:Shared}
theorem aAo{x:Value}{Q:Value->Shared->Prop}
 (hi:wpAny (model prog w) A.in1.in1 (Builtin.«set.__init__» ⟨[.ref s.heap.objs.size,x],[]⟩) (fun fin s'=>fin=.done (.ret .none)/\Q (.ref s.heap.objs.size) s') (fun _ _=>False) { s with heap:=s.heap.push (fD w) }):
 wpAny (model prog w) A (call (.type "set") [x]) Q E s:=by
 have TC:=PySem.F.called_set;obtain⟨c0,tl0,m0⟩:=TC.mro;have m1:=TC.made;have m2:=TC.sub;have m3:=TC.notType;have m4:=TC.canCreate;have m5:=PySem.F.typeCall_set_1 x;refine wpAny_call (codeAny_of_tree (?_:wpAny _ _ (callAny (.type "set") _) _ _ _));refine A6 ⟨Code.quiet_builtin _ (by decide +kernel),S6 PySem.F.entry_type_call ?_⟩;rw[Around.under_plain (weight_type_call_type "set" [x] []) rfl]
 repeat any_goals first|assumption|wp_step
 refine Y6 (aAt (A:=A.in1) (E:=E) x (Q1:=fun v s1=>v=.ref s.heap.objs.size/\s1={ s with heap:=s.heap.push (fD w) }) ⟨rfl,rfl⟩) fun r s1 hr=>?_;rcases r with e|fl
 .exact hr
 rcases fl with _|_|_|v
 all_goals first|(exact False.elim hr)|skip
 obtain⟨rfl,rfl⟩:=hr;have ty:Shared.TypeIs { s with heap:=s.heap.push (fD w) } (.ref s.heap.objs.size) "set":=⟨_,B6 _ rfl,rfl⟩;have n1:=TC.init.lookup;have n2:=TC.init.bind (.ref s.heap.objs.size)
 repeat any_goals first|assumption|wp_step
 refine Y6 (codeAny_call_builtin (R:=wants (fun r s'=>r=.none/\Q (.ref s.heap.objs.size) s') fun _ _=>False) TC.init.plain PySem.F.entry_set_init (check_set_init_1 ty ?_)) fun r2 s2 h2=>?_
 .refine E3 hi (fun fin s' h=>?_) fun _ _ h=>h;obtain⟨rfl,h⟩:=h;exact⟨rfl,h⟩
 .rcases r2 with e|fl
  .exact False.elim h2
  rcases fl with _|_|_|v
  all_goals first|(exact False.elim h2)|skip
  obtain⟨rfl,h2⟩:=h2
  repeat any_goals first|assumption|wp_step
end
section
variable{prog:Program}{w:World}{A:Around}{E:Value->Shared->Prop}{s:Shared}
theorem IR{T:String}{S l:Addr}{items:Array Value}{val:Nat->Int}{oI:Obj}{St:Nat->Heap->Prop}{Q:Shared->Prop}
 (hS:s.heap.get? S=some (fD w)) (nSl:S≠l) (ty:s.TypeIs (.ref l) T) (f1:isSubtype (.type T) (.type "set")=pure false) (f2:isSubtype (.type T) (.type "frozenset")=pure false) (f3:(Value.type T==Value.type "dict")=false)
 (it:∀(A:Around)(E:Value->Shared->Prop)(Q:Value->Shared->Prop),Q (.ref s.heap.objs.size) { s with heap:=s.heap.push oI }->wpAny (model prog w) A (pyIter (.ref l)) Q E s)
 (W:Walks prog w A.in1 s.heap.objs.size [s.heap.objs.size,l] [s.heap.objs.size] items.size (fun i v=>items[i]?=some v) St) (st:St 0 (s.heap.push oI))
 (hval:∀(i:Nat)(v:Value),items[i]?=some v->(∃t,v=.int (val i) t)/\0<=val i/\val i<9) (hb:items.size+1<scanBound)
 (h:∀(h':Heap)(tk:Nat),BF prog w (!iT w) h' S (firstMet val items.size)->(∀b o,b≠S->s.heap.get? b=some o->h'.get? b=some o)->Q { s with heap:=h',toks:=tk }):
 wpAny (model prog w) A (Builtin.«set.__init__» ⟨[.ref S,.ref l],[]⟩) (fun fin s'=>fin=.done (.ret .none)/\Q s') (fun _ _=>False) s:=by
 have sS:S<s.heap.objs.size:=A8 hS;have tyS:s.TypeIs (.ref S) "set":=⟨_,hS,rfl⟩;unfold Builtin.«set.__init__» noKeywords Builtin.Frozenset.updateFrom;generalize hp:@pyIter=PI
 wp_walk using Y7 ty,Y4 ty f1,Y4 ty f2
 subst hp;refine it _ _ _ (A3 (wpAny_runValue ?_))
 have ne:S∉[s.heap.objs.size,l]:=fun hm=>by
  rcases List.mem_cons.mp hm with e|hm
  .exact B8 sS e
  .exact nSl (List.mem_singleton.mp hm)
 refine DE (b:=!iT w) W.toS S ne val hval hb items.size 0 _ rfl (J4 _) st ⟨#[],⟨_,0,_,A4 _ hS,⟨rfl,rfl,rfl⟩,rfl,by rfl,Tp.fresh _⟩,(fun e he=>by simp at he),by decide,List.Perm.refl _⟩ fun s' hm hS'=>?_;have es:=Moved.eq_with hm;rw[es];refine A6 (A6 ⟨rfl,h _ _ hS' fun b o hb e=>hm.heap b o (fun hc=>?_) (A4 _ e)⟩);rcases List.mem_cons.mp hc with q|q
 .exact hb q
 .have:=A8 e;rw[List.mem_singleton.mp q]at this;exact J1 _ this
def QF(h:Heap)(l:Addr)(items:Array Value)(ns:List Int):Prop:=(h.IsList l items\/h.IsTuple l items)/\IntsAre items.toList ns/\(∀n∈ns,0<=n/\n<9)/\ns.length<1000
theorem aAN{l:Addr}{items:Array Value}{ns:List Int}{Q:Value->Shared->Prop}(hh:A.handled=none)(hq:QF s.heap l items ns)
 (h:∀(h':Heap)(tk:Nat),BF prog w (!iT w) h' s.heap.objs.size (firstMet (fun i=>ns.getD i 0) ns.length)->(∀b o,s.heap.get? b=some o->h'.get? b=some o)->Q (.ref s.heap.objs.size) { s with heap:=h',toks:=tk }):
 wpAny (model prog w) A (call (.type "set") [.ref l]) Q E s:=by
 obtain⟨hk,hi,hn,h1⟩:=hq;have sz:items.size=ns.length:=by rw[<- C6];exact hi.length
 have hh3:A.in1.in1.in1.handled=none:=hh
 have hval:∀(i:Nat)(v:Value),items[i]?=some v->(∃t,v=.int (ns.getD i 0) t)/\0<=ns.getD i 0/\ns.getD i 0<9:=fun i v hv=>by
  have lt:i<ns.length:=by
   rw[<- sz];exact(Array.getElem?_eq_some_iff.mp hv).1
  refine⟨IntsAre.int_at hi i v (by rw[E1];exact hv),hn _ ?_⟩;rw[D4,B9 lt];exact Y1 lt
 have new:(s.heap.push (fD w)).get? s.heap.objs.size=some (fD w):=B6 _ rfl;have kp:∀b o,s.heap.get? b=some o->(s.heap.push (fD w)).get? b=some o:=fun b o e=>A4 _ e;have bd:items.size+1<scanBound:=by unfold scanBound;omega
 rw[<- sz]at h;refine aAo ?_;rcases hk with hl|hl
 .have lt:l<s.heap.objs.size:=by obtain⟨o,ho,_⟩:=hl;exact A8 ho
  have hl1:(s.heap.push (fD w)).IsList l items:=hl.push _;exact IR (s:={ s with heap:=s.heap.push (fD w) }) new (J0 lt) hl1.typeIs F.sub_list_set F.sub_list_frozenset (by decide) (fun A E Q h=>wpAny_pyIter_list hl1 h) (Walks.list hh3 _ l (by rw[O6];exact B8 (Nat.lt_succ_of_lt lt)) items) ⟨⟨_,B6 _ rfl,rfl,rfl⟩,hl1.push _⟩ hval bd fun h' tk S' k'=>h h' tk S' fun b o e=>k' b o (B8 (A8 e)) (kp b o e)
 .have lt:l<s.heap.objs.size:=by obtain⟨o,ho,_⟩:=hl;exact A8 ho
  have hl1:(s.heap.push (fD w)).IsTuple l items:=hl.at fun o e=>kp _ o e;exact IR (s:={ s with heap:=s.heap.push (fD w) }) new (J0 lt) hl1.typeIs F.sub_tuple_set F.sub_tuple_frozenset (by decide) (fun A E Q h=>U4 hl1 h) (Walks.tuple hh3 _ l (by rw[O6];exact B8 (Nat.lt_succ_of_lt lt)) items) ⟨⟨_,B6 _ rfl,rfl,rfl⟩,hl1.at fun o e=>A4 _ e⟩ hval bd fun h' tk S' k'=>h h' tk S' fun b o e=>k' b o (B8 (A8 e)) (kp b o e)
theorem YV{r:Addr}{Q:Bool->Shared->Prop}(ty:s.TypeIs (.ref r) "set")(h:Q false s):wpAny (model prog w) A (Builtin.List.listLengthHint (.ref r)) Q E s:=by
 unfold Builtin.List.listLengthHint;refine A3 (wpAny_specialOf ty PySem.F.slot_set_len.lookup ?_);generalize ei:("set.__len__":String)=sl
 wp_delta
 have sp:splitId sl=some ("set","__len__"):=by subst ei;decide +kernel
 rw[sp];subst ei;refine A3 (Y4 (T:="set") (b:=true) ty (by rw[isSubtype_type];kernel_rfl) (wpAny_ite_split (fun c=>absurd c (by decide)) fun _=>wpAny_ite_split (fun _=>?_) fun c=>absurd (by decide +kernel) c));exact A3 (Y7 ty (A6 h))
theorem aDp{a:Addr}{o:Obj}{es:Array (Int×Value)}{ep:Nat}{t:SetTable}(hx:o.ExactSet)(hd:o.data=.set es ep t)(hf:t.fits es.size=true)(T:Tp (!iT w) t es):
 ∃us:List Value,us.Perm (es.toList.map (·.2))/\PySem.W.KdlSrc prog w "set" a a es.size (fun i v=>us[i]?=some v) (fun h=>h.get? a=some o):=by
 obtain⟨pl,led,R⟩:=T.plain
 have base:∀us:List Value,(∀(A:Around)(s:Shared),A.handled=none->s.heap.get? a=some o->∃(oI:Obj)(St:Nat->Heap->Prop),(∀(E:Value->Shared->Prop)(Q:Value->Shared->Prop),Q (.ref s.heap.objs.size) { s with heap:=s.heap.push oI }->wpAny (model prog w) A (pyIter (.ref a)) Q E s)/\Walks prog w A s.heap.objs.size [s.heap.objs.size,a] [s.heap.objs.size] es.size (fun i v=>us[i]?=some v) St/\St 0 (s.heap.push oI))->PySem.W.KdlSrc prog w "set" a a es.size (fun i v=>us[i]?=some v) (fun h=>h.get? a=some o):=fun us it=>
  ⟨fun s ho=>⟨o,ho,hx.1⟩,fun h ho=>⟨A8 ho,A8 ho⟩,fun h h' ho k=>k a (.inl rfl) o ho,by decide,by decide,fun A E s Q ho q=>YV ⟨o,ho,hx.1⟩ q,it⟩
 cases nt:iT w with
 |true=>
  refine⟨((pickOrder (w.params.setOrder a ep) es).toList.map (·.2)),(wK _ _).map _,base _ fun A s hh ho=>?_⟩;have W:=aAc (prog:=prog) hh (a:=a) (I:=s.heap.objs.size) (B8 (A8 ho)) nt hd hf;refine⟨_,fun i h=>tE h s.heap.objs.size a 0 i es.size ep/\h.get? a=some o,fun E Q q=>PK ho hx hd hf (.inl nt) q,?_,⟨_,B6 _ rfl,rfl,rfl⟩,A4 _ ho⟩
  have e:(fun(i:Nat)(v:Value)=>((pickOrder (w.params.setOrder a ep) es).toList.map (·.2))[i]?=some v)=fun i v=>((pickOrder (w.params.setOrder a ep) es)[i]?).map (·.2)=some v:=by
   funext i v;rw[C8,E1]
  rw[e];exact W
 |false=>
  refine⟨es.toList.map (·.2),.refl _,base _ fun A s hh ho=>?_⟩;have W:=LW (prog:=prog) hh (a:=a) (I:=s.heap.objs.size) (B8 (A8 ho)) nt hd hf (by rw[led,nt];rfl) pl R;refine⟨_,fun i h=>∃q,SetTable.below t.place q=i/\tE h s.heap.objs.size a q i es.size ep/\h.get? a=some o,fun E Q q=>PK ho hx hd hf (.inr pl) q,?_,0,NU R,⟨_,B6 _ rfl,rfl,rfl⟩,A4 _ ho⟩
  have e:(fun(i:Nat)(v:Value)=>(es.toList.map (·.2))[i]?=some v)=fun i v=>(es[i]?).map (·.2)=some v:=by
   funext i v;rw[C8,E1]
  rw[e];exact W
end
def lE(ns:List Int):List Int:=ns.foldl step_dedup []
theorem oJ(ns:List Int):firstMet (fun i=>ns.getD i 0) ns.length=lE ns:=by
 unfold firstMet lE;congr 1;refine A0a fun i=>?_;rw[C8];by_cases h:i<ns.length
 .rw[List.getElem?_range h,B9 h];simp[h]
 .rw[S9 (by simp;omega),S9 (by omega)];rfl
section
variable{X:Cx}{a:Expr}{ta:TA}{p p' pos pos':Pos}
theorem aBd{pins:List (Addr×Obj)}{Q:VK}{c:Addr}{ms:List Int}(hc:X.calm=true)(I:Inv X pins σ H s)(hS:BF X.prog X.w (!iT X.w) s.heap c ms)(h64:ms.length<64)
 (q:∀l,H l=none->Q (.ref l) (upd H l (.lst ((gG ms).map .int)))):wpAny (model X.prog X.w) X.A (call (.builtin "sorted") [.ref c]) (fun v s'=>∃x H',Inv X pins σ H' s'/\RelV x v/\Q x H') X.xe s:=by
 obtain⟨es,⟨o,ep,t,ho,hx,hd,hf,T⟩,el,sm,pm⟩:=hS;obtain⟨us,pu,src⟩:=aDp (prog:=X.prog) (a:=c) hx hd hf T;obtain⟨m,F⟩:=I.fr;have N:News X.base X.env.locals s.heap (lL X.base s.heap X.env.locals):=LF;have len:es.size=ms.length:=by rw[<- C6,<- pm.length_eq,A7]
 have ul:us.length=es.size:=by rw[pu.length_eq,A7,C6]
 refine PySem.W.kdu_sorted src (I.ok.hd hc) F N ho (by rw[len,F0];omega) fun D h' tk ws F' N' hD hlen hw=>?_
 have wu:ws=us:=by
  refine A0a fun i=>?_;cases e:ws[i]? with
  |some v=>exact(hw i v e).symm
  |none=>
   have:=List.getElem?_eq_none_iff.mp e;rw[S9 (by omega)]
 subst wu
 have hi:IntsAre ws (ws.map vI):=OR (by rw[A7]) fun j v i e1 e2=>by
  rw[C8,e1]at e2;cases e2;obtain⟨e,he,rfl⟩:=List.mem_map.mp (pu.mem_iff.mp (O9 e1));exact VQ el he
 have pmw:(ws.map vI).Perm ms:=by
  refine(pu.map vI).trans ?_;rw[J6];exact pm
 refine PySem.W.ksk_lsort (its:=ws.toArray) (n:=0) (news':=fun o=>(D,o)::lL X.base s.heap X.env.locals) F' N' (fun o=>.head fun p hp=>B8 (hD p hp)) (by simp) hi (by rw[pmw.length_eq];exact h64) fun ws' ns' c' h'' F'' N'' hi' _ pm' pw _=>?_
 have hsz:s.heap.get? D=none:=by
  have hN:=N'' _ B5;cases e:s.heap.get? D with
  |none=>rfl
  |some o=>exact absurd (hD (D,o) (lF hN.2.1 hN.2.2 e)) (J1 _)
 have kp:∀b o,b≠X.env.locals->s.heap.get? b=some o->h''.get? b=some o:=fun b o hb e=>by
  cases z:X.base.get? b with
  |some v=>
   have:=I.bk b v z;rw[e]at this;cases this;exact F''.keep b _ z
  |none=>exact(N'' (b,o) (B3 _ (lF hb z e))).1
 have eq:ns'=gG ms:=vP pw (oF ms) ((pm'.trans pmw).trans (kS ms).symm);subst eq;have hz:((gG ms).map V.int).length<=sizeLine:=by rw[A7,(kS ms).length_eq,F0];omega
 have I2:Inv X pins σ (upd H D (.lst ((gG ms).map .int))) { s with heap:=h'' }:=I.laidL kp (fun m' hm'=>by rw[<- PF F.ns hm'];exact F''.ns) hsz ⟨hz,ws',c',CO hi',(N'' _ B5).1⟩;exact⟨.ref D,_,I2.tok tk,rfl,q D (I.hok.none hsz)⟩
def WK(K:Fg)(ta:TA):TE:=fun σ H Q=>ta σ H fun vs H1=>∃(p:Addr)(ns:List Int),vs=[.ref p]/\(SqL K H1 p (ns.map .int)\/SqT K H1 p (ns.map .int))/\(∀n∈ns,0<=n/\n<9)/\ns.length<64/\∀l,H1 l=none->Q (.ref l) (upd H1 l (.lst ((gG (lE ns)).map .int)))
theorem aBi(ns:List Int):(lE ns).length<=ns.length:=by
 rw[<- oJ];exact firstMet_length_le _ _
theorem aCZ(hc:X.calm=true)(hg:Gl X "set")(hm:X.mg "set"=none)(hgl:Gl X "sorted")(hml:X.mg "sorted"=none)(ha:PA X [a] ta)(hs:starEach [a] X.env=[(false,eval a X.env)]):
 PE X (.Call (.Name "sorted" p) [.Call (.Name "set" p') [a] [] pos'] [] pos) (WK X.K ta):=by
 intro pins s σ H Q I h;refine L7 (iR I hgl hml (u:=.builtin "sorted") (by decide +kernel) ?_ (by decide) (by decide));refine A0e ?_ rP rfl;rw[rP];show wpAny _ _ (spliced ((false,eval (.Call (.Name "set" p') [a] [] pos') X.env)::[])) _ _ s;refine A0s ?_;refine Call_ (iR I hg hm (u:=.type "set") (by decide +kernel) (F7 (thn (ha pos' pins s σ H _ I h) fun us s1 ⟨vs,H1,I1,r1,q1⟩=>?_) hs rfl));obtain⟨j,ns,e,sq,hn,h64,q⟩:=q1;subst e;cases r1 with
 |cons r rr=>
  cases rr;cases r
  have sm:∃items,QF s1.heap j items ns:=by
   rcases sq with sq|sq
   .obtain⟨its,rv,pl,hz⟩:=I1.list sq;exact⟨its.toArray,.inl pl.isList,by simpa using intsAre_of rv,hn,by omega⟩
   .obtain⟨its,rv,pl,hz⟩:=I1.tuple sq;exact⟨its.toArray,.inr pl,by simpa using intsAre_of rv,hn,by omega⟩
  obtain⟨items,sm⟩:=sm;refine aAN (I1.ok.hd hc) sm fun h' tk S' k'=>Calls.spliced_nil ?_;rw[oJ]at S';exact aBd hc (I1.kept (t':=tk) k') S' (by have:=aBi ns;omega) q
end
def EW(ns:List Int):Bool:=ns.all fun n=>decide (0<=n)&&decide (n<9)
theorem UI{ns:List Int}(h:EW ns=true):∀n∈ns,0<=n/\n<9:=fun n hn=>by
 have:=List.all_eq_true.mp h n hn;simpa using this
section
variable{K:Fg}{tA:TA}{fa:AF}
def IJ(ds:List PyData)(M:Sto):Option (CD×Sto):=(oR ds).bind fun ns=>if EW ns=true/\ns.length<64 then some (.d (.list ((gG (lE ns)).map .int)),M)else none
def CT(f:AF):EF:=fun γ M=>(f γ M).bind fun r=>match r.1 with
 |[.d (.list ds)]=>IJ ds r.2
 |[.d (.tuple ds)]=>IJ ds r.2
 |_=>none
theorem aBB(b:SA K tA fa):SE K (WK K tA) (CT fa):=by
 intro γ M x M' hh W H σ Q G R k;obtain⟨⟨ys,M1⟩,h1,hh⟩:=aI hh;refine b _ _ _ _ h1 W H σ _ G R fun vs W1 H1 e1 G1 r1=>?_
 have fin:∀(ds:List PyData)(p:Addr)(us:List V),IJ ds M1=some (x,M')->aJ K W1.F ds us->vs=[.ref p]->(SqL K W1.F p us\/SqT K W1.F p us)->∃(p:Addr)(ns:List Int),vs=[.ref p]/\(SqL K H1 p (ns.map .int)\/SqT K H1 p (ns.map .int))/\(∀n∈ns,0<=n/\n<9)/\ns.length<64/\∀l,H1 l=none->Q (.ref l) (upd H1 l (.lst ((gG (lE ns)).map .int))):=fun ds p us hs hr hv hq=>by
  obtain⟨ns,h2,hs⟩:=aI hs;by_cases hc:EW ns=true/\ns.length<64
  .rw[A9 hc]at hs;cases hs;rw[AQ h2]at hr;rw[qS hr]at hq;refine⟨p,ns,hv,hq.imp (fun h=>G1.fh.seq h) (fun h=>G1.fh.seqT h),UI hc.1,hc.2,fun l hl=>?_⟩;obtain⟨e2,G2⟩:=G1.lay (o:=.lst ((gG (lE ns)).map .int)) hl;exact k _ _ _ (e1.trans e2) G2 ⟨l,_,rfl,SqL.of aO,aAU _⟩
  .rw[B2 hc]at hs;cases hs
 revert hh;dsimp only;split
 .rename_i ds;intro hh;rcases r1 with _|⟨r1,_|_⟩;obtain⟨p,us,rfl,hq,hr⟩:=(show ∃a us,_=V.ref a/\SqL K W1.F a us/\aJ K W1.F ds us from r1);exact fin ds p us hh hr rfl (.inl hq)
 .rename_i ds;intro hh;rcases r1 with _|⟨r1,_|_⟩;obtain⟨p,us,rfl,hq,hr⟩:=(show ∃a us,_=V.ref a/\SqT K W1.F a us/\aJ K W1.F ds us from r1);exact fin ds p us hh hr rfl (.inr hq)
 .intro hh;cases hh
theorem aDf{ι:Type}{X:ι->Cx}{a:Expr}{p p' pos pos':Pos}(hK:∀i,(X i).K=K)(hc:∀i,(X i).calm=true)(hm:∀i,(X i).mg "set"=none)(hml:∀i,(X i).mg "sorted"=none)(x:MA K X [a] fa)(hg:∀i,Gl (X i) "set":=by intro _;rfl)(hgl:∀i,Gl (X i) "sorted":=by intro _;rfl):
 ME K X (.Call (.Name "sorted" p) [.Call (.Name "set" p') [a] [] pos'] [] pos) (CT fa):=by
 obtain⟨t,x1,x2⟩:=x.ex
 exact⟨WK K t,fun i=>by
  have:=aCZ (p:=p) (p':=p') (pos:=pos) (pos':=pos') (hc i) (hg i) (hm i) (hgl i) (hml i) (x1 i) (x.st.1 _);rw[hK i]at this;exact this,aBB x2⟩
end
end L2
namespace PySem
section
variable{prog:Program}{w:World}{A:Around}{E:Value->Shared->Prop}{s:Shared}
structure HF(z TO i1 i2 l:Addr):Prop where
 z:l≠z
 o:l≠TO
 a:l≠i1
 b:l≠i2
section
variable{z TI TO i1 i2 l1 l2:Addr}{k n1 n2:Nat}{P1 P2:Nat->Value->Prop}{S1 S2:Nat->Heap->Prop}{a b:Value}
theorem aBh{Q:Value->Shared->Prop}(D:L2.Apart5 z TI TO i1 i2)(f1:HF z TO i1 i2 l1)(f2:HF z TO i1 i2 l2)(D1:Draws prog w A i1 [i1,l1] n1 P1 S1)(D2:Draws prog w A i2 [i2,l2] n2 P2 S2)
 (hz:IsZip s.heap z TI TO .none) (hI:IsPair s.heap TI (.ref i1) (.ref i2)) (hO:IsPair s.heap TO a b) (t1:S1 k s.heap) (t2:S2 k s.heap) (k1:k<n1) (k2:k<n2)
 (hQ:∀h' tk x y,P1 k x->P2 k y->IsZip h' z TI TO (rawInt s.heap.objs.size)->IsPair h' TO x y->S1 (k+1) h'->S2 (k+1) h'->IsPair h' s.heap.objs.size x y->
  (∀c o,c≠z->c≠TO->c≠i1->c≠i2->s.heap.get? c=some o->h'.get? c=some o)->Q (.ref s.heap.objs.size) { s with heap:=h',toks:=tk }):
 wpAny (model prog w) A (Builtin.«zip.__next__» ⟨[.ref z],[]⟩) (fun r s'=>∃v,r=.done (.ret v)/\Q v s') E s:=by
 have y1:∀{h h':Heap}{c:Addr}{j:Nat},Heap.SameBut c h h'->i1≠c->l1≠c->S1 j h->S1 j h':=fun sb q r st=>D1.frame _ _ _ st fun b hb o e=>sb.extBut b o (by
  rcases List.mem_cons.mp hb with rfl|hb
  .exact q
  .rw[List.mem_singleton.mp hb];exact r) e
 have y2:∀{h h':Heap}{c:Addr}{j:Nat},Heap.SameBut c h h'->i2≠c->l2≠c->S2 j h->S2 j h':=fun sb q r st=>D2.frame _ _ _ st fun b hb o e=>sb.extBut b o (by
  rcases List.mem_cons.mp hb with rfl|hb
  .exact q
  .rw[List.mem_singleton.mp hb];exact r) e
 refine(?_:wpAny _ _ (field (.ref z) 2 >>= fun v=>_) _ _ _);refine A3 (D7 hz rfl (x:=Value.bool false) rfl (?_:wpAny _ _ (field (.ref z) 3 >>= fun v=>_) _ _ _));refine A3 (D7 hz rfl (x:=Value.ref TI) rfl (A3 (Y3 hI rfl (?_:wpAny _ _ (Builtin.SmallTypes.ownedTupleIsFree (.ref z) >>= fun v=>_) _ _ _))));refine A3 (A3 (m:=field (.ref z) 0) (D7 hz rfl (x:=Value.none) rfl (A6 ?_)));rw[A9 rfl];refine A3 (A0k (A3 (D7 hz rfl (x:=Value.ref TO) rfl (A3 (F9 hz (by simp) fun g1 z1 b1=>A3 ?_)))));have z1:IsZip g1 z TI TO .ellipsis:=z1;simp only[List.zipIdx_cons,List.zipIdx_nil,List.forIn_cons,List.forIn_nil];refine A3 (A3 (wpAny_onRaise (?_:wpAny _ _ (Builtin.SmallTypes.nextOf (.ref i1) >>= fun v=>_) _ _ _)));refine A3 (D1.item k { s with heap:=g1 } _ _ k1 (y1 b1 D.i1z f1.z t1) fun x g2 tk2 p1 u1 b2=>A6 ?_);have O2:IsPair g2 TO a b:=b2.extBut _ _ D.TOi1 (b1.extBut _ _ D.TOz hO);refine A3 (Y3 O2 rfl (A3 (wpAny_updateSeq_pair O2 fun g3 O3 b3=>A3 (wpAny_letGo (A6 ?_)))));have O3:IsPair g3 TO x b:=O3;refine A3 (A3 (wpAny_onRaise (?_:wpAny _ _ (Builtin.SmallTypes.nextOf (.ref i2) >>= fun v=>_) _ _ _)));refine A3 (D2.item k { s with heap:=g3,toks:=tk2 } _ _ k2 (y2 b3 D.TOi2.symm f2.o (y2 b2 D.i12.symm f2.a (y2 b1 D.i2z f2.z t2))) fun y g4 tk4 p2 u2 b4=>A6 ?_);have O4:IsPair g4 TO x b:=b4.extBut _ _ D.TOi2 O3;refine A3 (Y3 O4 rfl (A3 (wpAny_updateSeq_pair O4 fun g5 O5 b5=>A3 (wpAny_letGo (A6 (A6 ?_))))));have O5:IsPair g5 TO x y:=O5;have sz:g5.objs.size=s.heap.objs.size:=by rw[b5.1,b4.1,b3.1,b2.1,b1.1]
 have z5:IsZip g5 z TI TO .ellipsis:=b5.extBut _ _ D.TOz.symm (b4.extBut _ _ D.i2z.symm (b3.extBut _ _ D.TOz.symm (b2.extBut _ _ D.i1z.symm z1)));have s1:S1 (k+1) g5:=y1 b5 D.TOi1.symm f1.o (y1 b4 D.i12 f1.b (y1 b3 D.TOi1.symm f1.o u1));have s2:S2 (k+1) g5:=y2 b5 D.TOi2.symm f2.o u2;have zl:z<g5.objs.size:=A8 z5;refine A3 (Y3 O5 rfl (A3 (wpAny_newTuple (?_:wpAny _ _ (Builtin.SmallTypes.ownedTupleHandOut (.ref z) (.ref g5.objs.size) >>= fun v=>_) _ _ _))));have z6:IsZip (g5.push { cls:=.type "tuple",data:=.seq #[x,y] }) z TI TO .ellipsis:=A4 _ z5;refine A3 (A3 (m:=setField (.ref z) 0 _) (F9 z6 (by simp) fun g7 z7 b7=>F9 z7 (by simp) fun g8 z8 b8=>A6 ⟨_,rfl,?_⟩));have up:∀c o,c≠z->g5.get? c=some o->g8.get? c=some o:=fun c o q e=>b8.extBut _ _ q (b7.extBut _ _ q (A4 _ e));have nw:IsPair g8 g5.objs.size x y:=b8.extBut _ _ (J0 zl) (b7.extBut _ _ (J0 zl) (B6 _ rfl));have z8:IsZip g8 z TI TO (rawInt g5.objs.size):=z8;rw[sz]at nw z8;show Q (.ref g5.objs.size) _;rw[sz];refine hQ g8 tk4 x y p1 p2 z8 (up _ _ D.TOz O5) (D1.frame _ _ _ s1 fun c hc o e=>up c o ?_ e) (D2.frame _ _ _ s2 fun c hc o e=>up c o ?_ e) nw fun c o c1 c2 c3 c4 e=>up c o c1 (b5.extBut _ _ c2 (b4.extBut _ _ c4 (b3.extBut _ _ c2 (b2.extBut _ _ c3 (b1.extBut _ _ c1 e)))))
 .rcases List.mem_cons.mp hc with rfl|hc
  .exact D.i1z
  .rw[List.mem_singleton.mp hc];exact f1.z
 .rcases List.mem_cons.mp hc with rfl|hc
  .exact D.i2z
  .rw[List.mem_singleton.mp hc];exact f2.z
theorem aGn{Q:Fin->Shared->Prop}(D:L2.Apart5 z TI TO i1 i2)(f1:HF z TO i1 i2 l1)(f2:HF z TO i1 i2 l2)(D1:Draws prog w A i1 [i1,l1] n1 P1 S1)(D2:Draws prog w A i2 [i2,l2] n2 P2 S2)
 (hz:IsZip s.heap z TI TO .none) (hI:IsPair s.heap TI (.ref i1) (.ref i2)) (hO:IsPair s.heap TO a b) (t1:S1 k s.heap) (t2:S2 k s.heap) (ke:k=n1\/(k<n1/\k=n2))
 (hE:∀h' tk e,(∀c o,c≠z->c≠TO->c≠i1->c≠i2->s.heap.get? c=some o->h'.get? c=some o)->(∃o,h'.get? e=some o/\o.cls=.type "StopIteration")->E (.ref e) { s with heap:=h',toks:=tk }):
 wpAny (model prog w) A (Builtin.«zip.__next__» ⟨[.ref z],[]⟩) Q E s:=by
 have y1:∀{h h':Heap}{c:Addr}{j:Nat},Heap.SameBut c h h'->i1≠c->l1≠c->S1 j h->S1 j h':=fun sb q r st=>D1.frame _ _ _ st fun b hb o e=>sb.extBut b o (by
  rcases List.mem_cons.mp hb with rfl|hb
  .exact q
  .rw[List.mem_singleton.mp hb];exact r) e
 have y2:∀{h h':Heap}{c:Addr}{j:Nat},Heap.SameBut c h h'->i2≠c->l2≠c->S2 j h->S2 j h':=fun sb q r st=>D2.frame _ _ _ st fun b hb o e=>sb.extBut b o (by
  rcases List.mem_cons.mp hb with rfl|hb
  .exact q
  .rw[List.mem_singleton.mp hb];exact r) e
 have apz:∀{g:Heap}{v:Value}{e:Addr}{o:Obj},IsZip g z TI TO v->g.get? e=some o->o.cls=.type "StopIteration"->e≠z:=fun hz he hc q=>by
  subst q;rw[hz]at he;cases he;simp at hc
 refine(?_:wpAny _ _ (field (.ref z) 2 >>= fun v=>_) _ _ _);refine A3 (D7 hz rfl (x:=Value.bool false) rfl (?_:wpAny _ _ (field (.ref z) 3 >>= fun v=>_) _ _ _));refine A3 (D7 hz rfl (x:=Value.ref TI) rfl (A3 (Y3 hI rfl (?_:wpAny _ _ (Builtin.SmallTypes.ownedTupleIsFree (.ref z) >>= fun v=>_) _ _ _))));refine A3 (A3 (m:=field (.ref z) 0) (D7 hz rfl (x:=Value.none) rfl (A6 ?_)));rw[A9 rfl];refine A3 (A0k (A3 (D7 hz rfl (x:=Value.ref TO) rfl (A3 (F9 hz (by simp) fun g1 z1 b1=>A3 ?_)))));have z1:IsZip g1 z TI TO .ellipsis:=z1;simp only[List.zipIdx_cons,List.zipIdx_nil,List.forIn_cons,List.forIn_nil];refine A3 (A3 (wpAny_onRaise (?_:wpAny _ _ (Builtin.SmallTypes.nextOf (.ref i1) >>= fun v=>_) _ _ _)));rcases ke with rfl|⟨k1,rfl⟩
 .refine A3 (D1.done { s with heap:=g1 } _ _ (y1 b1 D.i1z f1.z t1) fun g2 e b2 ⟨oe,he,hc⟩=>?_);have z2:IsZip g2 z TI TO .ellipsis:=b2 _ _ D.i1z.symm z1;exact F9 z2 (by simp) fun g3 _ b3=>hE g3 s.toks e (fun c o c1 _ c3 _ q=>b3.extBut _ _ c1 (b2 _ _ c3 (b1.extBut _ _ c1 q))) ⟨oe,b3.extBut _ _ (apz z2 he hc) he,hc⟩
 .refine A3 (D1.item k { s with heap:=g1 } _ _ k1 (y1 b1 D.i1z f1.z t1) fun x g2 tk2 p1 u1 b2=>A6 ?_);have O2:IsPair g2 TO a b:=b2.extBut _ _ D.TOi1 (b1.extBut _ _ D.TOz hO);refine A3 (Y3 O2 rfl (A3 (wpAny_updateSeq_pair O2 fun g3 O3 b3=>A3 (wpAny_letGo (A6 ?_)))));refine A3 (A3 (wpAny_onRaise (?_:wpAny _ _ (Builtin.SmallTypes.nextOf (.ref i2) >>= fun v=>_) _ _ _)));refine A3 (D2.done { s with heap:=g3,toks:=tk2 } _ _ (y2 b3 D.TOi2.symm f2.o (y2 b2 D.i12.symm f2.a (y2 b1 D.i2z f2.z t2))) fun g4 e b4 ⟨oe,he,hc⟩=>?_);have z4:IsZip g4 z TI TO .ellipsis:=b4 _ _ D.i2z.symm (b3.extBut _ _ D.TOz.symm (b2.extBut _ _ D.i1z.symm z1));exact F9 z4 (by simp) fun g5 _ b5=>hE g5 tk2 e (fun c o c1 c2 c3 c4 q=>b5.extBut _ _ c1 (b4 _ _ c4 (b3.extBut _ _ c2 (b2.extBut _ _ c3 (b1.extBut _ _ c1 q))))) ⟨oe,b5.extBut _ _ (apz z4 he hc) he,hc⟩
end
theorem yE{h:Heap}{o:Obj}{n:Nat}(e:h.objs.size=n)(f:o.isFreed=false:=by rfl):(h.push o).get? n=some o:=by subst e;exact B6 _ f
theorem aES{l1 l2:Addr}{xs ys:Array Value}:Meets (Builtin.«zip.__new__» ⟨[.type "zip",.ref l1,.ref l2],[]⟩) (fun _ R s=>s.heap.IsTuple l1 xs/\s.heap.IsTuple l2 ys /\
 ∀h',(∀c o,s.heap.get? c=some o->h'.get? c=some o)->h'.get? s.heap.objs.size=some { cls:=.type "tuple_iterator",data:=.fields #[.ref l1,.int 0 0] }->h'.get? (s.heap.objs.size+1)=some { cls:=.type "tuple_iterator",data:=.fields #[.ref l2,.int 0 0] }->
  IsPair h' (s.heap.objs.size+2) (.ref s.heap.objs.size) (.ref (s.heap.objs.size+1))->IsPair h' (s.heap.objs.size+3) .none .none->IsZip h' (s.heap.objs.size+4) (s.heap.objs.size+2) (s.heap.objs.size+3) .none->R (.ok (.ret (.ref (s.heap.objs.size+4)))) { s with heap:=h' }):=
 .of_wp fun prog w A R s h=>by
  obtain⟨hp,g,d,tk,os⟩:=s;obtain⟨q1,q2,h⟩:=h;have sub:=sub_zip;have L1:Heap.IsTuple (Shared.heap ⟨hp,g,d,tk,os⟩) l1 xs:=q1;have L2:Heap.IsTuple (Shared.heap ⟨hp.push { cls:=.type "tuple_iterator",data:=.fields #[.ref l1,.int 0 0] },g,d,tk,os⟩) l2 ys:=Heap.IsTuple.at q2 fun o e=>A4 _ e
  wp_walk using U4 L1,U4 L2
  refine⟨_,rfl,?_⟩;simp only[Heap.size_push]at h ⊢;refine h _ (fun c o e=>?_) ?_ ?_ ?_ ?_ ?_
  .exact A4 _ (A4 _ (A4 _ (A4 _ (A4 _ e))))
  .exact A4 _ (A4 _ (A4 _ (A4 _ (B6 _ rfl))))
  .exact A4 _ (A4 _ (A4 _ (yE (O6 ..))))
  .exact A4 _ (A4 _ (yE (by simp only[Heap.size_push])))
  .exact A4 _ (yE (by simp only[Heap.size_push]))
  .exact yE (by simp only[Heap.size_push])
end
end PySem
namespace L2
open PySem PySem.Spec PyProof.Rows
def aIW(K:Fg)(l1 l2:Addr):It:=
 ⟨fun i H=>∃xs ys x y,SqT K H l1 xs/\SqT K H l2 ys/\xs[i]?=some x/\ys[i]?=some y,
  fun i H v H'=>∃p x y,H p=none/\v=.ref p/\H'=upd H p (.tup [x,y])/\(∀xs,SqT K H l1 xs->xs[i]?=some x)/\∀ys,SqT K H l2 ys->ys[i]?=some y,
  fun i H=>∃xs ys,SqT K H l1 xs/\SqT K H l2 ys/\((i=xs.length)\/(i<xs.length/\i=ys.length))⟩
def aJX(z TI TO i1 i2 l1 l2:Addr)(i:Nat)(h:Heap):Prop:=IsZip h z TI TO .none/\IsPair h TI (.ref i1) (.ref i2)/\(∃a b,IsPair h TO a b)/\h.IsTupleIter i1 l1 i/\h.IsTupleIter i2 l2 i
section
variable{prog:Program}{w:World}{A:Around}{E:Value->Shared->Prop}{s:Shared}
variable{z TI TO i1 i2 l1 l2:Addr}{k n1 n2:Nat}{P1 P2:Nat->Value->Prop}{S1 S2:Nat->Heap->Prop}{a b:Value}
theorem aBY{Q:Option Value->Shared->Prop}(D:Apart5 z TI TO i1 i2)(f1:HF z TO i1 i2 l1)(f2:HF z TO i1 i2 l2)(D1:Draws prog w A.in1 i1 [i1,l1] n1 P1 S1)(D2:Draws prog w A.in1 i2 [i2,l2] n2 P2 S2)
 (hz:IsZip s.heap z TI TO .none) (hI:IsPair s.heap TI (.ref i1) (.ref i2)) (hO:IsPair s.heap TO a b) (t1:S1 k s.heap) (t2:S2 k s.heap) (k1:k<n1) (k2:k<n2)
 (hQ:∀h' tk x y,P1 k x->P2 k y->IsZip h' z TI TO (rawInt s.heap.objs.size)->IsPair h' TO x y->S1 (k+1) h'->S2 (k+1) h'->IsPair h' s.heap.objs.size x y->
  (∀c o,c≠z->c≠TO->c≠i1->c≠i2->s.heap.get? c=some o->h'.get? c=some o)->Q (some (.ref s.heap.objs.size)) { s with heap:=h',toks:=tk }):
 wpAny (model prog w) A (pyNext (.ref z)) Q E s:=by
 have ty:s.TypeIs (.ref z) "zip":=⟨_,hz,rfl⟩;unfold pyNext;exact A3 (Z0 (E6 ty A0d (E4 A0d ty PySem.F.entry_zip_next (aBh D f1 f2 D1 D2 hz hI hO t1 t2 k1 k2 fun h' tk x y p1 p2 q1 q2 q3 q4 q5 q6=>A6 (hQ h' tk x y p1 p2 q1 q2 q3 q4 q5 q6)) (PySem.F.args_zip_next_1 _))))
theorem aDN{Q:Option Value->Shared->Prop}(D:Apart5 z TI TO i1 i2)(f1:HF z TO i1 i2 l1)(f2:HF z TO i1 i2 l2)(D1:Draws prog w A.in1 i1 [i1,l1] n1 P1 S1)(D2:Draws prog w A.in1 i2 [i2,l2] n2 P2 S2)
 (hz:IsZip s.heap z TI TO .none) (hI:IsPair s.heap TI (.ref i1) (.ref i2)) (hO:IsPair s.heap TO a b) (t1:S1 k s.heap) (t2:S2 k s.heap) (ke:k=n1\/(k<n1/\k=n2))
 (hQ:∀h' tk,(∀c o,c≠z->c≠TO->c≠i1->c≠i2->s.heap.get? c=some o->h'.get? c=some o)->Q none { s with heap:=h',toks:=tk }):wpAny (model prog w) A (pyNext (.ref z)) Q E s:=by
 have ty:s.TypeIs (.ref z) "zip":=⟨_,hz,rfl⟩;unfold pyNext;exact A3 (Z0 (E6 ty A0d (E4 A0d ty PySem.F.entry_zip_next (aGn D f1 f2 D1 D2 hz hI hO t1 t2 ke fun h' tk e hk he=>A3 (let⟨o,ho,hc⟩:=he;Y4 (T:="StopIteration") (b:=true) ⟨o,ho,hc⟩ isSubtype_stop (A6 (hQ h' tk hk)))) (PySem.F.args_zip_next_1 _))))
end
section
variable{P:Program}{w:World}{K:Fg}{elts:List Expr}{x1:Nat}{tpos:Pos}{z TI TO i1 i2 l1 l2:Addr}
theorem FY{h:Heap}{l:Addr}{xs:Array Value}{i j:Nat}(T:h.IsTuple l xs)(hz:IsZip h z TI TO .none)(a1:h.IsTupleIter i1 l1 i)(a2:h.IsTupleIter i2 l2 j)(no:l≠TO):HF z TO i1 i2 l:=by
 obtain⟨o,e,c,_⟩:=T;obtain⟨o1,e1,c1,_⟩:=a1;obtain⟨o2,e2,c2,_⟩:=a2
 have dif:∀(b:Addr)(u:Obj),h.get? b=some u->u.cls≠.type "tuple"->l≠b:=fun b u q n r=>by
  subst r;rw[e]at q;cases q;exact n c
 have ni:(Value.type "tuple_iterator")≠.type "tuple":=by intro q;injection q with q;exact absurd q (by decide)
 exact⟨dif z _ hz (by intro q;injection q with q;exact absurd q (by decide)),no,dif i1 _ e1 (by rw[c1];exact ni),dif i2 _ e2 (by rw[c2];exact ni)⟩
theorem RO(A5:Apart5 z TI TO i1 i2)(n1:l1≠TO)(n2:l2≠TO):Turn P w K (.Tuple elts x1 tpos) (aIW K l1 l2) [z,TI,TO,i1,i2] z (aJX z TI TO i1 i2 l1 l2) where
 mem:=by simp
 obj:=fun i h st b hb=>by
  obtain⟨hz,hTI,⟨a,c,hTO⟩,⟨o1,e1,_,d1⟩,⟨o2,e2,_,d2⟩⟩:=st;simp only[List.mem_cons,List.not_mem_nil,or_false]at hb;rcases hb with rfl|rfl|rfl|rfl|rfl
  .exact⟨_,hz,fun v q=>by cases q⟩
  .exact⟨_,hTI,fun v q=>by cases q⟩
  .exact⟨_,hTO,fun v q=>by cases q⟩
  .exact⟨_,e1,fun v q=>by rw[d1]at q;cases q⟩
  .exact⟨_,e2,fun v q=>by rw[d2]at q;cases q⟩
 keep:=fun i h h' st k=>by
  obtain⟨hz,hTI,⟨a,c,hTO⟩,h1,h2⟩:=st;exact⟨k z (by simp) _ hz,k TI (by simp) _ hTI,⟨a,c,k TO (by simp) _ hTO⟩,h1.at fun o e=>k i1 (by simp) o e,h2.at fun o e=>k i2 (by simp) o e⟩
 item:=by
  intro X hP hw hK hc i pins s σ H E I hf st hg;subst hP hw hK;obtain⟨xs,ys,x,y,hq1,hq2,hx,hy⟩:=hg;obtain⟨its,rv,p,_⟩:=I.tuple hq1;obtain⟨jts,rw',p',_⟩:=I.tuple hq2;obtain⟨u,hu,ru⟩:=rv.get hx;obtain⟨v,hv,rv'⟩:=rw'.get hy;obtain⟨hz,hTI,⟨a,c,hTO⟩,h1,h2⟩:=id st;have F1:=FY p hz h1 h2 n1;have F2:=FY p' hz h1 h2 n2;have hh:X.A.in1.handled=none:=I.ok.hd hc;have li:=(List.getElem?_eq_some_iff.mp hu).1;have lj:=(List.getElem?_eq_some_iff.mp hv).1;refine aBY (k:=i) A5 F1 F2 (nF hh i1 l1 F1.a its.toArray) (nF hh i2 l2 F2.b jts.toArray) hz hTI hTO ⟨h1,p⟩ ⟨h2,p'⟩ (by simpa using li) (by simpa using lj) fun h' tk u' v' e1 e2 a1 a2 a3 a4 a5 hk=>⟨_,rfl,?_⟩
  have e1:u=u':=by
   have:its.toArray[i]?=some u:=by rw[S8];exact hu
   rw[this]at e1;cases e1;rfl
  have e2:v=v':=by
   have:jts.toArray[i]?=some v:=by rw[S8];exact hv
   rw[this]at e2;cases e2;rfl
  subst e1 e2;refine wpAny_letOwnedTupleGo_zip a1 fun h2' hz2 sb=>?_
  have lt:∀b∈[z,TI,TO,i1,i2],s.heap.objs.size≠b:=fun b hb q=>by
   obtain⟨o1,e1,_⟩:=id h1;obtain⟨o2,e2,_⟩:=id h2;simp only[List.mem_cons,List.not_mem_nil,or_false]at hb
   have:∃o,s.heap.get? b=some o:=by
    rcases hb with rfl|rfl|rfl|rfl|rfl
    .exact⟨_,hz⟩
    .exact⟨_,hTI⟩
    .exact⟨_,hTO⟩
    .exact⟨_,e1⟩
    .exact⟨_,e2⟩
   obtain⟨o,e⟩:=this;rw[<- q]at e;exact absurd (A8 e) (J1 _)
  have kk:∀b o,b∉[z,TI,TO,i1,i2]->s.heap.get? b=some o->h2'.get? b=some o:=fun b o hb q=>by
   simp only[List.mem_cons,List.not_mem_nil,or_false,not_or]at hb;exact(sb.2 b hb.1).trans (hk b o hb.1 hb.2.2.1 hb.2.2.2.1 hb.2.2.2.2 q)
  have ht2:h2'.get? s.heap.objs.size=some { cls:=.type "tuple",data:=.seq #[u,v] }:=(sb.2 _ (lt z (by simp))).trans a5
  have I2:Inv X pins σ (upd H s.heap.objs.size (.tup [x,y])) { s with heap:=h2',toks:=tk }:=
   I.turnLay hf kk (B0 _) ⟨by show 2<=sizeLine;rw[F0];decide,[u,v],.cons ru (.cons rv' .nil),⟨_,ht2,rfl,_,rfl⟩⟩
  refine⟨.ref s.heap.objs.size,_,I2,rfl,⟨_,x,y,I.hok.fresh (B0 _),rfl,rfl,fun ws hw=>by rw[I.tuple_inj hw hq1];exact hx,fun ws hw=>by rw[I.tuple_inj hw hq2];exact hy⟩,⟨hz2,?_,⟨_,_,(sb.2 TO A5.TOz).trans a2⟩,a3.1.at fun o e=>(sb.2 i1 A5.i1z).trans e,a4.1.at fun o e=>(sb.2 i2 A5.i2z).trans e⟩,fun b hb=>?_⟩
  .exact(sb.2 TI A5.TIz).trans (hk TI _ A5.TIz A5.TITO A5.TIi1 A5.TIi2 hTI)
  .rw[aL (fun q=>lt b hb q.symm)];exact(hf b hb).1
 done:=by
  intro X hP hw hK hc i pins s σ H E I hf st hg;subst hP hw hK;obtain⟨xs,ys,hq1,hq2,hend⟩:=hg;obtain⟨its,rv,p,_⟩:=I.tuple hq1;obtain⟨jts,rw',p',_⟩:=I.tuple hq2;obtain⟨hz,hTI,⟨a,c,hTO⟩,h1,h2⟩:=id st;have l1':=rv.length;have l2':=rw'.length;have F1:=FY p hz h1 h2 n1;have F2:=FY p' hz h1 h2 n2;have hh:X.A.in1.handled=none:=I.ok.hd hc;refine aDN (k:=i) A5 F1 F2 (nF hh i1 l1 F1.a its.toArray) (nF hh i2 l2 F2.b jts.toArray) hz hTI hTO ⟨h1,p⟩ ⟨h2,p'⟩ (by simpa[<- l1',<- l2']using hend) fun h' tk hk=>⟨rfl,I.turnF (t':=tk) hf fun b o hb q=>?_⟩;simp only[List.mem_cons,List.not_mem_nil,or_false,not_or]at hb;exact hk b o hb.1 hb.2.2.1 hb.2.2.2.1 hb.2.2.2.2 q
 self:=fun A i s Q E st h=>wpAny_pyIter_zip st.1 h
end
section
variable{X:Cx}{elts:List Expr}{x1:Nat}{tpos:Pos}
def aEg(K:Fg)(ta:TA):TI:=fun σ H R=>ta σ H fun vs H1=>∃a b xs ys,vs=[.ref a,.ref b]/\((SqL K H1 a xs/\SqL K H1 b ys/\R (Itz K a b) H1)\/(SqT K H1 a xs/\SqT K H1 b ys/\R (aIW K a b) H1))
theorem aCX{a b:Expr}{ta:TA}{p pos:Pos}(hg:Gl X "zip")(hm:X.mg "zip"=none)(ha:PA X [a,b] ta)(hs:starEach [a,b] X.env=[(false,eval a X.env),(false,eval b X.env)])(hs2:starEach [b] X.env=[(false,eval b X.env)]):PI X (.Tuple elts x1 tpos) (.Call (.Name "zip" p) [a,b] [] pos) (aEg X.K ta):=by
 intro pins s σ H R I h;refine Call_ (iR I hg hm boot_zip (F7 (thn (ha pos pins s σ H _ I h) fun us s1 ⟨vs,H1,I1,r1,q1⟩=>?_) (by rw[hs,hs2]) (by rw[hs2];rfl)));obtain⟨l,l',xs,ys,e,q1⟩:=q1;subst e;cases r1 with
 |cons r rr=>
  cases rr with
  |cons r' rr=>
   cases rr;cases (show _=Value.ref l from r);cases (show _=Value.ref l' from r')
   have fp:∀b∈[s1.heap.objs.size+4,s1.heap.objs.size+2,s1.heap.objs.size+3,s1.heap.objs.size,s1.heap.objs.size+1],qR X pins H1 b:=fun b hb=>by
    have hb':s1.heap.objs.size<=b:=by
     simp only[List.mem_cons,List.not_mem_nil,or_false]at hb;omega
    exact I1.fpOk hb' (I1.hok.fresh hb')
   rcases q1 with⟨hq1,hq2,q⟩|⟨hq1,hq2,q⟩
   .obtain⟨its,rv,p1,_⟩:=I1.list hq1;obtain⟨jts,rw',p2,_⟩:=I1.list hq2;refine call_zip_2 p1.isList p2.isList fun h' hz hTI hTO h1 h2 hsz hk=>?_;refine wpAny_pyIter_zip hz ?_;exact⟨_,_,_,_,H1,rfl,I1.kept (t':=s1.toks) hk,YY (z:=s1.heap.objs.size+4) (TI:=s1.heap.objs.size+2) (TO:=s1.heap.objs.size+3) (i1:=s1.heap.objs.size) (i2:=s1.heap.objs.size+1) (l1:=l) (l2:=l') (DM _),⟨hz,hTI,⟨_,_,hTO⟩,h1,h2⟩,fp,q⟩
   .obtain⟨its,rv,p1,_⟩:=I1.tuple hq1;obtain⟨jts,rw',p2,_⟩:=I1.tuple hq2;have z1:l<s1.heap.objs.size:=by obtain⟨o,e,_⟩:=p1;exact A8 e
    have z2:l'<s1.heap.objs.size:=by obtain⟨o,e,_⟩:=p2;exact A8 e
    refine callType_new PySem.F.called_zip (by decide) (PySem.F.typeCall_zip_2 _ _) (PySem.F.newCall_zip_2 _ _) (fun obj=>PySem.F.args_object_init_3 obj _ _) PySem.F.entry_zip_new aES ⟨p1,p2,fun h' hk h1 h2 hTI hTO hz=>⟨⟨_,hz,rfl⟩,wpAny_pyIter_zip hz ?_⟩⟩;exact⟨_,_,_,_,H1,rfl,I1.kept (t':=s1.toks) hk,RO (z:=s1.heap.objs.size+4) (TI:=s1.heap.objs.size+2) (TO:=s1.heap.objs.size+3) (i1:=s1.heap.objs.size) (i2:=s1.heap.objs.size+1) (l1:=l) (l2:=l') (DM _) (B8 (Nat.lt_add_right 3 z1)) (B8 (Nat.lt_add_right 3 z2)),⟨hz,hTI,⟨_,_,hTO⟩,⟨_,h1,rfl,rfl⟩,⟨_,h2,rfl,rfl⟩⟩,fp,q⟩
end
def IT(f:AF):AF:=fun γ M=>(f γ M).bind fun r=>match r.1 with
 |[.d (.list xs),.d (.list ys)]=>some (mZ xs ys,r.2)
 |[.d (.tuple xs),.d (.tuple ys)]=>some (mZ xs ys,r.2)
 |_=>none
theorem EZ:∀(xs ys:List PyData),(mZ xs ys).length=xs.length\/((mZ xs ys).length<xs.length/\(mZ xs ys).length=ys.length)
 |[],_=>.inl rfl
 |_::_,[]=>.inr ⟨Nat.succ_pos _,rfl⟩
 |x::xs,y::ys=>by
  have:=EZ xs ys;simp only[mZ,List.length_cons];omega
theorem aCK{K:Fg}{tA:TA}{fa:AF}(b:SA K tA fa):SI K (aEg K tA) (IT fa):=by
 intro γ M xs M' hh W H σ R G Rs k;obtain⟨⟨ys,M1⟩,h1,hh⟩:=aI hh;refine b _ _ _ _ h1 W H σ _ G Rs fun vs W1 H1 e1 G1 r1=>?_;revert hh;dsimp only;split
 .rename_i as bs;intro hh;cases hh;cases r1 with
  |cons r r'=>
   cases r' with
   |cons r2 r''=>
    cases r'';obtain⟨p,us,rfl,hs,hr⟩:=(show ∃a us,_=V.ref a/\SqL K W1.F a us/\aJ K W1.F as us from r);obtain⟨p',us',rfl,hs',hr'⟩:=(show ∃a us,_=V.ref a/\SqL K W1.F a us/\aJ K W1.F bs us from r2);refine⟨p,p',us,us',rfl,.inl ⟨G1.fh.seq hs,G1.fh.seq hs',k _ W1 H1 e1 G1 fun W2 M2 H2 e2 G2=>?_⟩⟩;have q1:SqL K H2 p us:=G2.fh.seq (e2.ff.seq hs);have q2:SqL K H2 p' us':=G2.fh.seq (e2.ff.seq hs');refine⟨fun i x hx=>?_,us,us',q1,q2,?_⟩
    .obtain⟨c,d,hc,hd,rfl⟩:=AS hx;obtain⟨u,hu,ru⟩:=Paired.get (gH hr) (show(as.map CD.d)[i]?=some (.d c)by rw[C8,hc];rfl);obtain⟨v,hv,rv⟩:=Paired.get (gH hr') (show(bs.map CD.d)[i]?=some (.d d)by rw[C8,hd];rfl);refine⟨⟨us,us',u,v,q1,q2,hu,hv⟩,fun y H3 hy=>?_⟩;obtain⟨p3,x',y',hn,rfl,rfl,hx',hy'⟩:=hy;have:=hx' us q1;rw[hu]at this;cases this;have:=hy' us' q2;rw[hv]at this;cases this;obtain⟨e3,G3⟩:=G2.lay (o:=.tup [u,v]) hn;refine⟨_,e3,G3,⟨p3,_,rfl,SqT.of aO,?_⟩⟩;exact⟨_,_,rfl,Rep.same e3.ff _ _ (show Rep K W2.F c u from ru.up e2),_,_,rfl,Rep.same e3.ff _ _ (show Rep K W2.F d v from rv.up e2),rfl⟩
    .rcases JH (xs:=as) (ys:=bs)with e|e
     .exact .inl (by have:=List.getElem?_eq_none_iff.mp e;rw[hr.length]at this;exact List.getElem?_eq_none_iff.mpr this)
     .exact .inr (by have:=List.getElem?_eq_none_iff.mp e;rw[hr'.length]at this;exact List.getElem?_eq_none_iff.mpr this)
 .rename_i as bs;intro hh;cases hh;cases r1 with
  |cons r r'=>
   cases r' with
   |cons r2 r''=>
    cases r'';obtain⟨p,us,rfl,hs,hr⟩:=(show ∃a us,_=V.ref a/\SqT K W1.F a us/\aJ K W1.F as us from r);obtain⟨p',us',rfl,hs',hr'⟩:=(show ∃a us,_=V.ref a/\SqT K W1.F a us/\aJ K W1.F bs us from r2);refine⟨p,p',us,us',rfl,.inr ⟨G1.fh.seqT hs,G1.fh.seqT hs',k _ W1 H1 e1 G1 fun W2 M2 H2 e2 G2=>?_⟩⟩;have q1:SqT K H2 p us:=G2.fh.seqT (e2.ff.seqT hs);have q2:SqT K H2 p' us':=G2.fh.seqT (e2.ff.seqT hs');refine⟨fun i x hx=>?_,us,us',q1,q2,?_⟩
    .obtain⟨c,d,hc,hd,rfl⟩:=AS hx;obtain⟨u,hu,ru⟩:=Paired.get (gH hr) (show(as.map CD.d)[i]?=some (.d c)by rw[C8,hc];rfl);obtain⟨v,hv,rv⟩:=Paired.get (gH hr') (show(bs.map CD.d)[i]?=some (.d d)by rw[C8,hd];rfl);refine⟨⟨us,us',u,v,q1,q2,hu,hv⟩,fun y H3 hy=>?_⟩;obtain⟨p3,x',y',hn,rfl,rfl,hx',hy'⟩:=hy;have:=hx' us q1;rw[hu]at this;cases this;have:=hy' us' q2;rw[hv]at this;cases this;obtain⟨e3,G3⟩:=G2.lay (o:=.tup [u,v]) hn;refine⟨_,e3,G3,⟨p3,_,rfl,SqT.of aO,?_⟩⟩;exact⟨_,_,rfl,Rep.same e3.ff _ _ (show Rep K W2.F c u from ru.up e2),_,_,rfl,Rep.same e3.ff _ _ (show Rep K W2.F d v from rv.up e2),rfl⟩
    .have:=EZ as bs;rw[<- hr.length,<- hr'.length];exact this
 .intro hh;cases hh
theorem aCY{ι:Type}{K:Fg}{X:ι->Cx}{a b:Expr}{fa:AF}{pos:Pos}{elts:List Expr}{x1:Nat}{tpos p:Pos}(hK:∀i,(X i).K=K)(hm:∀i,(X i).mg "zip"=none)(x:MA K X [a,b] fa)(hg:∀i,Gl (X i) "zip":=by intro _;rfl):MI K X (.Tuple elts x1 tpos) (.Call (.Name "zip" p) [a,b] [] pos) (IT fa):=by
 obtain⟨t,x1',x2⟩:=x.ex;exact⟨_,fun i=>by have:=aCX (elts:=elts) (x1:=x1) (tpos:=tpos) (p:=p) (pos:=pos) (hg i) (hm i) (x1' i) (by rw[x.st.1,x.st.2.1];rfl) (by rw[x.st.2.1];rfl);rw[hK i]at this;exact this,aCK x2⟩
def fG(x:Str):EF:=fun _ M=>some (.g x,M)
def JB(f:AF):AF:=fun γ M=>(f γ M).bind fun r=>if r.1.length<=sizeLine then some (r.1,r.2)else none
def yL(i:Nat)(tbl:List (Str×FX))(fa:AX):EX:=fun γ M=>match γ[i]? with
 |some (some (.g nm))=>(tbl.lookup nm).bind fun F=>uV F fa γ M
 |_=>none
section
variable{K:Fg}
theorem aBo{tA:TA}{fa:AF}(b:SA K tA fa):SI K (aCz K (ZN tA)) (JB fa):=by
 intro γ M xs M' hh W H σ R G Rs k;obtain⟨⟨ys,M1⟩,h1,hh⟩:=aI hh;by_cases hl:ys.length<=sizeLine
 .dsimp only at hh;rw[A9 hl]at hh;cases hh;refine b _ _ _ _ h1 W H σ _ G Rs fun vs W1 H1 e1 G1 r1=>?_;have ln:=Paired.len r1;refine⟨by rw[<- ln];exact hl,fun p hp=>?_⟩;obtain⟨e2,G2⟩:=G1.lay (o:=.tup vs) hp;refine⟨p,rfl,.inr ⟨vs,SqT.of aO,k _ _ _ (e1.trans e2) G2 fun W2 M2 H2 e3 G3=>?_⟩⟩;have hs2:SqT K H2 p vs:=G3.fh.seqT (e3.ff.seqT (SqT.of aO));refine⟨fun i x hx=>?_,?_⟩
  .obtain⟨u,hu,ru⟩:=Paired.get r1 hx;refine⟨⟨vs,u,hs2,hu⟩,fun y' H'' hy=>⟨W2,.refl _,by rw[hy.1];exact G3,?_⟩⟩;have:=hy.2 vs hs2;rw[hu]at this;cases this;exact bK.up ru (e2.trans e3)
  .rw[ln];exact⟨vs,hs2,B0 _⟩
 .dsimp only at hh;rw[B2 hl]at hh;cases hh
def NV(K:Fg)(i:Nat)(tbl:List (Str×FX))(EE:St->XK)(t:TA):TE:=fun σ H Q=>∃nm F,(nm,F)∈tbl/\σ[i]?=some (some (.ref (bC K nm)))/\AR (spX K F) EE t σ H Q
theorem KH{nm:Str}{F:FX}:∀{tbl:List (Str×FX)},tbl.lookup nm=some F->(nm,F)∈tbl
 |[]=>fun h=>by cases h
 |(a,b)::tbl=>fun h=>by
  rw[D9]at h;by_cases e:nm=a
  .subst e;rw[beq_self_eq_true]at h;cases h;exact B5
  .rw[show(nm==a)=false from beq_eq_false_iff_ne.mpr e]at h;exact B3 _ (KH h)
theorem UB{i:Nat}{tbl:List (Str×FX)}{EE:St->XK}{tA:TA}{fa:AX}(a:SAX K EE tA fa):SEX K EE (NV K i tbl EE tA) (yL i tbl fa):=by
 intro γ M r M' hh W H σ Q G R k;unfold yL at hh;split at hh
 .rename_i nm hg;obtain⟨F,h1,hh⟩:=aI hh;obtain⟨v,hv,rv⟩:=Paired.get R hg;cases v with
  |none=>exact False.elim rv
  |some v=>
   have rv:v=.ref (bC K nm):=rv;rw[rv]at hv;exact⟨nm,F,KH h1,hv,IU a _ _ _ _ hh W H σ Q G R k⟩
 .cases hh
end
section
variable{X:Cx}
theorem aBt{EE:St->XK}{k i:Nat}{x:Str}{ps:List Str}{tbl:List (Str×FX)}{p pos:Pos}{e:Expr}{es:List Expr}{t:TA}(ok:XOk X EE)(C:∀q∈tbl,cU X.prog X.w X.K X.mg X.base k q.1 ps (spX X.K q.2)/\X.mg q.1=some (.ref (bC X.K q.1)))(hr:cA k X.A)(ha:PA X (e::es) t)(hN:X.N[i]?=some x)(hv:Vis X.env.scope x)
 (hd:(x==("__debug__":Str))=false) (hcd:(x==("__classdict__":Str))=false) (he:starEach (e::es) X.env=(false,eval e X.env)::starEach es X.env) (hpl:(backTo pos (starEach es X.env)).any (·.1)=false):
 PE X (.Call (.Name x p) (e::es) [] pos) (NV X.K i tbl EE t):=by
 intro pins s σ H Q I h;obtain⟨nm,F,hm,hs,h⟩:=h;obtain⟨C1,m0⟩:=C _ hm;obtain⟨f,fd,Fn,m,kp,b⟩:=C1.ex
 have ef:f=bC X.K nm:=by
  rw[m0]at m;cases m;rfl
 subst ef;refine L7 (E3 (ZD hN hv hd hcd pins s σ H (fun v H'=>v=.ref (bC X.K nm)/\H'=H) I ⟨_,hs,rfl,rfl⟩) (fun u s1 q=>?_) fun _ _ e=>e);obtain⟨v,H',I1,r,rfl,rfl⟩:=q;cases r;exact A0p (h₀:=X.base) I1.ok.mod.kin kp (thn (ha pos pins s1 σ _ _ I1 h) fun us s2 ⟨vs,H1,I2,r,q⟩=>⟨I2.kIn,OX ok Fn hr b I2 r q⟩) he hpl
end
section
variable{ι:Type}{K:Fg}{X:ι->Cx}{e:Expr}{es:List Expr}{pos:Pos}
theorem XZ{x:Str}(hm:∀i,(X i).mg x=some (.ref (bC K x)))(hg:∀i,Gl (X i) x:=by intro _;rfl)(hd:(x==("__debug__":Str))=false:=by decide):ME K X (.Name x pos) (fG x):=
 ⟨_,fun i=>FR (v:=.ref (bC K x)) (hg i) (hm i) rfl hd,fun γ M y M' hh W H σ Q G R k=>by cases hh;exact k _ W H (.refl _) G rfl⟩
theorem aBP{tg:Expr}{k:Nat}{fa:AF}(hK:∀i,(X i).K=K)(x:MA K X es fa):MI K X tg (.Tuple es k pos) (JB fa):=by
 obtain⟨t,x1,x2⟩:=x.ex;exact⟨_,fun i=>RI (hK i) (GL (x1 i)),aBo x2⟩
theorem aAg{EE:ι->St->XK}{fa:AX}{k:Nat}{x:Str}{ps:List Str}{tbl:List (Str×FX)}{p:Pos}(j:Nat)(hK:∀i,(X i).K=K)(ok:∀i,XOk (X i) (EE i))(C:∀i,∀q∈tbl,cU (X i).prog (X i).w (X i).K (X i).mg (X i).base k q.1 ps (spX (X i).K q.2)/\(X i).mg q.1=some (.ref (bC (X i).K q.1)))(hr:∀i,cA k (X i).A)(y:MAX K X EE (e::es) fa)
 (hN:∀i,(X i).N[j]?=some x:=by intro _;rfl) (hv:∀i,Vis (X i).env.scope x:=by intro _;first|exact Or.inl rfl|exact Or.inr (Or.inl rfl)|exact Or.inr (Or.inr rfl)) (hd:(x==("__debug__":Str))=false:=by decide) (hcd:(x==("__classdict__":Str))=false:=by decide):
 MX K X EE (.Call (.Name x p) (e::es) [] pos) (yL j tbl fa):=by
 obtain⟨u,y1,y2⟩:=y.ex;refine⟨fun i=>NV K j tbl (EE i) (u i),fun i=>?_,fun i=>UB (y2 i)⟩;have:=aBt (p:=p) (pos:=pos) (ok i) (C i) (hr i) (y1 i) (hN i) (hv i) hd hcd (y.st.1 _) (y.st.2.plain _ _);rw[hK i]at this;exact this
theorem aGY{P:Program}{w:World}{mg:Str->Option Value}{base:Heap}{k:Nat}{ps:List Str}:∀q∈([]:List (Str×FX)),cU P w K mg base k q.1 ps (spX K q.2)/\mg q.1=some (.ref (bC K q.1)):=fun _ h=>absurd h (by simp)
theorem HL{P:Program}{w:World}{mg:Str->Option Value}{base:Heap}{j k:Nat}{ps:List Str}{nm:Str}{F:FX}{tbl:List (Str×FX)}(C:cU P w K mg base j nm ps (spX K F))(m:mg nm=some (.ref (bC K nm)))(h:∀q∈tbl,cU P w K mg base k q.1 ps (spX K q.2)/\mg q.1=some (.ref (bC K q.1)))(hj:j<=k:=by decide):
 ∀q∈(nm,F)::tbl,cU P w K mg base k q.1 ps (spX K q.2)/\mg q.1=some (.ref (bC K q.1)):=fun q hq=>by
 rcases List.mem_cons.mp hq with rfl|hq
 .exact⟨C.mono hj,m⟩
 .exact h q hq
end
end L2
section
noncomputable section
namespace Q9
open PySem PySem.Spec PyProof.Rows L2
def top(i:Nat):Stmt:=PySem.Challenge.pw_cutstree_k09_sides_told.main.body.getD i (.Pass ⟨0,0,0,0⟩)
def kB:List (Str×Bool):=[("NoSide",false)]
def gJ:List (Str×Bool):=[("NoSide",true)]
def iX:List (Str×Bool):=[("NoSide",true)]
theorem ar1{α:Type}{P:List α->Prop}{us:List α}(hl:us.length=1)(h:∀a0,P [a0]):P us:=by
 rcases us with _|⟨a0,_|⟨c,r⟩⟩<;>first|exact h _|cases hl
theorem ar2{α:Type}{P:List α->Prop}{us:List α}(hl:us.length=2)(h:∀a0 a1,P [a0,a1]):P us:=by
 rcases us with _|⟨a0,_|⟨a1,_|⟨c,r⟩⟩⟩<;>first|exact h _ _|cases hl
theorem ar3{α:Type}{P:List α->Prop}{us:List α}(hl:us.length=3)(h:∀a0 a1 a2,P [a0,a1,a2]):P us:=by
 rcases us with _|⟨a0,_|⟨a1,_|⟨a2,_|⟨c,r⟩⟩⟩⟩<;>first|exact h _ _ _|cases hl
set_option hygiene false
local macro_rules | `(tactic| sleep 990) => `(tactic| exact ⟨rfl, rfl, rfl, by decide +kernel, rfl, by decide +kernel, by decide +kernel⟩)
local macro_rules | `(tactic| sleep 991) => `(tactic| (intro _ _ _ _ _ _ _ hl; apply ar1 hl; intros; rfl))
local macro_rules | `(tactic| sleep 992) => `(tactic| (intro _ _ _ _ _ _ _ hl; apply ar2 hl; intros; rfl))
local macro_rules | `(tactic| sleep 993) => `(tactic| (intro _ _ _ _ _ _ _ hl; apply ar3 hl; intros; rfl))
set_option hygiene true
abbrev nM:Stmt:=top 36
abbrev xH:List Str:=["_law_script","_law_many","_law_row","_law_odd","_law_deck_here","_law_k","_law_at","_law_one"]
abbrev qF:List Str:=["_law_script","_law_many"]
theorem sc__law_deck:aQ xH qF (aF nM):=by sleep 990
def sI:EF:=(gF (aB (fC (.int 48271)) (aB (fC (.int 69621)) (aB (fC (.int 39373)) (aB (fC (.int 40692)) aH)))))
theorem BJ(γ:Ga)(M:Sto):sI γ M=some (.d (.list [(.int 48271),(.int 69621),(.int 39373),(.int 40692)]),M):=rfl
def eB:SF:=(aX (aV (fOp cE (aD 5) (aK oQ (aB (aD 2) aH))) (hName 6))
 (aX (aV (fOp cE (fOp ixF (aD 2) (aD 6)) (fC (.int 1000000))) (hName 7))
 (aX (sIf (gB (fOp (eqX false) (aD 3) (fC (.int 0))))
  (aX (aV (fOp cE (fOp dZ (fOp dZ (fOp ixF (aD 2) (aD 6)) (fOp BR (fOp BR (aD 5) (aD 5)) (fC (.int 16807)))) (fOp BR (fC (.int 3)) (aD 5))) (fC (.int 2147483629))) (hName 7))
 (aX (aV (fOp cE (fOp dZ (fOp BR (aD 7) (fOp ixF sI (fOp cE (aD 5) (fC (.int 4))))) (fC (.int 7))) (fC (.int 2147483647))) (hName 7))
 (aV (fOp cE (fOp BR (aD 7) (aD 7)) (fC (.int 2147483629))) (hName 7))))
  (aV (fOp cZ (fOp ixF (aD 2) (aD 6)) (fC (.int 1000000))) (hSub (aD 2) (aD 6) EY)))
 (oY (bQ "list" dU (aD 4) (aB (aD 7) aH))))))
def lY:SF:=(aX (aV (aK DG (aB (aD 0) aH)) (hName 2))
 (aX (sIf (gB (fOp (eqY false) (aD 2) (gF aH)))
  (aV (sA (aB (fC (.int 4)) aH)) (hName 2))
  cX)
 (aX (aV (fOp cE (fOp ixF (aD 2) (fC (.int 0))) (fC (.int 2))) (hName 3))
 (aX (aV (fOp cZ (fOp ixF (aD 2) (fC (.int 0))) (fC (.int 2))) (hSub (aD 2) (fC (.int 0)) EY))
 (aX (aV (sA aH) (hName 4))
 (aX (sE (dG (aB (aD 1) aH)) (hName 5) eB)
 (aX (oY (bQ "list" kH (aD 4) aH))
 (bS (aD 4)))))))))
def lV:FN:=fnF 2 8 lY
abbrev pK:Stmt:=top 6
abbrev zG:List Str:=["thing"]
abbrev tM:List Str:=["thing"]
theorem JX:aQ zG tM (aF pK):=by sleep 990
def zV:SF:=(bS (jE (FO "int" (aD 0)) (SH (FO "bool" (aD 0)))))
def gQ:FN:=fnF 1 1 zV
abbrev wI:Stmt:=top 7
abbrev IX:List Str:=["thing"]
abbrev zM:List Str:=["thing"]
theorem RR:aQ IX zM (aF wI):=by sleep 990
def LI:SF:=(bS (JK "list" "tuple" (aD 0)))
def pZ:FN:=fnF 1 1 LI
abbrev vS:Stmt:=top 20
abbrev HQ:List Str:=["one","other"]
abbrev zC:List Str:=["one","other"]
theorem sc_common:aQ HQ zC (aF vS):=by sleep 990
def tP:SF:=(tU (CG (aD 1)) (BM 0 1 (aB (aD 1) (aB (fOp cE (aD 0) (aD 1)) aH))))
def KQ:SF:=(aX tP
 (bS (aD 0)))
def uE:FN:=fnF 2 2 KQ
abbrev nN:Stmt:=top 8
abbrev xD:List Str:=["thing","length"]
abbrev qD:List Str:=["thing","length"]
theorem GM:aQ xD qD (aF nN):=by sleep 990
def wY:SF:=(bS (jE (aK pZ (aB (aD 0) aH)) (fOp (eqX false) (aK oQ (aB (aD 0) aH)) (aD 1))))
def lK:FN:=fnF 2 2 wY
abbrev eF:Stmt:=top 19
abbrev iY:List Str:=["thing"]
abbrev eN:List Str:=["thing"]
theorem pF:aQ iY eN (aF eF):=by sleep 990
def cG:SF:=(aX (sIf (gOr (nR (gB (aK lK (aB (aD 0) (aB (fC (.int 2)) aH))))) (gOr (nR (gB (aK gQ (aB (fOp ixF (aD 0) (fC (.int 0))) aH)))) (nR (gB (aK gQ (aB (fOp ixF (aD 0) (fC (.int 1))) aH))))))
 (bS (fC (.bool false)))
 cX)
 (bS (jE (fOp geI (fOp ixF (aD 0) (fC (.int 0))) (fC (.int 0))) (fOp geI (fOp ixF (aD 0) (fC (.int 1))) (fC (.int 1))))))
def bM:FN:=fnF 1 1 cG
abbrev kR:Stmt:=top 18
abbrev sQ:List Str:=["thing"]
abbrev mR:List Str:=["thing"]
theorem AE:aQ sQ mR (aF kR):=by sleep 990
def eC:SF:=(bS (jE (aK bM (aB (aD 0) aH)) (jE (fOp (eqX false) (fOp cE (fC (.int 55440)) (fOp ixF (aD 0) (fC (.int 1)))) (fC (.int 0))) (fOp (eqX false) (aK uE (aB (fOp ixF (aD 0) (fC (.int 0))) (aB (fOp ixF (aD 0) (fC (.int 1))) aH))) (fC (.int 1))))))
def cQ:FN:=fnF 1 1 eC
abbrev nY:Stmt:=top 17
abbrev wR:List Str:=["thing"]
abbrev qI:List Str:=["thing"]
theorem GV:aQ wR qI (aF nY):=by sleep 990
def iU:SF:=(bS (jE (aK cQ (aB (aD 0) aH)) (fOp leI (fOp ixF (aD 0) (fC (.int 0))) (fC (.int 1000000000000)))))
def eM:FN:=fnF 1 1 iU
abbrev qW:Stmt:=top 9
abbrev yM:List Str:=["many","thing"]
abbrev tH:List Str:=["many","thing"]
theorem JL:aQ yM tH (aF qW):=by sleep 990
def oG:SF:=(bS (jE (aK gQ (aB (aD 1) aH)) (kQ leI ltI (fC (.int 0)) (aD 1) (aD 0))))
def fH:FN:=fnF 2 2 oG
abbrev eT:Stmt:=top 10
abbrev jM:List Str:=["many","i","j"]
abbrev fO:List Str:=["many","i","j"]
theorem pT:aQ jM fO (aF eT):=by sleep 990
def cK:SF:=(bS (jE (aK fH (aB (aD 0) (aB (aD 1) aH))) (jE (aK fH (aB (aD 0) (aB (aD 2) aH))) (fOp (eqX true) (aD 1) (aD 2)))))
def bY:FN:=fnF 3 3 cK
abbrev eP:Stmt:=top 11
abbrev jK:List Str:=["many","thing"]
abbrev fU:List Str:=["many","thing"]
theorem pY:aQ jK fU (aF eP):=by sleep 990
def cL:SF:=(bS (jE (aK lK (aB (aD 1) (aB (fC (.int 3)) aH))) (jE (aK bY (aB (aD 0) (aB (fOp ixF (aD 1) (fC (.int 0))) (aB (fOp ixF (aD 1) (fC (.int 1))) aH)))) (fOp ltI (fOp ixF (aD 1) (fC (.int 0))) (fOp ixF (aD 1) (fC (.int 1)))))))
def bF:FN:=fnF 2 2 cL
abbrev vE:Stmt:=top 34
abbrev JZ:List Str:=["many","thing"]
abbrev AD:List Str:=["many","thing"]
theorem RQ:aQ JZ AD (aF vE):=by sleep 990
def nH:SF:=(bS (jE (aK bF (aB (aD 0) (aB (aD 1) aH))) (aK eM (aB (fOp ixF (aD 1) (fC (.int 2))) aH))))
def kP:FN:=fnF 2 2 nH
abbrev jX:Stmt:=top 33
abbrev rF:List Str:=["many","ties","weights","at","row"]
abbrev pU:List Str:=["many","ties"]
theorem sc_kept_ties:aQ rF pU (aF jX):=by sleep 990
def gC:SF:=(aX (sIf (gOr (nR (gB (aK kP (aB (aD 0) (aB (aD 4) aH))))) (gB (NI false (uB (aB (fOp ixF (aD 4) (fC (.int 0))) (aB (fOp ixF (aD 4) (fC (.int 1))) aH))) (aD 2))))
 GC
 cX)
 (vX (aD 2) (uB (aB (fOp ixF (aD 4) (fC (.int 0))) (aB (fOp ixF (aD 4) (fC (.int 1))) aH))) (aK eE (aB (fOp ixF (aD 4) (fC (.int 2))) aH))))
def mI:EF:=(fLc [none,none,none] (cV (vJ (aD 2))) (lD 2 (bG (lD 2 (bG (hName 0) (bG (hName 1) lA))) (bG (hName 2) lA))) (gB (fOp gtI (fOp ixF (aD 2) (fC (.int 0))) (fC (.int 0)))) (bI (aB (aD 0) (aB (aD 1) (aB (aD 2) aH)))))
def pR:SF:=(aX (sIf (nR (gB (aK pZ (aB (aD 1) aH))))
 GC
 cX)
 (aX (aV wC (hName 2))
 (aX (sE (LA (aB (aD 1) aH)) (lD 2 (bG (hName 3) (bG (hName 4) lA))) gC)
 (bS (aK eE (aB mI aH))))))
def iW:FN:=fnF 2 5 pR
abbrev fK:Stmt:=inClass (top 32) 0
abbrev pL:List Str:=["self","many","ties"]
abbrev qJ:List Str:=["self","many","ties"]
theorem GB:aQ pL qJ (aF fK):=by sleep 990
def mT:EF:=(fDc (.dt []) [none,none,none] (cV (sX "Web" "ties" (aD 0))) (lD 3 (bG (hName 0) (bG (hName 1) (bG (hName 2) lA)))) gO (uB (aB (aD 0) (aB (aD 1) aH))) (aD 2))
def rA:SF:=(aX (sIf (gOr (nR (gB (aK gQ (aB (aD 1) aH)))) (gOr (gB (fOp ltI (aD 1) (fC (.int 1)))) (gB (fOp gtI (aD 1) (fC (.int 40))))))
 GC
 cX)
 (aX (CQ "Web" "many" (aD 0) (aD 1))
 (aX (CQ "Web" "ties" (aD 0) (aK iW (aB (aD 1) (aB (aD 2) aH))))
 (CQ "Web" "weights" (aD 0) mT))))
def gS:FN:=fnF 3 3 rA
abbrev kF:Stmt:=top 37
abbrev sU:List Str:=["_law_above","_law_below","_law_one","_law_other"]
abbrev mK:List Str:=["_law_above","_law_below"]
theorem sc__law_lowest:aQ sU mK (aF kF):=by sleep 990
def oU:SF:=(tU (gB (fOp gtI (aD 3) (fC (.int 0)))) (BM 2 3 (aB (aD 3) (aB (fOp cE (aD 2) (aD 3)) aH))))
def mU:SF:=(aX (BM 2 3 (aB (aD 0) (aB (aD 1) aH)))
 (aX oU
 (bS (bI (aB (fOp cZ (aD 0) (aD 2)) (aB (fOp cZ (aD 1) (aD 2)) aH))))))
def fX:FN:=fnF 2 4 mU
abbrev jV:Stmt:=top 41
abbrev pV:List Str:=["_law_ties"]
abbrev qX:List Str:=["_law_ties"]
theorem ET:aQ pV qX (aF jV):=by sleep 990
def mJ:EF:=(fLc [some 0,none,none] (cV (aK tL (aB (aD 0) aH))) (lD 2 (bG (hName 1) (bG (hName 2) lA))) gO (bI (aB (aD 1) (aB (aD 2) (aB (aK fX (aB (IG (aD 0) (uB (aB (aD 1) (aB (aD 2) aH)))) (aB (fC (.int 55440)) aH))) aH)))))
def qP:SF:=(bS mJ)
def gU:FN:=fnF 1 1 qP
abbrev bR:Stmt:=top 39
abbrev cO:List Str:=["_law_deck_here","_law_many","_law_kind","_law_found","_law_draw","_law_middle","_law_j"]
abbrev oM:List Str:=["_law_deck_here","_law_many"]
theorem sc__law_pairs:aQ cO oM (aF bR):=by sleep 990
def eR:EF:=(HU [some 1,none] (dG (aB (aD 1) aH)) (hName 1) gO (bI (aB (aD 1) (aB (fOp cE (fOp dZ (aD 1) (fC (.int 1))) (aD 0)) aH))))
def iE:EF:=(HU [none] (yP (aB (fC (.int 1)) (aB (aD 1) aH))) (hName 0) gO (bI (aB (fC (.int 0)) (aB (aD 0) aH))))
def iB:EF:=(HU [some 0,none] (yP (aB (fC (.int 1)) (aB (aD 1) aH))) (hName 1) gO (bI (aB (fOp cE (bQ "list" iD (aD 0) aH) (aD 1)) (aB (aD 1) aH))))
def kM:EF:=(fLc [some 6,some 5,none] (dG (aB (aD 6) aH)) (hName 2) (gB (fOp (eqX false) (fOp ltI (aD 2) (aD 1)) (fOp ltI (aD 0) (aD 1)))) (bI (aB (aD 2) (aB (aD 0) aH))))
def dM:SF:=(aV (fOp vM (aD 3) kM) (hName 3))
def fA:EF:=(HU [some 5,none] (dG (aB (fOp dZ (aD 5) (fC (.int 1))) aH)) (hName 1) gO (bI (aB (aD 1) (aB (fOp cE (fOp dZ (aD 1) (fC (.int 1))) (fOp dZ (aD 0) (fC (.int 1)))) aH))))
def hZ:EF:=(fLc [none] (yP (aB (aD 5) (aB (fOp CC (aD 1) (fC (.int 1))) aH))) (hName 0) gO (bI (aB (aD 0) (aB (fOp dZ (aD 0) (fC (.int 1))) aH))))
def kX:EF:=(fLc [some 6,some 0,none] (dG (aB (aD 6) aH)) (hName 2) (gB (fOp gtI (fOp cE (bQ "list" iD (aD 1) aH) (fC (.int 3))) (fC (.int 0)))) (bI (aB (aD 2) (aB (aD 0) aH))))
def dP:SF:=(aV (fOp vM (aD 3) kX) (hName 3))
def nT:SF:=(aX (aV (fOp cE (bQ "list" iD (aD 0) aH) (fC (.int 9))) (hName 2))
 (aX (aV (sA aH) (hName 3))
 (aX (sIf (gB (fOp ltI (aD 2) (fC (.int 2))))
  (aX (aV eR (hName 3))
 (sIf (gB (fOp (eqX false) (aD 2) (fC (.int 1))))
  (aX (aV (bQ "list" iD (aD 0) aH) (hName 4))
 (aV (fOp vM (aD 3) (gF (aB (bI (aB (fOp cE (aD 4) (aD 1)) (aB (fOp cE (fOp cZ (aD 4) (fC (.int 11))) (aD 1)) aH))) (aB (bI (aB (fOp cE (fOp cZ (aD 4) (fC (.int 97))) (aD 1)) (aB (fOp cE (fOp cZ (aD 4) (fC (.int 7))) (aD 1)) aH))) aH)))) (hName 3)))
  cX))
  (sIf (gB (fOp (eqX false) (aD 2) (fC (.int 2))))
  (aV iE (hName 3))
  (sIf (gB (fOp (eqX false) (aD 2) (fC (.int 3))))
  (aV iB (hName 3))
  (sIf (gB (fOp (eqX false) (aD 2) (fC (.int 4))))
  (aX (aV (fOp cZ (aD 1) (fC (.int 2))) (hName 5))
 (aX (sE (dG (aB (aD 1) aH)) (hName 6) dM)
 (oY (bQ "list" dU (aD 3) (aB (bI (aB (fC (.int 0)) (aB (fOp CC (aD 1) (fC (.int 1))) aH))) aH)))))
  (sIf (gB (fOp (eqX false) (aD 2) (fC (.int 5))))
  (aX (aV (fOp cZ (aD 1) (fC (.int 2))) (hName 5))
 (aX (aV fA (hName 3))
 (aV (fOp vM (fOp vM (aD 3) hZ) (gF (aB (bI (aB (aD 5) (aB (fOp CC (aD 1) (fC (.int 1))) aH))) aH))) (hName 3))))
  (sIf (gB (fOp ltI (aD 2) (fC (.int 8))))
  (sE (dG (aB (aD 1) aH)) (hName 6) dP)
  cX))))))
 (bS (aD 3)))))
def jQ:FN:=fnF 2 7 nT
abbrev kU:Stmt:=top 38
abbrev sH:List Str:=["_law_draw","_law_some"]
abbrev mH:List Str:=["_law_draw"]
theorem sc__law_weight:aQ sH mH (aF kU):=by sleep 990
def oV:EF:=(gF (aB (fC (.int 55440)) (aB (fC (.int 55440)) (aB (fC (.int 110880)) (aB (fC (.int 27720)) (aB (fC (.int 41580)) (aB (fC (.int 0)) (aB (fC (.int 23100)) (aB (fC (.int 166320)) (aB (fOp BR (fC (.int 55440)) (fOp LL (fC (.int 10)) (fC (.int 9)))) (aB (fC (.int 1)) (aB (fC (.int 55440)) (aB (fC (.int 27720)) aH)))))))))))))
theorem vO(γ:Ga)(M:Sto):oV γ M=some (.d (.list [(.int 55440),(.int 55440),(.int 110880),(.int 27720),(.int 41580),(.int 0),(.int 23100),(.int 166320),(.int 55440000000000),(.int 1),(.int 55440),(.int 27720)]),M):=rfl
def mP:SF:=(aX (aV oV (hName 1))
 (bS (fOp ixF (aD 1) (fOp cE (aD 0) (fC (.int 12))))))
def gI:FN:=fnF 1 2 mP
abbrev rG:Stmt:=top 40
abbrev yR:List Str:=["_law_deck_here","_law_many","_law_alike","_law_found","_law_i","_law_j","_law_weight_here"]
abbrev tT:List Str:=["_law_deck_here","_law_many"]
theorem sc__law_web:aQ yR tT (aF rG):=by sleep 990
def jY:SF:=(aX (aV (fC (.int 55440)) (hName 6))
 (aX (sIf (gB (fOp (eqX false) (fOp cE (aD 2) (fC (.int 2))) (fC (.int 1))))
  (aV (aK gI (aB (bQ "list" iD (aD 0) aH) aH)) (hName 6))
  cX)
 (sIf (XM (gB (fOp (eqX true) (aD 4) (aD 5))) (gB (fOp gtI (aD 6) (fC (.int 0)))))
  (vX (aD 3) (uB (aB (aK JA (aB (aD 4) (aB (aD 5) aH))) (aB (aK KU (aB (aD 4) (aB (aD 5) aH))) aH))) (aD 6))
  cX)))
def tQ:SF:=(aX (aV (bQ "list" iD (aD 0) aH) (hName 2))
 (aX (aV wC (hName 3))
 (aX (sE (cV (uY (aK jQ (aB (aD 0) (aB (aD 1) aH))))) (lD 2 (bG (hName 4) (bG (hName 5) lA))) jY)
 (bS (aD 3)))))
def kN:FN:=fnF 2 7 tQ
abbrev hX:Stmt:=top 47
abbrev mO:List Str:=["_law_deck_here","_law_many"]
abbrev mM:List Str:=["_law_deck_here","_law_many"]
theorem BB:aQ mO mM (aF hX):=by sleep 990
def jG:EF:=(fLc [some 0,none] (dG (aB (aD 1) aH)) (hName 1) (gB (fOp (eqX false) (fOp cE (bQ "list" iD (aD 0) aH) (fC (.int 2))) (fC (.int 0)))) (aD 1))
def mX:SF:=(bS (aK eE (aB jG aH)))
def gE:FN:=fnF 2 2 mX
abbrev qC:Stmt:=top 46
abbrev zH:List Str:=["_law_deck_here","_law_some"]
abbrev tJ:List Str:=["_law_deck_here"]
theorem sc__law_any:aQ zH tJ (aF qC):=by sleep 990
def oO:EF:=(gF (aB (fC (.int 0)) aH))
theorem BN(γ:Ga)(M:Sto):oO γ M=some (.d (.list [(.int 0)]),M):=rfl
def nV:EF:=(bI (aB (fC (.int 0)) aH))
theorem CF(γ:Ga)(M:Sto):nV γ M=some (.d (.tuple [(.int 0)]),M):=rfl
def nZ:EF:=(gF (aB (bI (aB (fC (.int 1)) (aB (fC (.int 0)) aH))) (aB (bI (aB (bI (aB (fC (.int 0)) aH)) (aB (fC (.int 1)) aH))) (aB (bI (aB (fC .none) aH)) (aB (bI (aB (fC (.bool true)) aH)) (aB (bI (aB (fC (.int 0)) (aB (fC (.bool true)) aH))) (aB (bI (aB (fC (.str "0")) (aB (fC (.int 1)) aH))) (aB (bI (aB (bI aH) aH)) (aB (bI (aB (bI aH) (aB (bI aH) aH))) aH)))))))))
theorem BO(γ:Ga)(M:Sto):nZ γ M=some (.d (.list [(.tuple [(.int 1),(.int 0)]),(.tuple [(.tuple [(.int 0)]),(.int 1)]),(.tuple [.none]),(.tuple [(.bool true)]),(.tuple [(.int 0),(.bool true)]),(.tuple [(.str "0"),(.int 1)]),(.tuple [(.tuple [])]),(.tuple [(.tuple []),(.tuple [])])]),M):=rfl
def oP:EF:=(gF (aB (bI (aB (fC (.int 0)) (aB (fC (.int 1)) (aB (fC (.int 2)) (aB (fC (.int 40)) aH))))) (aB (gF (aB (gF (aB (fC (.int 0)) aH)) aH)) (aB (bI (aB (fUn sG (fC (.int 1))) (aB (fC (.int 0)) aH))) (aB (bI (aB (fC (.int 0)) (aB (fC (.int 0)) aH))) (aB (bI (aB (bI (aB (fC (.int 0)) (aB (fC (.int 1)) (aB (bI (aB (fC (.int 1)) (aB (fC (.int 1)) aH))) aH)))) aH)) aH))))))
theorem BS(γ:Ga)(M:Sto):oP γ M=some (.d (.list [(.tuple [(.int 0),(.int 1),(.int 2),(.int 40)]),(.list [(.list [(.int 0)])]),(.tuple [(.int (-1)),(.int 0)]),(.tuple [(.int 0),(.int 0)]),(.tuple [(.tuple [(.int 0),(.int 1),(.tuple [(.int 1),(.int 1)])])])]),M):=rfl
def tI:SF:=(aX (aV (gF (aB (fC .none) (aB (fC (.bool true)) (aB (fC (.bool false)) (aB (fC (.int 0)) (aB (fC (.int 1)) (aB (fUn sG (fC (.int 1))) (aB (fOp LL (fC (.int 10)) (fC (.int 30))) (aB (fC (.str "")) (aB (fC (.str "0")) (aB (fC (.str "01")) (aB (bI aH) (aB (gF aH) (aB zK (aB (EJ [((fC (.int 0)),(fC (.int 1)))]) (aB nV (aB oO aH))))))))))))))))) (hName 1))
 (aX (aV (fOp dZ (aD 1) nZ) (hName 1))
 (aX (aV (fOp dZ (aD 1) oP) (hName 1))
 (bS (fOp ixF (aD 1) (fOp cE (bQ "list" iD (aD 0) aH) (fC (.int 29))))))))
def iH:FN:=fnF 1 2 tI
abbrev fP:Stmt:=top 48
abbrev kI:List Str:=["_law_deck_here","_law_row","_law_many","_law_draw","_law_at","_law_more","_law_fewer"]
abbrev gR:List Str:=["_law_deck_here","_law_row","_law_many"]
theorem sc__law_bent_places:aQ kI gR (aF fP):=by sleep 990
def eL:EF:=(bI (aB (fOp LL (fC (.int 10)) (fC (.int 30))) aH))
theorem pA(γ:Ga)(M:Sto):eL γ M=some (.d (.tuple [(.int 1000000000000000000000000000000)]),M):=rfl
def fE:EF:=(bI (aB (bI (aB (fC (.int 0)) aH)) aH))
theorem pJ(γ:Ga)(M:Sto):fE γ M=some (.d (.tuple [(.tuple [(.int 0)])]),M):=rfl
def eW:EF:=(bI (aB (fC (.str "0")) aH))
theorem pG(γ:Ga)(M:Sto):eW γ M=some (.d (.tuple [(.str "0")]),M):=rfl
def eS:EF:=(bI (aB (fC .none) aH))
theorem pH(γ:Ga)(M:Sto):eS γ M=some (.d (.tuple [.none]),M):=rfl
def fI:EF:=(bI (aB (fC (.bool true)) aH))
theorem pD(γ:Ga)(M:Sto):fI γ M=some (.d (.tuple [(.bool true)]),M):=rfl
def eY:EF:=(bI (aB (fUn sG (fC (.int 1))) aH))
theorem pE(γ:Ga)(M:Sto):eY γ M=some (.d (.tuple [(.int (-1))]),M):=rfl
def dW:SF:=(aX (aV (bQ "list" iD (aD 0) aH) (hName 3))
 (aX (aV (fOp cE (fOp cZ (aD 3) (fC (.int 16))) (fOp dZ (aK oQ (aB (aD 1) aH)) (fC (.int 1)))) (hName 4))
 (aX (aV (gF (aB (bI (aB (aD 2) aH)) (aB eY (aB fI (aB eS (aB eW (aB fE (aB eL (aB (fSl (aD 1) (dQ (fUn sG (fC (.int 1)))) bW) aH))))))))) (hName 5))
 (aX (sIf (gB (fOp (eqX false) (fOp cE (aD 3) (fC (.int 2))) (fC (.int 0))))
  (bS (fOp dZ (fOp dZ (fSl (aD 1) bW (dQ (aD 4))) (fOp ixF (aD 5) (fOp cE (fOp cZ (aD 3) (fC (.int 2))) (fC (.int 8))))) (fSl (aD 1) (dQ (aD 4)) bW)))
  cX)
 (aX (aV (fOp dZ (fSl (aD 1) bW (dQ (aD 4))) (fSl (aD 1) (dQ (fOp dZ (aD 4) (fC (.int 1)))) bW)) (hName 6))
 (bS (fOp ixF (gF (aB (RX (aD 1) (dQ (fUn sG (fC (.int 1))))) (aB (aD 6) (aB (fOp dZ (aD 1) (fSl (aD 1) (dQ (fUn sG (fC (.int 1)))) bW)) (aB (fOp dZ (aD 1) (fSl (aD 1) bW (dQ (fC (.int 1))))) aH))))) (fOp cE (fOp cZ (aD 3) (fC (.int 2))) (fC (.int 4))))))))))
def cC:FN:=fnF 3 7 dW
abbrev kJ:Stmt:=top 42
abbrev sJ:List Str:=["_law_thing"]
abbrev mS:List Str:=["_law_thing"]
theorem AI:aQ sJ mS (aF kJ):=by sleep 990
def sO:SF:=(bS (JK "list" "tuple" (aD 0)))
def mQ:FN:=fnF 1 1 sO
abbrev iO:Stmt:=top 43
abbrev oW:List Str:=["_law_thing","_law_least","_law_most"]
abbrev jC:List Str:=["_law_thing","_law_least","_law_most"]
theorem vQ:aQ oW jC (aF iO):=by sleep 990
def gL:SF:=(bS (jE (FO "int" (aD 0)) (jE (SH (FO "bool" (aD 0))) (kQ leI leI (aD 1) (aD 0) (aD 2)))))
def cW:FN:=fnF 3 3 gL
abbrev dY:Stmt:=top 44
abbrev iF:List Str:=["_law_many","_law_thing"]
abbrev hW:List Str:=["_law_many","_law_thing"]
theorem tO:aQ iF hW (aF dY):=by sleep 990
def fQ:EF:=(fLc [some 0,none] (cV (aD 1)) (hName 1) (nR (gB (aK cW (aB (aD 1) (aB (fC (.int 0)) (aB (fOp CC (aD 0) (fC (.int 1))) aH)))))) (aD 1))
def cY:SF:=(aX (sIf (nR (gB (aK mQ (aB (aD 1) aH))))
 (bS (fC (.bool false)))
 cX)
 (aX (sIf (gB (fOp (eqX true) fQ (gF aH)))
  (bS (fC (.bool false)))
  cX)
 (bS (fOp (eqX false) (aK pP (aB (aD 1) aH)) (CT (aB (aD 1) aH))))))
def bT:FN:=fnF 2 2 cY
abbrev jB:Stmt:=top 45
abbrev rK:List Str:=["_law_many","_law_thing"]
abbrev kD:List Str:=["_law_many","_law_thing"]
theorem xT:aQ rK kD (aF jB):=by sleep 990
def iA:SF:=(bS (jE (aK bT (aB (aD 0) (aB (aD 1) aH))) (kQ leI ltI (fC (.int 1)) (aK oQ (aB (aD 1) aH)) (aD 0))))
def eX:FN:=fnF 2 2 iA
abbrev jR:Stmt:=top 12
abbrev pM:List Str:=["row"]
abbrev rH:List Str:=["row"]
theorem EU:aQ pM rH (aF jR):=by sleep 990
def mG:EF:=(fLc [none,none] (IT (aB (aD 0) (aB (fSl (aD 0) (dQ (fC (.int 1))) bW) aH))) (lD 2 (bG (hName 0) (bG (hName 1) lA))) gO (fOp ltI (aD 0) (aD 1)))
def qQ:SF:=(bS (aK wH (aB mG aH)))
def lQ:FN:=fnF 1 1 qQ
abbrev dB:Stmt:=top 13
abbrev fW:List Str:=["many","thing"]
abbrev fV:List Str:=["many","thing"]
theorem qK:aQ fW fV (aF dB):=by sleep 990
def eD:EF:=(fLc [some 0,none] (cV (aD 1)) (hName 1) gO (aK fH (aB (aD 0) (aB (aD 1) aH))))
def cM:SF:=(bS (jE (aK pZ (aB (aD 1) aH)) (jE (aK wH (aB eD aH)) (aK lQ (aB (aD 1) aH)))))
def bH:FN:=fnF 2 2 cM
abbrev tW:Stmt:=top 25
abbrev DV:List Str:=["web","side"]
abbrev wA:List Str:=["web","side"]
theorem MQ:aQ DV wA (aF tW):=by sleep 990
def rV:SF:=(bS (jE (aK bH (aB (sX "Web" "many" (aD 0)) (aB (aD 1) aH))) (kQ ltI ltI (fC (.int 0)) (aK oQ (aB (aD 1) aH)) (sX "Web" "many" (aD 0)))))
def kA:FN:=fnF 2 2 rV
abbrev gZ:Stmt:=top 29
abbrev mY:List Str:=["web","side"]
abbrev iM:List Str:=["web","side"]
theorem uU:aQ mY iM (aF gZ):=by sleep 990
def fJ:SFX:=(aDx (nR (gB (aK kA (aB (aD 0) (aB (aD 1) aH)))))
 (GA "NoSide")
 (liS cX))
def cD:FX:=fnX 2 2 fJ
abbrev hV:Stmt:=top 21
abbrev nB:List Str:=["above","below","divisor"]
abbrev iK:List Str:=["above","below"]
theorem sc_in_least_terms:aQ nB iK (aF hV):=by sleep 990
def nG:SF:=(aX (aV (aK uE (aB (aD 0) (aB (aD 1) aH))) (hName 2))
 (bS (bI (aB (fOp cZ (aD 0) (aD 2)) (aB (fOp cZ (aD 1) (aD 2)) aH)))))
def nL:FN:=fnF 2 3 nG
abbrev mW:Stmt:=top 23
abbrev uJ:List Str:=["many"]
abbrev oE:List Str:=["many"]
theorem BY:aQ uJ oE (aF mW):=by sleep 990
def uG:SF:=(bS (aK nL (aB (aD 0) (aB (fC (.int 55440)) aH))))
def uK:FN:=fnF 1 1 uG
abbrev AU:Stmt:=top 22
abbrev QG:List Str:=["amount"]
abbrev GQ:List Str:=["amount"]
theorem XA:aQ QG GQ (aF AU):=by sleep 990
def OQ:SF:=(bS (fOp BR (fOp ixF (aD 0) (fC (.int 0))) (fOp cZ (fC (.int 55440)) (fOp ixF (aD 0) (fC (.int 1))))))
def RL:FN:=fnF 1 1 OQ
abbrev eV:Stmt:=top 26
abbrev iS:List Str:=["web","side","inside"]
abbrev mE:List Str:=["web","side"]
theorem sc_side_weight:aQ iS mE (aF eV):=by sleep 990
def xX:EF:=(fDc (.dk []) [none] (cV (aD 1)) (hName 0) gO (WU (aD 0)) (fC (.bool true)))
def xU:EF:=(fLc [some 2,none,none,none] (cV (sX "Web" "ties" (aD 0))) (lD 3 (bG (hName 1) (bG (hName 2) (bG (hName 3) lA)))) (gB (fOp (eqX true) (NI false (WU (aD 1)) (aD 0)) (NI false (WU (aD 2)) (aD 0)))) (aK RL (aB (aD 3) aH)))
def mV:SFX:=(CP (qB (uV cD (liA (aB (aD 0) (aB (aD 1) aH)))))
 (liS (aX (aV xX (hName 2))
 (bS (aK uK (aB (aK sumF (aB xU aH)) aH))))))
def cS:FX:=fnX 2 3 mV
abbrev rR:Stmt:=top 27
abbrev AJ:List Str:=["web","side"]
abbrev vC:List Str:=["web","side"]
theorem UL:aQ AJ vC (aF rR):=by sleep 990
def tG:EF:=(fLc [some 1,none] (dG (aB (sX "Web" "many" (aD 0)) aH)) (hName 1) (gB (fOp (inD true) (aD 1) (aD 0))) (aD 1))
def uX:SFX:=(CP (qB (uV cD (liA (aB (aD 0) (aB (aD 1) aH)))))
 (liS (bS (aK eE (aB tG aH)))))
def dJ:FX:=fnX 2 2 uX
abbrev eQ:Stmt:=top 28
abbrev jL:List Str:=["web","side"]
abbrev fT:List Str:=["web","side"]
theorem rM:aQ jL fT (aF eQ):=by sleep 990
def cN:SFX:=(CP (qB (uV cD (liA (aB (aD 0) (aB (aD 1) aH)))))
 (RJ (xIf (gB (fOp (eqX false) (fOp ixF (aD 1) (fC (.int 0))) (fC (.int 0)))) (uV dJ (liA (aB (aD 0) (aB (aD 1) aH)))) (liE (aK eE (aB (aD 1) aH))))))
def aS:FX:=fnX 2 2 cN
abbrev jD:Stmt:=top 49
abbrev qE:List Str:=["_law_world","_law_thing","_law_ask","_law_found","error"]
abbrev kY:List Str:=["_law_world","_law_thing","_law_ask"]
theorem sc__law_refused:aQ qE kY (aF jD):=by sleep 990
def iI:SF:=(aV (jE (DP iX (some false) (aD 4)) (jE (DP gJ (some false) (aD 4)) (SH (DP kB (some false) (aD 4))))) (hName 3))
def fM:SFX:=(qB (yL 2 [("others",dJ),("apart_from_nought",aS),("side_weight",cS)] (liA (aB (aD 0) (aB (aD 1) aH)))))
def kZ:SF:=(aX (aV (fC (.bool false)) (hName 3))
 (aX (SW fM [⟨[("NoSide",true)],(some 4),iI⟩])
 (bS (aD 3))))
def dO:FN:=fnF 3 5 kZ
abbrev fY:Stmt:=top 50
abbrev jT:List Str:=["_law_world","_law_many","_law_thing","_law_kept","_law_due","_law_found","_law_rest","_law_apart"]
abbrev nO:List Str:=["_law_world","_law_many","_law_thing"]
theorem sc__law_right:aQ jT nO (aF fY):=by sleep 990
def gY:EF:=(fLc [some 0,some 2,none] (JB (aB (fG "others") (aB (fG "apart_from_nought") (aB (fG "side_weight") aH)))) (hName 2) gO (aK dO (aB (aD 0) (aB (aD 1) (aB (aD 2) aH)))))
def gV:EF:=(fLc [some 2,none] (dG (aB (aD 1) aH)) (hName 1) (gB (fOp (inD true) (aD 1) (aD 0))) (aD 1))
def jS:SF:=(aX (aV (aK iZ (aB (aD 2) aH)) (hName 3))
 (aX (aV (aK eX (aB (aD 1) (aB (aD 2) aH))) (hName 4))
 (aX (aV (aK kA (aB (aD 0) (aB (aD 2) aH))) (hName 5))
 (aX (sIf (gOr (nR (gB (FO "bool" (aD 5)))) (gB (fOp (eqX true) (aD 5) (aD 4))))
  (bS (fC (.bool false)))
  cX)
 (aX (sIf (nR (CG (aD 4)))
  (bS (aK wH (aB gY aH)))
  cX)
 (aX (aV (aK eE (aB gV aH)) (hName 6))
 (aX (aV (fIf (gB (fOp (inD false) (fC (.int 0)) (aD 2))) (aD 6) (aK eE (aB (aD 2) aH))) (hName 7))
 (aX (sIf (gOr (gB (fOp (eqX true) (aK iZ (aB (sW dJ (aB (aD 0) (aB (aD 2) aH))) aH)) (aK iZ (aB (aD 6) aH)))) (gB (fOp (eqX true) (aK iZ (aB (sW aS (aB (aD 0) (aB (aD 2) aH))) aH)) (aK iZ (aB (aD 7) aH)))))
  (bS (fC (.bool false)))
  cX)
 (bS (fOp (eqX false) (aK iZ (aB (aD 2) aH)) (aD 3)))))))))))
def gX:FN:=fnF 3 8 jS
abbrev FU:Stmt:=top 51
abbrev XR:List Str:=["_law_script","_law_deck_here","_law_k","_law_many","_law_world","_law_row","_law_things","_law_turn"]
abbrev aEh:List Str:=["_law_script"]
theorem sc_law:aQ XR aEh (aF FU):=by sleep 990
def rY:SF:=(aX (oY (bQ "list" dU (aD 6) (aB (aK cC (aB (aD 1) (aB (aD 5) (aB (aD 3) aH)))) aH)))
 (oY (bQ "list" dU (aD 6) (aB (aK pP (aB (aK cC (aB (aD 1) (aB (aD 5) (aB (aD 3) aH)))) aH)) aH))))
def FZ:EF:=(fLc [some 4,some 3,none] (cV (aD 6)) (hName 2) gO (aK gX (aB (aD 0) (aB (aD 1) (aB (aD 2) aH)))))
def yC:SF:=(aX (aV (fOp dZ (fC (.int 1)) (fOp cE (bQ "list" iD (aD 1) aH) (fC (.int 9)))) (hName 3))
 (aX (aV (CU "Web" gS (aB (aD 3) (aB (aK gU (aB (aK kN (aB (aD 1) (aB (aD 3) aH))) aH)) aH))) (hName 4))
 (aX (aV (aK gE (aB (aD 1) (aB (aD 3) aH))) (hName 5))
 (aX (aV (sA (aB (aD 5) (aB (aK pP (aB (aD 5) aH)) (aB (aK iH (aB (aD 1) aH)) (aB (aK iH (aB (aD 1) aH)) (aB (vT (aB (aD 3) aH)) (aB (bI aH) (aB (gF aH) aH)))))))) (hName 6))
 (aX (VZ 6 (sE (dG (aB (fC (.int 3)) aH)) (hName 7) rY))
 (sIf (nR (gB (aK wH (aB FZ aH))))
  (bS (fC (.bool false)))
  cX))))))
def aAS:SF:=(aX (aV (aK lV (aB (aD 0) (aB (fC (.int 400)) aH))) (hName 1))
 (aX (sE (dG (aB (fC (.int 4)) aH)) (hName 2) yC)
 (bS (fC (.bool true)))))
def F_law:FN:=fnF 1 8 aAS
structure Txt(K:Fg)(mg:Str->Option Value):Prop where
 hB:SR mg ["ValueError","all","bool","enumerate","int","isinstance","len","list","max","min","range","repr","set","sorted","sum","tuple","zip"]
 v105:∃t:Tok,mg "MOST_ABOVE"=some (.int 1000000000000 t)
 v106:∃t:Tok,mg "BELOW"=some (.int 55440 t)
 v107:∃t:Tok,mg "MOST_PLACES"=some (.int 40 t)
 v95:mg "Web"=some (.ref (bC K "Web"))
 v96:Cls K (bC K "Web")
 v25:iJ K (bC K "Web") "many"
 v26:iJ K (bC K "Web") "ties"
 v97:mg "NoSide"=some (.ref (bC K "NoSide"))
 v28:PySem.W.excIn K (bC K "NoSide") bmV "ValueError.__new__"=true
 v98:mg "side_weight"=some (.ref (bC K "side_weight"))
 v99:mg "apart_from_nought"=some (.ref (bC K "apart_from_nought"))
 v100:mg "others"=some (.ref (bC K "others"))
 v32:PySem.W.exmOne K (.ref (bC K "NoSide")) (.ref (bC K "NoSide"))=some true
 v101:XC K (bC K "NoSide")
 v102:mg "NoPlace"=some (.ref (bC K "NoPlace"))
 v42:zN K (.ref (bC K "NoPlace")) kB=true
 v43:PySem.W.kitOne K (.type "NoneType") (.ref (bC K "NoPlace"))=some false
 v44:zN K (.type "ValueError") gJ=true
 v45:PySem.W.kitOne K (.type "NoneType") (.type "ValueError")=some false
 v103:mg "CutError"=some (.ref (bC K "CutError"))
 v47:zN K (.ref (bC K "CutError")) iX=true
 v48:PySem.W.kitOne K (.type "NoneType") (.ref (bC K "CutError"))=some false
 v49:iJ K (bC K "Web") "weights"
 v104:aDD K "Web" "__init__" "Web.__init__" fK
 v55:PySem.W.makesIn K (bC K "Web")=true
 v56:PySem.W.keepIn K (.ref (bC K "Web"))=true
 v57:Def K mg "_law_deck" nM
 v58:Def K mg "is_whole" pK
 v59:Def K mg "is_row" wI
 v60:Def K mg "common" vS
 v61:Def K mg "is_row_of" nN
 v62:Def K mg "has_amount_numbers" eF
 v63:Def K mg "is_in_parts" kR
 v64:Def K mg "is_weight" nY
 v65:Def K mg "is_place" qW
 v66:Def K mg "are_unlike_places" eT
 v67:Def K mg "is_between_places" eP
 v68:Def K mg "is_tie" vE
 v69:Def K mg "kept_ties" jX
 v70:Def K mg "_law_lowest" kF
 v71:Def K mg "_law_rows" jV
 v72:Def K mg "_law_pairs" bR
 v73:Def K mg "_law_weight" kU
 v74:Def K mg "_law_web" rG
 v75:Def K mg "_law_places" hX
 v76:Def K mg "_law_any" qC
 v77:Def K mg "_law_bent_places" fP
 v78:Def K mg "_law_is_row" kJ
 v79:Def K mg "_law_is_whole" iO
 v80:Def K mg "_law_are_rising" dY
 v81:Def K mg "_law_is_side" jB
 v82:Def K mg "is_rising" jR
 v83:Def K mg "are_rising_places" dB
 v84:Def K mg "is_side" tW
 v85:Def K mg "refuse_no_side" gZ
 v86:Def K mg "in_least_terms" hV
 v87:Def K mg "from_parts" mW
 v88:Def K mg "parts" AU
 v89:Def K mg "side_weight" eV
 v90:Def K mg "others" rR
 v91:Def K mg "apart_from_nought" eQ
 v92:Def K mg "_law_refused" jD
 v93:Def K mg "_law_right" fY
 v94:Def K mg "law" FU
section
variable{P:Program}{w:World}{K:Fg}{mg:Str->Option Value}{base:Heap}
theorem ES(T:Txt K mg):∀nm∈(["NoSide"]:List Str),XC K (bC K nm):=(aAp T.v101 aCP)
theorem FH(T:Txt K mg):Callee P w K mg base 1 "_law_deck" qF (spM K lV):=
 T.v57.okG (N:=xH) (ps:=qF) (k:=0) (b:=lY) sc__law_deck (by sleep 992) fun f cdv A outer s H E hr=>
  (aM (aZ 2 (fun _=>sc__law_deck.nd) (eO (aDt (fun _=>rfl)) (fun _=>T.hB.of "list") boot_list (aA (aC 0) aE)))
   (aM (fN (bU (aIP (fun _=>rfl) (fun _=>hr.units)) (aC 2) (fR aE))
    (aN (aZ 2 (fun _=>sc__law_deck.nd) (EV (aA aG aE))))
    fB)
   (aM (aZ 3 (fun _=>sc__law_deck.nd) (aR dF (cT gK (aC 2) aG) aG))
   (aM (aAj (aR gP (cT gK (aC 2) aG) aG) (aAM aEA (aC 2) aG))
   (aM (aZ 4 (fun _=>sc__law_deck.nd) (EV aE))
   (aM (tV (fun _=>S7) (fun _=>rfl) (gM (fun _=>T.hB.of "range") (aA (aC 1) aE)) (aY 5 (fun _=>sc__law_deck.nd))
    (aM (aZ 6 (fun _=>sc__law_deck.nd) (aR dF (aC 5) (bV HX (fun _=>T.hB.of "len") boot_len (aA (aC 2) aE))))
   (aM (aZ 7 (fun _=>sc__law_deck.nd) (aR dF (cT gK (aC 2) (aC 6)) aG))
   (aM (fN (bU (sD (fun _=>rfl) (fun _=>hr.units)) (aC 3) aG)
    (aM (aZ 7 (fun _=>sc__law_deck.nd) (aR dF (aR iG (aR iG (cT gK (aC 2) (aC 6)) (aR yW (aR yW (aC 5) (aC 5)) aG)) (aR yW aG (aC 5))) aG))
   (aM (aZ 7 (fun _=>sc__law_deck.nd) (aR dF (aR iG (aR yW (aC 7) (cT gK (fR (aA aG (aA aG (aA aG (aA aG aE))))) (aR dF (aC 5) aG))) aG) aG))
   (aN (aZ 7 (fun _=>sc__law_deck.nd) (aR dF (aR yW (aC 7) (aC 7)) aG)))))
    (aN (aAj (aR gP (cT gK (aC 2) (aC 6)) aG) (aAM aEA (aC 2) (aC 6)))))
   (aN (vB (rN (fun _=>rfl) (aC 4) (aA (aC 7) aE))))))))
   (aM (vB (LQ (fun _=>rfl) (aC 4)))
   (aN (bB (aC 4))))))))))
theorem mB(T:Txt K mg):Callee P w K mg base 1 "is_whole" tM (spM K gQ):=
 T.v58.okG (N:=zG) (ps:=tM) (k:=0) (b:=zV) JX (by sleep 991) fun f cdv A outer s H E hr=>
  (aN (bB (dH (zP (T:="int") (fun _=>rfl) (by decide) (aC 0) (fun _=>bX) (fun _=>T.hB.of "isinstance") (fun _=>T.hB.of "int") boot_int) (gW (OC (zP (T:="bool") (fun _=>rfl) (by decide) (aC 0) (fun _=>bX) (fun _=>T.hB.of "isinstance") (fun _=>T.hB.of "bool") boot_bool))))))
theorem wJ(T:Txt K mg):Callee P w K mg base 1 "is_row" zM (spM K pZ):=
 T.v59.okG (N:=IX) (ps:=zM) (k:=0) (b:=LI) RR (by sleep 991) fun f cdv A outer s H E hr=>
  (aN (bB (PV (T:="list") (U:="tuple") (fun _=>rfl) (by decide) (by decide) (aC 0) (fun _=>bX) (fun _=>T.hB.of "isinstance") (fun _=>T.hB.of "list") (fun _=>T.hB.of "tuple") boot_list A0c)))
theorem DT(T:Txt K mg):Callee P w K mg base 1 "common" zC (spM K uE):=
 T.v60.okG (N:=HQ) (ps:=zC) (k:=0) (b:=KQ) sc_common (by sleep 992) fun f cdv A outer s H E hr=>
  (aM (KP (fun _=>S7) (ZA (fun _=>rfl) (aC 1)) (aN (LN 0 1 (fun _=>rfl) (fun _=>sc_common.nd) (aA (aC 1) (aA (aR dF (aC 0) (aC 1)) aE)))))
   (aN (bB (aC 0))))
theorem uN(T:Txt K mg):Callee P w K mg base 2 "is_row_of" qD (spM K lK):=
 T.v61.okG (N:=xD) (ps:=qD) (k:=1) (b:=wY) GM (by sleep 992) fun f cdv A outer s H E hr=>
  (aN (bB (dH (aT (fun _=>wJ T) hr.le (aA (aC 0) aE)) (gW (iP (sD (fun _=>rfl) (fun _=>hr.units)) (bV HX (fun _=>T.hB.of "len") boot_len (aA (aC 0) aE)) (aC 1))))))
theorem pC(T:Txt K mg):Callee P w K mg base 3 "has_amount_numbers" eN (spM K bM):=
 T.v62.okG (N:=iY) (ps:=eN) (k:=2) (b:=cG) pF (by sleep 991) fun f cdv A outer s H E hr=>
  (aM (fN (SN (AG (jH (kL (aT (fun _=>uN T) hr.le (aA (aC 0) (aA aG aE))))) (AG (jH (kL (aT (fun _=>mB T) hr.le (aA (cT gK (aC 0) aG) aE)))) (yN (jH (kL (aT (fun _=>mB T) hr.le (aA (cT gK (aC 0) aG) aE))))))))
   (aN (bB lU))
   fB)
   (aN (bB (dH (iP aHU (cT gK (aC 0) aG) aG) (gW (iP aHU (cT gK (aC 0) aG) aG))))))
theorem BG(T:Txt K mg):Callee P w K mg base 4 "is_in_parts" mR (spM K cQ):=
 T.v63.okG (N:=sQ) (ps:=mR) (k:=3) (b:=eC) AE (by sleep 991) fun f cdv A outer s H E hr=>
  (aN (bB (dH (aT (fun _=>pC T) hr.le (aA (aC 0) aE)) (dH (iP (sD (fun _=>rfl) (fun _=>hr.units)) (aR dF (qN (fun _=>T.v106)) (cT gK (aC 0) aG)) aG) (gW (iP (sD (fun _=>rfl) (fun _=>hr.units)) (aT (fun _=>DT T) hr.le (aA (cT gK (aC 0) aG) (aA (cT gK (aC 0) aG) aE))) aG))))))
theorem HE(T:Txt K mg):Callee P w K mg base 5 "is_weight" qI (spM K eM):=
 T.v64.okG (N:=wR) (ps:=qI) (k:=4) (b:=iU) GV (by sleep 991) fun f cdv A outer s H E hr=>
  (aN (bB (dH (aT (fun _=>BG T) hr.le (aA (aC 0) aE)) (gW (iP VO (cT gK (aC 0) aG) (qN (fun _=>T.v105)))))))
theorem qH(T:Txt K mg):Callee P w K mg base 2 "is_place" tH (spM K fH):=
 T.v65.okG (N:=yM) (ps:=tH) (k:=1) (b:=oG) JL (by sleep 992) fun f cdv A outer s H E hr=>
  (aN (bB (dH (aT (fun _=>mB T) hr.le (aA (aC 1) aE)) (gW (vA VO AL aG (aC 1) (aC 0))))))
theorem qZ(T:Txt K mg):Callee P w K mg base 3 "are_unlike_places" fO (spM K bY):=
 T.v66.okG (N:=jM) (ps:=fO) (k:=2) (b:=cK) pT (by sleep 993) fun f cdv A outer s H E hr=>
  (aN (bB (dH (aT (fun _=>qH T) hr.le (aA (aC 0) (aA (aC 1) aE))) (dH (aT (fun _=>qH T) hr.le (aA (aC 0) (aA (aC 2) aE))) (gW (iP (OL (fun _=>rfl) (fun _=>hr.units)) (aC 1) (aC 2)))))))
theorem qU(T:Txt K mg):Callee P w K mg base 4 "is_between_places" fU (spM K bF):=
 T.v67.okG (N:=jK) (ps:=fU) (k:=3) (b:=cL) pY (by sleep 992) fun f cdv A outer s H E hr=>
  (aN (bB (dH (aT (fun _=>uN T) hr.le (aA (aC 1) (aA aG aE))) (dH (aT (fun _=>qZ T) hr.le (aA (aC 0) (aA (cT gK (aC 1) aG) (aA (cT gK (aC 1) aG) aE)))) (gW (iP AL (cT gK (aC 1) aG) (cT gK (aC 1) aG)))))))
theorem UP(T:Txt K mg):Callee P w K mg base 6 "is_tie" AD (spM K kP):=
 T.v68.okG (N:=JZ) (ps:=AD) (k:=5) (b:=nH) RQ (by sleep 992) fun f cdv A outer s H E hr=>
  (aN (bB (dH (aT (fun _=>qU T) hr.le (aA (aC 0) (aA (aC 1) aE))) (gW (aT (fun _=>HE T) hr.le (aA (cT gK (aC 1) aG) aE))))))
theorem GY(T:Txt K mg):Callee P w K mg base 7 "kept_ties" pU (spM K iW):=
 T.v69.okG (N:=rF) (ps:=pU) (k:=6) (b:=pR) sc_kept_ties (by sleep 992) fun f cdv A outer s H E hr=>
  (aM (fN (jH (kL (aT (fun _=>wJ T) hr.le (aA (aC 1) aE))))
   (aN zS)
   fB)
   (aM (aZ 2 (fun _=>sc_kept_ties.nd) IY)
   (aM (tV (fun _=>S7) (fun _=>rfl) (aDz (fun _=>rfl) (fun _=>T.hB.of "enumerate") (aA (aC 1) aE)) (qM (fun _=>rfl) (fun _=>rfl) (cB (aY 3 (fun _=>sc_kept_ties.nd)) (cB (aY 4 (fun _=>sc_kept_ties.nd)) lH)))
    (aM (fN (SN (AG (jH (kL (aT (fun _=>UP T) hr.le (aA (aC 0) (aA (aC 4) aE))))) (yN (aGT (fun _=>hr.u1) (AH (aA (cT gK (aC 4) aG) (aA (cT gK (aC 4) aG) aE))) (aC 2)))))
    (aN zS)
    fB)
   (aN (QL (fun _=>hr.u1) (aC 2) (AH (aA (cT gK (aC 4) aG) (aA (cT gK (aC 4) aG) aE))) (eO (nP (fun _=>rfl)) (fun _=>T.hB.of "tuple") A0c (aA (cT gK (aC 4) aG) aE))))))
   (aN (bB (eO (nP (fun _=>rfl)) (fun _=>T.hB.of "tuple") A0c (aA (lR (N':=(["i","j","weight"]:List Str)) (cap:=[none,none,none]) (fun _=>rfl) (fun _=>cJ (sc0:=aF jX) (N:=rF) rfl rfl (by decide +kernel)) (nW (fun _=>rfl) (YE (fun _=>rfl) (fun _=>hr.units2) (fun _=>rfl) (fun _=>T.hB.of "sorted") (aC 2))) (qM (fun _=>rfl) (fun _=>rfl) (cB (qM (fun _=>rfl) (fun _=>rfl) (cB (aY 0 (fun _=>(show(["i","j","weight"]:List Str).Nodup by decide +kernel))) (cB (aY 1 (fun _=>(show(["i","j","weight"]:List Str).Nodup by decide +kernel))) lH))) (cB (aY 2 (fun _=>(show(["i","j","weight"]:List Str).Nodup by decide +kernel))) lH))) (rC (bU aAO (cT gK (aC 2) aG) aG)) (bA (aA (aC 0) (aA (aC 1) (aA (aC 2) aE))))) aE)))))))
theorem HI(T:Txt K mg):HH P w K mg base 8 "Web" qJ (spM K gS):=
 T.v104.okI (N:=pL) (ps:=qJ) (k:=7) (b:=rA) T.v55 T.v56 T.v95 GB (by sleep 993) fun f cdv A outer s H E hr=>
  (aM (fN (SN (AG (jH (kL (aT (fun _=>mB T) hr.le (aA (aC 1) aE)))) (AG (bU AL (aC 1) aG) (yN (bU aAO (aC 1) (qN (fun _=>T.v107)))))))
   (aN zS)
   fB)
   (aM (ND (nm:="Web") (fun _=>rfl) T.v96 T.v25 (aC 0) (aC 1))
   (aM (ND (nm:="Web") (fun _=>rfl) T.v96 T.v26 (aC 0) (aT (fun _=>GY T) hr.le (aA (aC 1) (aA (aC 2) aE))))
   (aN (ND (nm:="Web") (fun _=>rfl) T.v96 T.v49 (aC 0) (aGg (N':=(["i","j","weight"]:List Str)) (cap:=[none,none,none]) (fun _=>hr.u0) (fun _=>rfl) (fun _=>cJ (sc0:=aF fK) (N:=pL) rfl rfl (by decide +kernel)) (nW (fun _=>rfl) (yI (nm:="Web") (fun _=>rfl) T.v96 T.v26 (aC 0))) (qM (fun _=>rfl) (fun _=>rfl) (cB (aY 0 (fun _=>(show(["i","j","weight"]:List Str).Nodup by decide +kernel))) (cB (aY 1 (fun _=>(show(["i","j","weight"]:List Str).Nodup by decide +kernel))) (cB (aY 2 (fun _=>(show(["i","j","weight"]:List Str).Nodup by decide +kernel))) lH)))) jF (AH (aA (aC 0) (aA (aC 1) aE))) (aC 2)))))))
theorem AW(T:Txt K mg):Callee P w K mg base 1 "_law_lowest" mK (spM K fX):=
 T.v70.okG (N:=sU) (ps:=mK) (k:=0) (b:=mU) sc__law_lowest (by sleep 992) fun f cdv A outer s H E hr=>
  (aM (LN 2 3 (fun _=>rfl) (fun _=>sc__law_lowest.nd) (aA (aC 0) (aA (aC 1) aE)))
   (aM (KP (fun _=>S7) (bU aAO (aC 3) aG) (aN (LN 2 3 (fun _=>rfl) (fun _=>sc__law_lowest.nd) (aA (aC 3) (aA (aR dF (aC 2) (aC 3)) aE)))))
   (aN (bB (bA (aA (aR gP (aC 0) (aC 2)) (aA (aR gP (aC 1) (aC 2)) aE)))))))
theorem FS(T:Txt K mg):Callee P w K mg base 2 "_law_rows" qX (spM K gU):=
 T.v71.okG (N:=pV) (ps:=qX) (k:=1) (b:=qP) ET (by sleep 991) fun f cdv A outer s H E hr=>
  (aN (bB (lR (N':=(["_law_ties","_law_i","_law_j"]:List Str)) (cap:=[some 0,none,none]) (fun _=>rfl) (fun _=>cJ (sc0:=aF jV) (N:=pV) rfl rfl (by decide +kernel)) (nW (fun _=>rfl) (bV (aDc (fun _=>rfl) (fun _=>hr.units2) (fun _=>rfl)) (fun _=>T.hB.of "sorted") boot_sorted (aA (aC 0) aE))) (qM (fun _=>rfl) (fun _=>rfl) (cB (aY 1 (fun _=>(show(["_law_ties","_law_i","_law_j"]:List Str).Nodup by decide +kernel))) (cB (aY 2 (fun _=>(show(["_law_ties","_law_i","_law_j"]:List Str).Nodup by decide +kernel))) lH))) jF (bA (aA (aC 1) (aA (aC 2) (aA (aT (fun _=>AW T) hr.le (aA (aCb (fun _=>hr.u1) (aC 0) (AH (aA (aC 1) (aA (aC 2) aE)))) (aA aG aE))) aE)))))))
theorem BV(T:Txt K mg):Callee P w K mg base 1 "_law_pairs" oM (spM K jQ):=
 T.v72.okG (N:=cO) (ps:=oM) (k:=0) (b:=nT) sc__law_pairs (by sleep 992) fun f cdv A outer s H E hr=>
  (aM (aZ 2 (fun _=>sc__law_pairs.nd) (aR dF (mF (fun _=>rfl) (aC 0)) aG))
   (aM (aZ 3 (fun _=>sc__law_pairs.nd) (EV aE))
   (aM (fN (bU AL (aC 2) aG)
    (aM (rW 3 (fun _=>sc__law_pairs.nd) (N':=(["_law_many","_law_k"]:List Str)) (cap:=[some 1,none]) (fun _=>rfl) (fun _=>cJ (sc0:=aF bR) (N:=cO) rfl rfl (by decide +kernel)) (gM (fun _=>T.hB.of "range") (aA (aC 1) aE)) (aY 1 (fun _=>(show(["_law_many","_law_k"]:List Str).Nodup by decide +kernel))) jF (bA (aA (aC 1) (aA (aR dF (aR iG (aC 1) aG) (aC 0)) aE))))
   (aN (fN (bU (sD (fun _=>rfl) (fun _=>hr.units)) (aC 2) aG)
    (aM (aZ 4 (fun _=>sc__law_pairs.nd) (mF (fun _=>rfl) (aC 0)))
   (aN (aZ 3 (fun _=>sc__law_pairs.nd) (aR (BC (fun _=>rfl)) (aC 3) (fR (aA (bA (aA (aR dF (aC 4) (aC 1)) (aA (aR dF (aR gP (aC 4) aG) (aC 1)) aE))) (aA (bA (aA (aR dF (aR gP (aC 4) aG) (aC 1)) (aA (aR dF (aR gP (aC 4) aG) (aC 1)) aE))) aE)))))))
    fB)))
    (aN (fN (bU (sD (fun _=>rfl) (fun _=>hr.units)) (aC 2) aG)
    (aN (rW 3 (fun _=>sc__law_pairs.nd) (N':=(["_law_k"]:List Str)) (cap:=[none]) (fun _=>rfl) (fun _=>cJ (sc0:=aF bR) (N:=cO) rfl rfl (by decide +kernel)) (GR (fun _=>T.hB.of "range") (aA aG (aA (aC 1) aE))) (aY 0 (fun _=>(show(["_law_k"]:List Str).Nodup by decide +kernel))) jF (bA (aA aG (aA (aC 0) aE)))))
    (aN (fN (bU (sD (fun _=>rfl) (fun _=>hr.units)) (aC 2) aG)
    (aN (rW 3 (fun _=>sc__law_pairs.nd) (N':=(["_law_deck_here","_law_k"]:List Str)) (cap:=[some 0,none]) (fun _=>rfl) (fun _=>cJ (sc0:=aF bR) (N:=cO) rfl rfl (by decide +kernel)) (GR (fun _=>T.hB.of "range") (aA aG (aA (aC 1) aE))) (aY 1 (fun _=>(show(["_law_deck_here","_law_k"]:List Str).Nodup by decide +kernel))) jF (bA (aA (aR dF (mF (fun _=>rfl) (aC 0)) (aC 1)) (aA (aC 1) aE)))))
    (aN (fN (bU (sD (fun _=>rfl) (fun _=>hr.units)) (aC 2) aG)
    (aM (aZ 5 (fun _=>sc__law_pairs.nd) (aR gP (aC 1) aG))
   (aM (tV (fun _=>S7) (fun _=>rfl) (gM (fun _=>T.hB.of "range") (aA (aC 1) aE)) (aY 6 (fun _=>sc__law_pairs.nd))
    (aN (aZ 3 (fun _=>sc__law_pairs.nd) (aR (BC (fun _=>rfl)) (aC 3) (lR (N':=(["_law_j","_law_middle","_law_i"]:List Str)) (cap:=[some 6,some 5,none]) (fun _=>rfl) (fun _=>cJ (sc0:=aF bR) (N:=cO) rfl rfl (by decide +kernel)) (gM (fun _=>T.hB.of "range") (aA (aC 6) aE)) (aY 2 (fun _=>(show(["_law_j","_law_middle","_law_i"]:List Str).Nodup by decide +kernel))) (rC (bU (sD (fun _=>rfl) (fun _=>hr.units)) (iP AL (aC 2) (aC 1)) (iP AL (aC 0) (aC 1)))) (bA (aA (aC 2) (aA (aC 0) aE))))))))
   (aN (vB (rN (fun _=>rfl) (aC 3) (aA (bA (aA aG (aA (aR RD (aC 1) aG) aE))) aE))))))
    (aN (fN (bU (sD (fun _=>rfl) (fun _=>hr.units)) (aC 2) aG)
    (aM (aZ 5 (fun _=>sc__law_pairs.nd) (aR gP (aC 1) aG))
   (aM (rW 3 (fun _=>sc__law_pairs.nd) (N':=(["_law_middle","_law_k"]:List Str)) (cap:=[some 5,none]) (fun _=>rfl) (fun _=>cJ (sc0:=aF bR) (N:=cO) rfl rfl (by decide +kernel)) (gM (fun _=>T.hB.of "range") (aA (aR iG (aC 5) aG) aE)) (aY 1 (fun _=>(show(["_law_middle","_law_k"]:List Str).Nodup by decide +kernel))) jF (bA (aA (aC 1) (aA (aR dF (aR iG (aC 1) aG) (aR iG (aC 0) aG)) aE))))
   (aN (aZ 3 (fun _=>sc__law_pairs.nd) (aR (BC (fun _=>rfl)) (aR (BC (fun _=>rfl)) (aC 3) (lR (N':=(["_law_k"]:List Str)) (cap:=[none]) (fun _=>rfl) (fun _=>cJ (sc0:=aF bR) (N:=cO) rfl rfl (by decide +kernel)) (GR (fun _=>T.hB.of "range") (aA (aC 5) (aA (aR RD (aC 1) aG) aE))) (aY 0 (fun _=>(show(["_law_k"]:List Str).Nodup by decide +kernel))) jF (bA (aA (aC 0) (aA (aR iG (aC 0) aG) aE))))) (fR (aA (bA (aA (aC 5) (aA (aR RD (aC 1) aG) aE))) aE)))))))
    (aN (fN (bU AL (aC 2) aG)
    (aN (tV (fun _=>S7) (fun _=>rfl) (gM (fun _=>T.hB.of "range") (aA (aC 1) aE)) (aY 6 (fun _=>sc__law_pairs.nd))
    (aN (aZ 3 (fun _=>sc__law_pairs.nd) (aR (BC (fun _=>rfl)) (aC 3) (lR (N':=(["_law_j","_law_deck_here","_law_i"]:List Str)) (cap:=[some 6,some 0,none]) (fun _=>rfl) (fun _=>cJ (sc0:=aF bR) (N:=cO) rfl rfl (by decide +kernel)) (gM (fun _=>T.hB.of "range") (aA (aC 6) aE)) (aY 2 (fun _=>(show(["_law_j","_law_deck_here","_law_i"]:List Str).Nodup by decide +kernel))) (rC (bU aAO (aR dF (mF (fun _=>rfl) (aC 1)) aG) aG)) (bA (aA (aC 2) (aA (aC 0) aE)))))))))
    fB)))))))))))
   (aN (bB (aC 3))))))
theorem yK(T:Txt K mg):Callee P w K mg base 1 "_law_weight" mH (spM K gI):=
 T.v73.okG (N:=sH) (ps:=mH) (k:=0) (b:=mP) sc__law_weight (by sleep 991) fun f cdv A outer s H E hr=>
  (aM (aZ 1 (fun _=>sc__law_weight.nd) (fR (aA aG (aA aG (aA aG (aA aG (aA aG (aA aG (aA aG (aA aG (aA (aR yW aG (aR YX aG aG)) (aA aG (aA aG (aA aG aE))))))))))))))
   (aN (bB (cT gK (aC 1) (aR dF (aC 0) aG)))))
theorem JM(T:Txt K mg):Callee P w K mg base 2 "_law_web" tT (spM K kN):=
 T.v74.okG (N:=yR) (ps:=tT) (k:=1) (b:=tQ) sc__law_web (by sleep 992) fun f cdv A outer s H E hr=>
  (aM (aZ 2 (fun _=>sc__law_web.nd) (mF (fun _=>rfl) (aC 0)))
   (aM (aZ 3 (fun _=>sc__law_web.nd) IY)
   (aM (tV (fun _=>S7) (fun _=>rfl) (nW (fun _=>rfl) (UN (aT (fun _=>BV T) hr.le (aA (aC 0) (aA (aC 1) aE))))) (qM (fun _=>rfl) (fun _=>rfl) (cB (aY 4 (fun _=>sc__law_web.nd)) (cB (aY 5 (fun _=>sc__law_web.nd)) lH)))
    (aM (aZ 6 (fun _=>sc__law_web.nd) aG)
   (aM (fN (bU (sD (fun _=>rfl) (fun _=>hr.units)) (aR dF (aC 2) aG) aG)
    (aN (aZ 6 (fun _=>sc__law_web.nd) (aT (fun _=>yK T) hr.le (aA (mF (fun _=>rfl) (aC 0)) aE))))
    fB)
   (aN (fN (SN (aFW (bU (OL (fun _=>rfl) (fun _=>hr.units)) (aC 4) (aC 5)) (aDj (bU aAO (aC 6) aG))))
    (aN (QL (fun _=>hr.u1) (aC 3) (AH (aA (bV (aFU (fun _=>rfl)) (fun _=>T.hB.of "min") boot_min (aA (aC 4) (aA (aC 5) aE))) (aA (bV (aEQ (fun _=>rfl)) (fun _=>T.hB.of "max") boot_max (aA (aC 4) (aA (aC 5) aE))) aE))) (aC 6)))
    fB)))))
   (aN (bB (aC 3))))))
theorem yS(T:Txt K mg):Callee P w K mg base 1 "_law_places" mM (spM K gE):=
 T.v75.okG (N:=mO) (ps:=mM) (k:=0) (b:=mX) BB (by sleep 992) fun f cdv A outer s H E hr=>
  (aN (bB (eO (nP (fun _=>rfl)) (fun _=>T.hB.of "tuple") A0c (aA (lR (N':=(["_law_deck_here","_law_place"]:List Str)) (cap:=[some 0,none]) (fun _=>rfl) (fun _=>cJ (sc0:=aF hX) (N:=mO) rfl rfl (by decide +kernel)) (gM (fun _=>T.hB.of "range") (aA (aC 1) aE)) (aY 1 (fun _=>(show(["_law_deck_here","_law_place"]:List Str).Nodup by decide +kernel))) (rC (bU (sD (fun _=>rfl) (fun _=>hr.units)) (aR dF (mF (fun _=>rfl) (aC 0)) aG) aG)) (aC 1)) aE))))
theorem xB(T:Txt K mg):Callee P w K mg base 1 "_law_any" tJ (spM K iH):=
 T.v76.okG (N:=zH) (ps:=tJ) (k:=0) (b:=tI) sc__law_any (by sleep 991) fun f cdv A outer s H E hr=>
  (aM (aZ 1 (fun _=>sc__law_any.nd) (fR (aA NO (aA lU (aA lU (aA aG (aA aG (aA (DR EO aG) (aA (aR YX aG aG) (aA AB (aA AB (aA AB (aA (bA aE) (aA (fR aE) (aA ZW (aA (aCr (aBK aG aG aGy)) (aA (bA (aA aG aE)) (aA (fR (aA aG aE)) aE))))))))))))))))))
   (aM (aZ 1 (fun _=>sc__law_any.nd) (aR iG (aC 1) (fR (aA (bA (aA aG (aA aG aE))) (aA (bA (aA (bA (aA aG aE)) (aA aG aE))) (aA (bA (aA NO aE)) (aA (bA (aA lU aE)) (aA (bA (aA aG (aA lU aE))) (aA (bA (aA AB (aA aG aE))) (aA (bA (aA (bA aE) aE)) (aA (bA (aA (bA aE) (aA (bA aE) aE))) aE)))))))))))
   (aM (aZ 1 (fun _=>sc__law_any.nd) (aR iG (aC 1) (fR (aA (bA (aA aG (aA aG (aA aG (aA aG aE))))) (aA (fR (aA (fR (aA aG aE)) aE)) (aA (bA (aA (DR EO aG) (aA aG aE))) (aA (bA (aA aG (aA aG aE))) (aA (bA (aA (bA (aA aG (aA aG (aA (bA (aA aG (aA aG aE))) aE)))) aE)) aE))))))))
   (aN (bB (cT gK (aC 1) (aR dF (mF (fun _=>rfl) (aC 0)) aG)))))))
theorem jO(T:Txt K mg):Callee P w K mg base 1 "_law_bent_places" gR (spM K cC):=
 T.v77.okG (N:=kI) (ps:=gR) (k:=0) (b:=dW) sc__law_bent_places (by sleep 993) fun f cdv A outer s H E hr=>
  (aM (aZ 3 (fun _=>sc__law_bent_places.nd) (mF (fun _=>rfl) (aC 0)))
   (aM (aZ 4 (fun _=>sc__law_bent_places.nd) (aR dF (aR gP (aC 3) aG) (aR iG (bV HX (fun _=>T.hB.of "len") boot_len (aA (aC 1) aE)) aG)))
   (aM (aZ 5 (fun _=>sc__law_bent_places.nd) (fR (aA (bA (aA (aC 2) aE)) (aA (bA (aA (DR EO aG) aE)) (aA (bA (aA lU aE)) (aA (bA (aA NO aE)) (aA (bA (aA AB aE)) (aA (bA (aA (bA (aA aG aE)) aE)) (aA (bA (aA (aR YX aG aG) aE)) (aA (wW (fun _=>rfl) (aC 1) (jW (DR EO aG)) mD) aE))))))))))
   (aM (fN (bU (sD (fun _=>rfl) (fun _=>hr.units)) (aR dF (aC 3) aG) aG)
    (aN (bB (aR iG (aR iG (wW (fun _=>rfl) (aC 1) mD (jW (aC 4))) (cT gK (aC 5) (aR dF (aR gP (aC 3) aG) aG))) (wW (fun _=>rfl) (aC 1) (jW (aC 4)) mD))))
    fB)
   (aM (aZ 6 (fun _=>sc__law_bent_places.nd) (aR iG (wW (fun _=>rfl) (aC 1) mD (jW (aC 4))) (wW (fun _=>rfl) (aC 1) (jW (aR iG (aC 4) aG)) mD)))
   (aN (bB (cT gK (fR (aA (aHs (fun _=>rfl) (aC 1) (jW (DR EO aG))) (aA (aC 6) (aA (aR iG (aC 1) (wW (fun _=>rfl) (aC 1) (jW (DR EO aG)) mD)) (aA (aR iG (aC 1) (wW (fun _=>rfl) (aC 1) mD (jW aG))) aE))))) (aR dF (aR gP (aC 3) aG) aG)))))))))
theorem yY(T:Txt K mg):Callee P w K mg base 1 "_law_is_row" mS (spM K mQ):=
 T.v78.okG (N:=sJ) (ps:=mS) (k:=0) (b:=sO) AI (by sleep 991) fun f cdv A outer s H E hr=>
  (aN (bB (PV (T:="list") (U:="tuple") (fun _=>rfl) (by decide) (by decide) (aC 0) (fun _=>bX) (fun _=>T.hB.of "isinstance") (fun _=>T.hB.of "list") (fun _=>T.hB.of "tuple") boot_list A0c)))
theorem vW(T:Txt K mg):Callee P w K mg base 1 "_law_is_whole" jC (spM K cW):=
 T.v79.okG (N:=oW) (ps:=jC) (k:=0) (b:=gL) vQ (by sleep 993) fun f cdv A outer s H E hr=>
  (aN (bB (dH (zP (T:="int") (fun _=>rfl) (by decide) (aC 0) (fun _=>bX) (fun _=>T.hB.of "isinstance") (fun _=>T.hB.of "int") boot_int) (dH (OC (zP (T:="bool") (fun _=>rfl) (by decide) (aC 0) (fun _=>bX) (fun _=>T.hB.of "isinstance") (fun _=>T.hB.of "bool") boot_bool)) (gW (vA VO VO (aC 1) (aC 0) (aC 2)))))))
theorem tR(T:Txt K mg):Callee P w K mg base 2 "_law_are_rising" hW (spM K bT):=
 T.v80.okG (N:=iF) (ps:=hW) (k:=1) (b:=cY) tO (by sleep 992) fun f cdv A outer s H E hr=>
  (aM (fN (jH (kL (aT (fun _=>yY T) hr.le (aA (aC 1) aE))))
   (aN (bB lU))
   fB)
   (aM (fN (bU (OL (fun _=>rfl) (fun _=>hr.units)) (lR (N':=(["_law_many","_law_one"]:List Str)) (cap:=[some 0,none]) (fun _=>rfl) (fun _=>cJ (sc0:=aF dY) (N:=iF) rfl rfl (by decide +kernel)) (nW (fun _=>rfl) (aC 1)) (aY 1 (fun _=>(show(["_law_many","_law_one"]:List Str).Nodup by decide +kernel))) (rC (jH (kL (aT (fun _=>vW T) hr.le (aA (aC 1) (aA aG (aA (aR RD (aC 0) aG) aE))))))) (aC 1)) (fR aE))
    (aN (bB lU))
    fB)
   (aN (bB (iP (sD (fun _=>rfl) (fun _=>hr.units)) (eO (LZ (fun _=>rfl)) (fun _=>T.hB.of "list") boot_list (aA (aC 1) aE)) (aDf (fun _=>rfl) (fun _=>rfl) (fun _=>T.hB.of "set") (fun _=>T.hB.of "sorted") (aA (aC 1) aE)))))))
theorem xR(T:Txt K mg):Callee P w K mg base 3 "_law_is_side" kD (spM K eX):=
 T.v81.okG (N:=rK) (ps:=kD) (k:=2) (b:=iA) xT (by sleep 992) fun f cdv A outer s H E hr=>
  (aN (bB (dH (aT (fun _=>tR T) hr.le (aA (aC 0) (aA (aC 1) aE))) (gW (vA VO AL aG (bV HX (fun _=>T.hB.of "len") boot_len (aA (aC 1) aE)) (aC 0))))))
theorem GE(T:Txt K mg):Callee P w K mg base 1 "is_rising" rH (spM K lQ):=
 T.v82.okG (N:=pM) (ps:=rH) (k:=0) (b:=qQ) EU (by sleep 991) fun f cdv A outer s H E hr=>
  (aN (bB (bV (RE (fun _=>rfl) (fun _=>rfl)) (fun _=>T.hB.of "all") boot_all (aA (lR (N':=(["one","other"]:List Str)) (cap:=[none,none]) (fun _=>rfl) (fun _=>cJ (sc0:=aF jR) (N:=pM) rfl rfl (by decide +kernel)) (aCY (fun _=>rfl) (fun _=>T.hB.of "zip") (aA (aC 0) (aA (wW (fun _=>rfl) (aC 0) (jW aG) mD) aE))) (qM (fun _=>rfl) (fun _=>rfl) (cB (aY 0 (fun _=>(show(["one","other"]:List Str).Nodup by decide +kernel))) (cB (aY 1 (fun _=>(show(["one","other"]:List Str).Nodup by decide +kernel))) lH))) jF (iP AL (aC 0) (aC 1))) aE))))
theorem qA(T:Txt K mg):Callee P w K mg base 3 "are_rising_places" fV (spM K bH):=
 T.v83.okG (N:=fW) (ps:=fV) (k:=2) (b:=cM) qK (by sleep 992) fun f cdv A outer s H E hr=>
  (aN (bB (dH (aT (fun _=>wJ T) hr.le (aA (aC 1) aE)) (dH (bV (RE (fun _=>rfl) (fun _=>rfl)) (fun _=>T.hB.of "all") boot_all (aA (lR (N':=(["many","one"]:List Str)) (cap:=[some 0,none]) (fun _=>rfl) (fun _=>cJ (sc0:=aF dB) (N:=fW) rfl rfl (by decide +kernel)) (nW (fun _=>rfl) (aC 1)) (aY 1 (fun _=>(show(["many","one"]:List Str).Nodup by decide +kernel))) jF (aT (fun _=>qH T) hr.le (aA (aC 0) (aA (aC 1) aE)))) aE)) (gW (aT (fun _=>GE T) hr.le (aA (aC 1) aE)))))))
theorem AV(T:Txt K mg):Callee P w K mg base 4 "is_side" wA (spM K kA):=
 T.v84.okG (N:=DV) (ps:=wA) (k:=3) (b:=rV) MQ (by sleep 992) fun f cdv A outer s H E hr=>
  (aN (bB (dH (aT (fun _=>qA T) hr.le (aA (yI (nm:="Web") (fun _=>rfl) T.v96 T.v25 (aC 0)) (aA (aC 1) aE))) (gW (vA AL AL aG (bV HX (fun _=>T.hB.of "len") boot_len (aA (aC 1) aE)) (yI (nm:="Web") (fun _=>rfl) T.v96 T.v25 (aC 0)))))))
theorem iC(T:Txt K mg):cU P w K mg base 5 "refuse_no_side" iM (spX K cD):=
 T.v85.okX (N:=mY) (ps:=iM) (k:=4) (b:=fJ) uU (by sleep 992) fun f cdv A outer s H E hr=>
  (yB (aHg (jH (kL (aT (fun _=>AV T) hr.le (aA (aC 0) (aA (aC 1) aE)))))
   (yB (MP (fun i=>HS i) (fun _=>rfl) (fun _=>rfl) (fun _=>T.v97) T.v28))
   (OP fB)))
theorem uM(T:Txt K mg):Callee P w K mg base 2 "in_least_terms" iK (spM K nL):=
 T.v86.okG (N:=nB) (ps:=iK) (k:=1) (b:=nG) sc_in_least_terms (by sleep 992) fun f cdv A outer s H E hr=>
  (aM (aZ 2 (fun _=>sc_in_least_terms.nd) (aT (fun _=>DT T) hr.le (aA (aC 0) (aA (aC 1) aE))))
   (aN (bB (bA (aA (aR gP (aC 0) (aC 2)) (aA (aR gP (aC 1) (aC 2)) aE))))))
theorem CB(T:Txt K mg):Callee P w K mg base 3 "from_parts" oE (spM K uK):=
 T.v87.okG (N:=uJ) (ps:=oE) (k:=2) (b:=uG) BY (by sleep 991) fun f cdv A outer s H E hr=>
  (aN (bB (aT (fun _=>uM T) hr.le (aA (aC 0) (aA (qN (fun _=>T.v106)) aE)))))
theorem ZG(T:Txt K mg):Callee P w K mg base 1 "parts" GQ (spM K RL):=
 T.v88.okG (N:=QG) (ps:=GQ) (k:=0) (b:=OQ) XA (by sleep 991) fun f cdv A outer s H E hr=>
  (aN (bB (aR yW (cT gK (aC 0) aG) (aR gP (qN (fun _=>T.v106)) (cT gK (aC 0) aG)))))
theorem AY(T:Txt K mg):cU P w K mg base 6 "side_weight" mE (spX K cS):=
 T.v89.okX (N:=iS) (ps:=mE) (k:=5) (b:=mV) sc_side_weight (by sleep 992) fun f cdv A outer s H E hr=>
  (zU (uO (yF (fun i=>HS i) (fun _=>iC T) hr.le (zA (aA (aC 0) (aA (aC 1) aE)))))
   (OP (aM (aZ 2 (fun _=>sc_side_weight.nd) (aHb (N':=(["place"]:List Str)) (cap:=[none]) (fun _=>hr.u0) (fun _=>rfl) (fun _=>cJ (sc0:=aF eV) (N:=iS) rfl rfl (by decide +kernel)) (nW (fun _=>rfl) (aC 1)) (aY 0 (fun _=>(show(["place"]:List Str).Nodup by decide +kernel))) jF (mk_one (aC 0)) lU))
   (aN (bB (aT (fun _=>CB T) hr.le (aA (bV (aFn (fun _=>rfl) (fun _=>rfl)) (fun _=>T.hB.of "sum") boot_sum (aA (lR (N':=(["inside","i","j","weight"]:List Str)) (cap:=[some 2,none,none,none]) (fun _=>rfl) (fun _=>cJ (sc0:=aF eV) (N:=iS) rfl rfl (by decide +kernel)) (nW (fun _=>rfl) (yI (nm:="Web") (fun _=>rfl) T.v96 T.v26 (aC 0))) (qM (fun _=>rfl) (fun _=>rfl) (cB (aY 1 (fun _=>(show(["inside","i","j","weight"]:List Str).Nodup by decide +kernel))) (cB (aY 2 (fun _=>(show(["inside","i","j","weight"]:List Str).Nodup by decide +kernel))) (cB (aY 3 (fun _=>(show(["inside","i","j","weight"]:List Str).Nodup by decide +kernel))) lH)))) (rC (bU (OL (fun _=>rfl) (fun _=>hr.units)) (YF (fun _=>hr.u1) (mk_one (aC 1)) (aC 0)) (YF (fun _=>hr.u1) (mk_one (aC 2)) (aC 0)))) (aT (fun _=>ZG T) hr.le (aA (aC 3) aE))) aE)) aE)))))))
theorem wD(T:Txt K mg):cU P w K mg base 6 "others" vC (spX K dJ):=
 T.v90.okX (N:=AJ) (ps:=vC) (k:=5) (b:=uX) UL (by sleep 992) fun f cdv A outer s H E hr=>
  (zU (uO (yF (fun i=>HS i) (fun _=>iC T) hr.le (zA (aA (aC 0) (aA (aC 1) aE)))))
   (OP (aN (bB (eO (nP (fun _=>rfl)) (fun _=>T.hB.of "tuple") A0c (aA (lR (N':=(["side","place"]:List Str)) (cap:=[some 1,none]) (fun _=>rfl) (fun _=>cJ (sc0:=aF rR) (N:=AJ) rfl rfl (by decide +kernel)) (gM (fun _=>T.hB.of "range") (aA (yI (nm:="Web") (fun _=>rfl) T.v96 T.v25 (aC 0)) aE)) (aY 1 (fun _=>(show(["side","place"]:List Str).Nodup by decide +kernel))) (rC (bU (PD (fun _=>rfl) (fun _=>hr.units1)) (aC 1) (aC 0))) (aC 1)) aE))))))
theorem iV(T:Txt K mg):cU P w K mg base 7 "apart_from_nought" fT (spX K aS):=
 T.v91.okX (N:=jL) (ps:=fT) (k:=6) (b:=cN) rM (by sleep 992) fun f cdv A outer s H E hr=>
  (zU (uO (yF (fun i=>HS i) (fun _=>iC T) hr.le (zA (aA (aC 0) (aA (aC 1) aE)))))
   (yB (aBu (aIx (bU (sD (fun _=>rfl) (fun _=>hr.units)) (cT gK (aC 1) aG) aG) (yF (fun i=>HS i) (fun _=>wD T) hr.le (zA (aA (aC 0) (aA (aC 1) aE)))) (aJr (eO (nP (fun _=>rfl)) (fun _=>T.hB.of "tuple") A0c (aA (aC 1) aE)))))))
theorem xP(T:Txt K mg):Callee P w K mg base 8 "_law_refused" kY (spM K dO):=
 T.v92.okG (N:=qE) (ps:=kY) (k:=7) (b:=kZ) sc__law_refused (by sleep 993) fun f cdv A outer s H E hr=>
  (aM (aZ 3 (fun _=>sc__law_refused.nd) lU)
   (aM (aFF (fun _=>⟨rfl,rfl,rfl⟩) (fun _=>rfl) (yB (uO (aAg (k:=7) (tbl:=[("others",dJ),("apart_from_nought",aS),("side_weight",cS)]) (ps:=vC) 2 (fun _=>rfl) (fun i=>aJi (fun _=>⟨rfl,rfl,rfl⟩) i) (fun _=>(HL (wD T) T.v100 (HL (iV T) T.v99 (HL (AY T) T.v98 aGY)))) hr.le (zA (aA (aC 0) (aA (aC 1) aE)))))) (aCR (tab:=[("NoSide",true)]) (n:=(some 4)) (.ref (bC K "NoSide")) (fun _=>⟨rfl,rfl,rfl⟩) (fun _=>.inl T.v97) (fun _=>⟨sc__law_refused.nd,rfl,rfl⟩) (UC T.v32 ZF) (aN (aZ 3 (fun _=>sc__law_refused.nd) (dH (HB (tab:=iX) (nn:=some false) (c:=(.ref (bC K "CutError"))) (fun _=>rfl) (.own _) (VI (fun _=>T.v103)) (FA (ES T) T.v47 rfl) (GJ T.v48) (aC 4) (fun _=>bX) (fun _=>T.hB.of "isinstance")) (dH (HB (tab:=gJ) (nn:=some false) (c:=(.type "ValueError")) (fun _=>rfl) (.ty _) (aJe (fun _=>T.hB.of "ValueError") xV) (FA (ES T) T.v44 rfl) (GJ T.v45) (aC 4) (fun _=>bX) (fun _=>T.hB.of "isinstance")) (gW (OC (HB (tab:=kB) (nn:=some false) (c:=(.ref (bC K "NoPlace"))) (fun _=>rfl) (.own _) (VI (fun _=>T.v102)) (FA (ES T) T.v42 rfl) (GJ T.v43) (aC 4) (fun _=>bX) (fun _=>T.hB.of "isinstance"))))))))
   aGV))
   (aN (bB (aC 3)))))
theorem CL(T:Txt K mg):Callee P w K mg base 9 "_law_right" nO (spM K gX):=
 T.v93.okG (N:=jT) (ps:=nO) (k:=8) (b:=jS) sc__law_right (by sleep 993) fun f cdv A outer s H E hr=>
  (aM (aZ 3 (fun _=>sc__law_right.nd) (bV (rX (fun _=>rfl) (fun _=>hr.gd) (fun _=>hr.u200)) (fun _=>T.hB.of "repr") boot_repr (aA (aC 2) aE)))
   (aM (aZ 4 (fun _=>sc__law_right.nd) (aT (fun _=>xR T) hr.le (aA (aC 1) (aA (aC 2) aE))))
   (aM (aZ 5 (fun _=>sc__law_right.nd) (aT (fun _=>AV T) hr.le (aA (aC 0) (aA (aC 2) aE))))
   (aM (fN (SN (AG (jH (kL (zP (T:="bool") (fun _=>rfl) (by decide) (aC 5) (fun _=>bX) (fun _=>T.hB.of "isinstance") (fun _=>T.hB.of "bool") boot_bool))) (yN (bU (OL (fun _=>rfl) (fun _=>hr.units)) (aC 5) (aC 4)))))
    (aN (bB lU))
    fB)
   (aM (fN (jH (ZA (fun _=>rfl) (aC 4)))
    (aN (bB (bV (RE (fun _=>rfl) (fun _=>rfl)) (fun _=>T.hB.of "all") boot_all (aA (lR (N':=(["_law_world","_law_thing","_law_ask"]:List Str)) (cap:=[some 0,some 2,none]) (fun _=>rfl) (fun _=>cJ (sc0:=aF fY) (N:=jT) rfl rfl (by decide +kernel)) (aBP (fun _=>rfl) (aA (XZ (fun _=>T.v100)) (aA (XZ (fun _=>T.v99)) (aA (XZ (fun _=>T.v98)) aE)))) (aY 2 (fun _=>(show(["_law_world","_law_thing","_law_ask"]:List Str).Nodup by decide +kernel))) jF (aT (fun _=>xP T) hr.le (aA (aC 0) (aA (aC 1) (aA (aC 2) aE))))) aE))))
    fB)
   (aM (aZ 6 (fun _=>sc__law_right.nd) (eO (nP (fun _=>rfl)) (fun _=>T.hB.of "tuple") A0c (aA (lR (N':=(["_law_thing","_law_place"]:List Str)) (cap:=[some 2,none]) (fun _=>rfl) (fun _=>cJ (sc0:=aF fY) (N:=jT) rfl rfl (by decide +kernel)) (gM (fun _=>T.hB.of "range") (aA (aC 1) aE)) (aY 1 (fun _=>(show(["_law_thing","_law_place"]:List Str).Nodup by decide +kernel))) (rC (bU (PD (fun _=>rfl) (fun _=>hr.units1)) (aC 1) (aC 0))) (aC 1)) aE)))
   (aM (aZ 7 (fun _=>sc__law_right.nd) (aIy (bU (aKa (fun _=>rfl) (fun _=>hr.units1)) aG (aC 2)) (aC 6) (eO (nP (fun _=>rfl)) (fun _=>T.hB.of "tuple") A0c (aA (aC 2) aE))))
   (aM (fN (SN (AG (bU (OL (fun _=>rfl) (fun _=>hr.units)) (bV (rX (fun _=>rfl) (fun _=>hr.gd) (fun _=>hr.u200)) (fun _=>T.hB.of "repr") boot_repr (aA (EL (fun _=>wD T) hr.le (aA (aC 0) (aA (aC 2) aE))) aE)) (bV (rX (fun _=>rfl) (fun _=>hr.gd) (fun _=>hr.u200)) (fun _=>T.hB.of "repr") boot_repr (aA (aC 6) aE))) (yN (bU (OL (fun _=>rfl) (fun _=>hr.units)) (bV (rX (fun _=>rfl) (fun _=>hr.gd) (fun _=>hr.u200)) (fun _=>T.hB.of "repr") boot_repr (aA (EL (fun _=>iV T) hr.le (aA (aC 0) (aA (aC 2) aE))) aE)) (bV (rX (fun _=>rfl) (fun _=>hr.gd) (fun _=>hr.u200)) (fun _=>T.hB.of "repr") boot_repr (aA (aC 7) aE))))))
    (aN (bB lU))
    fB)
   (aN (bB (iP (sD (fun _=>rfl) (fun _=>hr.units)) (bV (rX (fun _=>rfl) (fun _=>hr.gd) (fun _=>hr.u200)) (fun _=>T.hB.of "repr") boot_repr (aA (aC 2) aE)) (aC 3))))))))))))
theorem fn_law(T:Txt K mg):∃f fd,mg "law"=some (.ref f)/\(∀(s:Shared)(u:Value),BindsTo s fd ⟨[u],[]⟩ [("_law_script",u)])/\∀base,kW P w K mg base CX0 10 f fd aEh (spM K F_law):=
 T.v94.okLG (N:=XR) (k:=9) (b:=aAS) sc_law rfl (by sleep 991) fun base f cdv A outer s H E hr=>
  (aM (aZ 1 (fun _=>sc_law.nd) (aT (fun _=>FH T) hr.le (aA (aC 0) (aA aG aE))))
   (aM (tV (fun _=>S7) (fun _=>rfl) (gM (fun _=>T.hB.of "range") (aA aG aE)) (aY 2 (fun _=>sc_law.nd))
    (aM (aZ 3 (fun _=>sc_law.nd) (aR iG aG (aR dF (mF (fun _=>rfl) (aC 1)) aG)))
   (aM (aZ 4 (fun _=>sc_law.nd) (aCH (fun _=>HI T) (fun _=>rfl) hr.le (aA (aC 3) (aA (aT (fun _=>FS T) hr.le (aA (aT (fun _=>JM T) hr.le (aA (aC 1) (aA (aC 3) aE))) aE)) aE))))
   (aM (aZ 5 (fun _=>sc_law.nd) (aT (fun _=>yS T) hr.le (aA (aC 1) (aA (aC 3) aE))))
   (aM (aZ 6 (fun _=>sc_law.nd) (EV (aA (aC 5) (aA (eO (LZ (fun _=>rfl)) (fun _=>T.hB.of "list") boot_list (aA (aC 5) aE)) (aA (aT (fun _=>xB T) hr.le (aA (aC 1) aE)) (aA (aT (fun _=>xB T) hr.le (aA (aC 1) aE)) (aA (VH (fun _=>rfl) (fun _=>T.hB.of "range") (fun _=>T.hB.of "tuple") (aA (aC 3) aE)) (aA (bA aE) (aA (fR aE) aE)))))))))
   (aM (aFM 6 (tV (fun _=>S7) (fun _=>rfl) (gM (fun _=>T.hB.of "range") (aA aG aE)) (aY 7 (fun _=>sc_law.nd))
    (aM (vB (rN (fun _=>rfl) (aC 6) (aA (aT (fun _=>jO T) hr.le (aA (aC 1) (aA (aC 5) (aA (aC 3) aE)))) aE)))
   (aN (vB (rN (fun _=>rfl) (aC 6) (aA (eO (LZ (fun _=>rfl)) (fun _=>T.hB.of "list") boot_list (aA (aT (fun _=>jO T) hr.le (aA (aC 1) (aA (aC 5) (aA (aC 3) aE)))) aE)) aE)))))))
   (aN (fN (jH (kL (bV (RE (fun _=>rfl) (fun _=>rfl)) (fun _=>T.hB.of "all") boot_all (aA (lR (N':=(["_law_world","_law_many","_law_thing"]:List Str)) (cap:=[some 4,some 3,none]) (fun _=>rfl) (fun _=>cJ (sc0:=aF FU) (N:=XR) rfl rfl (by decide +kernel)) (nW (fun _=>rfl) (aC 6)) (aY 2 (fun _=>(show(["_law_world","_law_many","_law_thing"]:List Str).Nodup by decide +kernel))) jF (aT (fun _=>CL T) hr.le (aA (aC 0) (aA (aC 1) (aA (aC 2) aE))))) aE))))
    (aN (bB lU))
    fB))))))))
   (aN (bB lU))))
theorem txt_mk{h:Heap}{v109:Tok}{v110:Tok}{v111:Tok}{v112:Addr}{v113:Addr}{v114:Addr}{v115:Addr}{v116:Addr}{v117:Addr}{v118:Addr}{v119:Addr}{od_Web__init an_Web__init:Option Addr}{sl_Web__init:Array (Option Value)}{oc_Web__init kV_Web__init dc_Web__init pm_Web__init cd_Web__init ct_Web__init:Value}(X:K.In h)(G:h.Ns mainGlobals mg)(v0:PySem.W.nsIn K mainGlobals "ValueError"=some none)(v1:PySem.W.nsIn K mainGlobals "all"=some none)(v2:PySem.W.nsIn K mainGlobals "bool"=some none)(v3:PySem.W.nsIn K mainGlobals "enumerate"=some none)(v4:PySem.W.nsIn K mainGlobals "int"=some none)(v5:PySem.W.nsIn K mainGlobals "isinstance"=some none)(v6:PySem.W.nsIn K mainGlobals "len"=some none)(v7:PySem.W.nsIn K mainGlobals "list"=some none)(v8:PySem.W.nsIn K mainGlobals "max"=some none)(v9:PySem.W.nsIn K mainGlobals "min"=some none)(v10:PySem.W.nsIn K mainGlobals "range"=some none)(v11:PySem.W.nsIn K mainGlobals "repr"=some none)(v12:PySem.W.nsIn K mainGlobals "set"=some none)(v13:PySem.W.nsIn K mainGlobals "sorted"=some none)(v14:PySem.W.nsIn K mainGlobals "sum"=some none)(v15:PySem.W.nsIn K mainGlobals "tuple"=some none)(v16:PySem.W.nsIn K mainGlobals "zip"=some none)(v17:PySem.W.nsIn K mainGlobals "MOST_ABOVE"=some (some (.int 1000000000000 v109)))(v18:PySem.W.nsIn K mainGlobals "BELOW"=some (some (.int 55440 v110)))(v19:PySem.W.nsIn K mainGlobals "MOST_PLACES"=some (some (.int 40 v111)))(v20:PySem.W.nsIn K mainGlobals "Web"=some (some (.ref v112)))(v21:PySem.W.plainGet K v112 Str.empty=true)(v22:PySem.W.hasDictIn K v112=true)(v23:PySem.W.plainOver K v112=true)(v24:PySem.W.findIn K (.ref v112) "__setattr__"=some (some (.builtin "object.__setattr__")))(v25:PySem.W.findIn K (.ref v112) "many"=some none)(v26:PySem.W.findIn K (.ref v112) "ties"=some none)(v27:PySem.W.nsIn K mainGlobals "NoSide"=some (some (.ref v113)))(v28:PySem.W.excIn K v113 bmV "ValueError.__new__"=true)(v29:PySem.W.nsIn K mainGlobals "side_weight"=some (some (.ref v114)))(v30:PySem.W.nsIn K mainGlobals "apart_from_nought"=some (some (.ref v115)))(v31:PySem.W.nsIn K mainGlobals "others"=some (some (.ref v116)))(v32:PySem.W.exmOne K (.ref v113) (.ref v113)=some true)(v33:PySem.W.findIn K (.ref v113) "__getattribute__"=some (some (.builtin "BaseException.__getattribute__")))(v34:PySem.W.findIn K (.ref v113) "__getattr__"=some none)(v35:PySem.W.subIn K (.ref v113) (.type "BaseException")=some true)(v36:(PySem.W.clsIn K v113).isSome=true)(v37:PySem.W.findIn K (.ref v113) "__class__"=some (some (.builtin "object.__class__")))(v38:PySem.W.specialIn K (.builtin "object.__class__") "__get__"=some (some (.builtin "getset_descriptor.__get__")))(v39:PySem.W.takesIn K (.builtin "object.__class__")=some true)(v40:PySem.W.mroIn K v113 (.type "object")=some true)(v41:PySem.W.nsIn K mainGlobals "NoPlace"=some (some (.ref v117)))(v42:zN K (.ref v117) kB=true)(v43:PySem.W.kitOne K (.type "NoneType") (.ref v117)=some false)(v44:zN K (.type "ValueError") gJ=true)(v45:PySem.W.kitOne K (.type "NoneType") (.type "ValueError")=some false)(v46:PySem.W.nsIn K mainGlobals "CutError"=some (some (.ref v118)))(v47:zN K (.ref v118) iX=true)(v48:PySem.W.kitOne K (.type "NoneType") (.ref v118)=some false)(v49:PySem.W.findIn K (.ref v112) "weights"=some none)(v50:PySem.W.findIn K (.ref v112) "__init__"=some (some (.ref v119)))(v51:K.lookup v119=some ⟨oc_Web__init,od_Web__init,.func (PySem.W.fnOf "__init__" "Web.__init__" (eG fK) (bJ fK) (aF fK) .none kV_Web__init dc_Web__init pm_Web__init an_Web__init cd_Web__init ct_Web__init),sl_Web__init⟩)(v52:PySem.W.codeIn K cd_Web__init "Web.__init__"=true)(v53:PySem.W.keepIn K (.ref v119)=true)(v54:PySem.W.isFn K (.ref v119)=true)(v55:PySem.W.makesIn K v112=true)(v56:PySem.W.keepIn K (.ref v112)=true)(v57:Def K mg "_law_deck" nM)(v58:Def K mg "is_whole" pK)(v59:Def K mg "is_row" wI)(v60:Def K mg "common" vS)(v61:Def K mg "is_row_of" nN)(v62:Def K mg "has_amount_numbers" eF)(v63:Def K mg "is_in_parts" kR)(v64:Def K mg "is_weight" nY)(v65:Def K mg "is_place" qW)(v66:Def K mg "are_unlike_places" eT)(v67:Def K mg "is_between_places" eP)(v68:Def K mg "is_tie" vE)(v69:Def K mg "kept_ties" jX)(v70:Def K mg "_law_lowest" kF)(v71:Def K mg "_law_rows" jV)(v72:Def K mg "_law_pairs" bR)(v73:Def K mg "_law_weight" kU)(v74:Def K mg "_law_web" rG)(v75:Def K mg "_law_places" hX)(v76:Def K mg "_law_any" qC)(v77:Def K mg "_law_bent_places" fP)(v78:Def K mg "_law_is_row" kJ)(v79:Def K mg "_law_is_whole" iO)(v80:Def K mg "_law_are_rising" dY)(v81:Def K mg "_law_is_side" jB)(v82:Def K mg "is_rising" jR)(v83:Def K mg "are_rising_places" dB)(v84:Def K mg "is_side" tW)(v85:Def K mg "refuse_no_side" gZ)(v86:Def K mg "in_least_terms" hV)(v87:Def K mg "from_parts" mW)(v88:Def K mg "parts" AU)(v89:Def K mg "side_weight" eV)(v90:Def K mg "others" rR)(v91:Def K mg "apart_from_nought" eQ)(v92:Def K mg "_law_refused" jD)(v93:Def K mg "_law_right" fY)(v94:Def K mg "law" FU):Txt K mg:=by
 cases oK v20;cases oK v27;cases oK v29;cases oK v30;cases oK v31;cases oK v41;cases oK v46;exact⟨(bL (D6 X G v0) (bL (D6 X G v1) (bL (D6 X G v2) (bL (D6 X G v3) (bL (D6 X G v4) (bL (D6 X G v5) (bL (D6 X G v6) (bL (D6 X G v7) (bL (D6 X G v8) (bL (D6 X G v9) (bL (D6 X G v10) (bL (D6 X G v11) (bL (D6 X G v12) (bL (D6 X G v13) (bL (D6 X G v14) (bL (D6 X G v15) (bL (D6 X G v16) aAw))))))))))))))))),⟨_,O8 X G v17⟩,⟨_,O8 X G v18⟩,⟨_,O8 X G v19⟩,O8 X G v20,⟨v21,v22,v23,v24⟩,v25,v26,O8 X G v27,v28,O8 X G v29,O8 X G v30,O8 X G v31,v32,⟨⟨v33,v34,v35,v36⟩,v37,v38,v39,v40⟩,O8 X G v41,v42,v43,v44,v45,O8 X G v46,v47,v48,v49,aCo rfl v50 v51 v52 v53 v54,v55,v56,v57,v58,v59,v60,v61,v62,v63,v64,v65,v66,v67,v68,v69,v70,v71,v72,v73,v74,v75,v76,v77,v78,v79,v80,v81,v82,v83,v84,v85,v86,v87,v88,v89,v90,v91,v92,v93,v94⟩
end
end Q9
end
end
section
namespace Q9
variable{M M' M0:Sto}{L c l m p v w:Nat}{J a b i j mid n y z:Int}{γ:Ga}{X ds ys:List PyData}{d r x:PyData}{ns xs:List Int}{us:List Tie}{f fa:AF}{g:GF}{g3 g4:Option CD}{e:EF}
open PySem PySem.Spec PyProof.Rows L2
local macro_rules | `(tactic| simp! [$a,*]) => `(tactic| simp only [fnF, fnX, CP, aDx, RJ, qB, aIM, uV, XN, aII, liA, liE, liS, GA, SW, UZ, aEP, aAn, setG, DP, sW, aX, sIf, bS, aJl, cX, aV, oY, hName, lD, bG, lA, hSub, gOr, XM, nR, gB, CG, aDG, aK, aB, aH, aD, fC, fOp, fUn, jE, fOr, SH, fIf, kQ, asB, bI, gF, sA, lB, FO, JK, pI, ifS, aCC, CC, BR, cZ, cE, LL, ltI, leI, gtI, geI, Option.bind_some, Option.bind_none, Option.map_some, List.getElem?_cons_zero, List.getElem?_cons_succ, List.length_cons, List.length_nil, List.set_cons_zero, List.set_cons_succ, List.map_cons, List.map_nil, List.replicate_zero, List.replicate_succ, List.cons_append, List.nil_append, List.append_nil, if_true, ite_true, ite_false, Nat.reduceAdd, Nat.reduceSub, reduceIte, Bool.not_true, Bool.not_false, Bool.false_eq_true, $a,*])
def uR:PyData->Bool
 |.int _=>true
 |_=>false
def sV:PyData->Bool
 |.list _=>true
 |.tuple _=>true
 |_=>false
theorem kK(x:PyData)(M:Sto):gQ [.d x] M=some (.d (.bool (uR x)),M):=by cases x<;>rfl
theorem tX(x:PyData)(M:Sto):pZ [.d x] M=some (.d (.bool (sV x)),M):=by cases x<;>rfl
def jI(d:PyData)(n:Int):Bool:=match bE d with
 |some ds=>((ds.length:Int)==n)
 |none=>false
theorem gT(x:PyData)(n:Int)(M:Sto):lK [.d x,.d (.int n)] M=some (.d (.bool (jI x n)),M):=by cases x<;>rfl
theorem IM(x y:Int):Int.gcd y (x % y)=Int.gcd x y:=by
 rw[Int.gcd_comm x y];have:x % y=x-y*(x / y):=by have:=Int.emod_add_mul_ediv x y;omega
 rw[this];simp
abbrev I(n:Int):CD:=.d (.int n)
theorem bN{x:Int}(h:0<y):eA x y=true:=by simp[eA,h]
theorem wX(M:Sto):∀(n:Nat)(x y:Int),0<=x->0<=y->y.toNat<n->
 fS (CG (aD 1)) (BM 0 1 (aB (aD 1) (aB (fOp cE (aD 0) (aD 1)) aH))) n [some (I x),some (I y)] M=some (.nx [some (I (Int.gcd x y)),some (I 0)],M)
 |0=>fun _ _ _ _ h=>by omega
 |n+1=>fun x y hx hy h=>by
  by_cases e:y=0
  .subst e;have:(Int.gcd x 0:Int)=x:=by rw[Int.gcd_zero_right];omega
   rw[this];rfl
  .have hp:0<y:=by omega
   have ih:=wX M n y (x % y) hy (Z6 _ e) (by have:=Y2 x hp;omega);rw[IM]at ih;rw[<- ih];have hb:(y != 0)=true:=by simp[e]
   simp only[fS,CG,aD,aDG,BM,aB,fOp,aH,cE,pI,ifS,bN hp,hb,Option.bind,List.getElem?_cons_succ,List.getElem?_cons_zero,if_true,List.set]
theorem aAF(M:Sto)(ha:0<=a)(hb:0<=b):uE [I a,I b] M=some (I (Int.gcd a b),M):=by
 have h:tP [some (I a),some (I b)] M=_:=LD (wX M (b.toNat+1) a b ha hb (J9 _));show((aX tP _ [some (I a),some (I b)] M).bind _)=_;unfold aX;rw[h];rfl
abbrev B(b:Bool):CD:=.d (.bool b)
def uH(d:PyData):Bool:=match bE d with
 |some [.int a,.int b]=>decide (0<=a)&&decide (1<=b)
 |_=>false
theorem aAl(h:jI x 2=true):∃a b,x=.list [a,b]\/x=.tuple [a,b]:=by
 unfold jI at h;cases x with
 |list ds=>
  have h:((ds.length:Int)==2)=true:=h;rcases ds with _|⟨a,_|⟨b,_|⟨c,r⟩⟩⟩
  .simp at h
  .simp at h
  .exact⟨a,b,.inl rfl⟩
  .simp at h;omega
 |tuple ds=>
  have h:((ds.length:Int)==2)=true:=h;rcases ds with _|⟨a,_|⟨b,_|⟨c,r⟩⟩⟩
  .simp at h
  .simp at h
  .exact⟨a,b,.inr rfl⟩
  .simp at h;omega
 |_=>simp[bE]at h
theorem LB(h:jI x 2=false):uH x=false:=by
 unfold uH;unfold jI at h;cases q:bE x with
 |none=>rfl
 |some ds=>
  rw[q]at h;rcases ds with _|⟨a,_|⟨b,_|⟨c,r⟩⟩⟩
  .rfl
  .cases a<;>rfl
  .simp at h
  .cases a<;>cases b<;>rfl
theorem aJV{a b:PyData}:ixF (.d (.list [a,b])) (I 0) M=some (.d a,M):=rfl
theorem aJN{a b:PyData}:ixF (.d (.list [a,b])) (I 1) M=some (.d b,M):=rfl
theorem aJO{a b:PyData}:ixF (.d (.tuple [a,b])) (I 0) M=some (.d a,M):=rfl
theorem aJL{a b:PyData}:ixF (.d (.tuple [a,b])) (I 1) M=some (.d b,M):=rfl
theorem aJj{p q:Bool}:(if p=true then some (B q,M)else some (B false,M))=some (B (p&&q),M):=by cases p<;>rfl
theorem dD(x:PyData)(M:Sto):bM [.d x] M=some (B (uH x),M):=by
 cases h:jI x 2 with
 |false=>
  rw[LB h];simp![bM,cG,gT,h]
 |true=>
  obtain⟨a,b,rfl|rfl⟩:=aAl h
  .cases a<;>cases b<;>first|rfl|(rename_i a b;simp![bM,cG,gT,h,kK,aJV,aJN,uR,aJj];rfl)
  .cases a<;>cases b<;>first|rfl|(rename_i a b;simp![bM,cG,gT,h,kK,aJO,aJL,uR,aJj];rfl)
def P(k:Bool)(a b:Int):PyData:=if k then .list [.int a,.int b]else .tuple [.int a,.int b]
theorem aFl{k:Bool}:ixF (.d (P k a b)) (I 0) M=some (I a,M):=by cases k<;>rfl
theorem aIN{k:Bool}:ixF (.d (P k a b)) (I 1) M=some (I b,M):=by cases k<;>rfl
theorem zY:eqX false (I i) (I j) M=some (B (i==j),M):=rfl
theorem aJI:eqX true (I i) (I j) M=some (B (!(i==j)),M):=rfl
theorem YM{k:Bool}:uH (P k a b)=(decide (0<=a)&&decide (1<=b)):=by cases k<;>rfl
theorem aJK(n m:Nat):((n:Int)==(m:Int))=(n==m):=by
 rw[Z5];simp;omega
def sF(a b:Int):Bool:=decide (0<=a)&&decide (1<=b)&&(55440 % b==0)&&(Int.gcd a b==1)&&decide (a<=1000000000000)
theorem sR(k:Bool)(a b:Int)(M:Sto):cQ [.d (P k a b)] M=some (B (decide (0<=a)&&decide (1<=b)&&(55440 % b==0)&&(Int.gcd a b==1)),M):=by
 cases h:(decide (0<=a)&&decide (1<=b))with
 |false=>
  simp![cQ,eC,dD,YM,h,Bool.false_and]
 |true=>
  have hh:=h;rw[B7]at h;have h1:=C9 h.1;have h2:=C9 h.2;have hm:eA 55440 b=true:=bN (by omega);cases h3:(55440 % b==0)with
  |false=>simp![cQ,eC,dD,YM,hh,aFl,aIN,hm,zY,h3,Bool.true_and,Bool.false_and]
  |true=>
   simp![cQ,eC,dD,YM,hh,aFl,aIN,hm,zY,h3,Bool.true_and,aAF M h1 (Int.le_trans (by decide) h2)];rw[show(1:Int)=((1:Nat):Int)from rfl,aJK]
theorem JD(k:Bool)(a b:Int)(M:Sto):eM [.d (P k a b)] M=some (B (sF a b),M):=by
 cases h:(decide (0<=a)&&decide (1<=b)&&(55440 % b==0)&&(Int.gcd a b==1))with
 |false=>
  have e:sF a b=false:=by unfold sF;rw[h];rfl
  rw[e];simp![eM,iU,sR,h]
 |true=>
  have e:sF a b=decide (a<=1000000000000):=by unfold sF;rw[h];rfl
  rw[e];simp![eM,iU,sR,h,aFl]
theorem zJ(M:Sto)(a b:Int):∀(n:Nat)(x y:Int),0<=x->0<=y->y.toNat<n->
 fS (gB (fOp gtI (aD 3) (fC (.int 0)))) (BM 2 3 (aB (aD 3) (aB (fOp cE (aD 2) (aD 3)) aH))) n [some (I a),some (I b),some (I x),some (I y)] M=some (.nx [some (I a),some (I b),some (I (Int.gcd x y)),some (I 0)],M)
 |0=>fun _ _ _ _ h=>by omega
 |n+1=>fun x y hx hy h=>by
  by_cases e:y=0
  .subst e;have:(Int.gcd x 0:Int)=x:=by rw[Int.gcd_zero_right];omega
   rw[this];rfl
  .have hp:0<y:=by omega
   have ih:=zJ M a b n y (x % y) hy (Z6 _ e) (by have:=Y2 x hp;omega);rw[IM]at ih;rw[<- ih];have hb:decide (0<y)=true:=D3 hp;simp![fS,BM,bN hp,hb]
theorem aBr(h:1<=b):1<=(Int.gcd a b:Int):=by
 have:Int.gcd a b≠0:=fun z=>by have:=(Int.gcd_eq_zero_iff.mp z).2;omega
 omega
theorem aFv(h:1<=b):(Int.gcd a b:Int)<=b:=Int.le_of_dvd (by omega) (Int.gcd_dvd_right a b)
theorem wsm(h:0<=y)(h2:y<2 ^ 200):y.natAbs<xI:=by
 have h1:y.natAbs<2 ^ 200:=by omega
 exact C2 h1 (Nat.pow_le_pow_right (by decide) (by decide))
theorem jZ{x:Int}(h:0<y)(h2:y.natAbs<xI):nE x y=true:=by simp[nE,h,h2]
theorem YL(M:Sto)(ha:0<=a)(hb:1<=b)(hw:b.natAbs<xI):fX [I a,I b] M=some (.d (.tuple [.int (a / (Int.gcd a b:Int)),.int (b / (Int.gcd a b:Int))]),M):=by
 have h:oU [some (I a),some (I b),some (I a),some (I b)] M=_:=LD (zJ M a b (b.toNat+1) a b ha (by omega) (J9 _));have g1:=aBr (a:=a) hb;have g2:=aFv (a:=a) hb;have d1:∀x,nE x (Int.gcd a b:Int)=true:=fun x=>jZ (by omega) (Nat.lt_of_le_of_lt (by omega) hw);have sz:(2:Nat)<=sizeLine:=by decide
 simp![fX,mU,BM,h,d1,sz]
abbrev T2(a b:Int):CD:=.d (.tuple [.int a,.int b])
def jP(x:PyData):Bool:=match bE x with
 |some [.int a,.int b]=>sF a b
 |_=>false
def R2'(k:Bool)(p q:PyData):PyData:=if k then .list [p,q]else .tuple [p,q]
theorem aAs(k:Bool)(p q:PyData):bE (R2' k p q)=some [p,q]:=by cases k<;>rfl
theorem aDP(h:jI x 2=true):∃k p q,x=R2' k p q:=by
 obtain⟨a,b,rfl|rfl⟩:=aAl h
 .exact⟨true,a,b,rfl⟩
 .exact⟨false,a,b,rfl⟩
theorem aBj(h:uH x=true):∃k a b,x=P k a b:=by
 have hr:jI x 2=true:=by
  cases e:jI x 2 with
  |true=>rfl
  |false=>rw[LB e]at h;cases h
 obtain⟨k,p,q,rfl⟩:=aDP hr;unfold uH at h;rw[aAs]at h;cases p<;>cases q<;>first|exact⟨k,_,_,rfl⟩|simp at h
theorem aDh(k:Bool)(a b:Int):jP (P k a b)=sF a b:=by cases k<;>rfl
theorem JC(h:uH x=false):jP x=false:=by
 unfold uH at h;unfold jP;split
 .rename_i a b e;rw[e]at h;dsimp only at h;unfold sF;rw[h];rfl
 .rfl
theorem LC(x:PyData)(M:Sto):eM [.d x] M=some (B (jP x),M):=by
 cases h:uH x with
 |false=>
  rw[JC h];have e:cQ [.d x] M=some (B false,M):=by simp![cQ,eC,dD,h]
  simp![eM,iU,e]
 |true=>
  obtain⟨k,a,b,rfl⟩:=aBj h;rw[aDh];exact JD k a b M
theorem pS:∀ds:List PyData,lB (ds.map .d)=some ds
 |[]=>rfl
 |d::ds=>by
  show(lB (ds.map .d)).map (d::·)=_;rw[pS ds];rfl
structure Tie where
 i:Int
 j:Int
 a:Int
 b:Int
deriving DecidableEq
def Tie.key(t:Tie):List Key:=[.inl t.i,.inl t.j]
def Tie.val(t:Tie):CD:=.d (.tuple [.int t.a,.int t.b])
def bD(ts:List Tie):List (List Key×CD):=ts.map fun t=>(t.key,t.val)
theorem aCV{ts:List Tie}{t:Tie}(h:∀s∈ts,s.key≠t.key):lkC (bD ts) t.key=none:=by
 unfold lkC bD;rw[List.find?_map];have:List.find? ((fun kv=>decide (kv.1=t.key)) ∘ fun s:Tie=>(s.key,s.val)) ts=none:=List.find?_eq_none.mpr fun s hs=>by simpa using h s hs
 rw[this];rfl
theorem QT{ts:List Tie}{t:Tie}(h:∀s∈ts,s.key≠t.key):putD (bD ts) t.key t.val=bD (ts++[t]):=by
 unfold putD
 have:((bD ts).any fun kv=>decide (kv.1=t.key))=false:=by
  rw[bD,List.any_map];exact List.any_eq_false.mpr fun s hs=>by simpa using h s hs
 rw[this,B2 B1];unfold bD;rw[L4];rfl
theorem sz{n:Nat}(hn:n<=1000):n<=sizeLine:=by rw[F0];exact D0 hn (by decide)
def f1(t:Tie):List PyData:=[.tuple [.int t.i,.int t.j],.tuple [.int t.a,.int t.b]]
def f2(t:Tie):List PyData:=[.int t.i,.int t.j,.tuple [.int t.a,.int t.b]]
theorem ZS{c d:Int}:PyData.eqv (.tuple [.int a,.int b]) (.tuple [.int c,.int d])=(a==c&&(b==d&&true)):=rfl
theorem vK{f:Tie->List PyData}{i:Nat}(h:i<us.length):(us.map f).getD i []=f us[i]:=by
 rw[D4,C8,B9 h];rfl
def t0:Tie:=⟨0,0,0,0⟩
theorem DX(us:List Tie):(List.range us.length).map (fun i=>us.getD i t0)=us:=by
 refine A0a fun i=>?_;rw[C8];by_cases h:i<us.length
 .rw[List.getElem?_range h,B9 h];show some (us.getD i t0)=_;rw[D4,B9 h];rfl
 .rw[S9 (by rw[U5];omega),S9 (by omega)];rfl
theorem YB{i:Nat}(h:i<us.length):us.getD i t0=us[i]:=by
 rw[D4,B9 h];rfl
theorem aJC(s t:Tie):(lX (f1 s) (f1 t)).isSome=true:=by
 unfold f1 lX;rw[ZS];split
 .unfold lX;rw[ZS];split
  .rfl
  .rfl
 .rfl
theorem aDk(h64:us.length<64):∃vs:List Tie,vs.Perm us/\fZ (us.map f1)=some (vs.map fun t=>.tuple (f1 t)):=by
 by_cases h2:2<=us.length
 .have ab:sortable (us.map f1)=true:=by
   have hd:oS (us.map f1)=true:=by unfold oS;rw[List.all_map];exact List.all_eq_true.mpr fun t _=>rfl
   unfold sortable;rw[A7,D3 h2,D3 h64,hd,Bool.or_true,Bool.true_and,Bool.true_and,Bool.and_true,B7];refine⟨List.all_eq_true.mpr fun r hr=>?_,List.all_eq_true.mpr fun i hi=>List.all_eq_true.mpr fun j hj=>?_⟩
   .obtain⟨t,_,rfl⟩:=List.mem_map.mp hr;rfl
   .rw[vK (List.mem_range.mp hi),vK (List.mem_range.mp hj)];exact aJC _ _
  have pm:=lM (n:=(us.map f1).length) (oA (us.map f1)) (by rw[A7];omega);rw[A7]at pm;have mem:∀i∈gN (oA (us.map f1)) us.length,i<us.length:=fun i hi=>List.mem_range.mp (pm.mem_iff.mp hi)
  have sd:LH (us.map f1)=((gN (oA (us.map f1)) us.length).map fun i=>us.getD i t0).map fun t=>.tuple (f1 t):=by
   unfold LH;rw[A7,J6];refine U9 fun i hi=>?_;show PyData.tuple ((us.map f1).getD i [])=.tuple (f1 (us.getD i t0));rw[vK (mem i hi),YB (mem i hi)]
  refine⟨(gN (oA (us.map f1)) us.length).map fun i=>us.getD i t0,?_,?_⟩
  .have:=pm.map fun i=>us.getD i t0
   rwa [DX]at this
  .unfold fZ;rw[ab,A9 rfl,sd]
 .have hl:us.length<2:=by omega
  refine⟨us,.refl _,?_⟩;unfold fZ
  have:sortable (us.map f1)=false:=by
   unfold sortable;rw[A7,D8 h2];rfl
  rw[this,B2 B1,A7,A9 hl,J6];rfl
def big(t:Tie):Bool:=decide (t.a > 0)
def eJ(vs:List Tie):List PyData:=(vs.filter big).map fun t=>.tuple (f2 t)
theorem XQ{cap:List (Option Nat)}{c:TF}{ee:EF}{M1 M2:Sto}{xs:List CD}(it:f γ M=some (xs,M1))(hl:xs.length<=sizeLine)(e:lcF g c ee xs (lC cap γ) M1=some (ds.map .d,M2))(hd:ds.length<=sizeLine):fLc cap f g c ee γ M=some (.d (.list ds),M2):=by
 have h1:xA cap f g c ee γ M=some (ds.map .d,M2):=by
  unfold xA;rw[it,B4,A9 hl];exact e
 show(xA cap f g c ee γ M).bind _=_;rw[h1,B4,pS,B4,A9 hd]
abbrev kG:GF:=lD 2 (bG (lD 2 (bG (hName 0) (bG (hName 1) lA))) (bG (hName 2) lA))
abbrev kC:TF:=gB (fOp gtI (fOp ixF (aD 2) (fC (.int 0))) (fC (.int 0)))
abbrev kE:EF:=bI (aB (aD 0) (aB (aD 1) (aB (aD 2) aH)))
theorem DC{M:Sto}:∀(vs:List Tie)(s1 s2 s3:Option CD),lcF kG kC kE (vs.map fun t=>.d (.tuple (f1 t))) [s1,s2,s3] M=some ((eJ vs).map .d,M)
 |[]=>fun _ _ _=>rfl
 |t::vs=>fun s1 s2 s3=>by
  have ih:=DC (M:=M) vs (some (I t.i)) (some (I t.j)) (some (.d (.tuple [.int t.a,.int t.b])));have g1:kG (.d (.tuple (f1 t))) [s1,s2,s3] M=some ([some (I t.i),some (I t.j),some (.d (.tuple [.int t.a,.int t.b]))],M):=rfl;have c1:kC [some (I t.i),some (I t.j),some (.d (.tuple [.int t.a,.int t.b]))] M=some (big t,M):=rfl
  have e1:kE [some (I t.i),some (I t.j),some (.d (.tuple [.int t.a,.int t.b]))] M=some (.d (.tuple (f2 t)),M):=by
   have l3:3<=sizeLine:=sz (by decide);simp![kE,f2,if_pos l3,Nat.zero_add]
  rw[C7];unfold lcF;rw[g1,B4];dsimp only;rw[c1,B4];dsimp only;by_cases hb:big t=true
  .rw[A9 hb,e1,B4];dsimp only;rw[ih,B4];unfold eJ;rw[List.filter_cons_of_pos hb];rfl
  .rw[B2 hb,ih];unfold eJ;rw[List.filter_cons_of_neg hb]
theorem KR:∀us:List Tie,ER (bD us)=some (us.map fun t=>(t.key,.tuple [.int t.a,.int t.b]))
 |[]=>rfl
 |t::us=>by
  show(ER (bD us)).bind _=_;rw[KR us];rfl
theorem aCt(us:List Tie):(us.map fun t=>(t.key,PyData.tuple [.int t.a,.int t.b])).map JS=us.map f1:=by
 rw[J6];rfl
theorem aAa{vs:List Tie}(h:vs.length<=1000):(eJ vs).length<=sizeLine:=by
 unfold eJ;rw[A7];exact sz (D0 (U0 ..) h)
def eK(us:List Tie):List PyData:=us.map fun t=>.tuple (f2 t)
def Ok(n:Int)(us:List Tie):Prop:=(∀t∈us,sF t.a t.b=true/\0<=t.i/\t.i<t.j/\t.j<n)/\(us.map Tie.key).Nodup/\us.length<64
theorem LO(nd:(us.map Tie.key).Nodup):((us.filter big).map Tie.key).Nodup:=(List.filter_sublist.map Tie.key).nodup nd
theorem KJ{N:Sto}:∀(ws ts:List Tie)(s1 s2 s3:Option CD),((ts++ws).map Tie.key).Nodup->ts.length+ws.length<1000->
 dcF N.length (lD 3 (bG (hName 0) (bG (hName 1) (bG (hName 2) lA)))) gO (uB (aB (aD 0) (aB (aD 1) aH))) (aD 2) ((eK ws).map .d) [s1,s2,s3] (N++[.dt (bD ts)])=some (N++[.dt (bD (ts++ws))])
 |[]=>fun ts _ _ _ _ _=>by rw[F4];rfl
 |t::ws=>fun ts s1 s2 s3 nd hl=>by
  have nk:∀s∈ts,s.key≠t.key:=fun s hs q=>by
   rw[L4,List.nodup_append]at nd;exact nd.2.2 _ (Z3 hs) _ (by rw[C7];exact B5) q
  have ih:=KJ (N:=N) ws (ts++[t]) (some (I t.i)) (some (I t.j)) (some t.val) (by rw[S4];exact nd) (by rw[C3];simp only[List.length_cons,List.length_nil]at hl ⊢;omega);have hD:(N++[.dt (bD ts)])[N.length]?=some (.dt (bD ts)):=by rw[I0 (B0 _),U6];rfl
  have len:(bD ts).length<sizeLine:=by unfold bD;rw[A7,F0];omega
  have st:BQ (N++[.dt (bD ts)]) (.c N.length) (.inr t.key) t.val=some (N++[.dt (bD (ts++[t]))]):=by
   simp only[BQ,hD,if_pos len,QT nk];rw[List.set_append_right _ _ (B0 _),U6];rfl
  have l2:(Tie.key t).length<=sizeLine:=sz (show 2<=1000 by decide)
  have kf:uB (aB (aD 0) (aB (aD 1) aH)) [some (I t.i),some (I t.j),some t.val] (N++[.dt (bD ts)])=some (.inr t.key,N++[.dt (bD ts)]):=by
   have kk:keysOf [I t.i,I t.j]=some t.key:=rfl;simp![uB,kk,if_pos l2]
  show dcF _ _ _ _ _ (.d (.tuple (f2 t))::(eK ws).map .d) [s1,s2,s3] _=_;unfold dcF;rw[show lD 3 (bG (hName 0) (bG (hName 1) (bG (hName 2) lA))) (.d (.tuple (f2 t))) [s1,s2,s3] (N++[.dt (bD ts)])=some ([some (I t.i),some (I t.j),some t.val],N++[.dt (bD ts)])from rfl,B4];dsimp only;rw[show gO [some (I t.i),some (I t.j),some t.val] (N++[.dt (bD ts)])=some (true,N++[.dt (bD ts)])from rfl,B4];dsimp only;rw[A9 rfl,kf,B4];dsimp only;rw[show aD 2 [some (I t.i),some (I t.j),some t.val] (N++[.dt (bD ts)])=some (t.val,N++[.dt (bD ts)])from rfl,B4];dsimp only;rw[st,B4,ih,S4];rfl
def aJZ(w:Nat)(n:Int)(vs:List Tie):Cell:=.obj "Web" [("many",I n),("ties",.d (.tuple (eJ vs))),("weights",.c (w+2))]
def aFK(w:Nat)(n:Int)(us vs:List Tie):List Cell:=[aJZ w n vs,.dt (bD us),.dt (bD (vs.filter big))]
theorem LM{L:Sto}{fs:List (Str×CD)}:objOf "Web" (M++(.obj "Web" fs::L)) (.c M.length)=some (M.length,fs):=by
 have:(M++(Cell.obj "Web" fs::L))[M.length]?=some (.obj "Web" fs):=by rw[I0 (B0 _),U6];rfl
 simp only[objOf,this,if_true]
theorem GX{L:Sto}{c c':Cell}:(M++(c::L)).set M.length c'=M++(c'::L):=by
 rw[List.set_append_right _ _ (B0 _),U6];rfl
def R3(k:Bool)(p q w:PyData):PyData:=if k then .list [p,q,w]else .tuple [p,q,w]
theorem uC(k:Bool)(p q w:PyData):bE (R3 k p q w)=some [p,q,w]:=by cases k<;>rfl
theorem aDA(h:jI x 3=true):∃k p q w,x=R3 k p q w:=by
 have aux:∀ds:List PyData,((ds.length:Int)==3)=true->∃p q w,ds=[p,q,w]:=fun ds h=>by
  match ds,h with
  |[p,q,w],_=>exact⟨p,q,w,rfl⟩
  |[],h=>exact absurd h (by decide)
  |[_],h=>exact absurd h (by simp)
  |[_,_],h=>exact absurd h (by simp)
  |_::_::_::_::r,h=>
   have:((r.length+1+1+1+1:Nat):Int)=3:=by simpa using h
   omega
 cases x with
 |list ds=>obtain⟨p,q,w,rfl⟩:=aux ds h;exact⟨true,p,q,w,rfl⟩
 |tuple ds=>obtain⟨p,q,w,rfl⟩:=aux ds h;exact⟨false,p,q,w,rfl⟩
 |_=>cases h
def plc(n:Int):PyData->Bool
 |.int i=>decide (0<=i)&&decide (i<n)
 |_=>false
theorem oB(n:Int)(p:PyData)(M:Sto):fH [I n,.d p] M=some (B (plc n p),M):=by
 cases hp:uR p with
 |false=>
  have e:plc n p=false:=by cases p<;>first|rfl|cases hp
  rw[e];simp![fH,oG,kK,hp]
 |true=>
  obtain⟨i,rfl⟩:∃i,p=.int i:=by cases p<;>first|exact⟨_,rfl⟩|cases hp
  have hc:plc n (.int i)=(decide (0<=i)&&decide (i<n)):=rfl;rw[hc];cases h0:decide (0<=i)<;>simp![fH,oG,kK,hp,h0,Bool.true_and,Bool.false_and]
def ulk(n:Int)(p q:PyData):Bool:=match p,q with
 |.int i,.int j=>plc n p&&(plc n q&&!(i==j))
 |_,_=>false
theorem uI{p:PyData}(h:plc n p=true):∃i,p=.int i/\0<=i/\i<n:=by
 cases p with
 |int i=>simp only[plc,Bool.and_eq_true,decide_eq_true_eq]at h;exact⟨i,rfl,h.1,h.2⟩
 |_=>cases h
theorem aEw(n:Int)(p q:PyData)(M:Sto):bY [I n,.d p,.d q] M=some (B (ulk n p q),M):=by
 cases h1:plc n p with
 |false=>
  have e:ulk n p q=false:=by
   unfold ulk;split
   .rw[h1];rfl
   .rfl
  rw[e];simp![bY,cK,oB,h1]
 |true=>
  obtain⟨i,rfl,_⟩:=uI h1;cases h2:plc n q with
  |false=>
   have e:ulk n (.int i) q=false:=by
    unfold ulk;split
    .rw[h2,A0o,Bool.and_false]
    .rfl
   rw[e];simp![bY,cK,oB,h1,h2]
  |true=>
   obtain⟨j,rfl,_⟩:=uI h2;have e:ulk n (.int i) (.int j)=!(i==j):=by show(plc n (.int i)&&(plc n (.int j)&&!(i==j)))=_;rw[h1,h2];rfl
   rw[e];simp![bY,cK,oB,h1,h2,aJI]
def jN(n:Int)(r:PyData):Option Tie:=match bE r with
 |some [.int i,.int j,w]=>match bE w with
  |some [.int a,.int b]=>if 0<=i/\i<j/\j<n/\sF a b=true then some ⟨i,j,a,b⟩else none
  |_=>none
 |_=>none
theorem TM{w:PyData}(h:jP w=true):∃a b,bE w=some [.int a,.int b]/\sF a b=true:=by
 unfold jP at h;split at h
 .rename_i a b e;exact⟨a,b,e,h⟩
 .cases h
theorem QP{w:PyData}(hr:bE r=some [.int i,.int j,w])(hw:bE w=some [.int a,.int b])(h:0<=i/\i<j/\j<n/\sF a b=true):jN n r=some ⟨i,j,a,b⟩:=by
 unfold jN;rw[hr];dsimp only;rw[hw];dsimp only;rw[A9 h]
theorem uL{t:Tie}(h:jN n r=some t):∃w,bE r=some [.int t.i,.int t.j,w]/\bE w=some [.int t.a,.int t.b]/\0<=t.i/\t.i<t.j/\t.j<n/\sF t.a t.b=true:=by
 unfold jN at h;split at h
 .rename_i i j w hr;split at h
  .rename_i a b hw;split at h
   .rename_i c;cases h;exact⟨w,hr,hw,c⟩
   .cases h
  .cases h
 .cases h
theorem ix3(k:Bool)(p q w:PyData)(M:Sto):ixF (.d (R3 k p q w)) (I 0) M=some (.d p,M)/\ixF (.d (R3 k p q w)) (I 1) M=some (.d q,M)/\ixF (.d (R3 k p q w)) (I 2) M=some (.d w,M):=by cases k<;>exact⟨rfl,rfl,rfl⟩
theorem YZ(n:Int)(r:PyData)(M:Sto):kP [I n,.d r] M=some (B (jN n r).isSome,M):=by
 cases h3:jI r 3 with
 |false=>
  have e:jN n r=none:=by
   cases h:jN n r with
   |none=>rfl
   |some t=>
    obtain⟨w,hr,_⟩:=uL h;unfold jI at h3;rw[hr]at h3;cases h3
  have bt:bF [I n,.d r] M=some (B false,M):=by
   simp![bF,cL,gT,h3]
  rw[e];simp![kP,nH,bt,Option.isSome_none]
 |true=>
  obtain⟨k,p,q,w,rfl⟩:=aDA h3;obtain⟨x0,x1,x2⟩:=ix3 k p q w M;cases hu:ulk n p q with
  |false=>
   have e:jN n (R3 k p q w)=none:=by
    cases h:jN n (R3 k p q w)with
    |none=>rfl
    |some t=>
     obtain⟨w',hr,_,i0,ij,jn,_⟩:=uL h;rw[uC]at hr;cases hr
     have:ulk n (.int t.i) (.int t.j)=true:=by
      have ne:(!(t.i==t.j))=true:=by simp;omega
      show(plc n (.int t.i)&&(plc n (.int t.j)&&!(t.i==t.j)))=true;rw[ne];simp only[plc,decide_eq_true i0,decide_eq_true jn,decide_eq_true (show t.i<n by omega),decide_eq_true (show(0:Int)<=t.j by omega),Bool.and_true,Bool.true_and]
     rw[this]at hu;cases hu
   have bt:bF [I n,.d (R3 k p q w)] M=some (B false,M):=by
    simp![bF,cL,gT,h3,x0,x1,aEw,hu]
   rw[e];simp![kP,nH,bt,Option.isSome_none]
  |true=>
   obtain⟨i,j,rfl,rfl,i0,jn⟩:∃i j,p=.int i/\q=.int j/\0<=i/\j<n:=by
    unfold ulk at hu;split at hu
    .rename_i i j;rw[B7,B7]at hu;obtain⟨i',e1,q1,_⟩:=uI hu.1;obtain⟨j',e2,_,q2⟩:=uI hu.2.1;cases e1;cases e2;exact⟨i,j,rfl,rfl,q1,q2⟩
    .cases hu
   have bt:bF [I n,.d (R3 k (.int i) (.int j) w)] M=some (B (decide (i<j)),M):=by
    simp![bF,cL,gT,h3,x0,x1,aEw,hu]
   cases ij:decide (i<j)with
   |false=>
    have e:jN n (R3 k (.int i) (.int j) w)=none:=by
     cases h:jN n (R3 k (.int i) (.int j) w)with
     |none=>rfl
     |some t=>
      obtain⟨w',hr,_,_,z,_⟩:=uL h;rw[uC]at hr;cases hr;exact absurd z (of_decide_eq_false ij)
    rw[ij]at bt;rw[e];simp![kP,nH,bt,Option.isSome_none]
   |true=>
    rw[ij]at bt
    have e:(jN n (R3 k (.int i) (.int j) w)).isSome=jP w:=by
     cases hw:jP w with
     |true=>
      obtain⟨a,b,w1,w2⟩:=TM hw;rw[QP (uC ..) w1 ⟨i0,C9 ij,jn,w2⟩];rfl
     |false=>
      cases h:jN n (R3 k (.int i) (.int j) w)with
      |none=>rfl
      |some t=>
       obtain⟨w',hr,h2,_,_,_,h3'⟩:=uL h;rw[uC]at hr;cases hr;unfold jP at hw;rw[h2]at hw;dsimp only at hw;rw[h3']at hw;cases hw
    rw[e];simp![kP,nH,bt,x2,LC]
abbrev LG(n:Int)(x:CD)(c k:Nat)(r:PyData):Ga:=[some (I n),some x,some (.c c),some (I (k:Nat)),some (.d r)]
def BI(k:Nat)(l:List PyData):List CD:=(l.zipIdx k).map fun p=>.d (.tuple [.int (p.2:Nat),p.1])
abbrev G2:GF:=lD 2 (bG (hName 3) (bG (hName 4) lA))
theorem aJB{x:CD}{k:Nat}:G2 (.d (.tuple [.int (k:Nat),r])) [some (I n),some x,some (.c c),g3,g4] M=some (LG n x c k r,M):=rfl
theorem vL{c:Cell}:(M++[c])[M.length]?=some c:=by rw[I0 (B0 _),U6];rfl
theorem aJW{w:PyData}(h:bE w=some [.int a,.int b])(M:Sto):eE [.d w] M=some (.d (.tuple [.int a,.int b]),M):=by
 cases w<;>first|(cases h;rfl)|cases h
theorem aFC{t:Tie}(h:sF t.a t.b=true/\0<=t.i/\t.i<t.j/\t.j<n):jN n (.tuple (f2 t))=some t:=
 QP (w:=.tuple [.int t.a,.int t.b]) rfl rfl ⟨h.2.1,h.2.2.1,h.2.2.2,h.1⟩
theorem TN{x:CD}{M:Sto}{k:Nat}{ts:List Tie}{t:Tie}(hl:ts.length<1000)(ht:jN n (.tuple (f2 t))=some t)(nk:∀s∈ts,s.key≠t.key):
 gC (LG n x M.length k (.tuple (f2 t))) (M++[.dt (bD ts)])=some (.nx (LG n x M.length k (.tuple (f2 t))),M++[.dt (bD (ts++[t]))]):=by
 have ti:=YZ n (.tuple (f2 t)) (M++[.dt (bD ts)]);rw[ht,Option.isSome_some]at ti;have x0:ixF (.d (.tuple (f2 t))) (I 0) (M++[.dt (bD ts)])=some (I t.i,M++[.dt (bD ts)]):=rfl;have x1:ixF (.d (.tuple (f2 t))) (I 1) (M++[.dt (bD ts)])=some (I t.j,M++[.dt (bD ts)]):=rfl;have x2:ixF (.d (.tuple (f2 t))) (I 2) (M++[.dt (bD ts)])=some (.d (.tuple [.int t.a,.int t.b]),M++[.dt (bD ts)]):=rfl;have tu:=aJW (w:=.tuple [.int t.a,.int t.b]) rfl (M++[.dt (bD ts)]);have hD:(M++[Cell.dt (bD ts)])[M.length]?=some (.dt (bD ts)):=vL;have kk':keysOf [I t.i,I t.j]=some t.key:=rfl;have l2:(Tie.key t).length<=sizeLine:=sz (show 2<=1000 by decide);have at_:atD (M++[.dt (bD ts)]) (.c M.length) (.inr t.key)=some none:=by simp only[atD,hD,aCV nk]
 have len:(bD ts).length<sizeLine:=by unfold bD;rw[A7,F0];omega
 have st:BQ (M++[.dt (bD ts)]) (.c M.length) (.inr t.key) (.d (.tuple [.int t.a,.int t.b]))=some (M++[.dt (bD (ts++[t]))]):=by
  have pn:putD (bD ts) t.key (.d (.tuple [.int t.a,.int t.b]))=bD (ts++[t]):=QT nk;simp only[BQ,hD,if_pos len,pn];rw[GX]
 simp![gC,ti,NI,uB,x0,x1,x2,kk',if_pos l2,at_,vX,tu,st,Option.isSome_none]
theorem EN{n:Int}{x:CD}{M:Sto}:∀(ws ts:List Tie)(k:Nat)(g3 g4:Option CD),((ts++ws).map Tie.key).Nodup->(∀t∈ws,jN n (.tuple (f2 t))=some t)->ts.length+ws.length<1000->
 ∃g3' g4',nU G2 gC (BI k (eK ws)) [some (I n),some x,some (.c M.length),g3,g4] (M++[.dt (bD ts)])=some (.nx [some (I n),some x,some (.c M.length),g3',g4'],M++[.dt (bD (ts++ws))])
 |[]=>fun ts k g3 g4 _ _ _=>⟨g3,g4,by rw[F4];rfl⟩
 |t::ws=>fun ts k g3 g4 nd ok hl=>by
  have nk:∀s∈ts,s.key≠t.key:=fun s hs e=>by
   rw[L4,List.nodup_append]at nd;exact nd.2.2 _ (Z3 hs) _ (Z3 (B5 ..)) e
  rw[E9]at hl;have tn:=TN (n:=n) (x:=x) (M:=M) (k:=k) (ts:=ts) (t:=t) (by omega) (ok t (B5 ..)) nk;have e:ts++t::ws=ts++[t]++ws:=by simp
  rw[e]at nd ⊢;obtain⟨a,b,h⟩:=EN (n:=n) (x:=x) (M:=M) ws (ts++[t]) (k+1) (some (I (k:Nat))) (some (.d (.tuple (f2 t)))) nd (fun s hs=>ok s (B3 _ hs)) (by rw[C3,J5];omega);refine⟨a,b,?_⟩;rw[<- h];show nU G2 gC (.d (.tuple [.int (k:Nat),.tuple (f2 t)])::BI (k+1) (eK ws)) _ _=_
  conv=>lhs;unfold nU
  rw[aJB,B4];dsimp only;rw[tn,B4]
theorem aBR{l:List PyData}{c:CD}(hd:bE d=some l):LA (aB (aD 1) aH) [some (I n),some (.d d),some c,none,none] M=some (BI 0 l,M):=by
 simp![LA,hd];rfl
theorem aBm{M:Sto}(ok:Ok n us):
 ∃vs:List Tie,vs.Perm us/\iW [I n,.d (.list (eK us))] M=some (.d (.tuple (eJ vs)),M++[.dt (bD us)]):=by
 obtain⟨o1,nd,h64⟩:=ok;obtain⟨g3,g4,lp⟩:=EN (n:=n) (x:=.d (.list (eK us))) (M:=M) us [] 0 none none (by rw[A0j];exact nd) (fun t ht=>aFC (o1 t ht)) (by rw[List.length_nil];omega);rw[A0j]at lp;obtain⟨vs,pm,sr⟩:=aDk h64;refine⟨vs,pm,?_⟩;have rw1:sV (.list (eK us))=true:=rfl;have m0:(M++[Cell.dt []])=M++[.dt (bD [])]:=rfl;have hD:(M++[Cell.dt (bD us)])[M.length]?=some (.dt (bD us)):=vL;have lv:vs.length<64:=by rw[pm.length_eq];exact h64
 have it:cV (vJ (aD 2)) [some (I n),some (.d (.list (eK us))),some (.c M.length),g3,g4] (M++[.dt (bD us)])=some (vs.map fun t=>.d (.tuple (f1 t)),M++[.dt (bD us)]):=by
  have s1:vJ (aD 2) [some (I n),some (.d (.list (eK us))),some (.c M.length),g3,g4] (M++[.dt (bD us)])=some (.d (.list (vs.map fun t=>.tuple (f1 t))),M++[.dt (bD us)]):=by
   simp![vJ,hD,KR,aCt,sr]
  unfold cV;rw[s1,B4];show(some (vs.map fun t=>PyData.tuple (f1 t))).bind _=_;rw[B4,J6];rfl
 have cp:mI [some (I n),some (.d (.list (eK us))),some (.c M.length),g3,g4] (M++[.dt (bD us)])=some (.d (.list (eJ vs)),M++[.dt (bD us)]):=by
  unfold mI;exact XQ it (sz (by rw[A7];omega)) (DC vs none none none) (aAa (by omega))
 have tf:eE [.d (.list (eJ vs))] (M++[.dt (bD us)])=some (.d (.tuple (eJ vs)),M++[.dt (bD us)]):=rfl;have hi:bE (.list (eK us))=some (eK us):=rfl;simp![iW,pR,tX,rw1,wC,m0,sE,aBR hi,lp,cp,tf]
theorem aDE{M:Sto}(ok:Ok n us)(n1:1<=n)(n40:n<=40):
 ∃vs:List Tie,vs.Perm us/\gS [.c M.length,I n,.d (.list (eK us))] (M++[.obj "Web" []])=some (.d .none,M++aFK M.length n us vs):=by
 obtain⟨vs,pm,k1⟩:=aBm (M:=M++[.obj "Web" [("many",I n)]]) ok;obtain⟨o1,nd,h64⟩:=ok;refine⟨vs,pm,?_⟩;have w1:gQ [I n] (M++[.obj "Web" []])=some (B true,M++[.obj "Web" []]):=kK _ _;have c1:decide (n<1)=false:=D8 (by omega);have c2:decide (n > 40)=false:=D8 (by omega);have o1:objOf "Web" (M++[.obj "Web" []]) (.c M.length)=some (M.length,[]):=LM;have s1:(M++[Cell.obj "Web" []]).set M.length (.obj "Web" (CI "many" (I n) []))=M++[.obj "Web" [("many",I n)]]:=GX
 have k1:iW [I n,.d (.list (eK us))] (M++[.obj "Web" [("many",I n)]])=some (.d (.tuple (eJ vs)),M++[.obj "Web" [("many",I n)],.dt (bD us)]):=by
  rw[k1,S4];rfl
 have o2:objOf "Web" (M++[.obj "Web" [("many",I n)],.dt (bD us)]) (.c M.length)=some (M.length,([("many",I n)]:List (Str×CD))):=LM;have p2:CI "ties" (.d (.tuple (eJ vs))) ([("many",I n)]:List (Str×CD))=([("many",I n),("ties",.d (.tuple (eJ vs)))]:List (Str×CD)):=rfl;have s2:(M++[Cell.obj "Web" [("many",I n)],.dt (bD us)]).set M.length (.obj "Web" [("many",I n),("ties",.d (.tuple (eJ vs)))])=M++[.obj "Web" [("many",I n),("ties",.d (.tuple (eJ vs)))],.dt (bD us)]:=GX;have o3:∀L,objOf "Web" (M++(.obj "Web" [("many",I n),("ties",.d (.tuple (eJ vs)))]::L)) (.c M.length)=some (M.length,([("many",I n),("ties",.d (.tuple (eJ vs)))]:List (Str×CD))):=fun L=>LM;have lk:List.lookup ("ties":Str) [("many",I n),("ties",.d (.tuple (eJ vs)))]=some (.d (.tuple (eJ vs))):=rfl
 have it:cV (sX "Web" "ties" (aD 0)) [some (.c M.length),some (I n),some (.d (.list (eK us)))] (M++[.obj "Web" [("many",I n),("ties",.d (.tuple (eJ vs)))],.dt (bD us)])=some ((eK (vs.filter big)).map .d,M++[.obj "Web" [("many",I n),("ties",.d (.tuple (eJ vs)))],.dt (bD us)]):=by
  have:sX "Web" "ties" (aD 0) [some (.c M.length),some (I n),some (.d (.list (eK us)))] (M++[.obj "Web" [("many",I n),("ties",.d (.tuple (eJ vs)))],.dt (bD us)])=some (.d (.tuple (eJ vs)),M++[.obj "Web" [("many",I n),("ties",.d (.tuple (eJ vs)))],.dt (bD us)]):=by
   simp![sX,o3,lk]
  unfold cV;rw[this];rfl
 have fl:(vs.filter big).length<=vs.length:=U0 ..;have lv:vs.length<64:=by rw[pm.length_eq];exact h64
 have nv:(vs.map Tie.key).Nodup:=(pm.map Tie.key).nodup_iff.mpr nd;have ln:(M++[Cell.obj "Web" [("many",I n),("ties",.d (.tuple (eJ vs)))],.dt (bD us)]).length=M.length+2:=by rw[C3];rfl
 have wc:=KJ (N:=M++[.obj "Web" [("many",I n),("ties",.d (.tuple (eJ vs)))],.dt (bD us)]) (vs.filter big) [] none none none (by rw[A0j];exact LO nv) (by simp only[List.length_nil];omega);rw[A0j]at wc
 have dc:mT [some (.c M.length),some (I n),some (.d (.list (eK us)))] (M++[.obj "Web" [("many",I n),("ties",.d (.tuple (eJ vs)))],.dt (bD us)])=some (.c (M.length+2),M++[.obj "Web" [("many",I n),("ties",.d (.tuple (eJ vs)))],.dt (bD us),.dt (bD (vs.filter big))]):=by
  unfold mT fDc;rw[it,B4];dsimp only;rw[show lC [none,none,none] [some (CD.c M.length),some (I n),some (.d (.list (eK us)))]=[none,none,none]from rfl,show(M++[Cell.obj "Web" [("many",I n),("ties",CD.d (.tuple (eJ vs)))],.dt (bD us)]++[Cell.dt []])=M++[Cell.obj "Web" [("many",I n),("ties",CD.d (.tuple (eJ vs)))],.dt (bD us)]++[Cell.dt (bD [])]from rfl,wc,B4,ln,S4];rfl
 have p3:CI "weights" (.c (M.length+2)) ([("many",I n),("ties",.d (.tuple (eJ vs)))]:List (Str×CD))=([("many",I n),("ties",.d (.tuple (eJ vs))),("weights",.c (M.length+2))]:List (Str×CD)):=rfl;have s3:(M++[Cell.obj "Web" [("many",I n),("ties",.d (.tuple (eJ vs)))],.dt (bD us),.dt (bD (vs.filter big))]).set M.length (.obj "Web" [("many",I n),("ties",.d (.tuple (eJ vs))),("weights",.c (M.length+2))])=M++aFK M.length n us vs:=GX;have q0:([]:List (Str×CD)).length<1000:=by decide
 have q1:([("many",I n)]:List (Str×CD)).length<1000:=by show 1<1000;decide
 have q2:([("many",I n),("ties",.d (.tuple (eJ vs)))]:List (Str×CD)).length<1000:=by show 2<1000;decide
 simp![gS,rA,w1,c1,c2,CQ,o1,s1,k1,o2,p2,s2,dc,o3,p3,s3,if_true,if_pos q0,if_pos q1,if_pos q2,show(0:Nat)<1000 from by decide,show(0+1:Nat)<1000 from by decide,show(1:Nat)<1000 from by decide,show(2:Nat)<1000 from by decide,show(0+1+1:Nat)<1000 from by decide]
abbrev Inn(n:Nat)(p:Int):Prop:=0<=p/\p<n
theorem xZ{α:Type}{xs:List α}{k:Nat}{x:α}(h:xs[k]?=some x):atI xs (k:Int)=some x:=by
 have hk:k<xs.length:=(List.getElem?_eq_some_iff.mp h).1;unfold atI ixN;rw[A9 (Int.natCast_nonneg k),A9 (by omega),B4,L3,h]
theorem aU{f g:SF}{γ':Ga}(h:f γ M=some (.nx γ',M')):aX f g γ M=g γ' M':=by
 unfold aX;rw[h,B4]
theorem bZ{f:EF}{i:Nat}{x:CD}(h:f γ M=some (x,M')):aV f (hName i) γ M=some (.nx (γ.set i (some x)),M'):=by
 unfold aV;rw[h,B4];rfl
theorem nD{ps N:Nat}{b:SF}{xs:List CD}{x:CD}(h:xs.length=ps)(hb:b (xs.map some++List.replicate (N-xs.length) none) M=some (.rt x,M')):fnF ps N b xs M=some (x,M'):=by
 unfold fnF;rw[A9 h,hb,B4]
theorem vF{b:SF}{M1:Sto}{xs:List CD}{r:Option (Out×Sto)}(h:f γ M=some (xs,M1))(hb:nU g b xs γ M1=r):sE f g b γ M=r:=by
 unfold sE;rw[h,B4];exact hb
theorem BE{b:SF}{x:CD}{xs:List CD}{γ1 γ2:Ga}{M1 M2:Sto}(h:g x γ M=some (γ1,M1))(hb:b γ1 M1=some (.nx γ2,M2)):nU g b (x::xs) γ M=nU g b xs γ2 M2:=by
 conv=>lhs;unfold nU
 rw[h,B4];dsimp only;rw[hb,B4]
theorem aBp{α:Type}{ds:List α}{lo hi:Option Int}:∀x∈dE ds lo hi,x∈ds:=fun x hx=>by
 unfold dE at hx;exact List.mem_of_mem_drop (List.mem_of_mem_take hx)
theorem rT{α:Type}(ds:List α)(lo hi:Option Int):(dE ds lo hi).length<=ds.length:=by
 unfold dE;rw[List.length_take,List.length_drop];omega
theorem sl_tup{lo hi:Option Int}:slF (.d (.tuple ds)) lo hi M=some (.d (.tuple (dE ds lo hi)),M):=rfl
theorem tZ{xs:List PyData}(hl:xs.length+ys.length<=1000):dZ (.d (.tuple xs)) (.d (.tuple ys)) M=some (.d (.tuple (xs++ys)),M):=by
 cases xs with
 |nil=>rfl
 |cons x xs=>
  have h:(x::xs:List PyData)≠[]/\(x::xs).length+ys.length<=sizeLine:=⟨by simp,sz hl⟩;show(if (x::xs:List PyData)≠[]/\(x::xs).length+ys.length<=sizeLine then some (CD.d (.tuple (x::xs++ys)),M)else none)=_;rw[A9 h]
theorem GO{α:Type}{ds:List α}{k m:Int}(hm:0<m)(hl:(ds.length:Int)=m):∃d,atI ds (k % m)=some d/\d∈ds:=by
 have h1:=Z6 k (show m≠0 by omega);have h2:=Y2 k hm;have hk:(k % m).toNat<ds.length:=by omega
 obtain⟨q,hq⟩:∃q:Nat,k % m=(q:Nat):=⟨(k % m).toNat,by omega⟩;rw[hq]at hk ⊢;rw[L3]at hk;exact⟨ds[q],xZ (B9 hk),Y1 hk⟩
abbrev cI(xs:List Int):Cell:=.lst (xs.map fun i=>I i)
def Li(M:Sto)(c:Nat)(xs:List Int):Prop:=M[c]?=some (cI xs)
structure Oth(c:Nat)(M M':Sto):Prop where
 len:M'.length=M.length
 at_:∀i,i≠c->M'[i]?=M[i]?
theorem Li.lt(h:Li M c xs):c<M.length:=(List.getElem?_eq_some_iff.mp h).1
theorem Li.set{ys:List Int}(h:Li M c xs):Li (M.set c (cI ys)) c ys/\Oth c M (M.set c (cI ys)):=
 ⟨by unfold Li;rw[F5 h.lt],by rw[U2],fun i hi=>by rw[F6 (L6 hi)]⟩
theorem Li.oth{d:Nat}(h:Li M c xs)(o:Oth d M M')(ne:c≠d):Li M' c xs:=by unfold Li;rw[o.at_ c ne];exact h
theorem Li.app{L:Sto}(h:Li M c xs):Li (M++L) c xs:=by unfold Li;rw[U1 h.lt];exact h
theorem Li.ty(h:Li M c xs):tyB "list" M (.c c)=true:=by
 unfold Li at h;simp only[tyB,h];decide
theorem Li.ln(h:Li M c xs):oQ [.c c] M=some (I xs.length,M):=by
 unfold Li at h;simp only[oQ,h,List.length_map]
theorem aIK{α:Type}{xs:List α}{p:Int}(h:Inn xs.length p):∃z,atI xs p=some z/\z∈xs:=by
 obtain⟨q,rfl⟩:∃q:Nat,p=(q:Nat):=⟨p.toNat,by omega⟩;have hk:q<xs.length:=by omega
 exact⟨xs[q],xZ (B9 hk),Y1 hk⟩
theorem Li.ix{p:Int}(h:Li M c xs)(hp:Inn xs.length p):∃z,ixF (.c c) (I p) M=some (I z,M):=by
 obtain⟨z,h1,h2⟩:=aIK (xs:=xs.map fun i=>I i) (p:=p) (by rw[A7];exact hp);obtain⟨y,_,rfl⟩:=List.mem_map.mp h2;refine⟨y,?_⟩;unfold Li at h;simp only[ixF,h,h1,Option.bind_some]
theorem Li.put{p:Int}(h:Li M c xs)(hp:Inn xs.length p):∃ys,ys.length=xs.length/\EY (.c c) (I p) (I z) M=some (M.set c (cI ys)):=by
 obtain⟨q,rfl⟩:∃q:Nat,p=(q:Nat):=⟨p.toNat,by omega⟩;refine⟨xs.set q z,by rw[U2],?_⟩
 have hn:ixN (xs.map fun i=>I i).length (q:Int)=some q:=by
  unfold ixN;rw[A9 (Int.natCast_nonneg q),A9 (by rw[A7];omega),L3]
 unfold Li at h;simp only[EY,h,hn,Option.bind_some,cI,List.map_set]
theorem Li.push(h:Li M c xs)(hl:xs.length<1000):dU (.c c) [I z] M=some (.d .none,M.set c (cI (xs++[z]))):=by
 have l:(xs.map fun i=>I i).length<sizeLine:=by rw[A7,F0];omega
 unfold Li at h;simp only[dU,h,if_pos l,cI,List.map_append,List.map_singleton]
theorem Li.pop(h:Li M c (xs++[z])):iD (.c c) [] M=some (I z,M.set c (cI xs)):=by
 have e1:((xs++[z]).map fun i=>I i)[((xs++[z]).map fun i=>I i).length-1]?=some (I z):=by
  rw[A7,C3,J5,Nat.add_sub_cancel,C8,I0 (B0 _),U6];rfl
 have e2:((xs++[z]).map fun i=>I i).dropLast=xs.map fun i=>I i:=by
  rw[L4,List.map_singleton,List.dropLast_concat]
 unfold Li at h;simp only[iD,h,e1,e2,Option.bind_some]
def Dk(M:Sto)(c m:Nat):Prop:=∃xs,Li M c xs/\m<=xs.length
theorem Dk.app{L:Sto}(h:Dk M c m):Dk (M++L) c m:=let⟨xs,a,b⟩:=h;⟨xs,a.app,b⟩
theorem Dk.pop(h:Dk M c (m+1)):∃z M',iD (.c c) [] M=some (I z,M')/\Dk M' c m/\Oth c M M':=by
 obtain⟨xs,a,b⟩:=h;rcases List.eq_nil_or_concat xs with rfl|⟨ys,z,rfl⟩
 .simp at b
 .rw[List.concat_eq_append]at a b;rw[C3,J5]at b;exact⟨z,_,a.pop,⟨ys,(a.set).1,by omega⟩,(a.set).2⟩
theorem Dk.ty(h:Dk M c m):tyB "list" M (.c c)=true:=let⟨_,a,_⟩:=h;a.ty
theorem IL(lo:Int)(n:Nat):gA lo (n+1)=I lo::gA (lo+1) n:=by
 unfold gA;rw[List.range_succ_eq_map,C7,J6];refine congr (Y0 List.cons ?_) (U9 fun k _=>?_)
 .show CD.d (.int (lo+((0:Nat):Int)))=I lo;rw[show lo+((0:Nat):Int)=lo by omega]
 .show CD.d (.int (lo+((k+1:Nat):Int)))=.d (.int (lo+1+(k:Nat)));rw[show lo+((k+1:Nat):Int)=lo+1+(k:Nat)by omega]
theorem aAI(h:i.natAbs<2 ^ 64):oX i j=true:=by unfold oX;rw[D3 h];rfl
theorem mul_r(h:j.natAbs<2 ^ 64):oX i j=true:=by unfold oX;rw[D3 h,Bool.or_true];rfl
theorem nab(h0:0<=z)(h1:z<b)(hb:b<=2 ^ 62):z.natAbs<2 ^ 64:=by omega
abbrev GD(s many:CD)(r d:Nat)(o:Int)(k at_ one:Option CD):Ga:=[some s,some many,some (.c r),some (I o),some (.c d),k,at_,one]
theorem TJ{s many:CD}{r d:Nat}{o k:Int}{ds:List Int}{g6 g7:Option CD}(hr:Li M r xs)(hd:Li M d ds)(ne:r≠d)(x0:0<xs.length)(hl:ds.length<1000)(k0:0<=k)(k1:k<1000):
 ∃xs' ds' g6' g7' M',eB (GD s many r d o (some (I k)) g6 g7) M=some (.nx (GD s many r d o (some (I k)) g6' g7'),M')/\Li M' r xs'/\Li M' d ds'/\xs'.length=xs.length/\ds'.length=ds.length+1:=by
 have ln:=hr.ln;have p1:=Z6 k (show(xs.length:Int)≠0 by omega);have p2:=Y2 k (show(0:Int)<xs.length by omega);obtain⟨z,ix⟩:=hr.ix (p:=k % xs.length) ⟨p1,p2⟩;have m1:eA k xs.length=true:=bN (by omega);have m2:∀y,eA y 1000000=true:=fun y=>bN (by decide);have m3:∀y,eA y 2147483629=true:=fun y=>bN (by decide);have m4:∀y,eA y 2147483647=true:=fun y=>bN (by decide);have m5:∀y,eA y 4=true:=fun y=>bN (by decide);have dv:∀y,nE y 1000000=true:=fun y=>jZ (by decide) (wsm (by decide) (by decide));obtain⟨ys,yl,st⟩:=hr.put (p:=k % xs.length) (z:=z / 1000000) ⟨p1,p2⟩;generalize (xs.length:Int)=J at ln p1 p2 ix m1 st;cases h:(o==0)with
 |true=>
  obtain⟨c,hc,hcm⟩:=GO (ds:=([.int 48271,.int 69621,.int 39373,.int 40692]:List PyData)) (k:=k) (m:=4) (by decide) rfl
  obtain⟨cv,rfl,hcv⟩:∃v:Int,c=.int v/\v.natAbs<2 ^ 64:=by
   simp only[List.mem_cons,List.not_mem_nil,or_false]at hcm;rcases hcm with rfl|rfl|rfl|rfl<;>exact⟨_,rfl,by decide⟩
  have xk:ixF (.d (.list [.int 48271,.int 69621,.int 39373,.int 40692])) (I (k % 4)) M=some (I cv,M):=by
   show(atI [PyData.int 48271,.int 69621,.int 39373,.int 40692] (k % 4)).bind _=_;rw[hc];rfl
  have q1:oX k k=true:=aAI (nab k0 (b:=1000) k1 (by decide));have q2:oX (k*k) 16807=true:=mul_r (by decide);have q3:oX 3 k=true:=aAI (by decide);have q4:∀y,oX y cv=true:=fun y=>mul_r hcv;have a1:∀i j:Int,dZ (I i) (I j) M=some (I (i+j),M):=fun i j=>rfl;have q5:∀y,oX (y % 2147483647) (y % 2147483647)=true:=fun y=>aAI (nab (Z6 _ (by decide)) (Y2 _ (by decide)) (by decide));generalize hv:(z+k*k*16807+3*k) % 2147483629=v1;have pu:=fun y=>hd.push (z:=y) hl;refine⟨xs,ds++[(v1*cv+7) % 2147483647*((v1*cv+7) % 2147483647) % 2147483629],some (I (k % J)),some (I ((v1*cv+7) % 2147483647*((v1*cv+7) % 2147483647) % 2147483629)),_,?_,hr.oth (hd.set).2 ne,(hd.set).1,rfl,by rw[C3,J5]⟩;simp![eB,ln,m1,m2,ix,zY,h,q1,q2,q3,a1,m3,hv,BJ,m5,xk,q4,m4,q5,bQ,hd.ty,pu]
 |false=>
  have hr':=hr.set (ys:=ys);have hd':=hd.oth hr'.2 (L6 ne);have pu:=hd'.push (z:=z % 1000000) hl;refine⟨ys,ds++[z % 1000000],some (I (k % J)),some (I (z % 1000000)),_,?_,hr'.1.oth (hd'.set).2 ne,(hd'.set).1,yl,by rw[C3,J5]⟩;simp![eB,ln,m1,m2,ix,zY,h,dv,st,bQ,hd'.ty,pu]
theorem EM{s many:CD}{r d:Nat}{o:Int}:∀(m:Nat)(k:Int)(M:Sto)(xs ds:List Int)(g5 g6 g7:Option CD),Li M r xs->Li M d ds->r≠d->0<xs.length->0<=k->k+m<900->ds.length+m<900->
 ∃ds' g5' g6' g7' M',nU (hName 5) eB (gA k m) (GD s many r d o g5 g6 g7) M=some (.nx (GD s many r d o g5' g6' g7'),M')/\Li M' d ds'/\ds'.length=ds.length+m
 |0=>fun k M xs ds g5 g6 g7 hr hd ne x0 k0 _ _=>⟨ds,g5,g6,g7,M,rfl,hd,rfl⟩
 |m+1=>fun k M xs ds g5 g6 g7 hr hd ne x0 k0 hk hl=>by
  obtain⟨xs1,ds1,a6,a7,M1,t,h1,h2,h3,h4⟩:=TJ (s:=s) (many:=many) (o:=o) (g6:=g6) (g7:=g7) hr hd ne x0 (by omega) k0 (show k<1000 by omega);obtain⟨ds',b5,b6,b7,M',l,h5,h6⟩:=EM (s:=s) (many:=many) (o:=o) m (k+1) M1 xs1 ds1 (some (I k)) a6 a7 h1 h2 ne (by omega) (by omega) (by omega) (by omega);refine⟨ds',b5,b6,b7,M',?_,h5,by omega⟩;rw[IL,BE (show hName 5 (I k) (GD s many r d o g5 g6 g7) M=some (GD s many r d o (some (I k)) g6 g7,M)from rfl) t];exact l
theorem yO(n:Nat)(M:Sto):∀ns:List Int,rL n M (ns.map fun i=>I i)=some (ns.map .int)
 |[]=>by unfold rL;rfl
 |i::ns=>by
  rw[C7];unfold rL;rw[MV,B4,yO n M ns];rfl
theorem xC:∀ns:List Int,PyData.canLayAll0 (ns.map .int)=true
 |[]=>rfl
 |n::ns=>by show(true&&PyData.canLayAll0 (ns.map .int))=true;rw[xC ns];rfl
theorem yX:∀ns:List Int,PyData.depthAll (ns.map .int)=0
 |[]=>rfl
 |n::ns=>by show max 0 (PyData.depthAll (ns.map .int))=0;rw[yX ns];rfl
theorem shaped_ints(ns:List Int):SeqAt.shaped (.list (ns.map .int))=true:=by
 unfold SeqAt.shaped;have e1:PyData.canLay0 (.list (ns.map .int))=true:=xC ns;have e2:PyData.depth (.list (ns.map .int))=1:=by show PyData.depthAll (ns.map .int)+1=1;rw[yX]
 rw[e1,e2];rfl
theorem aBV(h:Li M c ns):eqY false (.c c) (.d (.list [])) M=some (B ns.isEmpty,M):=by
 have s1:snap 5 M (.c c)=some (.list (ns.map .int)):=by
  unfold Li at h;unfold snap;rw[h];show(rL 4 M (ns.map fun i=>I i)).bind _=_;rw[yO];rfl
 have s2:snap 5 M (.d (.list []))=some (.list []):=by rw[MV]
 show eqC false (.c c) (.d (.list [])) M=_;unfold eqC;rw[s1,B4,s2,B4,shaped_ints,show SeqAt.shaped (.list [])=true from rfl];cases ns<;>rfl
theorem aIu{x:CD}(sm:dC J=true):dG (aB (aD 1) aH) (x::some (I J)::γ) M=some (gA 0 J.toNat,M):=by
 simp![dG,sm]
theorem aHw(ns:List Int):∃c M,lV [.d (.list (ns.map .int)),I 400] []=some (.c c,M)/\Dk M c 400:=by
 have s0:(0:Nat)<=sizeLine:=J4 _;have s1:(1:Nat)<=sizeLine:=by decide
 have st:∀(r:Nat)(M:Sto)(xs:List Int),Li M r xs->0<xs.length->∃c M',(aX (aV (fOp cE (fOp ixF (aD 2) (fC (.int 0))) (fC (.int 2))) (hName 3))
 (aX (aV (fOp cZ (fOp ixF (aD 2) (fC (.int 0))) (fC (.int 2))) (hSub (aD 2) (fC (.int 0)) EY))
 (aX (aV (sA aH) (hName 4))
 (aX (sE (dG (aB (aD 1) aH)) (hName 5) eB)
 (aX (oY (bQ "list" kH (aD 4) aH))
 (bS (aD 4))))))) [some (.d (.list (ns.map .int))),some (I 400),some (.c r),none,none,none,none,none] M=some (.rt (.c c),M')/\Dk M' c 400:=by
  intro r M xs hr x0;obtain⟨z,ix⟩:=hr.ix (p:=0) ⟨by decide,by omega⟩;have m2:∀y,eA y 2=true:=fun y=>bN (by decide);have d2:∀y,nE y 2=true:=fun y=>jZ (by decide) (wsm (by decide) (by decide));obtain⟨ys,yl,pt⟩:=hr.put (p:=0) (z:=z / 2) ⟨by decide,by omega⟩;have hr1:=(hr.set (ys:=ys)).1;have hr2:=hr1.app (L:=[Cell.lst []]);have ml:(M.set r (cI ys)).length=M.length:=by rw[U2]
  have hd:Li (M.set r (cI ys)++[Cell.lst []]) M.length []:=by
   unfold Li;rw[<- ml,I0 (B0 _),U6];rfl
  have rl:=hr.lt;obtain⟨ds,a5,a6,a7,M',lp,hd',hl⟩:=EM (s:=.d (.list (ns.map .int))) (many:=I 400) (o:=z % 2) 400 0 _ ys [] none none none hr2 hd (by omega) (by omega) (by decide) (by decide) (by decide);have rg:dG (aB (aD 1) aH) (GD (.d (.list (ns.map .int))) (I 400) r M.length (z % 2) none none none) (M.set r (cI ys)++[Cell.lst []])=some (gA 0 400,M.set r (cI ys)++[Cell.lst []]):=aIu (J:=400) (by decide);have sf:=vF rg lp
  have rv:kH (.c M.length) [] M'=some (.d .none,M'.set M.length (cI ds.reverse)):=by
   have:=hd';unfold Li at this;simp only[kH,this];rw[cI,List.map_reverse]
  refine⟨M.length,M'.set M.length (cI ds.reverse),?_,ds.reverse,(hd'.set).1,by rw[U8,hl];exact B0 _⟩
  have a1:aV (fOp cE (fOp ixF (aD 2) (fC (.int 0))) (fC (.int 2))) (hName 3) [some (.d (.list (ns.map .int))),some (I 400),some (.c r),none,none,none,none,none] M=some (.nx [some (.d (.list (ns.map .int))),some (I 400),some (.c r),some (I (z % 2)),none,none,none,none],M):=by
   simp![ix,m2]
  have a2:aV (fOp cZ (fOp ixF (aD 2) (fC (.int 0))) (fC (.int 2))) (hSub (aD 2) (fC (.int 0)) EY) [some (.d (.list (ns.map .int))),some (I 400),some (.c r),some (I (z % 2)),none,none,none,none] M=some (.nx [some (.d (.list (ns.map .int))),some (I 400),some (.c r),some (I (z % 2)),none,none,none,none],M.set r (cI ys)):=by
   simp![ix,d2,pt]
  have a3:aV (sA aH) (hName 4) [some (.d (.list (ns.map .int))),some (I 400),some (.c r),some (I (z % 2)),none,none,none,none] (M.set r (cI ys))=some (.nx (GD (.d (.list (ns.map .int))) (I 400) r M.length (z % 2) none none none),M.set r (cI ys)++[Cell.lst []]):=by
   simp![s0,ml]
  rw[aU a1,aU a2,aU a3,aU sf];simp![bQ,hd'.ty,rv]
 have l0:DG [.d (.list (ns.map .int))] []=some (.c 0,[cI ns]):=by
  show some (CD.c 0,[]++[Cell.lst ((ns.map PyData.int).map .d)])=_;rw[J6];rfl
 have h0:Li [cI ns] 0 ns:=rfl;have eq:=aBV h0
 have b1:aV (aK DG (aB (aD 0) aH)) (hName 2) [some (.d (.list (ns.map .int))),some (I 400),none,none,none,none,none,none] []=some (.nx [some (.d (.list (ns.map .int))),some (I 400),some (.c 0),none,none,none,none,none],[cI ns]):=by
  simp![l0]
 cases he:ns.isEmpty with
 |true=>
  rw[he]at eq;obtain⟨c,M',h1,h2⟩:=st 1 ([cI ns]++[cI [4]]) [4] rfl (by decide);refine⟨c,M',nD rfl ?_,h2⟩
  have b2:sIf (gB (fOp (eqY false) (aD 2) (gF aH))) (aV (sA (aB (fC (.int 4)) aH)) (hName 2)) cX [some (.d (.list (ns.map .int))),some (I 400),some (.c 0),none,none,none,none,none] [cI ns]=some (.nx [some (.d (.list (ns.map .int))),some (I 400),some (.c 1),none,none,none,none,none],[cI ns]++[cI [4]]):=by
   simp![s0,s1,eq];rfl
  unfold lY;show aX _ _ [some (.d (.list (ns.map .int))),some (I 400),none,none,none,none,none,none] []=_;rw[aU b1,aU b2];exact h1
 |false=>
  rw[he]at eq;obtain⟨c,M',h1,h2⟩:=st 0 [cI ns] ns rfl (by cases ns with|nil=>cases he|cons _ _=>simp);refine⟨c,M',nD rfl ?_,h2⟩
  have b2:sIf (gB (fOp (eqY false) (aD 2) (gF aH))) (aV (sA (aB (fC (.int 4)) aH)) (hName 2)) cX [some (.d (.list (ns.map .int))),some (I 400),some (.c 0),none,none,none,none,none] [cI ns]=some (.nx [some (.d (.list (ns.map .int))),some (I 400),some (.c 0),none,none,none,none,none],[cI ns]):=by
   simp![s0,s1,eq]
  unfold lY;show aX _ _ [some (.d (.list (ns.map .int))),some (I 400),none,none,none,none,none,none] []=_;rw[aU b1,aU b2];exact h1
structure Ex(c:Nat)(M M':Sto):Prop where
 len:M.length<=M'.length
 at_:∀i,i<M.length->i≠c->M'[i]?=M[i]?
theorem Ex.refl(c:Nat)(M:Sto):Ex c M M:=⟨B0 _,fun _ _ _=>rfl⟩
theorem Ex.trans{M1 M2:Sto}(a:Ex c M M1)(b:Ex c M1 M2):Ex c M M2:=⟨D0 a.len b.len,fun i h n=>(b.at_ i (C2 h a.len) n).trans (a.at_ i h n)⟩
theorem Oth.ex(o:Oth c M M'):Ex c M M':=⟨Nat.le_of_eq o.len.symm,fun i _ n=>o.at_ i n⟩
theorem Ex.app(c:Nat)(M L:Sto):Ex c M (M++L):=⟨by rw[C3];omega,fun i h _=>U1 h⟩
theorem Ex.to{i:Nat}{x:Cell}(e:Ex c M M')(h:M[i]?=some x)(n:i≠c):M'[i]?=some x:=by rw[e.at_ i (List.getElem?_eq_some_iff.mp h).1 n];exact h
theorem Ex.put{j:Nat}{x:Cell}(e:Ex c M M')(h:M.length<=j):Ex c M (M'.set j x):=⟨by rw[U2];exact e.len,fun i hi n=>by rw[F6 (by omega)];exact e.at_ i hi n⟩
theorem Dk.le{n:Nat}(h:Dk M c m)(l:n<=m):Dk M c n:=let⟨xs,a,b⟩:=h;⟨xs,a,D0 l b⟩
theorem Dk.lt(h:Dk M c m):c<M.length:=let⟨_,a,_⟩:=h;a.lt
theorem Dk.put{j:Nat}{x:Cell}(h:Dk M c m)(n:j≠c):Dk (M.set j x) c m:=let⟨xs,a,b⟩:=h;⟨xs,by unfold Li;rw[F6 n];exact a,b⟩
theorem Dk.popE(h:Dk M c (m+1)):∃z M',iD (.c c) [] M=some (I z,M')/\Dk M' c m/\Ex c M M':=let⟨z,M',a,b,d⟩:=h.pop;⟨z,M',a,b,d.ex⟩
theorem pop_at(hv:γ[v]?=some (some (.c c)))(ty:tyB "list" M (.c c)=true)(h:iD (.c c) [] M=some (I z,M')):bQ "list" iD (aD v) aH γ M=some (I z,M'):=by
 simp only[bQ,aD,hv,aH,Option.bind_some,ty,if_true,h]
theorem uT{g:GF}{b:SF}{n:Nat}{Inv:Nat->Ga->Sto->Prop}(step:∀k,k<n->∀γ M,Inv k γ M->∃γ1 γ' M',g (I (k:Nat)) γ M=some (γ1,M)/\b γ1 M=some (.nx γ',M')/\Inv (k+1) γ' M'):
 ∀(m k:Nat)(γ:Ga)(M:Sto),k+m=n->Inv k γ M->∃γ' M',nU g b (gA (k:Nat) m) γ M=some (.nx γ',M')/\Inv n γ' M'
 |0=>fun k γ M h i=>⟨γ,M,rfl,by rw[<- h];exact i⟩
 |m+1=>fun k γ M h i=>by
  obtain⟨γ1,γ2,M1,e1,e2,i1⟩:=step k (by omega) γ M i;obtain⟨γ',M',e3,i2⟩:=uT step m (k+1) γ2 M1 (by omega) i1;refine⟨γ',M',?_,i2⟩;rw[IL,BE e1 e2,show((k:Nat):Int)+1=((k+1:Nat):Int)by omega];exact e3
theorem wL{g:GF}{c:TF}{e:EF}{X E:CD->Prop}{Inv:Nat->Ga->Sto->Prop}
 (step:∀m x γ M,X x->Inv (m+1) γ M->∃γ1,g x γ M=some (γ1,M)/\∃b M2,c γ1 M=some (b,M2)/\(b=false->Inv m γ1 M2)/\(b=true->∃y M3,e γ1 M2=some (y,M3)/\E y/\Inv m γ1 M3)):
 ∀(xs:List CD)(γ:Ga)(M:Sto),(∀x∈xs,X x)->Inv xs.length γ M->∃ys γ' M',lcF g c e xs γ M=some (ys,M')/\(∀y∈ys,E y)/\ys.length<=xs.length/\Inv 0 γ' M'
 |[]=>fun γ M _ i=>⟨[],γ,M,rfl,fun y h=>by simp at h,B0 _,i⟩
 |x::xs=>fun γ M hx i=>by
  obtain⟨γ1,e1,b,M2,e2,hf,ht⟩:=step _ x γ M (hx x B5) i;cases b with
  |false=>
   obtain⟨ys,γ',M',e3,h1,h2,h3⟩:=wL step xs γ1 M2 (fun y hy=>hx y (B3 _ hy)) (hf rfl);refine⟨ys,γ',M',?_,h1,Nat.le_succ_of_le h2,h3⟩;simp only[lcF,e1,Option.bind_some,e2,Bool.false_eq_true,if_false,e3]
  |true=>
   obtain⟨y,M3,e4,hy,i3⟩:=ht rfl;obtain⟨ys,γ',M',e3,h1,h2,h3⟩:=wL step xs γ1 M3 (fun y hy=>hx y (B3 _ hy)) i3;refine⟨y::ys,γ',M',?_,fun z hz=>?_,Nat.succ_le_succ h2,h3⟩
   .simp only[lcF,e1,Option.bind_some,e2,if_true,e4,e3]
   .rcases List.mem_cons.mp hz with rfl|hz
    .exact hy
    .exact h1 z hz
def Rg(lo hi:Int)(x:CD):Prop:=∃k:Int,x=I k/\lo<=k/\k<hi
theorem yA{lo:Int}{n:Nat}:∀x∈gA lo n,Rg lo (lo+n) x:=fun x hx=>by
 unfold gA at hx;obtain⟨k,hk,rfl⟩:=List.mem_map.mp hx;have:=List.mem_range.mp hk;exact⟨lo+(k:Nat),rfl,by omega,by omega⟩
theorem dX(lo:Int)(n:Nat):(gA lo n).length=n:=by unfold gA;rw[A7,U5]
theorem rJ(h:fa γ M=some ([I J],M))(sm:dC J=true):dG fa γ M=some (gA 0 J.toNat,M):=by
 simp only[dG,h,Option.bind_some,sm,if_true]
theorem GG(h:fa γ M=some ([I i,I j],M))(s1:dC i=true)(s2:dC j=true):yP fa γ M=some (gA i (j-i).toNat,M):=by
 simp only[yP,h,Option.bind_some];rw[A9 ⟨s1,s2⟩]
theorem nA(h0:-1000<=i)(h1:i<=1000):dC i=true:=by
 unfold dC;rw[B7];exact⟨D3 (by omega),D3 (by omega)⟩
theorem FK{cap:List (Option Nat)}{c:TF}{M1 M2:Sto}{xs ys:List CD}(it:f γ M=some (xs,M1))(hl:xs.length<=1000)(l:lcF g c e xs (lC cap γ) M1=some (ys,M2))(hy:ys.length<=1000):HU cap f g c e γ M=some (.c M2.length,M2++[.lst ys]):=by
 unfold HU sA xA;rw[it,B4,A9 (sz hl),l,B4,A9 (sz hy)]
theorem jJ{cap:List (Option Nat)}{c:TF}{M1 M2:Sto}{xs:List CD}(it:f γ M=some (xs,M1))(hl:xs.length<=1000)(l:lcF g c e xs (lC cap γ) M1=some (ds.map .d,M2))(hy:ds.length<=1000):fLc cap f g c e γ M=some (.d (.list ds),M2):=XQ it (sz hl) l (sz hy)
theorem FE{E:PyData->Prop}:∀{ys:List CD},(∀y∈ys,∃d,y=.d d/\E d)->∃ds:List PyData,ys=ds.map .d/\∀d∈ds,E d
 |[]=>fun _=>⟨[],rfl,fun d h=>by simp at h⟩
 |y::ys=>fun h=>by
  obtain⟨d,rfl,hd⟩:=h y B5;obtain⟨ds,rfl,hs⟩:=FE fun z hz=>h z (B3 _ hz);refine⟨d::ds,rfl,fun z hz=>?_⟩;rcases List.mem_cons.mp hz with rfl|hz
  .exact hd
  .exact hs z hz
theorem sM{c:TF}{a b:SF}(h:c γ M=some (true,M')):sIf c a b γ M=a γ M':=by simp only[sIf,h,Option.bind_some,if_true]
theorem lT{c:TF}{a b:SF}(h:c γ M=some (false,M')):sIf c a b γ M=b γ M':=by simp only[sIf,h,Option.bind_some,Bool.false_eq_true,if_false]
def Pr(n:Int)(y:CD):Prop:=∃i j:Int,y=T2 i j/\0<=i/\i<n/\0<=j/\j<n
def Pl(M:Sto)(p:Nat)(n:Int)(L:Nat):Prop:=∃ys,M[p]?=some (.lst ys)/\(∀y∈ys,Pr n y)/\ys.length<=L
theorem Pl.le{L':Nat}(h:Pl M p n L)(l:L<=L'):Pl M p n L':=let⟨ys,a,b,d⟩:=h;⟨ys,a,b,D0 d l⟩
theorem Pl.new{ys:List CD}(h:∀y∈ys,Pr n y)(l:ys.length<=L):Pl (M++[.lst ys]) M.length n L:=⟨ys,vL,h,l⟩
theorem Pl.to(h:Pl M p n L)(e:Ex c M M')(ne:p≠c):Pl M' p n L:=let⟨ys,a,b,d⟩:=h;⟨ys,e.to a ne,b,d⟩
theorem aHJ{xs:List CD}(h:M[p]?=some (.lst xs))(l:xs.length+ds.length<=1000):vM (.c p) (.d (.list ds)) M=some (.c M.length,M++[.lst (xs++ds.map .d)]):=by
 have e1:pO M (.c p)=some xs:=by simp only[pO,h]
 have e2:pO M (.d (.list ds))=some (ds.map .d):=rfl;unfold vM;rw[e1,B4,e2,B4,A9 (by rw[A7];exact sz l)]
theorem Pl.cat{k:Nat}{ds:List PyData}(h:Pl M p n L)(hd:∀y∈ds.map CD.d,Pr n y)(hk:ds.length<=k)(l:L+k<=1000):∃M',vM (.c p) (.d (.list ds)) M=some (.c M.length,M')/\Pl M' M.length n (L+k)/\∃x,M'=M++[x]:=by
 obtain⟨ys,a,b,d⟩:=h;refine⟨_,aHJ a (by omega),Pl.new (fun y hy=>?_) (by rw[C3,A7];omega),_,rfl⟩;rcases List.mem_append.mp hy with h|h
 .exact b y h
 .exact hd y h
theorem FQ{ys:List CD}(h:∀y∈ys,Pr n y):∃ds:List PyData,ys=ds.map .d:=by
 obtain⟨ds,e,_⟩:=FE (E:=fun _=>True) fun y hy=>let⟨i,j,q,_⟩:=h y hy;⟨_,q,True.intro⟩;exact⟨ds,e⟩
theorem s2:(2:Nat)<=sizeLine:=by decide
theorem tD{m:Int}(h:0<m):0<=z % m/\z % m<m:=⟨Z6 _ (by omega),Y2 _ h⟩
theorem LP:dZ (I i) (I j) M=some (I (i+j),M):=rfl
theorem qL{g:GF}{c:TF}{e:EF}{n lo:Int}{N:Nat}{M:Sto}{Sh:Ga->Prop}(h0:Sh γ)
 (st:∀k γ,lo<=k->k<lo+N->Sh γ->∃γ1,g (I k) γ M=some (γ1,M)/\Sh γ1/\∃b,c γ1 M=some (b,M)/\(b=true->∃y,e γ1 M=some (y,M)/\Pr n y)):
 ∃ys,lcF g c e (gA lo N) γ M=some (ys,M)/\(∀y∈ys,Pr n y)/\ys.length<=N:=by
 obtain⟨ys,γ',M',e1,e2,e3,e4⟩:=wL (g:=g) (c:=c) (e:=e) (X:=Rg lo (lo+N)) (E:=Pr n) (Inv:=fun _ γ M'=>M'=M/\Sh γ) (fun m x γ M' hx hi=>by
  obtain⟨k,rfl,k0,k1⟩:=hx;obtain⟨rfl,hs⟩:=hi;obtain⟨γ1,q1,q2,b,q3,q4⟩:=st k γ k0 k1 hs;refine⟨γ1,q1,b,_,q3,fun _=>⟨rfl,q2⟩,fun hb=>?_⟩;obtain⟨y,q5,q6⟩:=q4 hb;exact⟨y,_,q5,q6,rfl,q2⟩) (gA lo N) γ M yA ⟨rfl,h0⟩
 rw[e4.1]at e1;rw[dX]at e3;exact⟨ys,e1,e2,e3⟩
section
variable{n:Int}{γ:Ga}{M:Sto}
theorem aJh(n0:1<=n)(n9:n<=9)(h1:γ[1]?=some (some (I n))):∃ys,eR γ M=some (.c M.length,M++[.lst ys])/\(∀y∈ys,Pr n y)/\ys.length<=9:=by
 obtain⟨ys,e1,e2,e3⟩:=qL (g:=hName 1) (c:=gO) (e:=bI (aB (aD 1) (aB (fOp cE (fOp dZ (aD 1) (fC (.int 1))) (aD 0)) aH))) (n:=n) (lo:=0) (N:=n.toNat) (γ:=[some (I n),none]) (M:=M) (Sh:=fun γ=>∃s,γ=[some (I n),s]) ⟨_,rfl⟩ (fun k γ k0 k1 hs=>by
  obtain⟨s,rfl⟩:=hs;have m1:eA (k+1) n=true:=bN (by omega);have mi:=tD (z:=k+1) (m:=n) (by omega);exact⟨[some (I n),some (I k)],rfl,⟨_,rfl⟩,true,rfl,fun _=>⟨T2 k ((k+1) % n),by simp![LP,m1,s2],k,_,rfl,k0,by omega,mi.1,mi.2⟩⟩)
 refine⟨ys,?_,e2,by omega⟩;unfold eR;refine FK (rJ (J:=n) (by simp![h1]) (nA (by omega) (by omega))) (by rw[dX];omega) ?_ (by omega);have:lC [some 1,none] γ=[some (I n),none]:=by simp only[lC,List.map_cons,List.map_nil,Option.bind_some,Option.bind_none,h1];rfl
 rw[this];exact e1
theorem aIb(n0:1<=n)(n9:n<=9)(h1:γ[1]?=some (some (I n))):∃ys,iE γ M=some (.c M.length,M++[.lst ys])/\(∀y∈ys,Pr n y)/\ys.length<=9:=by
 obtain⟨ys,e1,e2,e3⟩:=qL (g:=hName 0) (c:=gO) (e:=bI (aB (fC (.int 0)) (aB (aD 0) aH))) (n:=n) (lo:=1) (N:=(n-1).toNat) (γ:=[none]) (M:=M) (Sh:=fun γ=>∃s,γ=[s]) ⟨_,rfl⟩ (fun k γ k0 k1 hs=>by
  obtain⟨s,rfl⟩:=hs;exact⟨[some (I k)],rfl,⟨_,rfl⟩,true,rfl,fun _=>⟨T2 0 k,by simp![s2],0,k,rfl,by decide,by omega,by omega,by omega⟩⟩)
 refine⟨ys,?_,e2,by omega⟩;unfold iE;exact FK (GG (i:=1) (j:=n) (by simp![h1]) (by decide) (nA (by omega) (by omega))) (by rw[dX];omega) e1 (by omega)
theorem aIw{k:Int}(k0:0<=k)(kn:k<n)(n9:n<=9)(h6:γ[6]?=some (some (I k)))(h5:γ[5]?=some (some (I mid))):∃ds,kM γ M=some (.d (.list ds),M)/\(∀y∈ds.map CD.d,Pr n y)/\ds.length<=k.toNat:=by
 obtain⟨ys,e1,e2,e3⟩:=qL (g:=hName 2) (c:=gB (fOp (eqX false) (fOp ltI (aD 2) (aD 1)) (fOp ltI (aD 0) (aD 1)))) (e:=bI (aB (aD 2) (aB (aD 0) aH))) (n:=n) (lo:=0) (N:=k.toNat) (γ:=[some (I k),some (I mid),none]) (M:=M) (Sh:=fun γ=>∃s,γ=[some (I k),some (I mid),s]) ⟨_,rfl⟩ (fun j γ j0 j1 hs=>by
  obtain⟨s,rfl⟩:=hs;refine⟨[some (I k),some (I mid),some (I j)],rfl,⟨_,rfl⟩,(decide (j<mid)==decide (k<mid)),?_,fun _=>⟨T2 j k,by simp![s2],j,k,rfl,by omega,by omega,by omega,by omega⟩⟩;have q:∀a b:Bool,eqX false (B a) (B b) M=some (B (a==b),M):=fun a b=>by cases a<;>cases b<;>rfl
  simp![q])
 obtain⟨ds,rfl⟩:=FQ e2;rw[A7]at e3;refine⟨ds,?_,e2,e3⟩;unfold kM;refine jJ (rJ (J:=k) (by simp![h6]) (nA (by omega) (by omega))) (by rw[dX];omega) ?_ (by omega);have:lC [some 6,some 5,none] γ=[some (I k),some (I mid),none]:=by simp only[lC,List.map_cons,List.map_nil,Option.bind_some,Option.bind_none,h6,h5];rfl
 rw[this];exact e1
theorem aIt(m0:0<=mid)(mn:mid<n)(n9:n<=9)(h5:γ[5]?=some (some (I mid))):∃ys,fA γ M=some (.c M.length,M++[.lst ys])/\(∀y∈ys,Pr n y)/\ys.length<=9:=by
 obtain⟨ys,e1,e2,e3⟩:=qL (g:=hName 1) (c:=gO) (e:=bI (aB (aD 1) (aB (fOp cE (fOp dZ (aD 1) (fC (.int 1))) (fOp dZ (aD 0) (fC (.int 1)))) aH))) (n:=n) (lo:=0) (N:=(mid+1).toNat) (γ:=[some (I mid),none]) (M:=M) (Sh:=fun γ=>∃s,γ=[some (I mid),s]) ⟨_,rfl⟩ (fun k γ k0 k1 hs=>by
  obtain⟨s,rfl⟩:=hs;have m1:eA (k+1) (mid+1)=true:=bN (by omega);have mi:=tD (z:=k+1) (m:=mid+1) (by omega);exact⟨[some (I mid),some (I k)],rfl,⟨_,rfl⟩,true,rfl,fun _=>⟨T2 k ((k+1) % (mid+1)),by simp![LP,m1,s2],k,_,rfl,k0,by omega,mi.1,by omega⟩⟩)
 refine⟨ys,?_,e2,by omega⟩;unfold fA;refine FK (rJ (J:=mid+1) (by simp![h5,LP]) (nA (by omega) (by omega))) (by rw[dX];omega) ?_ (by omega);have:lC [some 5,none] γ=[some (I mid),none]:=by simp only[lC,List.map_cons,List.map_nil,Option.bind_some,Option.bind_none,h5];rfl
 rw[this];exact e1
theorem aJt(m0:0<=mid)(n0:1<=n)(n9:n<=9)(mn:mid<n)(h1:γ[1]?=some (some (I n)))(h5:γ[5]?=some (some (I mid))):∃ds,hZ γ M=some (.d (.list ds),M)/\(∀y∈ds.map CD.d,Pr n y)/\ds.length<=9:=by
 obtain⟨ys,e1,e2,e3⟩:=qL (g:=hName 0) (c:=gO) (e:=bI (aB (aD 0) (aB (fOp dZ (aD 0) (fC (.int 1))) aH))) (n:=n) (lo:=mid) (N:=(n-1-mid).toNat) (γ:=[none]) (M:=M) (Sh:=fun γ=>∃s,γ=[s]) ⟨_,rfl⟩ (fun k γ k0 k1 hs=>by
  obtain⟨s,rfl⟩:=hs;exact⟨[some (I k)],rfl,⟨_,rfl⟩,true,rfl,fun _=>⟨T2 k (k+1),by simp![s2,LP],k,k+1,rfl,by omega,by omega,by omega,by omega⟩⟩)
 obtain⟨ds,rfl⟩:=FQ e2;rw[A7]at e3;refine⟨ds,?_,e2,by omega⟩;unfold hZ;exact jJ (GG (i:=mid) (j:=n-1) (by simp![h1,h5]) (nA (by omega) (by omega)) (nA (by omega) (by omega))) (by rw[dX];omega) e1 (by omega)
end
theorem aIs(n0:1<=n)(n9:n<=9)(h0:γ[0]?=some (some (.c c)))(h1:γ[1]?=some (some (I n)))(dk:Dk M c (m+9)):∃ys M2,iB γ M=some (.c M2.length,M2++[.lst ys])/\(∀y∈ys,Pr n y)/\ys.length<=9/\Dk M2 c m/\Ex c M M2:=by
 obtain⟨ys,γ',M2,e1,e2,e3,⟨e4,e5,_⟩⟩:=wL (g:=hName 1) (c:=gO) (e:=bI (aB (fOp cE (bQ "list" iD (aD 0) aH) (aD 1)) (aB (aD 1) aH))) (X:=Rg 1 (1+(n-1).toNat)) (E:=Pr n) (Inv:=fun j γ M'=>Dk M' c (m+j)/\Ex c M M'/\∃s,γ=[some (.c c),s]) (fun j x γ M' hx hi=>by
  obtain⟨k,rfl,k0,k1⟩:=hx;obtain⟨d,ex,s,rfl⟩:=hi;obtain⟨z,M3,po,d3,ex3⟩:=Dk.popE (m:=m+j) d;have pa:=pop_at (γ:=[some (.c c),some (I k)]) (v:=0) rfl d.ty po;have m1:eA z k=true:=bN (by omega);have mi:=tD (z:=z) (m:=k) (by omega);exact⟨[some (.c c),some (I k)],rfl,true,M',rfl,fun h=>Bool.noConfusion h,fun _=>⟨T2 (z % k) k,M3,by simp![pa,m1,s2],⟨_,k,rfl,mi.1,by omega,by omega,by omega⟩,d3,ex.trans ex3,_,rfl⟩⟩) (gA 1 (n-1).toNat) [some (.c c),none] M yA ⟨dk.le (by rw[dX];omega),Ex.refl _ _,_,rfl⟩
 rw[dX]at e3;refine⟨ys,M2,?_,e2,by omega,e4,e5⟩;unfold iB;refine FK (GG (i:=1) (j:=n) (by simp![h1]) (by decide) (nA (by omega) (by omega))) (by rw[dX];omega) ?_ (by omega);have:lC [some 0,none] γ=[some (.c c),none]:=by simp only[lC,List.map_cons,List.map_nil,Option.bind_some,Option.bind_none,h0];rfl
 rw[this];exact e1
theorem aIH{k:Int}(k0:0<=k)(kn:k<n)(n9:n<=9)(h0:γ[0]?=some (some (.c c)))(h6:γ[6]?=some (some (I k)))(dk:Dk M c (m+k.toNat)):∃ds M2,kX γ M=some (.d (.list ds),M2)/\(∀y∈ds.map CD.d,Pr n y)/\ds.length<=k.toNat/\Dk M2 c m/\Ex c M M2:=by
 obtain⟨ys,γ',M2,e1,e2,e3,⟨e4,e5,_⟩⟩:=wL (g:=hName 2) (c:=gB (fOp gtI (fOp cE (bQ "list" iD (aD 1) aH) (fC (.int 3))) (fC (.int 0)))) (e:=bI (aB (aD 2) (aB (aD 0) aH))) (X:=Rg 0 (0+k.toNat)) (E:=Pr n) (Inv:=fun j γ M'=>Dk M' c (m+j)/\Ex c M M'/\∃s,γ=[some (I k),some (.c c),s]) (fun j x γ M' hx hi=>by
  obtain⟨i,rfl,i0,i1⟩:=hx;obtain⟨d,ex,s,rfl⟩:=hi;obtain⟨z,M3,po,d3,ex3⟩:=Dk.popE (m:=m+j) d;have pa:=pop_at (γ:=[some (I k),some (.c c),some (I i)]) (v:=1) rfl d.ty po;have m1:eA z 3=true:=bN (by decide);exact⟨[some (I k),some (.c c),some (I i)],rfl,decide (z % 3 > 0),M3,by simp![pa,m1],fun _=>⟨d3,ex.trans ex3,_,rfl⟩,fun _=>⟨T2 i k,M3,by simp![s2],⟨i,k,rfl,by omega,by omega,by omega,by omega⟩,d3,ex.trans ex3,_,rfl⟩⟩) (gA 0 k.toNat) [some (I k),some (.c c),none] M yA ⟨dk.le (by rw[dX];exact B0 _),Ex.refl _ _,_,rfl⟩
 obtain⟨ds,rfl⟩:=FQ e2;rw[A7,dX]at e3;refine⟨ds,M2,?_,e2,e3,e4,e5⟩;unfold kX;refine jJ (rJ (J:=k) (by simp![h6]) (nA (by omega) (by omega))) (by rw[dX];omega) ?_ (by omega);have:lC [some 6,some 0,none] γ=[some (I k),some (.c c),none]:=by simp only[lC,List.map_cons,List.map_nil,Option.bind_some,Option.bind_none,h6,h0];rfl
 rw[this];exact e1
def tri:Nat->Nat
 |0=>0
 |k+1=>tri k+k
theorem aIQ:∀n,n<=9->tri n<=36:=by decide
theorem yV:∀{n k:Nat},k<=n->tri k<=tri n
 |0,k=>fun h=>by rw[Nat.le_zero.mp h];exact B0 _
 |n+1,k=>fun h=>by
  by_cases e:k=n+1
  .rw[e];exact B0 _
  .have:=yV (n:=n) (k:=k) (by omega);show tri k<=tri n+n;omega
abbrev GP(c:Nat)(n K:Int)(p:Nat)(g4 g5 g6:Option CD):Ga:=[some (.c c),some (I n),some (I K),some (.c p),g4,g5,g6]
def Fd(c m:Nat)(n:Int)(M:Sto)(r:Option (Out×Sto)):Prop:=∃γ' p M',r=some (.nx γ',M')/\γ'[3]?=some (some (.c p))/\Pl M' p n 40/\Dk M' c m/\Ex c M M'/\M.length<=p
theorem aBL{c:Nat}{K mid:Int}{g4:Option CD}(j0:0<=J)(jn:J<n)(n9:n<=9)(pl:Pl M p n L)(hL:L+J.toNat<=1000):
 ∃x,dM (GP c n K p g4 (some (I mid)) (some (I J))) M=some (.nx (GP c n K M.length g4 (some (I mid)) (some (I J))),M++[x])/\Pl (M++[x]) M.length n (L+J.toNat):=by
 obtain⟨ds,e1,e2,e3⟩:=aIw (γ:=GP c n K p g4 (some (I mid)) (some (I J))) (M:=M) (k:=J) (mid:=mid) (n:=n) j0 jn n9 rfl rfl;obtain⟨M',e4,e5,x,rfl⟩:=pl.cat e2 e3 hL;refine⟨x,?_,e5⟩;unfold dM;refine(bZ (x:=.c M.length) ?_).trans rfl;simp![e1,e4]
theorem aDa{K:Int}{g4 g5:Option CD}(j0:0<=J)(jn:J<n)(n9:n<=9)(ne:p≠c)(dk:Dk M c (m+J.toNat))(pl:Pl M p n L)(hL:L+J.toNat<=1000):
 ∃M2 x,dP (GP c n K p g4 g5 (some (I J))) M=some (.nx (GP c n K M2.length g4 g5 (some (I J))),M2++[x])/\Pl (M2++[x]) M2.length n (L+J.toNat)/\Dk M2 c m/\Ex c M M2:=by
 obtain⟨ds,M2,e1,e2,e3,d2,x2⟩:=aIH (γ:=GP c n K p g4 g5 (some (I J))) (M:=M) (k:=J) (n:=n) (c:=c) (m:=m) j0 jn n9 rfl rfl dk;obtain⟨M',e4,e5,x,rfl⟩:=(pl.to x2 ne).cat e2 e3 hL;refine⟨M2,x,?_,e5,d2,x2⟩;unfold dP;refine(bZ (x:=.c M2.length) ?_).trans rfl;simp![e1,e4]
theorem HN{K mid:Int}{g4 g6:Option CD}(n0:1<=n)(n9:n<=9)(dk:Dk M c m)(pl:Pl M p n 0)(ex:Ex c M0 M)(hp:M0.length<=p)(cl:c<M0.length):
 ∃g4' g6' p' M',nU (hName 6) dM (gA (0:Nat) n.toNat) (GP c n K p g4 (some (I mid)) g6) M=some (.nx (GP c n K p' g4' (some (I mid)) g6'),M')/\Pl M' p' n 36/\Dk M' c m/\Ex c M0 M'/\M0.length<=p':=by
 have t9:=aIQ n.toNat (by omega)
 obtain⟨γ',M',e,⟨p',a4,a6,rfl,q1,q2,q3,q4⟩⟩:=uT (g:=hName 6) (b:=dM) (n:=n.toNat) (Inv:=fun k γ M=>∃p g4 g6,γ=GP c n K p g4 (some (I mid)) g6/\Pl M p n (tri k)/\Dk M c m/\Ex c M0 M/\M0.length<=p) (fun k hk γ M hi=>by
  obtain⟨p,g4,g6,rfl,pl,dk,ex,hp⟩:=hi;have tm:=yV (n:=n.toNat) (k:=k) (by omega);obtain⟨J,hJ⟩:∃J:Int,J=(k:Nat):=⟨_,rfl⟩;rw[<- hJ];obtain⟨x,e1,e2⟩:=aBL (c:=c) (K:=K) (mid:=mid) (g4:=g4) (J:=J) (by omega) (by omega) n9 pl (by omega);rw[show tri k+J.toNat=tri (k+1)by rw[hJ,L3];rfl]at e2;exact⟨_,_,_,rfl,e1,_,g4,_,rfl,e2,dk.app,ex.trans (Ex.app _ _ _),ex.len⟩) n.toNat 0 _ M (by omega) ⟨p,g4,g6,rfl,pl,dk,ex,hp⟩
 exact⟨a4,a6,p',M',e,q1.le t9,q2,q3,q4⟩
theorem IA{K:Int}{g4 g5 g6:Option CD}(n0:1<=n)(n9:n<=9)(dk:Dk M c (m+36))(pl:Pl M p n 0)(ex:Ex c M0 M)(hp:M0.length<=p)(cl:c<M0.length):
 ∃g4' g5' g6' p' M',nU (hName 6) dP (gA (0:Nat) n.toNat) (GP c n K p g4 g5 g6) M=some (.nx (GP c n K p' g4' g5' g6'),M')/\Pl M' p' n 36/\Dk M' c m/\Ex c M0 M'/\M0.length<=p':=by
 have t9:=aIQ n.toNat (by omega)
 obtain⟨γ',M',e,⟨p',a4,a5,a6,rfl,q1,q2,q3,q4⟩⟩:=uT (g:=hName 6) (b:=dP) (n:=n.toNat) (Inv:=fun k γ M=>∃p g4 g5 g6,γ=GP c n K p g4 g5 g6/\Pl M p n (tri k)/\Dk M c (m+(36-tri k))/\Ex c M0 M/\M0.length<=p) (fun k hk γ M hi=>by
  obtain⟨p,g4,g5,g6,rfl,pl,dk,ex,hp⟩:=hi;have tm:=yV (n:=n.toNat) (k:=k+1) (by omega);have tk:tri (k+1)=tri k+k:=rfl;obtain⟨J,hJ⟩:∃J:Int,J=(k:Nat):=⟨_,rfl⟩;rw[<- hJ];obtain⟨M2,x,e1,e2,e3,e4⟩:=aDa (c:=c) (K:=K) (g4:=g4) (g5:=g5) (J:=J) (m:=m+(36-tri (k+1))) (by omega) (by omega) n9 (by omega) (dk.le (by omega)) pl (by omega);rw[show tri k+J.toNat=tri (k+1)by rw[hJ,L3];rfl]at e2;exact⟨_,_,_,rfl,e1,_,g4,g5,_,rfl,e2,e3.app,(ex.trans e4).trans (Ex.app _ _ _),(ex.trans e4).len⟩) n.toNat 0 _ M (by omega) ⟨p,g4,g5,g6,rfl,pl,dk,ex,hp⟩
 exact⟨a4,a5,a6,p',M',e,q1.le t9,q2.le (by omega),q3,q4⟩
theorem aDv(n0:1<=n)(n9:n<=9)(dk:Dk M c (m+40)):∃p M',jQ [.c c,I n] M=some (.c p,M')/\Pl M' p n 40/\Dk M' c m/\Ex c M M'/\M.length<=p:=by
 obtain⟨z,M1,po,d1,x1⟩:=Dk.popE (m:=m+39) dk;have pa:=pop_at (γ:=[some (.c c),some (I n),none,none,none,none,none]) (v:=0) rfl dk.ty po;have m9:∀y,eA y 9=true:=fun y=>bN (by decide);have mi:=tD (z:=z) (m:=9) (by decide);generalize hK:z % 9=K at mi;have cl:=dk.lt
 have a1:aV (fOp cE (bQ "list" iD (aD 0) aH) (fC (.int 9))) (hName 2) [some (.c c),some (I n),none,none,none,none,none] M=some (.nx [some (.c c),some (I n),some (I K),none,none,none,none],M1):=by
  simp![pa,m9,hK]
 have a2:aV (sA aH) (hName 3) [some (.c c),some (I n),some (I K),none,none,none,none] M1=some (.nx (GP c n K M1.length none none none),M1++[.lst []]):=by
  simp![show(0:Nat)<=sizeLine from Nat.zero_le _]
 have d2:Dk (M1++[.lst []]) c (m+39):=d1.app;have x2:Ex c M (M1++[.lst []]):=x1.trans (Ex.app _ _ _);have p2:Pl (M1++[.lst []]) M1.length n 0:=Pl.new (fun y h=>by simp at h) (B0 _);have hp2:M.length<=M1.length:=x1.len;generalize M1++[Cell.lst []]=M2 at a2 d2 x2 p2;generalize M1.length=p0 at a2 p2 hp2;have tl:∀k:Int,∀γ N,γ[2]?=some (some (I K))->gB (fOp ltI (aD 2) (fC (.int k))) γ N=some (decide (K<k),N):=fun k γ N h=>by simp![h]
 have te:∀k:Int,∀γ N,γ[2]?=some (some (I K))->gB (fOp (eqX false) (aD 2) (fC (.int k))) γ N=some (K==k,N):=fun k γ N h=>by simp![h,zY]
 have dv:∀y:Int,nE y 2=true:=fun y=>jZ (by decide) (wsm (by decide) (by decide))
 have key:Fd c m n M ((sIf (gB (fOp ltI (aD 2) (fC (.int 2))))
  (aX (aV eR (hName 3))
 (sIf (gB (fOp (eqX false) (aD 2) (fC (.int 1))))
  (aX (aV (bQ "list" iD (aD 0) aH) (hName 4))
 (aV (fOp vM (aD 3) (gF (aB (bI (aB (fOp cE (aD 4) (aD 1)) (aB (fOp cE (fOp cZ (aD 4) (fC (.int 11))) (aD 1)) aH))) (aB (bI (aB (fOp cE (fOp cZ (aD 4) (fC (.int 97))) (aD 1)) (aB (fOp cE (fOp cZ (aD 4) (fC (.int 7))) (aD 1)) aH))) aH)))) (hName 3)))
  cX))
  (sIf (gB (fOp (eqX false) (aD 2) (fC (.int 2))))
  (aV iE (hName 3))
  (sIf (gB (fOp (eqX false) (aD 2) (fC (.int 3))))
  (aV iB (hName 3))
  (sIf (gB (fOp (eqX false) (aD 2) (fC (.int 4))))
  (aX (aV (fOp cZ (aD 1) (fC (.int 2))) (hName 5))
 (aX (sE (dG (aB (aD 1) aH)) (hName 6) dM)
 (oY (bQ "list" dU (aD 3) (aB (bI (aB (fC (.int 0)) (aB (fOp CC (aD 1) (fC (.int 1))) aH))) aH)))))
  (sIf (gB (fOp (eqX false) (aD 2) (fC (.int 5))))
  (aX (aV (fOp cZ (aD 1) (fC (.int 2))) (hName 5))
 (aX (aV fA (hName 3))
 (aV (fOp vM (fOp vM (aD 3) hZ) (gF (aB (bI (aB (aD 5) (aB (fOp CC (aD 1) (fC (.int 1))) aH))) aH))) (hName 3))))
  (sIf (gB (fOp ltI (aD 2) (fC (.int 8))))
  (sE (dG (aB (aD 1) aH)) (hName 6) dP)
  cX)))))) (GP c n K p0 none none none) M2):=by
  by_cases k2:K<2
  .rw[sM ((tl 2 _ _ rfl).trans (by rw[D3 k2]))];obtain⟨ys,e1,e2,e3⟩:=aJh (γ:=GP c n K p0 none none none) (M:=M2) n0 n9 rfl;have st1:aV eR (hName 3) (GP c n K p0 none none none) M2=some (.nx (GP c n K M2.length none none none),M2++[.lst ys]):=(bZ e1).trans rfl;rw[aU st1];have pl:Pl (M2++[.lst ys]) M2.length n 9:=Pl.new e2 e3;by_cases k1:K=1
   .rw[sM ((te 1 _ _ rfl).trans (by rw[k1];rfl))];obtain⟨y,M4,po4,d4,x4⟩:=Dk.popE (m:=m+38) (show Dk (M2++[.lst ys]) c (m+38+1)from d2.app);have pa4:=pop_at (γ:=GP c n K M2.length none none none) (v:=0) rfl (show Dk (M2++[.lst ys]) c _ from d2.app).ty po4;have mo:∀q,eA q n=true:=fun q=>bN (by omega);have dv':∀q:Int,nE q 11=true/\nE q 97=true/\nE q 7=true:=fun q=>⟨jZ (by decide) (wsm (by decide) (by decide)),jZ (by decide) (wsm (by decide) (by decide)),jZ (by decide) (wsm (by decide) (by decide))⟩;have cl2:c<M2.length:=d2.lt;have mm:∀q:Int,0<=q % n/\q % n<n:=fun q=>tD (by omega)
    obtain⟨M5,e5,e6,x,rfl⟩:=(pl.to x4 (by omega)).cat (ds:=[.tuple [.int (y % n),.int (y / 11 % n)],.tuple [.int (y / 97 % n),.int (y / 7 % n)]]) (k:=2) (fun w hw=>by
     simp only[List.map_cons,List.map_nil,List.mem_cons,List.not_mem_nil,or_false]at hw;rcases hw with rfl|rfl
     .exact⟨_,_,rfl,(mm _).1,(mm _).2,(mm _).1,(mm _).2⟩
     .exact⟨_,_,rfl,(mm _).1,(mm _).2,(mm _).1,(mm _).2⟩) (B0 _) (by decide)
    have st4:aV (bQ "list" iD (aD 0) aH) (hName 4) (GP c n K M2.length none none none) (M2++[.lst ys])=some (.nx (GP c n K M2.length (some (I y)) none none),M4):=(bZ pa4).trans rfl;rw[aU st4];refine⟨_,M4.length,_,(bZ (x:=.c M4.length) ?_).trans rfl,rfl,e6.le (by decide),d4.app.le (by omega),((x2.trans (Ex.app _ _ _)).trans x4).trans (Ex.app _ _ _),((x2.trans (Ex.app _ _ _)).trans x4).len⟩;simp![mo,dv',s2,e5]
   .rw[lT ((te 1 _ _ rfl).trans (by rw[beq_eq_false_iff_ne.mpr k1]))];exact⟨_,M2.length,_,rfl,rfl,pl.le (by decide),d2.app.le (by omega),x2.trans (Ex.app _ _ _),x2.len⟩
  .rw[lT ((tl 2 _ _ rfl).trans (by rw[D8 k2]))];by_cases k3:K=2
   .rw[sM ((te 2 _ _ rfl).trans (by rw[k3];rfl))];obtain⟨ys,e1,e2,e3⟩:=aIb (γ:=GP c n K p0 none none none) (M:=M2) n0 n9 rfl;exact⟨_,M2.length,_,(bZ e1).trans rfl,rfl,Pl.new e2 (D0 e3 (by decide)),d2.app.le (by omega),x2.trans (Ex.app _ _ _),x2.len⟩
   rw[lT ((te 2 _ _ rfl).trans (by rw[beq_eq_false_iff_ne.mpr k3]))];by_cases k4:K=3
   .rw[sM ((te 3 _ _ rfl).trans (by rw[k4];rfl))];obtain⟨ys,M3,e1,e2,e3,e4,e5⟩:=aIs (γ:=GP c n K p0 none none none) (M:=M2) (c:=c) (m:=m) n0 n9 rfl rfl (d2.le (by omega));exact⟨_,M3.length,_,(bZ e1).trans rfl,rfl,Pl.new e2 (D0 e3 (by decide)),e4.app,(x2.trans e5).trans (Ex.app _ _ _),(x2.trans e5).len⟩
   rw[lT ((te 3 _ _ rfl).trans (by rw[beq_eq_false_iff_ne.mpr k4]))];have h5:aV (fOp cZ (aD 1) (fC (.int 2))) (hName 5) (GP c n K p0 none none none) M2=some (.nx (GP c n K p0 none (some (I (n / 2))) none),M2):=by simp![dv]
   have rg:∀(γ:Ga)(N:Sto),γ[1]?=some (some (I n))->dG (aB (aD 1) aH) γ N=some (gA (0:Nat) n.toNat,N):=fun γ N h=>rJ (J:=n) (by simp![h]) (nA (by omega) (by omega));by_cases k5:K=4
   .rw[sM ((te 4 _ _ rfl).trans (by rw[k5];rfl)),aU h5];obtain⟨g4,g6,p',M',e1,e2,e3,e4,e5⟩:=HN (K:=K) (mid:=n / 2) (g4:=none) (g6:=none) n0 n9 d2 p2 x2 hp2 cl;rw[aU (vF (rg _ _ rfl) e1)];obtain⟨ys,y1,y2,y3⟩:=id e2;have ty:tyB "list" M' (.c p')=true:=by simp only[tyB,y1];decide
    have ap:dU (.c p') [T2 0 (n-1)] M'=some (.d .none,M'.set p' (.lst (ys++[T2 0 (n-1)]))):=by
     simp only[dU,y1,if_pos (show ys.length<sizeLine by rw[sizeLine_eq];omega)]
    refine⟨GP c n K p' g4 (some (I (n / 2))) g6,p',_,?_,rfl,⟨ys++[T2 0 (n-1)],F5 (List.getElem?_eq_some_iff.mp y1).1,fun w hw=>?_,by rw[C3];simp;omega⟩,(e3.put (by omega)).le (by omega),e4.put e5,e5⟩
    .simp![bQ,ty,s2,ap]
    .rcases List.mem_append.mp hw with h|h
     .exact y2 w h
     .rw[List.mem_singleton.mp h];exact⟨0,n-1,rfl,by decide,by omega,by omega,by omega⟩
   rw[lT ((te 4 _ _ rfl).trans (by rw[beq_eq_false_iff_ne.mpr k5]))];by_cases k6:K=5
   .rw[sM ((te 5 _ _ rfl).trans (by rw[k6];rfl)),aU h5];obtain⟨ys,e1,e2,e3⟩:=aIt (γ:=GP c n K p0 none (some (I (n / 2))) none) (M:=M2) (n:=n) (mid:=n / 2) (by omega) (by omega) n9 rfl;have st1:aV fA (hName 3) (GP c n K p0 none (some (I (n / 2))) none) M2=some (.nx (GP c n K M2.length none (some (I (n / 2))) none),M2++[.lst ys]):=(bZ e1).trans rfl;rw[aU st1];obtain⟨ds,f1,f2,f3⟩:=aJt (γ:=GP c n K M2.length none (some (I (n / 2))) none) (M:=M2++[.lst ys]) (n:=n) (mid:=n / 2) (by omega) n0 n9 (by omega) rfl rfl;obtain⟨M4,q1,q2,x4,rfl⟩:=(Pl.new (M:=M2) e2 e3).cat f2 f3 (by decide)
    obtain⟨M5,q3,q4,x5,rfl⟩:=q2.cat (ds:=[.tuple [.int (n / 2),.int (n-1)]]) (k:=1) (fun w hw=>by
     simp only[List.map_cons,List.map_nil,List.mem_cons,List.not_mem_nil,or_false]at hw;rw[hw];exact⟨_,_,rfl,by omega,by omega,by omega,by omega⟩) (B0 _) (by decide)
    have x6:=((x2.trans (Ex.app c M2 [.lst ys])).trans (Ex.app c _ [x4]));refine⟨_,_,_,(bZ (x:=.c _) ?_).trans rfl,rfl,q4.le (by decide),d2.app.app.app.le (by omega),x6.trans (Ex.app _ _ _),x6.len⟩;simp![f1,q1,s2,show(1:Nat)<=sizeLine by decide,q3]
   rw[lT ((te 5 _ _ rfl).trans (by rw[beq_eq_false_iff_ne.mpr k6]))];by_cases k7:K<8
   .rw[sM ((tl 8 _ _ rfl).trans (by rw[D3 k7]))];obtain⟨g4,g5,g6,p',M',e1,e2,e3,e4,e5⟩:=IA (K:=K) (m:=m) (g4:=none) (g5:=none) (g6:=none) n0 n9 (d2.le (by omega)) p2 x2 hp2 cl;rw[vF (rg _ _ rfl) e1];exact⟨_,p',M',rfl,rfl,e2.le (by decide),e3,e4,e5⟩
   rw[lT ((tl 8 _ _ rfl).trans (by rw[D8 k7]))];exact⟨_,p0,M2,rfl,rfl,p2.le (by decide),d2.le (by omega),x2,hp2⟩
 obtain⟨γ',p,M',e,g3,q1,q2,q3,q4⟩:=key;refine⟨p,M',nD rfl ?_,q1,q2,q3,q4⟩;unfold nT;show aX _ _ [some (.c c),some (I n),none,none,none,none,none] M=_;rw[aU a1,aU a2,aU e];simp![g3]
def wts:List Int:=[55440,55440,110880,27720,41580,0,23100,166320,55440000000000,1,55440,27720]
theorem YS(M:Sto):∃w,gI [I z] M=some (I w,M)/\w∈wts:=by
 obtain⟨d,h1,h2⟩:=GO (ds:=wts.map PyData.int) (k:=z) (m:=12) (by decide) rfl;obtain⟨w,hw,rfl⟩:=List.mem_map.mp h2;have m1:eA z 12=true:=bN (by decide)
 have e:ixF (.d (.list (wts.map .int))) (I (z % 12)) M=some (I w,M):=by
  show(atI (wts.map PyData.int) (z % 12)).bind _=_;rw[h1];rfl
 have e:ixF (.d (.list [.int 55440,.int 55440,.int 110880,.int 27720,.int 41580,.int 0,.int 23100,.int 166320,.int 55440000000000,.int 1,.int 55440,.int 27720])) (I (z % 12)) M=some (I w,M):=e;exact⟨w,by simp![gI,mP,vO,m1,e],hw⟩
def OkW(n:Int)(us:List Tie):Prop:=(∀t∈us,0<=t.i/\t.i<t.j/\t.j<n/\t.a∈wts/\0<t.a/\t.b=55440)/\(us.map Tie.key).Nodup
def kvW(us:List Tie):List (List Key×CD):=us.map fun t=>(t.key,I t.a)
theorem aGp{w:Int}(ok:OkW n us)(h0:0<=i)(h1:i<j)(h2:j<n)(hw:w∈wts)(w0:0<w):∃vs,putD (kvW us) [.inl i,.inl j] (I w)=kvW vs/\OkW n vs/\vs.length<=us.length+1:=by
 unfold putD;by_cases c:((kvW us).any fun kv=>decide (kv.1=[.inl i,.inl j]))=true
 .rw[A9 c];refine⟨us.map fun t=>if t.key=[.inl i,.inl j]then{ t with a:=w }else t,?_,⟨fun t ht=>?_,?_⟩,by rw[A7];omega⟩
  .unfold kvW;rw[J6,J6];refine U9 fun t _=>?_;show(if t.key=_ then(t.key,I w)else(t.key,I t.a))=_;by_cases q:t.key=[.inl i,.inl j]
   .rw[A9 q];show(t.key,I w)=((if t.key=[.inl i,.inl j]then{ t with a:=w }else t).key,I (if t.key=[.inl i,.inl j]then{ t with a:=w }else t).a);rw[A9 q];rfl
   .rw[B2 q];show(t.key,I t.a)=((if t.key=[.inl i,.inl j]then{ t with a:=w }else t).key,I (if t.key=[.inl i,.inl j]then{ t with a:=w }else t).a);rw[B2 q]
  .obtain⟨s,hs,rfl⟩:=List.mem_map.mp ht;obtain⟨a1,a2,a3,a4,a5,a6⟩:=ok.1 s hs;split
   .exact⟨a1,a2,a3,hw,w0,a6⟩
   .exact⟨a1,a2,a3,a4,a5,a6⟩
  .rw[J6,show us.map (Tie.key ∘ fun t=>if t.key=[.inl i,.inl j]then{ t with a:=w }else t)=us.map Tie.key from U9 fun t _=>by
    show(if t.key=[.inl i,.inl j]then{ t with a:=w }else t).key=t.key;split<;>rfl]
   exact ok.2
 .rw[B2 c];refine⟨us++[⟨i,j,w,55440⟩],by unfold kvW;rw[L4];rfl,⟨fun t ht=>?_,?_⟩,by rw[C3,J5];omega⟩
  .rcases List.mem_append.mp ht with h|h
   .exact ok.1 t h
   .rw[List.mem_singleton.mp h];exact⟨h0,h1,h2,hw,w0,rfl⟩
  .rw[L4,List.map_singleton];refine List.nodup_append.mpr ⟨ok.2,by simp,fun k hk l hl q=>?_⟩;rw[List.mem_singleton.mp hl]at q;subst q;obtain⟨t,ht,e⟩:=List.mem_map.mp hk;refine c (List.any_eq_true.mpr ⟨(t.key,I t.a),List.mem_map.mpr ⟨t,ht,rfl⟩,?_⟩);rw[e];exact D3 rfl
theorem PH{g:GF}{b:SF}{X:CD->Prop}{Inv:Nat->Ga->Sto->Prop}(step:∀m x γ M,X x->Inv (m+1) γ M->∃γ1 γ' M',g x γ M=some (γ1,M)/\b γ1 M=some (.nx γ',M')/\Inv m γ' M'):
 ∀(xs:List CD)(γ:Ga)(M:Sto),(∀x∈xs,X x)->Inv xs.length γ M->∃γ' M',nU g b xs γ M=some (.nx γ',M')/\Inv 0 γ' M'
 |[]=>fun γ M _ i=>⟨γ,M,rfl,i⟩
 |x::xs=>fun γ M hx i=>by
  obtain⟨γ1,γ2,M1,e1,e2,i1⟩:=step _ x γ M (hx x B5) i;obtain⟨γ',M',e3,i2⟩:=PH step xs γ2 M1 (fun y hy=>hx y (B3 _ hy)) i1;exact⟨γ',M',by rw[BE e1 e2];exact e3,i2⟩
abbrev GW(c:Nat)(n al:Int)(d:Nat)(i j w:Option CD):Ga:=[some (.c c),some (I n),some (I al),some (.c d),i,j,w]
def Dt(M:Sto)(d:Nat)(n:Int)(L:Nat):Prop:=∃us,M[d]?=some (.dt (kvW us))/\OkW n us/\us.length<=L
theorem aGJ:JA [I i,I j] M=some (I (if j<i then j else i),M):=rfl
theorem aFw:KU [I i,I j] M=some (I (if j > i then j else i),M):=rfl
theorem WW{d:Nat}{al:Int}{g6:Option CD}(hi:0<=i/\i<n)(hj:0<=j/\j<n)(dk:Dk M c (m+1))(dt:Dt M d n L)(hL:L<900)(ex:Ex c M0 M)(hd:M0.length<=d)(ne:d≠c):
 ∃g6' M',jY (GW c n al d (some (I i)) (some (I j)) g6) M=some (.nx (GW c n al d (some (I i)) (some (I j)) g6'),M')/\Dk M' c m/\Dt M' d n (L+1)/\Ex c M0 M':=by
 have m2:eA al 2=true:=bN (by decide);have p1:aV (fC (.int 55440)) (hName 6) (GW c n al d (some (I i)) (some (I j)) g6) M=some (.nx (GW c n al d (some (I i)) (some (I j)) (some (I 55440))),M):=rfl;have tt:gB (fOp (eqX false) (fOp cE (aD 2) (fC (.int 2))) (fC (.int 1))) (GW c n al d (some (I i)) (some (I j)) (some (I 55440))) M=some (al % 2==1,M):=by simp![m2,zY]
 have mid:∃w M1,sIf (gB (fOp (eqX false) (fOp cE (aD 2) (fC (.int 2))) (fC (.int 1)))) (aV (aK gI (aB (bQ "list" iD (aD 0) aH) aH)) (hName 6)) cX (GW c n al d (some (I i)) (some (I j)) (some (I 55440))) M=some (.nx (GW c n al d (some (I i)) (some (I j)) (some (I w))),M1)/\w∈wts/\Dk M1 c m/\Ex c M M1:=by
  cases h:(al % 2==1)with
  |true=>
   obtain⟨z,M1,po,d1,x1⟩:=Dk.popE dk;have pa:=pop_at (γ:=GW c n al d (some (I i)) (some (I j)) (some (I 55440))) (v:=0) rfl dk.ty po;obtain⟨w,e1,e2⟩:=YS (z:=z) M1;refine⟨w,M1,?_,e2,d1,x1⟩;rw[sM (tt.trans (by rw[h]))];refine(bZ (x:=I w) ?_).trans rfl;simp![pa,e1]
  |false=>exact⟨55440,M,by rw[lT (tt.trans (by rw[h]))];rfl,by decide,dk.le (by omega),Ex.refl _ _⟩
 obtain⟨w,M1,e1,hw,d1,x1⟩:=mid;obtain⟨us,u1,u2,u3⟩:=dt;have u1:=x1.to u1 ne;have ll:(kvW us).length<sizeLine:=by unfold kvW;rw[A7,F0];omega
 have tA:XM (gB (fOp (eqX true) (aD 4) (aD 5))) (gB (fOp gtI (aD 6) (fC (.int 0)))) (GW c n al d (some (I i)) (some (I j)) (some (I w))) M1=some (!(i==j)&&decide (w > 0),M1):=by
  cases h:(i==j)<;>simp![aJI,h]<;>rfl
 unfold jY;rw[aU p1,aU e1];cases h:(!(i==j)&&decide (w > 0))with
 |false=>
  rw[lT (tA.trans (by rw[h]))];exact⟨_,M1,rfl,d1,⟨us,u1,u2,by omega⟩,ex.trans x1⟩
 |true=>
  rw[sM (tA.trans (by rw[h]))];rw[B7]at h;have nij:i≠j:=by simpa using h.1
  have w0:0<w:=by simpa using h.2
  obtain⟨vs,v1,v2,v3⟩:=aGp (i:=if j<i then j else i) (j:=if j > i then j else i) (w:=w) u2 (by split<;>omega) (by split<;>split<;>omega) (by split<;>omega) hw w0
  have sd:BQ M1 (.c d) (.inr [.inl (if j<i then j else i),.inl (if j > i then j else i)]) (I w)=some (M1.set d (.dt (kvW vs))):=by
   simp only[BQ,u1,if_pos ll,v1]
  refine⟨some (I w),M1.set d (.dt (kvW vs)),?_,d1.put ne,⟨vs,F5 (List.getElem?_eq_some_iff.mp u1).1,v2,by omega⟩,(ex.trans x1).put hd⟩;simp![vX,uB,aGJ,aFw,keysOf,keyOf,s2,sd]
theorem aJs(n0:1<=n)(n9:n<=9)(dk:Dk M c (m+81)):∃d M',kN [.c c,I n] M=some (.c d,M')/\Dt M' d n 40/\Dk M' c m/\Ex c M M'/\d≠c/\M.length<=d:=by
 obtain⟨z,M1,po,d1,x1⟩:=Dk.popE (m:=m+80) dk;have pa:=pop_at (γ:=[some (.c c),some (I n),none,none,none,none,none]) (v:=0) rfl dk.ty po;have a1:aV (bQ "list" iD (aD 0) aH) (hName 2) [some (.c c),some (I n),none,none,none,none,none] M=some (.nx [some (.c c),some (I n),some (I z),none,none,none,none],M1):=(bZ pa).trans rfl;have a2:aV wC (hName 3) [some (.c c),some (I n),some (I z),none,none,none,none] M1=some (.nx (GW c n z M1.length none none none),M1++[.dt []]):=rfl;have x2:Ex c M (M1++[.dt []]):=x1.trans (Ex.app _ _ _);have cl:=dk.lt;have hd:M.length<=M1.length:=x1.len;have u0:Dt (M1++[.dt []]) M1.length n 0:=⟨[],vL,⟨fun t h=>by simp at h,List.nodup_nil⟩,B0 _⟩;obtain⟨p,M2,e1,pl,d2,x3,hp⟩:=aDv (m:=m+40) n0 n9 (show Dk (M1++[.dt []]) c (m+40+40)from d1.app);obtain⟨ys,y1,y2,y3⟩:=pl;obtain⟨ds,rfl⟩:=FQ y2
 have it:cV (uY (aK jQ (aB (aD 0) (aB (aD 1) aH)))) (GW c n z M1.length none none none) (M1++[.dt []])=some (ds.map .d,M2.set p .dead):=by
  simp![cV,uY,e1,y1,pS,bE]
 have ln:(M1++[Cell.dt []]).length=M1.length+1:=by rw[C3];rfl
 have u2:Dt (M2.set p .dead) M1.length n 0:=by
  obtain⟨us,a,b⟩:=u0;refine⟨us,?_,b⟩;rw[F6 (by omega)];exact x3.to a (by omega)
 obtain⟨γ',M',e2,⟨g4,g5,g6,rfl,f1,f2,f3⟩⟩:=PH (g:=lD 2 (bG (hName 4) (bG (hName 5) lA))) (b:=jY) (X:=Pr n) (Inv:=fun k γ N=>∃g4 g5 g6,γ=GW c n z M1.length g4 g5 g6/\Dk N c (m+k)/\Dt N M1.length n (40-k)/\Ex c M N/\k<=40) (fun k x γ N hx hi=>by
  obtain⟨i,j,rfl,i0,i1,j0,j1⟩:=hx;obtain⟨g4,g5,g6,rfl,q1,q2,q3,q4⟩:=hi;obtain⟨g6',N',t1,t2,t3,t4⟩:=WW (al:=z) (g6:=g6) ⟨i0,i1⟩ ⟨j0,j1⟩ (m:=m+k) q1 q2 (by omega) q3 hd (by omega);refine⟨GW c n z M1.length (some (I i)) (some (I j)) g6,_,N',rfl,t1,_,_,_,rfl,t2,?_,t4,by omega⟩;obtain⟨us,a,b,e⟩:=t3;exact⟨us,a,b,by omega⟩) (ds.map .d) (GW c n z M1.length none none none) (M2.set p .dead) y2 ⟨none,none,none,rfl,(d2.put (by omega)).le (by omega),(let⟨us,a,b,e⟩:=u2;⟨us,a,b,by omega⟩),(x2.trans x3).put (by omega),y3⟩
 refine⟨M1.length,M',nD rfl ?_,f2,f1,f3.1,by omega,hd⟩;unfold tQ;show aX _ _ [some (.c c),some (I n),none,none,none,none,none] M=_;rw[aU a1,aU a2,aU (vF it e2)];rfl
def f0(t:Tie):List PyData:=[.int t.i,.int t.j]
theorem aJk(s t:Tie):(lX (f0 s) (f0 t)).isSome=true:=by
 show(if (s.i==t.i)=true then(if (s.j==t.j)=true then lX [] []else some (decide (s.j<t.j)))else some (decide (s.i<t.i))).isSome=true;split
 .split
  .rfl
  .rfl
 .rfl
theorem aBv(h64:us.length<64):∃vs:List Tie,vs.Perm us/\fZ (us.map f0)=some (vs.map fun t=>.tuple (f0 t)):=by
 by_cases h2:2<=us.length
 .have ab:sortable (us.map f0)=true:=by
   have hd:(lO (us.map f0) || oS (us.map f0))=true:=by
    rw[Bool.or_eq_true];exact .inl (by unfold lO;rw[List.all_map];exact List.all_eq_true.mpr fun t _=>rfl)
   unfold sortable;rw[A7,D3 h2,D3 h64,hd,Bool.true_and,Bool.true_and,Bool.and_true,B7];refine⟨List.all_eq_true.mpr fun r hr=>?_,List.all_eq_true.mpr fun i hi=>List.all_eq_true.mpr fun j hj=>?_⟩
   .obtain⟨t,_,rfl⟩:=List.mem_map.mp hr;rfl
   .rw[vK (List.mem_range.mp hi),vK (List.mem_range.mp hj)];exact aJk _ _
  have pm:=lM (n:=(us.map f0).length) (oA (us.map f0)) (by rw[A7];omega);rw[A7]at pm;have mem:∀i∈gN (oA (us.map f0)) us.length,i<us.length:=fun i hi=>List.mem_range.mp (pm.mem_iff.mp hi)
  have sd:LH (us.map f0)=((gN (oA (us.map f0)) us.length).map fun i=>us.getD i t0).map fun t=>.tuple (f0 t):=by
   unfold LH;rw[A7,J6];refine U9 fun i hi=>?_;show PyData.tuple ((us.map f0).getD i [])=.tuple (f0 (us.getD i t0));rw[vK (mem i hi),YB (mem i hi)]
  refine⟨(gN (oA (us.map f0)) us.length).map fun i=>us.getD i t0,?_,?_⟩
  .have:=pm.map fun i=>us.getD i t0
   rwa [DX]at this
  .unfold fZ;rw[ab,A9 rfl,sd]
 .have hl:us.length<2:=by omega
  refine⟨us,.refl _,?_⟩;unfold fZ
  have:sortable (us.map f0)=false:=by
   unfold sortable;rw[A7,D8 h2];rfl
  rw[this,B2 B1,A7,A9 hl,J6];rfl
def low(t:Tie):Tie:=⟨t.i,t.j,t.a / (Int.gcd t.a 55440:Int),55440 / (Int.gcd t.a 55440:Int)⟩
theorem aDl{w:Int}(h:w∈wts):sF (w / (Int.gcd w 55440:Int)) (55440 / (Int.gcd w 55440:Int))=true:=by
 have:wts.all fun w=>sF (w / (Int.gcd w 55440:Int)) (55440 / (Int.gcd w 55440:Int)):=by decide +kernel
 exact List.all_eq_true.mp this w h
theorem aGZ{t:Tie}(nd:(us.map Tie.key).Nodup)(ht:t∈us):lkC (kvW us) t.key=some (I t.a):=by
 unfold lkC kvW;rw[List.find?_map]
 have:us.find? ((fun kv:List Key×CD=>decide (kv.1=t.key)) ∘ fun t=>(t.key,I t.a))=some t:=by
  induction us with
  |nil=>simp at ht
  |cons s us ih=>
   rw[C7,List.nodup_cons]at nd;by_cases e:s.key=t.key
   .rcases List.mem_cons.mp ht with rfl|h
    .rw[List.find?_cons_of_pos (by simp)]
    .exact absurd (List.mem_map.mpr ⟨t,h,e.symm⟩) nd.1
   .rw[List.find?_cons_of_neg (by simpa using e)];rcases List.mem_cons.mp ht with rfl|h
    .exact absurd rfl e
    .exact ih nd.2 h
 rw[this];rfl
noncomputable abbrev rE:EF:=(bI (aB (aD 1) (aB (aD 2) (aB (aK fX (aB (IG (aD 0) (uB (aB (aD 1) (aB (aD 2) aH)))) (aB (fC (.int 55440)) aH))) aH))))
theorem s3:(3:Nat)<=sizeLine:=by decide
theorem EA{d:Nat}{M:Sto}{us:List Tie}(hd:M[d]?=some (.dt (kvW us)))(nd:(us.map Tie.key).Nodup)(h0:∀t∈us,0<=t.a):∀(vs:List Tie)(g1 g2:Option CD),(∀t∈vs,t∈us)->lcF (lD 2 (bG (hName 1) (bG (hName 2) lA))) gO rE (vs.map fun t=>.d (.tuple (f0 t))) [some (.c d),g1,g2] M=some ((vs.map fun t=>PyData.tuple (f2 (low t))).map .d,M)
 |[]=>fun _ _ _=>rfl
 |t::vs=>fun g1 g2 hv=>by
  have ih:=EA hd nd h0 vs (some (I t.i)) (some (I t.j)) fun u hu=>hv u (B3 _ hu)
  have lk:atD M (.c d) (.inr [.inl t.i,.inl t.j])=some (some (I t.a)):=by
   have:=aGZ nd (hv t B5);simp only[atD,hd];exact Y0 some this
  have lo:=YL (a:=t.a) (b:=55440) M (h0 t (hv t B5)) (by decide) (wsm (by decide) (by decide))
  have e:rE [some (.c d),some (I t.i),some (I t.j)] M=some (.d (.tuple (f2 (low t))),M):=by
   simp![rE,IG,uB,keysOf,keyOf,s2,s3,lk,lo];rfl
  rw[C7,C7,C7];show(lD 2 (bG (hName 1) (bG (hName 2) lA)) (.d (.tuple (f0 t))) [some (.c d),g1,g2] M).bind _=_;rw[show lD 2 (bG (hName 1) (bG (hName 2) lA)) (.d (.tuple (f0 t))) [some (.c d),g1,g2] M=some ([some (.c d),some (I t.i),some (I t.j)],M)from rfl,B4];show(gO _ M).bind _=_;rw[show gO [some (.c d),some (I t.i),some (I t.j)] M=some (true,M)from rfl,B4,A9 rfl,e,B4];dsimp only;rw[ih,B4]
theorem aGs{d:Nat}(dt:Dt M d n 40):∃us:List Tie,gU [.c d] M=some (.d (.list (eK us)),M)/\Ok n us:=by
 obtain⟨us,u1,⟨u2,nd⟩,u3⟩:=dt;obtain⟨vs,pm,sr⟩:=aBv (us:=us) (by omega);have hv:∀t∈vs,t∈us:=fun t ht=>pm.mem_iff.mp ht
 have sk:tL [.c d] M=some (.d (.list (vs.map fun t=>.tuple (f0 t))),M):=by
  have e:(kvW us).map (fun kv=>kv.1.map tY)=us.map f0:=by unfold kvW;rw[J6];rfl
  simp only[tL,u1,e,sr,Option.bind_some]
 have it:cV (aK tL (aB (aD 0) aH)) [some (.c d)] M=some (vs.map fun t=>.d (.tuple (f0 t)),M):=by
  simp![cV,sk,bE,List.map_map];rfl
 refine⟨vs.map low,?_,fun t ht=>?_,?_,by rw[A7,pm.length_eq];omega⟩
 .have cp:mJ [some (.c d)] M=some (.d (.list (eK (vs.map low))),M):=by
   unfold mJ;refine jJ it (by rw[A7,pm.length_eq];omega) ?_ (by unfold eK;rw[A7,A7,pm.length_eq];omega);have:=EA u1 nd (fun t ht=>by have:=(u2 t ht).2.2.2.2.1;omega) vs none none hv;rw[show lC [some 0,none,none] [some (CD.c d)]=[some (.c d),none,none]from rfl,this];unfold eK;rw[J6 (f:=low)];rfl
  simp![gU,qP,cp]
 .obtain⟨s,hs,rfl⟩:=List.mem_map.mp ht;obtain⟨a1,a2,a3,a4,a5,a6⟩:=u2 s (hv s hs);exact⟨aDl a4,a1,a2,a3⟩
 .rw[J6];exact((pm.map Tie.key).nodup_iff.mpr nd)
def dN(M:Sto)(w:Nat)(n:Int):Prop:=∃fs,M[w]?=some (.obj "Web" fs)/\List.lookup ("many":Str) fs=some (I n)
theorem dN.to(h:dN M w n)(e:Ex c M M')(ne:w≠c):dN M' w n:=let⟨fs,a,b⟩:=h;⟨fs,e.to a ne,b⟩
theorem dN.put{j:Nat}{x:Cell}(h:dN M w n)(ne:w≠j):dN (M.set j x) w n:=let⟨fs,a,b⟩:=h;⟨fs,by rw[F6 (L6 ne)];exact a,b⟩
theorem aHu(n0:1<=n)(n9:n<=9)(dk:Dk M c (m+81))(h1:γ[1]?=some (some (.c c)))(h3:γ[3]?=some (some (I n))):
 ∃w M',CU "Web" gS (aB (aD 3) (aB (aK gU (aB (aK kN (aB (aD 1) (aB (aD 3) aH))) aH)) aH)) γ M=some (.c w,M')/\dN M' w n/\Dk M' c m/\Ex c M M'/\w≠c:=by
 obtain⟨d,M1,e1,dt,d1,x1,ne,_⟩:=aJs (m:=m) n0 n9 dk;obtain⟨us,e2,ok⟩:=aGs dt;obtain⟨vs,pm,e3⟩:=aDE (M:=M1) ok (by omega) (by omega);have cl:=d1.lt;refine⟨M1.length,M1++aFK M1.length n us vs,?_,⟨[("many",I n),("ties",.d (.tuple (eJ vs))),("weights",.c (M1.length+2))],?_,rfl⟩,d1.app,x1.trans (Ex.app _ _ _),by omega⟩
 .simp![CU,h1,h3,e1,e2,e3];rfl
 .rw[I0 (B0 _),U6];rfl
def lts:List Int->List Bool
 |a::b::r=>decide (a<b)::lts (b::r)
 |_=>[]
theorem MN:∀ns:List Int,(lts ns).all id=true↔ns.Pairwise (·<·)
 |[]=>by simp[lts]
 |[a]=>by simp[lts]
 |a::b::r=>by
  have ih:=MN (b::r);show(decide (a<b)&&(lts (b::r)).all id)=true↔_;rw[B7,ih,decide_eq_true_eq];constructor
  .intro h;refine List.pairwise_cons.mpr ⟨fun x hx=>?_,h.2⟩;rcases List.mem_cons.mp hx with rfl|hx
   .exact h.1
   .have:=(List.pairwise_cons.mp h.2).1 x hx;omega
  .intro h;exact⟨(List.pairwise_cons.mp h).1 b B5,(List.pairwise_cons.mp h).2⟩
theorem aCp{σ:List Int}{v:Int}(nd:σ.Nodup):(step_dedup σ v).Nodup:=by
 unfold step_dedup;split
 .exact nd
 .rename_i h;refine List.nodup_append.mpr ⟨nd,by simp,fun a ha b hb e=>h (List.any_eq_true.mpr ⟨a,ha,?_⟩)⟩;rw[List.mem_singleton.mp hb]at e;rw[e];simp
theorem QV:∀(ns σ:List Int),σ.Nodup->(ns.foldl step_dedup σ).Nodup
 |[]=>fun _ h=>h
 |n::ns=>fun σ h=>QV ns _ (aCp h)
theorem QX:∀(ns σ:List Int),(σ++ns).Nodup->ns.foldl step_dedup σ=σ++ns
 |[]=>fun σ _=>by simp
 |n::ns=>fun σ h=>by
  have h':(σ++[n]++ns).Nodup:=by simpa using h
  have hn:n∉σ:=fun hm=>by
   have:=(List.nodup_append.mp h).2.2 n hm n B5;exact this rfl
  have st:step_dedup σ n=σ++[n]:=by
   unfold step_dedup
   rw[B2 fun q=>by
    obtain⟨x,hx,e⟩:=List.any_eq_true.mp q;have:x=n:=by simpa using e
    exact hn (this▸hx)]
  rw[List.foldl_cons,st,QX ns (σ++[n]) h'];simp
theorem aCk(ns:List Int):ns=gG (lE ns)↔(lts ns).all id=true:=by
 rw[MN];constructor
 .intro h;have s1:=oF (lE ns);have nd:(gG (lE ns)).Nodup:=(kS _).nodup_iff.mpr (QV ns [] List.nodup_nil);rw[<- h]at s1 nd;exact(List.Pairwise.and s1 nd).imp fun⟨a,b⟩=>by omega
 .intro h;have nd:ns.Nodup:=h.imp fun a=>by omega
  have e:lE ns=ns:=by
   unfold lE;rw[QX ns [] (by simpa using nd)];rfl
  rw[e];exact vP (h.imp fun a=>by omega) (oF ns) (kS ns).symm
theorem lc2{c:TF}{e:EF}{f:PyData->PyData}{t:PyData->Bool}{a:Option CD}{M:Sto}:∀(ds:List PyData)(s:Option CD),(∀d∈ds,c [a,some (.d d)] M=some (t d,M))->(∀d∈ds,t d=true->e [a,some (.d d)] M=some (.d (f d),M))->lcF (hName 1) c e (ds.map .d) [a,s] M=some (((ds.filter t).map f).map .d,M)
 |[]=>fun _ _ _=>rfl
 |d::ds=>fun s hc he=>by
  have ih:=lc2 (c:=c) (e:=e) (f:=f) (t:=t) (a:=a) (M:=M) ds (some (.d d)) (fun x hx=>hc x (B3 _ hx)) (fun x hx=>he x (B3 _ hx));have h1:=hc d B5;have h2:=he d B5;have hg:hName 1 (.d d) [a,s] M=some ([a,some (.d d)],M):=rfl;cases q:t d with
  |false=>simp only[List.map_cons,lcF,hg,Option.bind_some,h1,q,Bool.false_eq_true,if_false,ih,List.filter_cons_of_neg (show ¬t d=true by rw[q];decide)]
  |true=>simp only[List.map_cons,lcF,hg,Option.bind_some,h1,q,if_true,h2 q,ih,List.filter_cons_of_pos q]
theorem NS:ds.filter (fun _=>true)=ds:=List.filter_eq_self.mpr fun _ _=>rfl
theorem EI{α:Type}{f:α->Bool}:∀ds:List α,boolsOf (ds.map fun d=>.bool (f d))=some (ds.map f)
 |[]=>rfl
 |d::ds=>by show(boolsOf (ds.map fun d=>.bool (f d))).bind _=_;rw[EI ds];rfl
theorem all_map'{α:Type}{f:α->Bool}{ds:List α}:wH [.d (.list (ds.map fun d=>.bool (f d)))] M=some (B (ds.all f),M):=by
 show(boolsOf (ds.map fun d=>.bool (f d))).bind _=_;rw[EI,B4,List.all_map];rfl
def Rw(k:Bool)(ds:List PyData):PyData:=if k then .list ds else .tuple ds
theorem aAY(h:sV x=true):∃k ds,x=Rw k ds:=by
 cases x<;>first|(cases h;done)|exact⟨true,_,rfl⟩|exact⟨false,_,rfl⟩
theorem cF(k:Bool)(ds:List PyData):bE (Rw k ds)=some ds:=by cases k<;>rfl
theorem aEB{k:Bool}{f:EF}(h:f γ M=some (.d (Rw k ds),M)):cV f γ M=some (ds.map .d,M):=by
 simp only[cV,h,Option.bind_some,cF]
theorem WS{k:Bool}:oQ [.d (Rw k ds)] M=some (I ds.length,M):=by cases k<;>rfl
theorem aBX{k:Bool}:pP [.d (Rw k ds)] M=some (.d (.list ds),M):=by cases k<;>rfl
theorem aJg{α:Type}(ds:List α):dE ds (some 1) none=ds.drop 1:=by
 unfold dE;rw[show(1:Int)=((1:Nat):Int)from rfl,HT.sIx_nat,HT.sIx_none];cases ds with
 |nil=>rfl
 |cons d ds=>rw[show min 1 (d::ds).length=1 by simp];exact List.take_of_length_le (by simp)
theorem aFJ{k:Bool}:slF (.d (Rw k ds)) (some 1) none M=some (.d (Rw k (ds.drop 1)),M):=by
 cases k
 .show some (CD.d (.tuple (dE ds (some 1) none)),M)=_;rw[aJg];rfl
 .show some (CD.d (.list (dE ds (some 1) none)),M)=_;rw[aJg];rfl
theorem PX{M:Sto}:∀(ns:List Int)(γ:Ga),(∃a b,γ=[a,b])->lcF (lD 2 (bG (hName 0) (bG (hName 1) lA))) gO (fOp ltI (aD 0) (aD 1)) (mZ (ns.map .int) ((ns.map PyData.int).drop 1)) γ M=some (((lts ns).map fun b=>PyData.bool b).map .d,M)
 |[]=>fun _ _=>rfl
 |[_]=>fun _ _=>rfl
 |a::b::r=>fun γ h=>by
  obtain⟨x,y,rfl⟩:=h;have ih:=PX (M:=M) (b::r) [some (I a),some (I b)] ⟨_,_,rfl⟩;show(lcF (lD 2 (bG (hName 0) (bG (hName 1) lA))) gO (fOp ltI (aD 0) (aD 1)) (mZ ((b::r).map .int) (((b::r).map PyData.int).drop 1)) [some (I a),some (I b)] M).bind _=_;rw[ih];rfl
theorem PL:∀ns:List Int,(lts ns).length<=ns.length
 |[]=>B0 _
 |[_]=>J4 _
 |a::b::r=>by have:=PL (b::r);simp only[lts,List.length_cons]at this ⊢;omega
theorem KM{k:Bool}(hl:ns.length<=900):lQ [.d (Rw k (ns.map .int))] M=some (B ((lts ns).all id),M):=by
 have zl:(mZ (ns.map PyData.int) ((ns.map PyData.int).drop 1)).length<=1000:=by
  have:=EZ (ns.map PyData.int) ((ns.map PyData.int).drop 1);rw[A7]at this;omega
 have it:IT (aB (aD 0) (aB (fSl (aD 0) (dQ (fC (.int 1))) bW) aH)) [some (.d (Rw k (ns.map .int)))] M=some (mZ (ns.map .int) ((ns.map PyData.int).drop 1),M):=by
  simp![IT,fSl,dQ,bW,asI,aFJ];cases k<;>rfl
 have cp:mG [some (.d (Rw k (ns.map .int)))] M=some (.d (.list ((lts ns).map fun b=>.bool b)),M):=by
  unfold mG;exact jJ it zl (PX ns _ ⟨_,_,rfl⟩) (by rw[A7];have:=PL ns;omega)
 have al:=all_map' (f:=id) (ds:=lts ns) (M:=M);have al:wH [.d (.list ((lts ns).map fun b=>.bool b))] M=some (B ((lts ns).all id),M):=al;simp![lQ,qQ,cp,al]
def pB(n:Int)(x:PyData):Bool:=match bE x with
 |some ds=>ds.all (plc n)&&(match oR ds with|some ns=>(lts ns).all id|none=>false)
 |none=>false
theorem ints_map:∀ns:List Int,oR (ns.map .int)=some ns
 |[]=>rfl
 |n::ns=>by show(oR (ns.map .int)).bind _=_;rw[ints_map ns];rfl
theorem uS{n:Int}:∀{ds:List PyData},ds.all (plc n)=true->∃ns:List Int,ds=ns.map .int/\∀i∈ns,0<=i/\i<n
 |[]=>fun _=>⟨[],rfl,fun i h=>by simp at h⟩
 |d::ds=>fun h=>by
  rw[Y5,B7]at h;obtain⟨i,rfl,i0,i1⟩:=uI h.1;obtain⟨ns,rfl,hn⟩:=uS h.2;refine⟨i::ns,rfl,fun j hj=>?_⟩;rcases List.mem_cons.mp hj with rfl|hj
  .exact⟨i0,i1⟩
  .exact hn j hj
theorem NY{k:Bool}(h:(ns.map PyData.int).all (plc n)=true):pB n (Rw k (ns.map .int))=(lts ns).all id:=by
 unfold pB;rw[cF];dsimp only;rw[h,ints_map];rfl
theorem YR(hl:∀ds,bE x=some ds->ds.length<=60):bH [I n,.d x] M=some (B (pB n x),M):=by
 cases hr:sV x with
 |false=>
  have:pB n x=false:=by unfold pB;cases x<;>first|rfl|(cases hr;done)
  rw[this];simp![bH,cM,tX,hr]
 |true=>
  obtain⟨k,ds,rfl⟩:=aAY hr;have l60:=hl ds (cF k ds)
  have cp:eD [some (I n),some (.d (Rw k ds))] M=some (.d (.list (ds.map fun d=>.bool (plc n d))),M):=by
   unfold eD;refine jJ (aEB (k:=k) (ds:=ds) (by simp![])) (by rw[A7];omega) ?_ (by rw[A7];omega);have:=lc2 (c:=gO) (e:=aK fH (aB (aD 0) (aB (aD 1) aH))) (f:=fun d=>.bool (plc n d)) (t:=fun _=>true) (a:=some (I n)) (M:=M) ds none (fun _ _=>rfl) (fun d _ _=>by simp![oB]);rw[NS]at this;exact this
  have al:=all_map' (f:=plc n) (ds:=ds) (M:=M);cases ha:ds.all (plc n)with
  |false=>
   have:pB n (Rw k ds)=false:=by unfold pB;rw[cF];dsimp only;rw[ha];rfl
   rw[this];rw[ha]at al;simp![bH,cM,tX,hr,cp,al]
  |true=>
   rw[ha]at al;obtain⟨ns,rfl,hn⟩:=uS ha;rw[NY ha];have ri:=KM (k:=k) (ns:=ns) (M:=M) (by rw[A7]at l60;omega);simp![bH,cM,tX,hr,cp,al,ri]
theorem NH(x:PyData)(M:Sto):mQ [.d x] M=some (B (sV x),M):=by cases x<;>rfl
theorem aAe(n:Int)(d:PyData)(M:Sto):cW [.d d,I 0,I (n-1)] M=some (B (plc n d),M):=by
 have e:∀i:Int,decide (i<=n-1)=decide (i<n):=fun i=>by
  by_cases h:i<n
  .rw[D3 h,D3 (by omega)]
  .rw[D8 h,D8 (by omega)]
 cases d with
 |int i=>
  show _=some (B (decide (0<=i)&&decide (i<n)),M);rw[<- e];cases h:decide (0<=i)with
  |false=>simp![cW,gL,tyB,h];rfl
  |true=>simp![cW,gL,tyB,h];rfl
 |_=>rfl
structure Itm(d:PyData):Prop where
 fit:Fit 9000 2 d
 lay:PyData.canLay0 d=true
theorem AA:∀{ds:List PyData},(∀d∈ds,Itm d)->PyData.canLayAll0 ds=true
 |[]=>fun _=>rfl
 |d::ds=>fun h=>by
  show(PyData.canLay0 d&&PyData.canLayAll0 ds)=true;rw[(h d B5).lay,AA fun x hx=>h x (B3 _ hx)];rfl
theorem wO:∀{ds:List PyData},(∀d∈ds,Itm d)->PyData.depthAll ds<=2
 |[]=>fun _=>by decide
 |d::ds=>fun h=>by
  show max (PyData.depth d) (PyData.depthAll ds)<=2;exact Nat.max_le.mpr ⟨(h d B5).fit.dp,wO fun x hx=>h x (B3 _ hx)⟩
theorem qT{ds:List PyData}(h:∀d∈ds,Itm d):SeqAt.shaped (.list ds)=true:=by
 unfold SeqAt.shaped;have e1:PyData.canLay0 (.list ds)=true:=AA h
 have e2:PyData.depth (.list ds)<=64:=by
  show PyData.depthAll ds+1<=64;have:=wO h;omega
 rw[e1,D3 e2];rfl
theorem aCM(ds:List PyData):PyData.eqv (.list ds) (.list [])=ds.isEmpty:=by cases ds<;>rfl
theorem ne_nil{ds:List PyData}(h:∀d∈ds,Itm d):eqX true (.d (.list ds)) (.d (.list [])) M=some (B (!ds.isEmpty),M):=by
 show(if (SeqAt.shaped (.list ds)&&SeqAt.shaped (.list []))=true then some (B (!PyData.eqv (.list ds) (.list [])),M)else none)=_;rw[qT h,show SeqAt.shaped (.list [])=true from rfl,aCM];rfl
theorem JI:∀ns ms:List Int,PyData.eqvAll (ns.map .int) (ms.map .int)=decide (ns=ms)
 |[],[]=>rfl
 |[],_::_=>rfl
 |_::_,[]=>rfl
 |n::ns,m::ms=>by
  show(PyData.eqv (.int n) (.int m)&&PyData.eqvAll (ns.map .int) (ms.map .int))=_;rw[JI ns ms,show PyData.eqv (.int n) (.int m)=(n==m)from rfl];by_cases h:n=m<;>by_cases h':ns=ms<;>simp[h,h']
theorem RH(h:i.natAbs<2 ^ 200):Itm (.int i):=⟨⟨D3 (C2 h (Nat.pow_le_pow_right (by decide) (by decide))),by show 2000<=9000;decide,by show 0<=2;decide⟩,rfl⟩
theorem HW{ns:List Int}(h:∀i∈ns,0<=i/\i<1000):∀d∈ns.map PyData.int,Itm d:=fun d hd=>by
 obtain⟨i,hi,rfl⟩:=List.mem_map.mp hd;have:=h i hi;exact RH (U3 (show i.natAbs<1000 by omega) (by decide))
structure Thg(x:PyData):Prop where
 fit:Fit 400000 4 x
 len:∀ds,bE x=some ds->ds.length<=40
 itm:∀ds,bE x=some ds->∀d∈ds,Itm d
theorem aBs(n:Int)(ds:List PyData):(ds.filter fun d=>!plc n d).isEmpty=ds.all (plc n):=by
 induction ds with
 |nil=>rfl
 |cons d ds ih=>
  cases h:plc n d with
  |true=>rw[List.filter_cons_of_neg (by rw[h];decide),ih,Y5,h];rfl
  |false=>rw[List.filter_cons_of_pos (by rw[h];rfl),Y5,h];rfl
theorem TB(n9:n<=9)(t:Thg x):bT [I n,.d x] M=some (B (pB n x),M):=by
 cases hr:sV x with
 |false=>
  have:pB n x=false:=by unfold pB;cases x<;>first|rfl|(cases hr;done)
  rw[this];simp![bT,cY,NH,hr]
 |true=>
  obtain⟨k,ds,rfl⟩:=aAY hr;have l40:=t.len ds (cF k ds);have im:=t.itm ds (cF k ds)
  have cp:fQ [some (I n),some (.d (Rw k ds))] M=some (.d (.list (ds.filter fun d=>!plc n d)),M):=by
   unfold fQ;refine jJ (aEB (k:=k) (ds:=ds) (by simp![])) (by rw[A7];omega) ?_ (D0 (U0 ..) (by omega));have:=lc2 (c:=nR (gB (aK cW (aB (aD 1) (aB (fC (.int 0)) (aB (fOp CC (aD 0) (fC (.int 1))) aH)))))) (e:=aD 1) (f:=fun d=>d) (t:=fun d=>!plc n d) (a:=some (I n)) (M:=M) ds none (fun d _=>by simp![aAe]) (fun d _ _=>rfl);rw[List.map_id']at this;exact this
  have nn:=ne_nil (ds:=ds.filter fun d=>!plc n d) (M:=M) fun d hd=>im d (List.mem_filter.mp hd).1;rw[aBs]at nn;cases ha:ds.all (plc n)with
  |false=>
   have:pB n (Rw k ds)=false:=by unfold pB;rw[cF];dsimp only;rw[ha];rfl
   rw[this];rw[ha]at nn;simp![bT,cY,NH,hr,cp,nn,show(0:Nat)<=sizeLine from Nat.zero_le _]
  |true=>
   rw[ha]at nn;obtain⟨ns,rfl,hn⟩:=uS ha;rw[A7]at l40;rw[NY ha]
   have s8:EW ns=true:=List.all_eq_true.mpr fun i hi=>by
    have:=hn i hi;rw[D3 this.1,D3 (show i<9 by omega)];rfl
   have ss:CT (aB (aD 1) aH) [some (I n),some (.d (Rw k (ns.map .int)))] M=some (.d (.list ((gG (lE ns)).map .int)),M):=by
    have sd:IJ (ns.map .int) M=some (.d (.list ((gG (lE ns)).map .int)),M):=by
     unfold IJ;rw[ints_map,B4,A9 ⟨s8,by omega⟩]
    cases k
    .simp![CT];exact sd
    .simp![CT];exact sd
   have mem:∀i∈gG (lE ns),0<=i/\i<1000:=fun i hi=>by
    have h1:i∈lE ns:=(kS _).mem_iff.mp hi;rw[<- oJ]at h1;have h2:(firstMet (fun i=>ns.getD i 0) ns.length).any (·==i)=true:=List.any_eq_true.mpr ⟨i,h1,by simp⟩;rw[firstMet_any]at h2;obtain⟨y,hy,e⟩:=List.any_eq_true.mp h2;obtain⟨q,hq,rfl⟩:=List.mem_map.mp hy;have hq:=List.mem_range.mp hq;have e:ns.getD q 0=i:=by simpa using e
    have hm:ns.getD q 0∈ns:=by rw[D4,B9 hq];exact Y1 hq
    have:=hn _ hm;omega
   have eq:eqX false (.d (.list (ns.map .int))) (.d (.list ((gG (lE ns)).map .int))) M=some (B ((lts ns).all id),M):=by
    show(if (SeqAt.shaped (.list (ns.map .int))&&SeqAt.shaped (.list ((gG (lE ns)).map .int)))=true then some (B (PyData.eqv (.list (ns.map .int)) (.list ((gG (lE ns)).map .int))),M)else none)=_;rw[qT im,qT (HW mem)]
    have:PyData.eqv (.list (ns.map .int)) (.list ((gG (lE ns)).map .int))=(lts ns).all id:=by
     show PyData.eqvAll (ns.map .int) ((gG (lE ns)).map .int)=_;rw[JI];have q:=aCk ns;by_cases h:ns=gG (lE ns)
     .rw[D3 h,q.mp h]
     .rw[D8 h];cases c:(lts ns).all id with
      |false=>rfl
      |true=>exact absurd (q.mpr c) h
    rw[this];rfl
   simp![bT,cY,NH,hr,cp,nn,show(0:Nat)<=sizeLine from Nat.zero_le _,aBX,ss,eq]
theorem YA{w k:Nat}:∀{ds:List PyData},(∀d∈ds,wt d<=w)->ds.length<=k->oZ ds<=k*(w+2)
 |[]=>fun _ _=>J4 _
 |d::ds=>fun h hl=>by
  have h1:=h d B5;cases k with
  |zero=>simp at hl
  |succ k=>
   have h2:=YA (k:=k) (fun x hx=>h x (B3 _ hx)) (by simpa using hl);show wt d+2+oZ ds<=_;rw[Nat.succ_mul];omega
theorem OW:∀{ds:List PyData},(∀d∈ds,oks d=true)->oH ds=true
 |[]=>fun _=>rfl
 |d::ds=>fun h=>by
  show(oks d&&oH ds)=true;rw[h d B5,OW fun x hx=>h x (B3 _ hx)];rfl
theorem ZM{k:Bool}{ds:List PyData}(h:∀d∈ds,Itm d)(l:ds.length<=40):Thg (Rw k ds):=by
 have o:=OW fun d hd=>(h d hd).fit.ok;have w:=YA (w:=9000) (k:=40) (fun d hd=>(h d hd).fit.wt) l;have dp:=wO h;refine⟨?_,fun es he=>?_,fun es he=>?_⟩
 .cases k
  .exact⟨o,by show oZ ds+3<=400000;omega,by show PyData.depthAll ds+1<=4;omega⟩
  .exact⟨o,by show oZ ds+3<=400000;omega,by show PyData.depthAll ds+1<=4;omega⟩
 .rw[cF]at he;cases he;exact l
 .rw[cF]at he;cases he;exact h
structure Pls(ns:List Int):Prop where
 bd:∀i∈ns,0<=i/\i<9
 len:ns.length<=9
theorem Pls.itm{ns:List Int}(p:Pls ns):∀d∈ns.map PyData.int,Itm d:=HW fun i hi=>by have:=p.bd i hi;omega
theorem Pls.thg(p:Pls ns)(k:Bool):Thg (Rw k (ns.map .int)):=ZM p.itm (by rw[A7];have:=p.len;omega)
theorem VT:eE [.d (.list ds)] M=some (.d (.tuple ds),M):=rfl
theorem WI(n0:1<=n)(n9:n<=9)(dk:Dk M c (m+9)):∃ns M',gE [.c c,I n] M=some (.d (.tuple (ns.map .int)),M')/\Pls ns/\Dk M' c m/\Oth c M M':=by
 obtain⟨ys,γ',M2,e1,e2,e3,⟨e4,e5,_⟩⟩:=wL (g:=hName 1) (c:=gB (fOp (eqX false) (fOp cE (bQ "list" iD (aD 0) aH) (fC (.int 2))) (fC (.int 0)))) (e:=aD 1) (X:=Rg 0 (0+n.toNat)) (E:=Rg 0 9) (Inv:=fun j γ M'=>Dk M' c (m+j)/\Oth c M M'/\∃s,γ=[some (.c c),s]) (fun j x γ M' hx hi=>by
  obtain⟨k,rfl,k0,k1⟩:=hx;obtain⟨d,ex,s,rfl⟩:=hi;obtain⟨z,M3,po,d3,ex3⟩:=Dk.pop (m:=m+j) d;have pa:=pop_at (γ:=[some (.c c),some (I k)]) (v:=0) rfl d.ty po;have m1:eA z 2=true:=bN (by decide);have tr:Oth c M M3:=⟨ex3.len.trans ex.len,fun i hi=>(ex3.at_ i hi).trans (ex.at_ i hi)⟩;exact⟨[some (.c c),some (I k)],rfl,(z % 2==0),M3,by simp![pa,m1,zY],fun _=>⟨d3,tr,_,rfl⟩,fun _=>⟨I k,M3,rfl,⟨k,rfl,k0,by omega⟩,d3,tr,_,rfl⟩⟩) (gA 0 n.toNat) [some (.c c),none] M yA ⟨dk.le (by rw[dX];omega),⟨rfl,fun _ _=>rfl⟩,_,rfl⟩
 obtain⟨ns,rfl,hn⟩:∃ns:List Int,ys=(ns.map PyData.int).map .d/\∀i∈ns,0<=i/\i<9:=by
  clear e1 e3
  induction ys with
  |nil=>exact⟨[],rfl,fun i h=>by simp at h⟩
  |cons y ys ih=>
   obtain⟨k,rfl,k0,k1⟩:=e2 y B5;obtain⟨ns,rfl,hn⟩:=ih fun z hz=>e2 z (B3 _ hz);refine⟨k::ns,rfl,fun i hi=>?_⟩;rcases List.mem_cons.mp hi with rfl|hi
   .exact⟨k0,k1⟩
   .exact hn i hi
 rw[A7,A7,dX]at e3
 have cp:jG [some (.c c),some (I n)] M=some (.d (.list (ns.map .int)),M2):=by
  unfold jG;exact jJ (rJ (J:=n) (by simp![]) (nA (by omega) (by omega))) (by rw[dX];omega) e1 (by rw[A7];omega)
 exact⟨ns,M2,by simp![gE,mX,cp,VT],⟨hn,by omega⟩,e4,e5⟩
def aBF(d:PyData):Bool:=oks d&&decide (wt d<=9000)&&decide (d.depth<=2)&&d.canLay0
def aFS(d:PyData):Bool:=oks d&&decide (wt d<=400000)&&decide (d.depth<=4)&&(match bE d with|some ds=>decide (ds.length<=40)&&ds.all aBF|none=>true)
theorem XJ(h:aBF d=true):Itm d:=by
 unfold aBF at h;simp only[Bool.and_eq_true,decide_eq_true_eq]at h;exact⟨⟨h.1.1.1,h.1.1.2,h.1.2⟩,h.2⟩
theorem NK(h:aFS d=true):Thg d:=by
 unfold aFS at h;simp only[Bool.and_eq_true,decide_eq_true_eq]at h;obtain⟨⟨⟨h1,h2⟩,h3⟩,h4⟩:=h;refine⟨⟨h1,h2,h3⟩,fun ds e=>?_,fun ds e=>?_⟩
 .rw[e]at h4;simp only[Bool.and_eq_true,decide_eq_true_eq]at h4;exact h4.1
 .rw[e]at h4;simp only[Bool.and_eq_true,decide_eq_true_eq]at h4;exact fun d hd=>XJ (List.all_eq_true.mp h4.2 d hd)
theorem NA{L:List PyData}{m:Int}(M:Sto)(hm:0<m)(hl:(L.length:Int)=m):∃d,ixF (.d (.list L)) (I (z % m)) M=some (.d d,M)/\d∈L:=by
 obtain⟨d,h1,h2⟩:=GO (ds:=L) (k:=z) hm hl;refine⟨d,?_,h2⟩;show(atI L (z % m)).bind _=_;rw[h1];rfl
def lN:List PyData:=[.none,.bool true,.bool false,.int 0,.int 1,.int (-1),.int 1000000000000000000000000000000,.str "",.str "0",.str "01",.tuple [],.list [],.dict [],.dict [(.int 0,.int 1)],.tuple [.int 0],.list [.int 0]]
def qO:List PyData:=[.tuple [.int 1,.int 0],.tuple [.tuple [.int 0],.int 1],.tuple [.none],.tuple [.bool true],.tuple [.int 0,.bool true],.tuple [.str "0",.int 1],.tuple [.tuple []],.tuple [.tuple [],.tuple []]]
def zQ:List PyData:=[.tuple [.int 0,.int 1,.int 2,.int 40],.list [.list [.int 0]],.tuple [.int (-1),.int 0],.tuple [.int 0,.int 0],.tuple [.tuple [.int 0,.int 1,.tuple [.int 1,.int 1]]]]
theorem aDK:∀d∈lN++qO++zQ,Thg d:=fun d hd=>by
 have:(lN++qO++zQ).all aFS=true:=by decide +kernel
 exact NK (List.all_eq_true.mp this d hd)
theorem PB{xs:List PyData}(hl:xs.length+ys.length<=1000):dZ (.d (.list xs)) (.d (.list ys)) M=some (.d (.list (xs++ys)),M):=by
 have c:WQ (.d (.list xs)) (.d (.list ys)) M=some (.d (.list (xs++ys)),M):=by
  have e1:pO M (.d (.list xs))=some (xs.map .d):=rfl;have e2:pO M (.d (.list ys))=some (ys.map .d):=rfl;unfold WQ;rw[e1,B4,e2,B4,<- L4,pS,B4,A9 (sz (by rw[C3];exact hl))]
 show zW aCC (zW WQ (zW RA aBg)) (.d (.list xs)) (.d (.list ys)) M=_;have a:aCC (.d (.list xs)) (.d (.list ys)) M=none:=rfl;simp only[zW,a,c]
theorem VN:EJ [((fC (.int 0)),(fC (.int 1)))] γ M=some (.d (.dict [(.int 0,.int 1)]),(M++[Cell.dk []]).set M.length Cell.dead):=by
 have e1:GH [((fC (.int 0)),(fC (.int 1)))] γ (M++[.dk []])=some ([(I 0,I 1)],M++[.dk []]):=rfl;have e2:(M++[Cell.dk []])[M.length]?=some (.dk []):=by simp
 have nd:(([(.inl 0,.int 1)]:List (Key×PyData)).map (·.1)).Nodup:=by
  show([.inl 0]:List Key).Nodup;simp
 unfold EJ;rw[e1,B4];dsimp only;rw[e2];have e3:keyed [(I 0,I 1)]=some [(.inl 0,.int 1)]:=rfl;rw[e3,B4,A9 ⟨(by show 1<=15;decide),nd⟩];rfl
theorem aEk(dk:Dk M c (m+1)):∃d M',iH [.c c] M=some (.d d,M')/\Thg d/\Dk M' c m/\Ex c M M':=by
 have ed:=VN (γ:=[some (.c c),none]) (M:=M);have cl:=dk.lt;have d0:Dk ((M++[Cell.dk []]).set M.length Cell.dead) c (m+1):=(Dk.app dk).put (by omega);have x0:Ex c M ((M++[Cell.dk []]).set M.length Cell.dead):=(Ex.app _ _ _).put (B0 _);generalize (M++[Cell.dk []]).set M.length Cell.dead=M0 at ed d0 x0;obtain⟨z,M1,po,d1,x1⟩:=Dk.popE d0;have pa:=pop_at (γ:=[some (.c c),some (.d (.list (lN++qO++zQ)))]) (v:=0) rfl d0.ty po;obtain⟨d,e1,e2⟩:=NA (L:=lN++qO++zQ) (z:=z) (m:=29) M1 (by decide) rfl;have m1:eA z 29=true:=bN (by decide);refine⟨d,M1,nD rfl ?_,aDK d e2,d1,x0.trans x1⟩;unfold tI;show aX _ _ [some (.c c),none] M=_;have s16:(16:Nat)<=sizeLine:=by decide
 have s0:(0:Nat)<=sizeLine:=by decide
 have ng:sG (I 1) M=some (I (-1),M):=rfl;have p30:LL (I 10) (I 30) M=some (I 1000000000000000000000000000000,M):=rfl;have f0:zK [some (.c c),none] M=some (.d (.dict []),M):=rfl
 have a1:aV (gF (aB (fC .none) (aB (fC (.bool true)) (aB (fC (.bool false)) (aB (fC (.int 0)) (aB (fC (.int 1)) (aB (fUn sG (fC (.int 1))) (aB (fOp LL (fC (.int 10)) (fC (.int 30))) (aB (fC (.str "")) (aB (fC (.str "0")) (aB (fC (.str "01")) (aB (bI aH) (aB (gF aH) (aB zK (aB (EJ [((fC (.int 0)),(fC (.int 1)))]) (aB nV (aB oO aH))))))))))))))))) (hName 1) [some (.c c),none] M=some (.nx [some (.c c),some (.d (.list lN))],M0):=by
  refine(bZ (x:=.d (.list lN)) ?_).trans rfl;simp only[gF,bI,aB,fC,aH,fUn,fOp,Option.bind_some,ng,p30,f0,ed,BN,CF,lB,List.length_cons,List.length_nil,Nat.reduceAdd,s0,s16,if_true];rfl
 have a2:aV (fOp dZ (aD 1) nZ) (hName 1) [some (.c c),some (.d (.list lN))] M0=some (.nx [some (.c c),some (.d (.list (lN++qO)))],M0):=by
  refine(bZ (x:=.d (.list (lN++qO))) ?_).trans rfl;have q:=PB (xs:=lN) (ys:=qO) (M:=M0) (by decide);simp only[fOp,aD,List.getElem?_cons_zero,List.getElem?_cons_succ,Option.bind_some,BO];exact q
 have a3:aV (fOp dZ (aD 1) oP) (hName 1) [some (.c c),some (.d (.list (lN++qO)))] M0=some (.nx [some (.c c),some (.d (.list (lN++qO++zQ)))],M0):=by
  refine(bZ (x:=.d (.list (lN++qO++zQ))) ?_).trans rfl;have q:=PB (xs:=lN++qO) (ys:=zQ) (M:=M0) (by decide);simp only[fOp,aD,List.getElem?_cons_zero,List.getElem?_cons_succ,Option.bind_some,BS];exact q
 rw[aU a1,aU a2,aU a3];simp only[bS,fOp,aD,fC,List.getElem?_cons_zero,List.getElem?_cons_succ,Option.bind_some,pa,cE,pI,ifS,m1,if_true,e1]
structure Rs(k:Nat)(ds:List PyData):Prop where
 itm:∀d∈ds,Itm d
 len:ds.length<=k
theorem Rs.app{k:Nat}{es:List PyData}(a:Rs k ds)(b:Rs l es):Rs (k+l) (ds++es):=⟨fun d hd=>(List.mem_append.mp hd).elim (a.itm d) (b.itm d),by rw[C3];have:=a.len;have:=b.len;omega⟩
theorem Rs.cut{k:Nat}(a:Rs k ds)(lo hi:Option Int):Rs k (dE ds lo hi):=⟨fun d hd=>a.itm d (aBp d hd),D0 (rT ..) a.len⟩
theorem Rs.rev{k:Nat}(a:Rs k ds):Rs k ds.reverse:=⟨fun d hd=>a.itm d (List.mem_reverse.mp hd),by rw[U8];exact a.len⟩
theorem Rs.le{k:Nat}(a:Rs k ds)(h:k<=l):Rs l ds:=⟨a.itm,D0 a.len h⟩
theorem Rs.one(h:Itm d):Rs 1 [d]:=⟨fun e he=>by rw[List.mem_singleton.mp he];exact h,B0 _⟩
theorem Pls.rs(p:Pls ns):Rs 9 (ns.map .int):=⟨p.itm,by rw[A7];exact p.len⟩
theorem Rs.thg{k:Nat}(a:Rs k ds)(h:k<=40)(b:Bool):Thg (Rw b ds):=ZM a.itm (D0 a.len h)
theorem aDi(h:γ[v]?=some (some (.d (.tuple ds)))):RX (aD v) (dQ (fUn sG (fC (.int 1)))) γ M=some (.d (.tuple ds.reverse),M):=by
 simp only[RX,dQ,aD,h,fUn,fC,Option.bind_some];rfl
theorem CY(h0:-1000<=i)(h1:i<=1000):Itm (.int i):=RH (Nat.lt_of_le_of_lt (show i.natAbs<=1000 by omega) (by decide))
theorem VP(n0:1<=n)(n9:n<=9)(rx:Rs 9 X)(dk:Dk M c (m+1)):∃ds M',cC [.c c,.d (.tuple X),I n] M=some (.d (.tuple ds),M')/\Rs 28 ds/\Dk M' c m/\Oth c M M':=by
 obtain⟨z,M1,po,d1,x1⟩:=Dk.pop dk;have pa:=pop_at (γ:=[some (.c c),some (.d (.tuple X)),some (I n),none,none,none,none]) (v:=0) rfl dk.ty po;have lx:=rx.len;have ln:oQ [.d (.tuple X)] M1=some (I (X.length:Nat),M1):=rfl;obtain⟨J,hJ⟩:∃J:Int,J=(X.length:Nat):=⟨_,rfl⟩;rw[<- hJ]at ln;have mj:∀q,eA q (J+1)=true:=fun q=>bN (by omega);have d16:∀q:Int,nE q 16=true:=fun q=>jZ (by decide) (wsm (by decide) (by decide));have dv2:∀q:Int,nE q 2=true:=fun q=>jZ (by decide) (wsm (by decide) (by decide));have m2:∀q,eA q 2=true:=fun q=>bN (by decide);have m8:∀q,eA q 8=true:=fun q=>bN (by decide);have m4:∀q,eA q 4=true:=fun q=>bN (by decide);have mi:=tD (z:=z / 16) (m:=J+1) (by omega);generalize hA:z / 16 % (J+1)=at_ at mi;have a1:aV (bQ "list" iD (aD 0) aH) (hName 3) [some (.c c),some (.d (.tuple X)),some (I n),none,none,none,none] M=some (.nx [some (.c c),some (.d (.tuple X)),some (I n),some (I z),none,none,none],M1):=(bZ pa).trans rfl
 have a2:aV (fOp cE (fOp cZ (aD 3) (fC (.int 16))) (fOp dZ (aK oQ (aB (aD 1) aH)) (fC (.int 1)))) (hName 4) [some (.c c),some (.d (.tuple X)),some (I n),some (I z),none,none,none] M1=some (.nx [some (.c c),some (.d (.tuple X)),some (I n),some (I z),some (I at_),none,none],M1):=by
  refine(bZ (x:=I at_) ?_).trans rfl;simp![d16,ln,LP,mj,hA]
 have neg:sG (I 1) M1=some (I (-1),M1):=rfl;let more:List PyData:=[.tuple [.int n],.tuple [.int (-1)],.tuple [.bool true],.tuple [.none],.tuple [.str "0"],.tuple [.tuple [.int 0]],.tuple [.int 1000000000000000000000000000000],.tuple (dE X (some (-1)) none)];have s1:(1:Nat)<=sizeLine:=by decide
 have s8:(8:Nat)<=sizeLine:=by decide
 have s4:(4:Nat)<=sizeLine:=by decide
 have a3:aV (gF (aB (bI (aB (aD 2) aH)) (aB eY (aB fI (aB eS (aB eW (aB fE (aB eL (aB (fSl (aD 1) (dQ (fUn sG (fC (.int 1)))) bW) aH))))))))) (hName 5) [some (.c c),some (.d (.tuple X)),some (I n),some (I z),some (I at_),none,none] M1=some (.nx [some (.c c),some (.d (.tuple X)),some (I n),some (I z),some (I at_),some (.d (.list more)),none],M1):=by
  refine(bZ (x:=.d (.list more)) ?_).trans rfl;simp![pA,pJ,pG,pH,pD,pE,fSl,dQ,bW,neg,asI,sl_tup,s1,s8];rfl
 have moreR:∀d∈more,∃es,d=.tuple es/\Rs 9 es:=fun d hd=>by
  have im:∀x:PyData,aBF x=true->Rs 9 [x]:=fun x hx=>(Rs.one (XJ hx)).le (by decide);simp only[more,List.mem_cons,List.not_mem_nil,or_false]at hd;rcases hd with rfl|rfl|rfl|rfl|rfl|rfl|rfl|rfl
  .exact⟨_,rfl,(Rs.one (CY (by omega) (by omega))).le (by decide)⟩
  .exact⟨_,rfl,im _ (by decide +kernel)⟩
  .exact⟨_,rfl,im _ (by decide +kernel)⟩
  .exact⟨_,rfl,im _ (by decide +kernel)⟩
  .exact⟨_,rfl,im _ (by decide +kernel)⟩
  .exact⟨_,rfl,im _ (by decide +kernel)⟩
  .exact⟨_,rfl,im _ (by decide +kernel)⟩
  .exact⟨_,rfl,rx.cut _ _⟩
 obtain⟨d8,e8,i8⟩:=NA (L:=more) (z:=z / 2) (m:=8) M1 (by decide) rfl;obtain⟨es,rfl,re⟩:=moreR d8 i8;generalize more=L8 at a3 e8;have le8:=re.len;have lc1:=rT X none (some at_);have lc2:=rT X (some at_) none;have lc3:=rT X (some (at_+1)) none;have lc4:=rT X (some (-1)) none;have lc5:=rT X none (some 1);cases h:(z % 2==0)with
 |true=>
  refine⟨dE X none (some at_)++es++dE X (some at_) none,M1,nD rfl ?_,((rx.cut none (some at_)).app re).app (rx.cut (some at_) none) |>.le (by decide),d1,x1⟩;unfold dW;show aX _ _ [some (.c c),some (.d (.tuple X)),some (I n),none,none,none,none] M=_;rw[aU a1,aU a2,aU a3];have q1:=tZ (M:=M1) (xs:=dE X none (some at_)) (ys:=es) (by omega);have q2:=tZ (M:=M1) (xs:=dE X none (some at_)++es) (ys:=dE X (some at_) none) (by rw[C3];omega);simp![m2,zY,h,fSl,dQ,bW,asI,sl_tup,dv2,m8,e8,q1,q2]
 |false=>
  have sf:sIf (gB (fOp (eqX false) (fOp cE (aD 3) (fC (.int 2))) (fC (.int 0)))) (bS (fOp dZ (fOp dZ (fSl (aD 1) bW (dQ (aD 4))) (fOp ixF (aD 5) (fOp cE (fOp cZ (aD 3) (fC (.int 2))) (fC (.int 8))))) (fSl (aD 1) (dQ (aD 4)) bW))) cX [some (.c c),some (.d (.tuple X)),some (I n),some (I z),some (I at_),some (.d (.list L8)),none] M1=some (.nx [some (.c c),some (.d (.tuple X)),some (I n),some (I z),some (I at_),some (.d (.list L8)),none],M1):=by
   refine(lT (M':=M1) ?_).trans rfl;simp![m2,zY,h]
  have q3:=tZ (M:=M1) (xs:=dE X none (some at_)) (ys:=dE X (some (at_+1)) none) (by omega);have q4:=tZ (M:=M1) (xs:=X) (ys:=dE X (some (-1)) none) (by omega);have q5:=tZ (M:=M1) (xs:=X) (ys:=dE X none (some 1)) (by omega)
  have a4:aV (fOp dZ (fSl (aD 1) bW (dQ (aD 4))) (fSl (aD 1) (dQ (fOp dZ (aD 4) (fC (.int 1)))) bW)) (hName 6) [some (.c c),some (.d (.tuple X)),some (I n),some (I z),some (I at_),some (.d (.list L8)),none] M1=some (.nx [some (.c c),some (.d (.tuple X)),some (I n),some (I z),some (I at_),some (.d (.list L8)),some (.d (.tuple (dE X none (some at_)++dE X (some (at_+1)) none)))],M1):=by
   refine(bZ (x:=.d (.tuple (dE X none (some at_)++dE X (some (at_+1)) none))) ?_).trans rfl;simp only[fOp,aD,fC,fSl,dQ,bW,List.getElem?_cons_zero,List.getElem?_cons_succ,Option.bind_some,asI,LP,sl_tup,q3]
  let four:List PyData:=[.tuple X.reverse,.tuple (dE X none (some at_)++dE X (some (at_+1)) none),.tuple (X++dE X (some (-1)) none),.tuple (X++dE X none (some 1))]
  have fourR:∀d∈four,∃es,d=.tuple es/\Rs 28 es:=fun d hd=>by
   simp only[four,List.mem_cons,List.not_mem_nil,or_false]at hd;rcases hd with rfl|rfl|rfl|rfl
   .exact⟨_,rfl,rx.rev.le (by decide)⟩
   .exact⟨_,rfl,((rx.cut _ _).app (rx.cut _ _)).le (by decide)⟩
   .exact⟨_,rfl,(rx.app (rx.cut _ _)).le (by decide)⟩
   .exact⟨_,rfl,(rx.app (rx.cut _ _)).le (by decide)⟩
  obtain⟨d4,e4,i4⟩:=NA (L:=four) (z:=z / 2) (m:=4) M1 (by decide) rfl;obtain⟨fs,rfl,rf⟩:=fourR d4 i4;refine⟨fs,M1,nD rfl ?_,rf,d1,x1⟩;unfold dW;show aX _ _ [some (.c c),some (.d (.tuple X)),some (I n),none,none,none,none] M=_;rw[aU a1,aU a2,aU a3,aU sf,aU a4];have rv:=aDi (ds:=X) (γ:=[some (.c c),some (.d (.tuple X)),some (I n),some (I z),some (I at_),some (.d (.list L8)),some (.d (.tuple (dE X none (some at_)++dE X (some (at_+1)) none)))]) (M:=M1) (v:=1) rfl
  have fl:gF (aB (RX (aD 1) (dQ (fUn sG (fC (.int 1))))) (aB (aD 6) (aB (fOp dZ (aD 1) (fSl (aD 1) (dQ (fUn sG (fC (.int 1)))) bW)) (aB (fOp dZ (aD 1) (fSl (aD 1) bW (dQ (fC (.int 1))))) aH)))) [some (.c c),some (.d (.tuple X)),some (I n),some (I z),some (I at_),some (.d (.list L8)),some (.d (.tuple (dE X none (some at_)++dE X (some (at_+1)) none)))] M1=some (.d (.list four),M1):=by
   simp only[gF,aB,rv,aD,fOp,fC,fUn,aH,fSl,dQ,bW,List.getElem?_cons_zero,List.getElem?_cons_succ,Option.bind_some,neg,asI,sl_tup,q4,q5,lB,List.length_cons,List.length_nil,Nat.reduceAdd,s4,if_true];rfl
  have ix:fOp cE (fOp cZ (aD 3) (fC (.int 2))) (fC (.int 4)) [some (.c c),some (.d (.tuple X)),some (I n),some (I z),some (I at_),some (.d (.list L8)),some (.d (.tuple (dE X none (some at_)++dE X (some (at_+1)) none)))] M1=some (I (z / 2 % 4),M1):=by
   simp![dv2,m4]
  unfold bS;rw[show ∀(f g:EF) γ M,fOp ixF f g γ M=(f γ M).bind fun r=>(g γ r.2).bind fun q=>ixF r.1 q.1 q.2 from fun _ _ _ _=>rfl,fl,B4,ix,B4];dsimp only;rw[e4];rfl
def inB(xs:List Int)(i:Int):Bool:=xs.any fun j=>j==i
theorem inB_iff:inB xs i=true↔i∈xs:=by
 unfold inB;constructor
 .intro h;obtain⟨j,hj,e⟩:=List.any_eq_true.mp h;have:j=i:=by simpa using e
  exact this▸hj
 .exact fun h=>List.any_eq_true.mpr ⟨i,h,by simp⟩
theorem aCv{xs:List Int}(h:∀i∈xs,0<=i/\i<n):(xs.map PyData.int).all (plc n)=true:=by
 rw[List.all_map];refine List.all_eq_true.mpr fun i hi=>?_;obtain⟨h0,h1⟩:=h i hi;show(decide (0<=i)&&decide (i<n))=true;rw[D3 h0,D3 h1];rfl
theorem HJ{k:Bool}{ys:List Int}(neg:Bool):inD neg (I i) (.d (Rw k (ys.map .int))) M=some (B (if neg then !inB ys i else inB ys i),M):=by
 have sh:(ys.map PyData.int).all SeqAt.shaped=true:=by rw[List.all_map];exact List.all_eq_true.mpr fun _ _=>rfl
 have an:((ys.map PyData.int).any fun d=>PyData.eqv d (.int i))=inB ys i:=by rw[List.any_map];rfl
 show(bE (Rw k (ys.map .int))).bind _=_;rw[cF,B4];show(if (SeqAt.shaped (.int i)&&(ys.map PyData.int).all SeqAt.shaped)=true then _ else _)=_;rw[sh,show(SeqAt.shaped (.int i)&&true)=true from rfl,A9 rfl,an]
def zsI(n:Int):List Int:=(List.range n.toNat).map fun k:Nat=>(k:Int)
theorem VD(n:Int):gA 0 n.toNat=(zsI n).map fun i=>I i:=by
 unfold gA zsI;rw[J6];refine U9 fun k _=>?_;show CD.d (.int (0+(k:Nat)))=I (k:Nat);rw[Int.zero_add]
theorem zs_mem:i∈zsI n↔0<=i/\i<n:=by
 unfold zsI;rw[List.mem_map];constructor
 .rintro⟨k,hk,rfl⟩;have:=List.mem_range.mp hk;omega
 .intro h;exact⟨i.toNat,List.mem_range.mpr (by omega),by omega⟩
theorem NC(n:Int):(zsI n).length=n.toNat:=by unfold zsI;rw[A7,U5]
def oth(n:Int)(xs:List Int):List Int:=(zsI n).filter fun i=>!inB xs i
theorem lcI{c:TF}{t:Int->Bool}{a:Option CD}{M:Sto}:∀(is:List Int)(s:Option CD),(∀i∈is,c [a,some (I i)] M=some (t i,M))->lcF (hName 1) c (aD 1) (is.map fun i=>I i) [a,s] M=some (((is.filter t).map PyData.int).map .d,M)
 |[]=>fun _ _=>rfl
 |i::is=>fun s hc=>by
  have ih:=lcI (c:=c) (t:=t) (a:=a) (M:=M) is (some (I i)) (fun x hx=>hc x (B3 _ hx));have h1:=hc i B5;have hg:hName 1 (I i) [a,s] M=some ([a,some (I i)],M):=rfl;have hv:aD 1 [a,some (I i)] M=some (I i,M):=rfl;cases q:t i with
  |false=>
   rw[q]at h1;simp only[List.map_cons,lcF,hg,Option.bind_some,h1,Bool.false_eq_true,if_false,ih,List.filter_cons_of_neg (show ¬t i=true by rw[q];decide)]
  |true=>
   rw[q]at h1;simp only[List.map_cons,lcF,hg,Option.bind_some,h1,if_true,hv,ih,List.filter_cons_of_pos q]
def dR(n:Int)(x:PyData):Bool:=pB n x&&(match bE x with|some ds=>decide (0<ds.length)&&decide ((ds.length:Int)<n)|none=>false)
theorem vY(h:pB n x=true):∃(k:Bool)(ns:List Int),x=Rw k (ns.map .int)/\∀i∈ns,0<=i/\i<n:=by
 have hr:sV x=true:=by
  unfold pB at h;cases x<;>first|rfl|(cases h;done)
 obtain⟨k,ds,rfl⟩:=aAY hr;unfold pB at h;rw[cF]at h;dsimp only at h;rw[B7]at h;obtain⟨ns,rfl,hn⟩:=uS h.1;exact⟨k,ns,rfl,hn⟩
theorem dN.ob(h:dN M w n):∃fs,objOf "Web" M (.c w)=some (w,fs)/\List.lookup ("many":Str) fs=some (I n):=by
 obtain⟨fs,f1,f2⟩:=h;exact⟨fs,by simp only[objOf,f1];rfl,f2⟩
theorem dN.app{L:Sto}(h:dN M w n):dN (M++L) w n:=let⟨fs,a,b⟩:=h;⟨fs,by rw[U1 (List.getElem?_eq_some_iff.mp a).1];exact a,b⟩
section
variable{n:Int}{w:Nat}{M:Sto}{x:PyData}
theorem DW{g:EF}(hl:aK oQ f γ M=some (I J,M))(hg:g γ M=some (I n,M)):kQ ltI ltI (fC (.int 0)) (aK oQ f) g γ M=some (B (decide (0<J)&&decide (J<n)),M)/\kQ leI ltI (fC (.int 1)) (aK oQ f) g γ M=some (B (decide (1<=J)&&decide (J<n)),M):=by
 constructor
 .cases h:decide (0<J)<;>simp only[kQ,fC,hl,hg,Option.bind_some,ltI,pI,asB,h,if_true,Bool.true_and,Bool.false_and,Bool.false_eq_true,if_false]
 .cases h:decide (1<=J)<;>simp only[kQ,fC,hl,hg,Option.bind_some,leI,ltI,pI,asB,h,if_true,Bool.true_and,Bool.false_and,Bool.false_eq_true,if_false]
theorem CV(hw:dN M w n)(t:Thg x):kA [.c w,.d x] M=some (B (dR n x),M):=by
 obtain⟨fs,ob,f2⟩:=hw.ob;have r1:=YR (n:=n) (M:=M) (x:=x) fun ds h=>D0 (t.len ds h) (by decide);have mn:sX "Web" "many" (aD 0) [some (.c w),some (.d x)] M=some (I n,M):=by simp![sX,ob,f2]
 unfold dR;cases h:pB n x with
 |false=>
  rw[h]at r1;simp![kA,rV,mn,r1,Bool.false_and]
 |true=>
  rw[h]at r1;obtain⟨k,ns,rfl,hn⟩:=vY h;rw[cF];dsimp only;rw[A7];obtain⟨J,hJ⟩:∃J:Int,J=(ns.length:Nat):=⟨_,rfl⟩
  have ln:aK oQ (aB (aD 1) aH) [some (.c w),some (.d (Rw k (ns.map .int)))] M=some (I J,M):=by
   simp![WS,List.length_map,hJ]
  have sc:=(DW ln mn).1;rw[<- hJ,show decide (0<ns.length)=decide (0<J)by rw[hJ];by_cases q:0<ns.length<;>simp[q]]
  have r1':aK bH (aB (sX "Web" "many" (aD 0)) (aB (aD 1) aH)) [some (.c w),some (.d (Rw k (ns.map .int)))] M=some (B true,M):=by
   simp only[aK,aB,aH,mn,Option.bind_some,aD,List.getElem?_cons_zero,List.getElem?_cons_succ,r1]
  refine nD rfl ?_;unfold rV;show bS _ [some (.c w),some (.d (Rw k (ns.map .int)))] M=_;simp only[bS,jE,r1',Option.bind_some,asB,if_true,sc,Bool.true_and]
theorem MU(n9:n<=9)(t:Thg x):eX [I n,.d x] M=some (B (dR n x),M):=by
 have r1:=TB (M:=M) n9 t;have mn:aD 0 [some (I n),some (.d x)] M=some (I n,M):=rfl;unfold dR;cases h:pB n x with
 |false=>
  rw[h]at r1;simp![eX,iA,r1,Bool.false_and]
 |true=>
  rw[h]at r1;obtain⟨k,ns,rfl,hn⟩:=vY h;rw[cF];dsimp only;rw[A7];obtain⟨J,hJ⟩:∃J:Int,J=(ns.length:Nat):=⟨_,rfl⟩
  have ln:aK oQ (aB (aD 1) aH) [some (I n),some (.d (Rw k (ns.map .int)))] M=some (I J,M):=by
   simp![WS,List.length_map,hJ]
  have sc:=(DW ln mn).2;rw[<- hJ,show decide (0<ns.length)=decide (1<=J)by rw[hJ];by_cases q:0<ns.length<;>simp[q]<;>omega]
  have r1':aK bT (aB (aD 0) (aB (aD 1) aH)) [some (I n),some (.d (Rw k (ns.map .int)))] M=some (B true,M):=by
   simp![r1]
  refine nD rfl ?_;unfold iA;show bS _ [some (I n),some (.d (Rw k (ns.map .int)))] M=_;simp only[bS,jE,r1',Option.bind_some,asB,if_true,sc,Bool.true_and]
abbrev xS:Exc:=⟨"NoSide",[]⟩
theorem JG(hw:dN M w n)(t:Thg x):cD [.c w,.d x] M=some (if dR n x=true then .v (.d .none)else .x xS,M):=by
 have e:=CV hw t;cases h:dR n x with
 |true=>
  rw[h]at e;simp![cD,fJ,e]
 |false=>
  rw[h]at e;simp![cD,fJ,e]
theorem TV(hw:dN M w n)(t:Thg x)(h:dR n x=false):dJ [.c w,.d x] M=some (.x xS,M):=by
 have e:=JG hw t;rw[h]at e;simp only[Bool.false_eq_true,if_false]at e;simp![dJ,uX,e]
theorem YI(hw:dN M w n)(t:Thg x)(h:dR n x=false):aS [.c w,.d x] M=some (.x xS,M):=by
 have e:=JG hw t;rw[h]at e;simp only[Bool.false_eq_true,if_false]at e;simp![aS,cN,e]
theorem UJ(hw:dN M w n)(t:Thg x)(h:dR n x=false):cS [.c w,.d x] M=some (.x xS,M):=by
 have e:=JG hw t;rw[h]at e;simp only[Bool.false_eq_true,if_false]at e;simp![cS,mV,e]
theorem aFe{e:Cell}:(M++[e])[M.length]?=some e:=vL
noncomputable abbrev FT:List (Str×FX):=[("others",dJ),("apart_from_nought",aS),("side_weight",cS)]
theorem NB{nm:Str}{F:FX}(lk:List.lookup nm FT=some F)(h:F [.c w,.d x] M=some (.x xS,M)):dO [.c w,.d x,.g nm] M=some (B true,M++[.exc false "NoSide" []]):=by
 have b:fM [some (.c w),some (.d x),some (.g nm),some (B false),none] M=some (.xc [some (.c w),some (.d x),some (.g nm),some (B false),none] xS,M):=by
  unfold fM;simp only[qB,yL,List.getElem?_cons_zero,List.getElem?_cons_succ];rw[show List.lookup nm [(("others":Str),dJ),("apart_from_nought",aS),("side_weight",cS)]=some F from lk];simp only[Option.bind_some,uV,XN,liA,aB,aD,aH,List.getElem?_cons_zero,List.getElem?_cons_succ,h]
 have l1:List.lookup ("NoSide":Str) [(("NoSide":Str),true)]=some true:=by decide +kernel
 have l2:List.lookup ("NoSide":Str) iX=some true:=by decide +kernel
 have l3:List.lookup ("NoSide":Str) gJ=some true:=by decide +kernel
 have l4:List.lookup ("NoSide":Str) kB=some false:=by decide +kernel
 have ea:=aFe (M:=M) (e:=.exc false "NoSide" [])
 have tr:SW fM [⟨[("NoSide",true)],(some 4),iI⟩] [some (.c w),some (.d x),some (.g nm),some (B false),none] M=some (.nx [some (.c w),some (.d x),some (.g nm),some (B true),none],M++[.exc false "NoSide" []]):=by
  unfold SW;rw[b,B4];simp![UZ,l1,iI,ea,l2,l3,l4]
 refine nD rfl ?_;unfold kZ;show aX _ _ [some (.c w),some (.d x),some (.g nm),none,none] M=_;rw[aU (show aV (fC (.bool false)) (hName 3) [some (.c w),some (.d x),some (.g nm),none,none] M=some (.nx [some (.c w),some (.d x),some (.g nm),some (B false),none],M)from rfl),aU tr];rfl
end
theorem AC(t:Thg x):iZ [.d x] M=some (.d (.str (PyData.shown x)),M):=by
 rw[aDb];exact VC t.fit (by rw[F0];decide) (by decide)
section
variable{n:Int}{w:Nat}{M:Sto}{k:Bool}{xs:List Int}
structure Sd(n:Int)(xs:List Int):Prop where
 ris:xs.Pairwise (·<·)
 bd:∀i∈xs,0<=i/\i<n
 pos:0<xs.length
theorem aDq(h:dR n x=true):∃(k:Bool)(xs:List Int),x=Rw k (xs.map .int)/\Sd n xs:=by
 unfold dR at h;rw[B7]at h;obtain⟨k,xs,rfl,hx⟩:=vY h.1;have h1:=h.1;rw[NY (aCv hx),MN]at h1;have h2:=h.2;rw[cF]at h2;simp only[Bool.and_eq_true,decide_eq_true_eq,List.length_map]at h2;exact⟨k,xs,rfl,h1,hx,h2.1⟩
theorem aDs(n9:n<=9):Pls (oth n xs):=⟨fun i hi=>by have:=zs_mem.mp (List.mem_filter.mp hi).1;omega,D0 (U0 ..) (by rw[NC];omega)⟩
theorem BK(hw:dN M w n)(t:Thg (Rw k (xs.map .int)))(h:dR n (Rw k (xs.map .int))=true)(n0:1<=n)(n9:n<=9):dJ [.c w,.d (Rw k (xs.map .int))] M=some (.v (.d (Rw false ((oth n xs).map .int))),M):=by
 obtain⟨fs,ob,f2⟩:=hw.ob;have e:=JG hw t;rw[h,A9 rfl]at e
 have it:dG (aB (sX "Web" "many" (aD 0)) aH) [some (.c w),some (.d (Rw k (xs.map .int)))] M=some ((zsI n).map fun i=>I i,M):=by
  rw[<- VD];exact rJ (J:=n) (by simp![sX,ob,f2]) (nA (by omega) (by omega))
 have l1:=NC n
 have cp:tG [some (.c w),some (.d (Rw k (xs.map .int)))] M=some (.d (.list ((oth n xs).map .int)),M):=by
  unfold tG;refine jJ it (by rw[A7];omega) ?_ (by rw[A7];exact D0 (U0 ..) (by omega))
  exact lcI (a:=some (.d (Rw k (xs.map .int)))) (t:=fun i=>!inB xs i) (zsI n) none fun i _=>by
   have q:=HJ (k:=k) (i:=i) (ys:=xs) (M:=M) true;simp![q]
 have tf:eE [.d (.list ((oth n xs).map .int))] M=some (.d (Rw false ((oth n xs).map .int)),M):=rfl;simp![dJ,uX,e,cp,tf]
def apt(n:Int)(xs:List Int):List Int:=if inB xs 0=true then oth n xs else xs
theorem HK{r:List Int}(s:Sd n (a::r)):inB (a::r) 0=(a==0):=by
 cases h:(a==0)with
 |true=>
  have:a=0:=by simpa using h
  exact inB_iff.mpr (by rw[this];exact B5)
 |false=>
  cases q:inB (a::r) 0 with
  |false=>rfl
  |true=>
   have ne:a≠0:=by simpa using h
   have a0:=(s.bd a B5).1;rcases List.mem_cons.mp (inB_iff.mp q)with e|e
   .exact absurd e.symm ne
   .have:=(List.pairwise_cons.mp s.ris).1 0 e;omega
theorem WT:eE [.d (Rw k ds)] M=some (.d (Rw false ds),M):=by cases k<;>rfl
theorem VA(hw:dN M w n)(t:Thg (Rw k (xs.map .int)))(h:dR n (Rw k (xs.map .int))=true)(s:Sd n xs)(n0:1<=n)(n9:n<=9):aS [.c w,.d (Rw k (xs.map .int))] M=some (.v (.d (Rw false ((apt n xs).map .int))),M):=by
 have e:=JG hw t;rw[h,A9 rfl]at e;have yo:=BK hw t h n0 n9
 obtain⟨a,r,rfl⟩:∃a r,xs=a::r:=by
  have:=s.pos;cases xs with
  |nil=>simp at this
  |cons a r=>exact⟨a,r,rfl⟩
 have i0:ixF (.d (Rw k ((a::r).map .int))) (I 0) M=some (I a,M):=by
  show(bE (Rw k ((a::r).map .int))).bind _=_;rw[cF,B4];show(atI ((a::r).map PyData.int) ((0:Nat):Int)).bind _=_;rw[xZ (xs:=(a::r).map PyData.int) (k:=0) (x:=.int a) rfl];rfl
 have fn:=HK s;have tr:=WT (k:=k) (ds:=(a::r).map .int) (M:=M);unfold apt;generalize oth n (a::r)=O at *;generalize hb:Rw false (List.map PyData.int (a::r))=Y at *;generalize Rw k (List.map PyData.int (a::r))=Z at *;cases q:(a==0)with
 |true=>
  rw[q]at fn;rw[A9 fn];simp![aS,cN,xIf,e,i0,zY,q,yo]
 |false=>
  rw[q]at fn;rw[B2 (by rw[fn];decide),hb];simp![aS,cN,xIf,e,i0,zY,q,tr]
theorem refs(hw:dN M w n)(t:Thg x)(h:dR n x=false):∃L,lcF (hName 2) gO (aK dO (aB (aD 0) (aB (aD 1) (aB (aD 2) aH)))) [.g "others",.g "apart_from_nought",.g "side_weight"] [some (.c w),some (.d x),none] M=some (([true,true,true].map PyData.bool).map .d,M++L):=by
 have r1:=NB (x:=x) (w:=w) (M:=M) (nm:="others") (F:=dJ) rfl (TV hw t h);have w1:dN (M++[.exc false "NoSide" []]) w n:=hw.app;have r2:=NB (x:=x) (w:=w) (M:=M++[.exc false "NoSide" []]) (nm:="apart_from_nought") (F:=aS) rfl (YI w1 t h);have w2:dN (M++[.exc false "NoSide" []]++[.exc false "NoSide" []]) w n:=w1.app;have r3:=NB (x:=x) (w:=w) (M:=M++[.exc false "NoSide" []]++[.exc false "NoSide" []]) (nm:="side_weight") (F:=cS) rfl (UJ w2 t h);refine⟨[.exc false "NoSide" [],.exc false "NoSide" [],.exc false "NoSide" []],?_⟩;rw[show M++[Cell.exc false "NoSide" [],.exc false "NoSide" [],.exc false "NoSide" []]=M++[.exc false "NoSide" []]++[.exc false "NoSide" []]++[.exc false "NoSide" []]by simp]
 have he:∀(nm:Str)(s:Option CD)(A B':Sto),dO [.c w,.d x,.g nm] A=some (B true,B')->aK dO (aB (aD 0) (aB (aD 1) (aB (aD 2) aH))) [some (.c w),some (.d x),some (.g nm)] A=some (B true,B'):=fun nm s A B' q=>by
  simp![q]
 have g1:∀(nm:Str)(s:Option CD)(A:Sto),hName 2 (.g nm) [some (.c w),some (.d x),s] A=some ([some (.c w),some (.d x),some (.g nm)],A):=fun _ _ _=>rfl;simp only[lcF,g1,Option.bind_some,gO,if_true,he _ none _ _ r1,he _ none _ _ r2,he _ none _ _ r3,List.map_cons,List.map_nil]
theorem aCn(n0:1<=n)(n9:n<=9)(hw:dN M w n)(t:Thg x):∃L,gX [.c w,I n,.d x] M=some (B true,M++L):=by
 have r:=AC (M:=M) t;have d1:=MU (M:=M) n9 t;have d2:=CV hw t
 have a1:aV (aK iZ (aB (aD 2) aH)) (hName 3) [some (.c w),some (I n),some (.d x),none,none,none,none,none] M=some (.nx [some (.c w),some (I n),some (.d x),some (.d (.str (PyData.shown x))),none,none,none,none],M):=by
  refine(bZ (x:=.d (.str (PyData.shown x))) ?_).trans rfl;simp![r]
 have a2:aV (aK eX (aB (aD 1) (aB (aD 2) aH))) (hName 4) [some (.c w),some (I n),some (.d x),some (.d (.str (PyData.shown x))),none,none,none,none] M=some (.nx [some (.c w),some (I n),some (.d x),some (.d (.str (PyData.shown x))),some (B (dR n x)),none,none,none],M):=by
  refine(bZ (x:=B (dR n x)) ?_).trans rfl;simp![d1]
 have a3:aV (aK kA (aB (aD 0) (aB (aD 2) aH))) (hName 5) [some (.c w),some (I n),some (.d x),some (.d (.str (PyData.shown x))),some (B (dR n x)),none,none,none] M=some (.nx [some (.c w),some (I n),some (.d x),some (.d (.str (PyData.shown x))),some (B (dR n x)),some (B (dR n x)),none,none],M):=by
  refine(bZ (x:=B (dR n x)) ?_).trans rfl;simp![d2]
 have nb:∀b:Bool,eqX true (B b) (B b) M=some (B false,M):=fun b=>by cases b<;>rfl
 have ib:∀b:Bool,xO "bool" (.bool b)=true:=fun b=>rfl
 have a4:sIf (gOr (nR (gB (FO "bool" (aD 5)))) (gB (fOp (eqX true) (aD 5) (aD 4)))) (bS (fC (.bool false))) cX [some (.c w),some (I n),some (.d x),some (.d (.str (PyData.shown x))),some (B (dR n x)),some (B (dR n x)),none,none] M=some (.nx [some (.c w),some (I n),some (.d x),some (.d (.str (PyData.shown x))),some (B (dR n x)),some (B (dR n x)),none,none],M):=by
  refine(lT (M':=M) ?_).trans rfl;simp![ib,nb]
 cases hs:dR n x with
 |false=>
  rw[hs]at a2 a3 a4;obtain⟨L,lc⟩:=refs hw t hs
  have it:JB (aB (fG "others") (aB (fG "apart_from_nought") (aB (fG "side_weight") aH))) [some (.c w),some (I n),some (.d x),some (.d (.str (PyData.shown x))),some (B false),some (B false),none,none] M=some ([.g "others",.g "apart_from_nought",.g "side_weight"],M):=by
   simp only[JB,fG,aB,aH,Option.bind_some,List.length_cons,List.length_nil,Nat.reduceAdd,if_pos (show(3:Nat)<=sizeLine by decide)]
  have c0:gY [some (.c w),some (I n),some (.d x),some (.d (.str (PyData.shown x))),some (B false),some (B false),none,none] M=some (.d (.list ([true,true,true].map .bool)),M++L):=by
   unfold gY;exact jJ it (by decide) lc (by decide)
  refine⟨L,nD rfl ?_⟩;unfold jS;show aX _ _ [some (.c w),some (I n),some (.d x),none,none,none,none,none] M=_;rw[aU a1,aU a2,aU a3,aU a4];have al:wH [.d (.list ([true,true,true].map .bool))] (M++L)=some (B true,M++L):=rfl;have tt:nR (CG (aD 4)) [some (.c w),some (I n),some (.d x),some (.d (.str (PyData.shown x))),some (B false),some (B false),none,none] M=some (true,M):=rfl;unfold aX;rw[sM tt];simp only[bS,aK,aB,aH,c0,Option.bind_some,al]
 |true=>
  rw[hs]at a2 a3 a4;obtain⟨k,xs,rfl,sd⟩:=aDq hs;refine⟨[],?_⟩;rw[F4];have yo:=BK hw t hs n0 n9;have ya:=VA hw t hs sd n0 n9;have op:=aDs (n:=n) (xs:=xs) n9;have ro:=AC (M:=M) (op.thg false)
  have px:Pls xs:=by
   have l:=t.len _ (cF k (xs.map .int));refine⟨fun i hi=>by have:=sd.bd i hi;omega,?_⟩;unfold dR at hs;rw[cF]at hs;simp only[Bool.and_eq_true,decide_eq_true_eq,List.length_map]at hs;omega
  have pa:Pls (apt n xs):=by
   unfold apt;split
   .exact op
   .exact px
  have ra:=AC (M:=M) (pa.thg false);generalize PyData.shown (Rw k (xs.map .int))=S at *
  have c1:gV [some (.c w),some (I n),some (.d (Rw k (xs.map .int))),some (.d (.str S)),some (B true),some (B true),none,none] M=some (.d (.list ((oth n xs).map .int)),M):=by
   have it:dG (aB (aD 1) aH) [some (.c w),some (I n),some (.d (Rw k (xs.map .int))),some (.d (.str S)),some (B true),some (B true),none,none] M=some ((zsI n).map fun i=>I i,M):=by
    rw[<- VD];exact rJ (J:=n) (by simp![]) (nA (by omega) (by omega))
   have l1:=NC n;unfold gV;refine jJ it (by rw[A7];omega) ?_ (by rw[A7];exact D0 (U0 ..) (by omega))
   exact lcI (a:=some (.d (Rw k (xs.map .int)))) (t:=fun i=>!inB xs i) (zsI n) none fun i _=>by
    have q:=HJ (k:=k) (i:=i) (ys:=xs) (M:=M) true;simp![q]
  have tt:sIf (nR (CG (aD 4))) (bS (aK wH (aB gY aH))) cX [some (.c w),some (I n),some (.d (Rw k (xs.map .int))),some (.d (.str S)),some (B true),some (B true),none,none] M=some (.nx [some (.c w),some (I n),some (.d (Rw k (xs.map .int))),some (.d (.str S)),some (B true),some (B true),none,none],M):=by
   refine(lT (M':=M) rfl).trans rfl
  have b1:aV (aK eE (aB gV aH)) (hName 6) [some (.c w),some (I n),some (.d (Rw k (xs.map .int))),some (.d (.str S)),some (B true),some (B true),none,none] M=some (.nx [some (.c w),some (I n),some (.d (Rw k (xs.map .int))),some (.d (.str S)),some (B true),some (B true),some (.d (Rw false ((oth n xs).map .int))),none],M):=by
   refine(bZ (x:=.d (Rw false ((oth n xs).map .int))) ?_).trans rfl;simp![c1];rfl
  have i0:=HJ (k:=k) (i:=0) (ys:=xs) (M:=M) false;simp only[Bool.false_eq_true,if_false]at i0;have tr:=WT (k:=k) (ds:=xs.map .int) (M:=M)
  have b2:aV (fIf (gB (fOp (inD false) (fC (.int 0)) (aD 2))) (aD 6) (aK eE (aB (aD 2) aH))) (hName 7) [some (.c w),some (I n),some (.d (Rw k (xs.map .int))),some (.d (.str S)),some (B true),some (B true),some (.d (Rw false ((oth n xs).map .int))),none] M=some (.nx [some (.c w),some (I n),some (.d (Rw k (xs.map .int))),some (.d (.str S)),some (B true),some (B true),some (.d (Rw false ((oth n xs).map .int))),some (.d (Rw false ((apt n xs).map .int)))],M):=by
   refine(bZ (x:=.d (Rw false ((apt n xs).map .int))) ?_).trans rfl;unfold apt;cases q:inB xs 0 with
   |true=>
    rw[q]at i0;simp![i0]
   |false=>
    rw[q]at i0;simp![i0,tr]
  have ne:∀s:Str,eqX true (.d (.str s)) (.d (.str s)) M=some (B false,M):=fun s=>by
   show some (B (!(s==s)),M)=_;rw[beq_self_eq_true];rfl
  have eq:∀s:Str,eqX false (.d (.str s)) (.d (.str s)) M=some (B true,M):=fun s=>by
   show some (B (s==s),M)=_;rw[beq_self_eq_true]
  generalize Rw false ((oth n xs).map .int)=O at *;generalize Rw false ((apt n xs).map .int)=A at *;generalize Rw k (xs.map .int)=Z at *
  have b3:sIf (gOr (gB (fOp (eqX true) (aK iZ (aB (sW dJ (aB (aD 0) (aB (aD 2) aH))) aH)) (aK iZ (aB (aD 6) aH)))) (gB (fOp (eqX true) (aK iZ (aB (sW aS (aB (aD 0) (aB (aD 2) aH))) aH)) (aK iZ (aB (aD 7) aH))))) (bS (fC (.bool false))) cX [some (.c w),some (I n),some (.d Z),some (.d (.str S)),some (B true),some (B true),some (.d O),some (.d A)] M=some (.nx [some (.c w),some (I n),some (.d Z),some (.d (.str S)),some (B true),some (B true),some (.d O),some (.d A)],M):=by
   refine(lT (M':=M) ?_).trans rfl;simp![yo,ya,ro,ra,ne]
  refine nD rfl ?_;unfold jS;show aX _ _ [some (.c w),some (I n),some (.d Z),none,none,none,none,none] M=_;rw[aU a1,aU a2,aU a3,aU a4,aU tt,aU b1,aU b2,aU b3];simp![r,eq]
end
def Tq(y:CD):Prop:=∃d,y=.d d/\Thg d
def Pq(M:Sto)(p L:Nat):Prop:=∃ys,M[p]?=some (.lst ys)/\(∀y∈ys,Tq y)/\ys.length<=L
theorem Pq.to(h:Pq M p L)(e:Ex c M M')(ne:p≠c):Pq M' p L:=let⟨ys,a,b,d⟩:=h;⟨ys,e.to a ne,b,d⟩
theorem WL{y:CD}(hv:γ[v]?=some (some (.c p)))(ha:fa γ M=some ([y],M'))(t:Tq y)(q0:Pq M p L)(q:Pq M' p L)(hl:L<=900):
 ∃ys,oY (bQ "list" dU (aD v) fa) γ M=some (.nx γ,M'.set p (.lst ys))/\Pq (M'.set p (.lst ys)) p (L+1):=by
 obtain⟨ys,a,b,d⟩:=q;have ty:tyB "list" M (.c p)=true:=by obtain⟨zs,a0,_,_⟩:=q0;simp only[tyB,a0];decide
 have ap:dU (.c p) [y] M'=some (.d .none,M'.set p (.lst (ys++[y]))):=by
  simp only[dU,a,if_pos (show ys.length<sizeLine by rw[sizeLine_eq];omega)]
 refine⟨ys++[y],?_,ys++[y],F5 (List.getElem?_eq_some_iff.mp a).1,fun z hz=>?_,by rw[C3,J5];omega⟩
 .simp only[oY,bQ,aD,hv,Option.bind_some,ha,ty,if_true,ap]
 .rcases List.mem_append.mp hz with h|h
  .exact b z h
  .rw[List.mem_singleton.mp h];exact t
abbrev GT(s:CD)(c:Nat)(k n:Int)(w:Nat)(X:List PyData)(p:Nat)(t:Option CD):Ga:=[some s,some (.c c),some (I k),some (I n),some (.c w),some (.d (.tuple X)),some (.c p),t]
theorem JU:pP [.d (.tuple ds)] M=some (.d (.list ds),M):=rfl
theorem aIB{s:CD}{w:Nat}{k:Int}{t:Option CD}(n0:1<=n)(n9:n<=9)(rx:Rs 9 X)(dk:Dk M c (m+2))(q:Pq M p L)(hL:L<=100)(ex:Ex c M0 M)(hp:M0.length<=p)(cl:c<M0.length):
 ∃M',rY (GT s c k n w X p t) M=some (.nx (GT s c k n w X p t),M')/\Dk M' c m/\Pq M' p (L+2)/\Ex c M0 M':=by
 have pc:p≠c:=by omega
 obtain⟨ds,M1,e1,r1,d1,x1⟩:=VP (m:=m+1) n0 n9 rx dk
 have A1:aB (aK cC (aB (aD 1) (aB (aD 5) (aB (aD 3) aH)))) aH (GT s c k n w X p t) M=some ([.d (.tuple ds)],M1):=by
  simp![e1]
 obtain⟨ys1,f1,g1⟩:=WL (v:=6) rfl A1 ⟨_,rfl,r1.thg (by decide) false⟩ q (q.to x1.ex pc) (by omega);have D1:Dk (M1.set p (.lst ys1)) c (m+1):=d1.put pc;have X1:Ex c M0 (M1.set p (.lst ys1)):=(ex.trans x1.ex).put hp;generalize M1.set p (.lst ys1)=N1 at f1 g1 D1 X1;obtain⟨es,M2,e2,r2,d2,x2⟩:=VP (m:=m) n0 n9 rx D1
 have A2:aB (aK pP (aB (aK cC (aB (aD 1) (aB (aD 5) (aB (aD 3) aH)))) aH)) aH (GT s c k n w X p t) N1=some ([.d (.list es)],M2):=by
  simp![e2,JU]
 obtain⟨ys2,f2,g2⟩:=WL (v:=6) rfl A2 ⟨_,rfl,r2.thg (by decide) true⟩ g1 (g1.to x2.ex pc) (by omega);refine⟨_,?_,d2.put pc,g2,(X1.trans x2.ex).put hp⟩;unfold rY;rw[aU f1];exact f2
theorem aFh{s:CD}{w:Nat}{k:Int}{t:Option CD}(n0:1<=n)(n9:n<=9)(rx:Rs 9 X)(dk:Dk M c (m+6))(q:Pq M p L)(hL:L<=50)(ex:Ex c M0 M)(hp:M0.length<=p)(cl:c<M0.length):
 ∃t' M',nU (hName 7) rY (gA (0:Nat) 3) (GT s c k n w X p t) M=some (.nx (GT s c k n w X p t'),M')/\Dk M' c m/\Pq M' p (L+6)/\Ex c M0 M':=by
 obtain⟨γ',M',e,⟨t',rfl,q1,q2,q3⟩⟩:=uT (g:=hName 7) (b:=rY) (n:=3) (Inv:=fun j γ M=>∃t,γ=GT s c k n w X p t/\Dk M c (m+(6-2*j))/\Pq M p (L+2*j)/\Ex c M0 M) (fun j hj γ M hi=>by
  obtain⟨t,rfl,dk,q,ex⟩:=hi;obtain⟨J,hJ⟩:∃J:Int,J=(j:Nat):=⟨_,rfl⟩;rw[<- hJ];obtain⟨M',e1,e2,e3,e4⟩:=aIB (s:=s) (w:=w) (k:=k) (t:=some (I J)) (m:=m+(6-2*(j+1))) n0 n9 rx (dk.le (by omega)) q (by omega) ex hp cl;exact⟨_,_,M',rfl,e1,_,rfl,e2,(by rw[show L+2*(j+1)=L+2*j+2 by omega];exact e3),e4⟩) 3 0 _ M (by omega) ⟨t,rfl,dk,q,ex⟩
 exact⟨t',M',e,q1.le (by omega),q2,q3⟩
theorem aAh{w c m:Nat}{n:Int}(n0:1<=n)(n9:n<=9):∀(ds:List PyData)(a:Option CD)(M:Sto),dN M w n->Dk M c m->(∀y∈ds.map CD.d,Tq y)->∃M',lcF (hName 2) gO (aK gX (aB (aD 0) (aB (aD 1) (aB (aD 2) aH)))) (ds.map .d) [some (.c w),some (I n),a] M=some ((ds.map fun _=>PyData.bool true).map .d,M')/\dN M' w n/\Dk M' c m
 |[]=>fun _ M hw dk _=>⟨M,rfl,hw,dk⟩
 |d::ds=>fun a M hw dk h=>by
  obtain⟨x,e,t⟩:=h (.d d) (by simp);cases e;obtain⟨L,r⟩:=aCn (M:=M) n0 n9 hw t;obtain⟨M',ih,q1,q2⟩:=aAh (c:=c) (m:=m) n0 n9 ds (some (.d d)) (M++L) hw.app dk.app fun z hz=>h z (by rw[C7];exact B3 _ hz);have hg:hName 2 (.d d) [some (.c w),some (I n),a] M=some ([some (.c w),some (I n),some (.d d)],M):=rfl
  have he:aK gX (aB (aD 0) (aB (aD 1) (aB (aD 2) aH))) [some (.c w),some (I n),some (.d d)] M=some (B true,M++L):=by
   simp![r]
  refine⟨M',?_,q1,q2⟩;simp only[List.map_cons,lcF,hg,Option.bind_some,gO,if_true,he,ih]
theorem all_true(ds:List PyData)(M:Sto):wH [.d (.list (ds.map fun _=>.bool true))] M=some (B true,M):=by
 have:=all_map' (f:=fun _:PyData=>true) (ds:=ds) (M:=M);rw[this];congr 2;simp
abbrev G0(s:CD)(c:Nat)(g2 g3 g4 g5 g6 g7:Option CD):Ga:=[some s,some (.c c),g2,g3,g4,g5,g6,g7]
theorem aFf(n0:1<=n)(n9:n<=9):Rs 9 (NW 0 n.toNat):=by
 unfold NW;refine⟨fun d hd=>?_,by rw[A7,U5];omega⟩;obtain⟨k,hk,rfl⟩:=List.mem_map.mp hd;have:=List.mem_range.mp hk;exact CY (by omega) (by omega)
theorem round{s:CD}{k:Int}{g5 g6 g7:Option CD}(dk:Dk M c (m+99)):∃a3 a4 a5 a6 a7 M',yC (G0 s c (some (I k)) g3 g4 g5 g6 g7) M=some (.nx (G0 s c (some (I k)) a3 a4 a5 a6 a7),M')/\Dk M' c m:=by
 obtain⟨z,M1,po,d1,x1⟩:=Dk.popE (m:=m+98) dk;have pa:=pop_at (γ:=G0 s c (some (I k)) g3 g4 g5 g6 g7) (v:=1) rfl dk.ty po;have m8:eA z 9=true:=bN (by decide);have mi:=tD (z:=z) (m:=9) (by decide)
 have a1:aV (fOp dZ (fC (.int 1)) (fOp cE (bQ "list" iD (aD 1) aH) (fC (.int 9)))) (hName 3) (G0 s c (some (I k)) g3 g4 g5 g6 g7) M=some (.nx (G0 s c (some (I k)) (some (I (1+z % 9))) g4 g5 g6 g7),M1):=by
  refine(bZ (x:=I (1+z % 9)) ?_).trans rfl;simp![pa,m8,LP]
 generalize hn:1+z % 9=n at a1;have n0:1<=n:=by omega
 have n9:n<=9:=by omega
 obtain⟨w,M2,e2,w2,d2,x2,wc⟩:=aHu (m:=m+17) (γ:=G0 s c (some (I k)) (some (I n)) g4 g5 g6 g7) n0 n9 d1 rfl rfl;have a2:aV (CU "Web" gS (aB (aD 3) (aB (aK gU (aB (aK kN (aB (aD 1) (aB (aD 3) aH))) aH)) aH))) (hName 4) (G0 s c (some (I k)) (some (I n)) g4 g5 g6 g7) M1=some (.nx (G0 s c (some (I k)) (some (I n)) (some (.c w)) g5 g6 g7),M2):=(bZ e2).trans rfl;obtain⟨xs,M3,e3,px,d3,x3⟩:=WI (m:=m+8) n0 n9 d2
 have a3:aV (aK gE (aB (aD 1) (aB (aD 3) aH))) (hName 5) (G0 s c (some (I k)) (some (I n)) (some (.c w)) g5 g6 g7) M2=some (.nx (G0 s c (some (I k)) (some (I n)) (some (.c w)) (some (.d (.tuple (xs.map .int)))) g6 g7),M3):=by
  refine(bZ (x:=.d (.tuple (xs.map .int))) ?_).trans rfl;simp![e3]
 have rx:=px.rs;generalize xs.map PyData.int=X at a3 rx;obtain⟨a,M4,e4,ta,d4,x4⟩:=aEk (m:=m+7) d3;obtain⟨b,M5,e5,tb,d5,x5⟩:=aEk (m:=m+6) d4;have s7:(7:Nat)<=sizeLine:=by decide
 have s0:(0:Nat)<=sizeLine:=by decide
 have tx:=rx.thg (by decide) false
 have tr:vT (aB (aD 3) aH) (G0 s c (some (I k)) (some (I n)) (some (.c w)) (some (.d (.tuple X))) g6 g7) M5=some (.d (.tuple (NW 0 n.toNat)),M5):=by
  have q:dC n=true/\n.toNat<=sizeLine:=⟨nA (by omega) (by omega),by rw[F0];omega⟩;simp only[vT,aB,aH,aD,List.getElem?_cons_zero,List.getElem?_cons_succ,Option.bind_some,if_pos q]
 have rr:=aFf n0 n9;generalize NW 0 n.toNat=R at tr rr
 have a4:aV (sA (aB (aD 5) (aB (aK pP (aB (aD 5) aH)) (aB (aK iH (aB (aD 1) aH)) (aB (aK iH (aB (aD 1) aH)) (aB (vT (aB (aD 3) aH)) (aB (bI aH) (aB (gF aH) aH)))))))) (hName 6) (G0 s c (some (I k)) (some (I n)) (some (.c w)) (some (.d (.tuple X))) g6 g7) M3=some (.nx (GT s c k n w X M5.length g7),M5++[.lst [.d (.tuple X),.d (.list X),.d a,.d b,.d (.tuple R),.d (.tuple []),.d (.list [])]]):=by
  refine(bZ (x:=.c M5.length) ?_).trans rfl;simp only[sA,aB,aH,aD,aK,bI,gF,List.getElem?_cons_zero,List.getElem?_cons_succ,Option.bind_some,JU,e4,e5,tr,lB,List.length_cons,List.length_nil,Nat.reduceAdd,if_pos s0,if_pos s7]
 have q5:Pq (M5++[.lst [.d (.tuple X),.d (.list X),.d a,.d b,.d (.tuple R),.d (.tuple []),.d (.list [])]]) M5.length 7:=by
  refine⟨_,vL,fun y hy=>?_,B0 _⟩;simp only[List.mem_cons,List.not_mem_nil,or_false]at hy;rcases hy with rfl|rfl|rfl|rfl|rfl|rfl|rfl
  .exact⟨_,rfl,tx⟩
  .exact⟨_,rfl,rx.thg (by decide) true⟩
  .exact⟨_,rfl,ta⟩
  .exact⟨_,rfl,tb⟩
  .exact⟨_,rfl,rr.thg (by decide) false⟩
  .exact⟨_,rfl,NK (by decide +kernel)⟩
  .exact⟨_,rfl,NK (by decide +kernel)⟩
 have w5:dN M5 w n:=((w2.to x3.ex wc).to x4 wc).to x5 wc;have d6:Dk (M5++[.lst [.d (.tuple X),.d (.list X),.d a,.d b,.d (.tuple R),.d (.tuple []),.d (.list [])]]) c (m+6):=d5.app;have cl:c<M5.length:=d5.lt;have wl:w<M5.length:=by obtain⟨fs,h,_⟩:=w5;exact(List.getElem?_eq_some_iff.mp h).1
 have x6:Ex c M5 (M5++[.lst [.d (.tuple X),.d (.list X),.d a,.d b,.d (.tuple R),.d (.tuple []),.d (.list [])]]):=Ex.app _ _ _;generalize M5++[Cell.lst [.d (.tuple X),.d (.list X),.d a,.d b,.d (.tuple R),.d (.tuple []),.d (.list [])]]=M6 at a4 q5 d6 x6;generalize hp:M5.length=p at a4 q5 cl wl;have pc:p≠c:=by omega
 obtain⟨t',M8,e8,d8,q8,x8⟩:=aFh (s:=s) (k:=k) (w:=w) (t:=g7) (m:=m) (M0:=M5) n0 n9 rx d6 q5 (by decide) x6 (Nat.le_of_eq hp) (by omega);obtain⟨vs,v1,v2,v3⟩:=q8;obtain⟨ds,rfl,_⟩:=FE (E:=fun _=>True) fun y hy=>let⟨a,q,_⟩:=v2 y hy;⟨_,q,True.intro⟩;have rg:dG (aB (fC (.int 3)) aH) (GT s c k n w X p g7) M6=some (gA (0:Nat) 3,M6):=rfl
 have fz:VZ 6 (sE (dG (aB (fC (.int 3)) aH)) (hName 7) rY) (GT s c k n w X p g7) M6=some (.nx [some s,some (.c c),some (I k),some (I n),some (.c w),some (.d (.tuple X)),some (.d (.list ds)),t'],M8.set p .dead):=by
  unfold VZ;rw[vF rg e8,B4];dsimp only
  have:XX 6 (GT s c k n w X p t') M8=some ([some s,some (.c c),some (I k),some (I n),some (.c w),some (.d (.tuple X)),some (.d (.list ds)),t'],M8.set p .dead):=by
   simp only[XX,List.getElem?_cons_succ,List.getElem?_cons_zero,v1,pS,Option.bind_some,List.set_cons_succ,List.set_cons_zero]
  rw[this];rfl
 have w9:dN (M8.set p .dead) w n:=(w5.to x8 wc).put (by omega);have d9:Dk (M8.set p .dead) c m:=d8.put pc;generalize M8.set p .dead=M9 at fz w9 d9;obtain⟨M10,rs,w10,d10⟩:=aAh n0 n9 ds none M9 w9 d9 v2
 have cp:FZ [some s,some (.c c),some (I k),some (I n),some (.c w),some (.d (.tuple X)),some (.d (.list ds)),t'] M9=some (.d (.list (ds.map fun _=>.bool true)),M10):=by
  rw[A7]at v3;unfold FZ;exact jJ (xs:=ds.map .d) (M1:=M9) (by simp![cV,bE]) (by rw[A7];omega) rs (by rw[A7];omega)
 have at_:=all_true ds M10;refine⟨some (I n),some (.c w),some (.d (.tuple X)),some (.d (.list ds)),t',M10,?_,d10⟩;unfold yC;rw[aU a1,aU a2,aU a3,aU a4,aU fz];refine(lT (M':=M10) ?_).trans rfl;simp![cp,at_]
theorem main(ns:List Int)(hl:ns.length<=63):∃M',F_law [.d (.list (ns.map .int))] []=some (.d (.bool true),M'):=by
 obtain⟨c,M,e1,dk⟩:=aHw ns
 have a1:aV (aK lV (aB (aD 0) (aB (fC (.int 400)) aH))) (hName 1) [some (.d (.list (ns.map .int))),none,none,none,none,none,none,none] []=some (.nx (G0 (.d (.list (ns.map .int))) c none none none none none none),M):=by
  refine(bZ (x:=.c c) ?_).trans rfl;simp![e1]
 generalize CD.d (.list (ns.map .int))=s at a1
 obtain⟨γ',M',e2,⟨g2,g3,g4,g5,g6,g7,rfl,_⟩⟩:=uT (g:=hName 2) (b:=yC) (n:=4) (Inv:=fun j γ M=>∃g2 g3 g4 g5 g6 g7,γ=G0 s c g2 g3 g4 g5 g6 g7/\Dk M c (400-100*j)) (fun j hj γ M hi=>by
  obtain⟨g2,g3,g4,g5,g6,g7,rfl,dk⟩:=hi;obtain⟨J,hJ⟩:∃J:Int,J=(j:Nat):=⟨_,rfl⟩;rw[<- hJ];obtain⟨a3,a4,a5,a6,a7,M',t1,t2⟩:=round (s:=s) (k:=J) (g3:=g3) (g4:=g4) (g5:=g5) (g6:=g6) (g7:=g7) (m:=400-100*(j+1)) (dk.le (by omega));exact⟨_,_,M',rfl,t1,_,_,_,_,_,_,rfl,t2⟩) 4 0 (G0 s c none none none none none none) M (by omega) ⟨none,none,none,none,none,none,rfl,dk⟩
 have rg:dG (aB (fC (.int 4)) aH) (G0 s c none none none none none none) M=some (gA ((0:Nat):Int) 4,M):=rfl;refine⟨M',nD rfl ?_⟩;unfold aAS;show aX _ _ [some _,none,none,none,none,none,none,none] []=_;rw[aU a1,aU (vF rg e2)];rfl
end Q9
end
end
open PySem PySem.W PyProof.Rows
set_option maxRecDepth 100000 in
set_option maxHeartbeats 0 in
theorem PySem.Challenge.cw_cutstree_k09_sides_told_holds : PySem.Challenge.rw_cutstree_k09_sides_told.Holds := by
 refine Q9.k_top ?_
 k_fill
 refine L2.law_walk (l:=PySem.Challenge.rw_cutstree_k09_sides_told) (F:=Q9.F_law) (k:=10) (p:="_law_script") (by decide +kernel) rfl rfl ⟨fun _=>rfl,by decide,by decide,rfl⟩ (fun w h Y=>PySem.W.kIn_of Y) ?T Q9.main
 case T=>
  intro w mg h KX G;refine Q9.fn_law (K:=_) (mg:=mg) ?TT
  refine' Q9.txt_mk KX G ?v0 ?v1 ?v2 ?v3 ?v4 ?v5 ?v6 ?v7 ?v8 ?v9 ?v10 ?v11 ?v12 ?v13 ?v14 ?v15 ?v16 ?v17 ?v18 ?v19 ?v20 ?v21 ?v22 ?v23 ?v24 ?v25 ?v26 ?v27 ?v28 ?v29 ?v30 ?v31 ?v32 ?v33 ?v34 ?v35 ?v36 ?v37 ?v38 ?v39 ?v40 ?v41 ?v42 ?v43 ?v44 ?v45 ?v46 ?v47 ?v48 ?v49 ?v50 ?v51 ?v52 ?v53 ?v54 ?v55 ?v56 ?v57 ?v58 ?v59 ?v60 ?v61 ?v62 ?v63 ?v64 ?v65 ?v66 ?v67 ?v68 ?v69 ?v70 ?v71 ?v72 ?v73 ?v74 ?v75 ?v76 ?v77 ?v78 ?v79 ?v80 ?v81 ?v82 ?v83 ?v84 ?v85 ?v86 ?v87 ?v88 ?v89 ?v90 ?v91 ?v92 ?v93 ?v94
  (case v0|v1|v2|v3|v4|v5|v6|v7|v8|v9|v10|v11|v12|v13|v14|v15|v16|v17|v18|v19|v20|v24|v25|v26|v27|v29|v30|v31|v33|v34|v35|v37|v38|v39|v40|v41|v46|v49|v50|v51|v52|v53|v56=>k_is)
  (case v21|v22|v23|v28|v32|v36|v42|v43|v44|v45|v47|v48|v54|v55=>kernel_rfl)
  (case v57|v58|v59|v60|v61|v62|v63|v64|v65|v66|v67|v68|v69|v70|v71|v72|v73|v74|v75|v76|v77|v78|v79|v80|v81|v82|v83|v84|v85|v86|v87|v88|v89|v90|v91|v92|v93|v94=>exact L2.def_mk KX G (by k_is) (by k_is) (by k_is) (by k_is))