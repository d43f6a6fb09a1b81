import PyProof.Rows.All
import OpenK.KLine
import OpenK.KWalk
import OpenK.KMore
import OpenK.KOwn
import OpenK.KRaise
import KE.KSortTup
import PyProof.EqAt
import PyProof.EqKinds
import PyProof.TupleCall
import PyProof.ReprLen
import KE.KIsAll
import PyProof.ExcArgsOwn
import PyProof.NsDelKeeps
import KE.KTryMore
import PyProof.InstStoreFacts
import PyProof.ExcInit
import PyProof.ExcClass2
import PyProof.Rows.ListMul
import PyProof.Draws
import PyProof.EnumMake
import PyProof.Rows.EnumRows
import KE.KItemsList
import PyProof.DictCompW
import PyProof.ListRange
import PyProof.ZipIter
import PyProof.AttrMissHeap
import KE.KDictOf
import KE.KUnpack
import PyProof.SetKind
import PyProof.Rows.SetFrom
import KE.KIntText
import PySem.Challenge.RW_cutstree_k69_read
set_option Elab.async false
section
set_option maxRecDepth 100000
set_option maxHeartbeats 0
namespace Q69
open PySem
noncomputable def qv:Program:={ PySem.Challenge.rw_cutstree_k69_read.prog with main:={ PySem.Challenge.rw_cutstree_k69_read.prog.main with body:=(((((((PySem.Challenge.rw_cutstree_k69_read.prog.main.body.eraseIdx 42).eraseIdx 33).eraseIdx 25).eraseIdx 20).eraseIdx 12).eraseIdx 5).eraseIdx 0) } }
end Q69
open PySem PySem.W PyProof.Rows
local macro_rules | `(tactic| o_head $H) => `(tactic| (
 refine holds_open (r:=PySem.Challenge.rw_cutstree_k69_read.row) (q:=Q69.qv) (loose:=[]) (Xt:=fun s=>xlAt Q69.qv [] s&&recOk (RowW.records (OpenRow.toRowW PySem.Challenge.rw_cutstree_k69_read.row)) s) (XP:=XL Q69.qv []) (Yf:=Hook.obs $H) (Ya:=Hook.val $H) (YP:=Hook.says $H) (N:=6100) ?hl (Hook.of $H) (Hook.keeps $H) (fun s e=>xl_of s (Bool.and_eq_true_iff.mp e).1) XL.keeps (by rfl) (by rfl) (by rfl) (fun s e=>recFacts_of (Bool.and_eq_true_iff.mp e).2) (by rfl) (by first|assumption|decide +kernel) (by decide +kernel) ⟨rfl,rfl,rfl,rfl,rfl,by decide +kernel⟩ ?hw ?hc
 (case hl=>intro w;kernel_rfl)))
open_top Q69.k_top for PySem.Challenge.rw_cutstree_k69_read
end
section
set_option linter.all false
set_option maxRecDepth 100000
set_option maxHeartbeats 4000000
noncomputable abbrev Fg:=PySem.W.Frag
noncomputable section
abbrev A0:=@PySem.wpAny_bind
abbrev A1:=@Option.bind_some
abbrev A2:=@List.length_map
abbrev A3:=@PySem.Heap.get?_push_of_some
abbrev A4:=@if_pos
abbrev A5:=@if_neg
abbrev A6:=@PySem.wpAny_pure
abbrev A7:=@Bool.false_ne_true
abbrev A8:=@Nat.le_refl
abbrev A9:=@PySem.Heap.lt_size
abbrev B0:=@List.mem_cons_self
abbrev B1:=@List.mem_cons_of_mem
abbrev B2:=@List.map_cons
abbrev B3:=@PySem.Heap.get?_push_size
abbrev B4:=@List.length_cons
abbrev B5:=@Nat.ne_of_lt
abbrev B6:=@List.map_map
abbrev B7:=@Nat.lt_of_lt_of_le
abbrev B8:=@Bool.and_eq_true
abbrev B9:=@List.getElem?_eq_getElem
abbrev C0:=@List.length_append
abbrev C1:=@Int.emod_lt_of_pos
abbrev C2:=@List.size_toArray
abbrev C3:=@List.append_nil
abbrev C4:=@Int.emod_nonneg
abbrev C5:=@decide_eq_true
abbrev C6:=@List.getD_eq_getElem?_getD
abbrev C7:=@decide_eq_false
abbrev C8:=@List.mem_append_right
abbrev C9:=@Nat.le_trans
abbrev D0:=@List.lookup_cons
abbrev D1:=@PySem.wpAny_newObj_type
abbrev D2:=@List.getElem?_map
abbrev D3:=@Option.some.inj
abbrev D4:=@of_decide_eq_true
abbrev D5:=@PySem.wpAny_mono
abbrev D6:=@PySem.Heap.get?_update_other
abbrev D7:=@PySem.W.mg_none_of
abbrev D8:=@List.getElem?_set_self
abbrev D9:=@Array.getD_eq_getD_getElem?
abbrev E1:=@List.getElem?_append_right
abbrev E2:=@PySem.wpAny_field
abbrev E3:=@PySem.Heap.get?_update_self
abbrev E4:=@List.mem_append_left
abbrev E5:=@List.map_append
abbrev E6:=@PySem.mem_of_lookup
abbrev E7:=@List.length_singleton
abbrev E8:=@List.append_assoc
abbrev E9:=@PySem.wpAny_holding
abbrev F0:=@PySem.sizeLine_eq
abbrev F4:=@Int.eq_ofNat_of_zero_le
abbrev F5:=@of_decide_eq_false
abbrev F6:=@PySem.W.kia_one
abbrev F7:=@Ne.symm
abbrev F8:=@Nat.zero_le
abbrev F9:=@Nat.ne_of_gt
abbrev I0:=@PySem.wpAny_truthy_bool
abbrev J1:=@List.getElem?_set_ne
abbrev J2:=@Nat.lt_succ_self
abbrev J3:=@Nat.lt_irrefl
abbrev J4:=@PySem.wpAny_call_entry
abbrev J5:=@Array.getElem?_toList
abbrev J6:=@PySem.Obj.data_mapFields
abbrev J7:=@PySem.wpAny_callSpecial?_slot
abbrev J8:=@PySem.W.mg_of
abbrev J9:=@PySem.W.Looks.here
abbrev L0:=@List.length_replicate
abbrev L4:=@List.length_filter_le
abbrev L5:=@PySem.wpAny_Call_Name_kw
abbrev L6:=@List.any_cons
abbrev L7:=@PyProof.Rows.slot_tuple_getitem
abbrev L8:=@Array.length_toList
abbrev L9:=@PySem.PassesOwn.never
abbrev O0:=@List.map_congr_left
abbrev O1:=@congrArg
abbrev O2:=@List.filter_cons_of_pos
abbrev O3:=@List.filter_cons_of_neg
abbrev O4:=@Nat.lt_trans
abbrev O5:=@PySem.Heap.size_push
abbrev O6:=@List.length_set
abbrev O7:=@PySem.wpAny_setField
abbrev O8:=@Int.toNat_natCast
abbrev O9:=@PySem.SeqAt.canLay_of_shaped
abbrev S0:=@PySem.wpAny_setField_rec
abbrev S1:=@PySem.wpAny_passesOwn
abbrev S2:=@List.mem_of_getElem?
abbrev S3:=@PySem.wpAny_standAt
abbrev S4:=@List.getElem_mem
abbrev S5:=@Nat.sub_self
abbrev S6:=@List.getElem?_append_left
abbrev S7:=@List.drop_eq_getElem_cons
abbrev S8:=@PySem.F.plain_extend_loop
abbrev S9:=@PySem.Heap.get?_none_of_le
abbrev U0:=@PySem.F.slot_tuple_iterator_next
abbrev U1:=@Bool.eq_iff_iff
abbrev U2:=@PySem.Heap.SameBut.update
abbrev U3:=@Nat.le_of_lt
abbrev U4:=@PySem.F.slot_str_split
abbrev U5:=@PySem.wpAny_loadPart'
abbrev U6:=@List.getElem?_eq_none
abbrev U7:=@List.length_nil
abbrev U8:=@List.nil_append
abbrev U9:=@PySem.Obj.isFreed_of_fields
abbrev Y0:=@PySem.StrLaws.glued_eq_join
abbrev Y1:=@PyProof.Rows.callWith_type1
abbrev Y2:=@PySem.wpAny_typeNameOfWhole_itemiter
abbrev Y3:=@PySem.Paired.length
abbrev Y4:=@PySem.W.callWith_K
abbrev Y5:=@PySem.PyData.eqvAll.eq_def
abbrev Y6:=@PySem.wpAny_typeNameOfWhole_keyiter
abbrev Y7:=@PySem.wpAny_execs_nil
abbrev Y8:=@PySem.codeAny_mono
abbrev Y9:=@PyProof.Rows.boot_tuple
abbrev Z0:=@PySem.typeIs_str
abbrev Z1:=@PySem.call_meets
abbrev Z2:=@PySem.wpAny_pyIter_tuple
namespace L2
variable{H:Hp}{s:Shared}{A:Around}{σ:St}{K:Fg}{pos:Pos}
open PySem PySem.Spec PyProof.Rows
noncomputable abbrev Key:=Sum Int Str
noncomputable def AI:Key->Value->Bool
 |.inl k,v=>Value.isInt k v
 |.inr x,v=>Value.isStrOf x v
noncomputable def aKg(w:World):Key->Int
 |.inl k=>hashInt k
 |.inr x=>hashStr w x
theorem cY:∀{k:Key}{v:Value},AI k v=true->(∃i t,k=Sum.inl i/\v=Value.int i t)\/(∃x t,k=Sum.inr x/\v=Value.str x t)
 |.inl i,v=>fun h=>by
  obtain⟨t,e⟩:=Value.isInt_shape (k:=i) (v:=v) h;exact .inl ⟨i,t,rfl,e⟩
 |.inr x,v=>fun h=>by
  obtain⟨t,e⟩:=Value.isStrOf_shape (x:=x) (v:=v) h;exact .inr ⟨x,t,rfl,e⟩
theorem VL(i:Int)(t:Tok):AI (.inl i) (.int i t)=true:=by simp[AI,Value.isInt]
theorem UC(x:Str)(t:Tok):AI (.inr x) (.str x t)=true:=by simp[AI,Value.isStrOf]
theorem aGu(a b:Int):decide ((Sum.inl a:Key)=Sum.inl b)=(a==b):=by
 by_cases e:a=b
 .subst e;simp
 .have h:¬(Sum.inl a:Key)=Sum.inl b:=fun q=>e (Sum.inl.inj q);rw[C7 h];exact(beq_eq_false_iff_ne.mpr e).symm
theorem aFQ(a b:Str):decide ((Sum.inr a:Key)=Sum.inr b)=decide (a=b):=by
 by_cases e:a=b
 .subst e;simp
 .have h:¬(Sum.inr a:Key)=Sum.inr b:=fun q=>e (Sum.inr.inj q);rw[C7 h,C7 e]
theorem aGD(a:Int)(b:Str):decide ((Sum.inl a:Key)=Sum.inr b)=false:=C7 (fun q=>nomatch q)
theorem aGY(a:Str)(b:Int):decide ((Sum.inr a:Key)=Sum.inl b)=false:=C7 (fun q=>nomatch q)
noncomputable def dY(prog:Program)(w:World):PySem.KeyKind prog w Key where
 is:=AI
 hash:=aKg w
 inj:=fun v a b ha hb=>by
  rcases cY ha with⟨i,t,rfl,rfl⟩|⟨x,t,rfl,rfl⟩
  .rcases cY hb with⟨j,u,rfl,e⟩|⟨y,u,rfl,e⟩
   .injection e with e1 _;rw[e1]
   .exact nomatch e
  .rcases cY hb with⟨j,u,rfl,e⟩|⟨y,u,rfl,e⟩
   .exact nomatch e
   .injection e with e1 _;rw[e1]
 byValue:=fun k v h=>by
  rcases cY h with⟨i,t,rfl,rfl⟩|⟨x,t,rfl,rfl⟩<;>rfl
 pyHash:=fun hv h=>by
  rcases cY hv with⟨i,t,rfl,rfl⟩|⟨x,t,rfl,rfl⟩
  .exact wpAny_pyHash_int h
  .exact wpAny_pyHash_str h
 eqBool:=fun hu hv h=>by
  rcases cY hu with⟨i,t,rfl,rfl⟩|⟨x,t,rfl,rfl⟩
  .rcases cY hv with⟨j,u,rfl,rfl⟩|⟨y,u,rfl,rfl⟩
   .rw[aGu]at h;exact wpAny_eqBool_int h
   .rw[aGD]at h;exact SeqAt.EqAt.int_str i t y u _ _ _ _ h
  .rcases cY hv with⟨j,u,rfl,rfl⟩|⟨y,u,rfl,rfl⟩
   .rw[aGY]at h;exact SeqAt.EqAt.str_int x t j u _ _ _ _ h
   .rw[aFQ]at h;exact wpAny_eqBool_str h
 «strs»:=fun k x t v h=>by
  rcases cY h with⟨i,u,rfl,e⟩|⟨y,u,rfl,e⟩
  .exact nomatch e
  .injection e with e1 _
   subst e1;cases v<;>rfl
theorem JB(prog:Program)(w:World)(i:Int)(t:Tok):(dY prog w).is (.inl i) (.int i t)=true:=VL i t
theorem KW(prog:Program)(w:World)(x:Str)(t:Tok):(dY prog w).is (.inr x) (.str x t)=true:=UC x t
inductive V where
 |non|bl (b:Bool)|int (i:Int)|str (x:Str)|byt (b:Array UInt8)|flt (b:UInt64)|ref (a:Addr)|ty (n:String)
 deriving DecidableEq
noncomputable def RelV:V->Value->Prop
 |.non,u=>u=Value.none
 |.bl b,u=>u=Value.bool b
 |.int i,u=>∃t,u=Value.int i t
 |.str x,u=>∃t,u=Value.str x t
 |.byt b,u=>∃t,u=Value.bytes b t
 |.flt b,u=>∃t,u=Value.float b t
 |.ref a,u=>u=Value.ref a
 |.ty n,u=>u=Value.type n
noncomputable abbrev bF:List V->List Value->Prop:=Paired RelV
theorem bF.length{xs:List V}{us:List Value}(r:bF xs us):xs.length=us.length:=Y3 r
theorem bF.get:∀{xs:List V}{us:List Value}{i:Nat}{x:V},bF xs us->xs[i]?=some x->∃u,us[i]?=some u/\RelV x u
 |_,_,_,_,.nil=>fun e=>by simp at e
 |_,_,0,_,.cons r _=>fun e=>by simp at e;subst e;exact⟨_,rfl,r⟩
 |_,_,i+1,x,.cons _ t=>fun e=>by
  obtain⟨u,h1,h2⟩:=bF.get (i:=i) (x:=x) t (by simpa using e);exact⟨u,by simpa using h1,h2⟩
theorem bF.set{x:V}{u:Value}(r:RelV x u):∀{xs:List V}{us:List Value}(i:Nat),bF xs us->bF (xs.set i x) (us.set i u)
 |_,_,_,.nil=>.nil
 |_,_,0,.cons _ t=>.cons r t
 |_,_,i+1,.cons q t=>.cons q (bF.set r i t)
theorem bF.append:∀{xs ys:List V}{us ws:List Value},bF xs us->bF ys ws->bF (xs++ys) (us++ws)
 |_,_,_,_,.nil=>fun s=>s
 |_,_,_,_,.cons r t=>fun s=>.cons r (bF.append t s)
theorem bF.take:∀{xs:List V}{us:List Value}(n:Nat),bF xs us->bF (xs.take n) (us.take n)
 |_,_,0,_=>.nil
 |_,_,_+1,.nil=>.nil
 |_,_,n+1,.cons r t=>.cons r (bF.take n t)
theorem bF.drop:∀{xs:List V}{us:List Value}(n:Nat),bF xs us->bF (xs.drop n) (us.drop n)
 |_,_,0,r=>r
 |_,_,_+1,.nil=>.nil
 |_,_,n+1,.cons _ t=>bF.drop n t
noncomputable def vT:Option V->Option Value->Prop
 |some v,some u=>RelV v u
 |none,none=>True
 |_,_=>False
noncomputable def KV{κ:Type}:List (κ×V)->List (κ×Value)->Prop:=Paired fun(p:κ×V)(q:κ×Value)=>p.1=q.1/\RelV p.2 q.2
noncomputable def kV:Key->V
 |.inl i=>.int i
 |.inr x=>.str x
inductive HO where
 |lst (xs:List V)
 |tup (xs:List V)
 |dK (kvs:List (Key×V))|dT (kvs:List (List Key×V))
 |set (S:Int->Bool) (n:Nat)
 |ins (C dx:Addr) (fs:List (Str×V))
 |own (x:Addr)
 |xd (fs:List (Str×V))
 |met (f x:Addr)
 |rng (lo hi:Int)
 |frz (o:Obj) (u:HO)
 |tbl (ps:Array Value)
 |ext (φ:Heap->Prop)
noncomputable abbrev Hp:=Addr->Option HO
noncomputable def upd(H:Hp)(a:Addr)(o:HO):Hp:=fun b=>if b=a then some o else H b
theorem aV{a:Addr}{o:HO}:upd H a o a=some o:=by unfold upd;rw[A4 rfl]
theorem aM{a b:Addr}{o:HO}(h:b≠a):upd H a o b=H b:=by unfold upd;rw[A5 h]
theorem xE{a b:Addr}{o u:HO}(h:H a=some o)(h':H b=some u)(d:o≠u):a≠b:=by
 intro e;subst e;rw[h]at h';exact d (D3 h')
theorem aP{a b:Addr}{o:HO}(h:H a=some o)(h':H b=none):a≠b:=by
 intro e;subst e;rw[h]at h';cases h'
section
variable(P:Program)(w:World)
noncomputable def cF(H:Hp)(h:Heap)(a:Addr):HO->Prop
 |.lst xs=>xs.length<=sizeLine/\∃(its:List Value)(n:Nat),bF xs its/\h.get? a=some { cls:=.type "list",data:=.seq its.toArray n }
 |.tup xs=>xs.length<=sizeLine/\∃its:List Value,bF xs its/\IsTup h a its.toArray
 |.dK kvs=>kvs.length<=sizeLine/\(a==sysModules)=false/\∃vs,KV kvs vs/\h.DictOf (dY P w) a vs
 |.dT kvs=>kvs.length<=sizeLine/\(a==sysModules)=false/\∃xs:List (List Key×Addr×Value),
  Paired (fun(p:List Key×V)(q:List Key×Addr×Value)=>p.1=q.1/\H q.2.1=some (.tup (p.1.map kV))/\RelV p.2 q.2.2) kvs xs /\
  ∃o es ep,h.get? a=some o/\o.ExactDict/\o.data=.dict es ep/\es.toList=xs.map (entryOfKey (tupleKind (dY P w)))/\(xs.map (·.1)).Nodup
 |.set S n=>h.SetOf (intKind P w) a S n
 |.ins C dx fs=>H dx=some (.own a)/\fs.length<=1000/\dx≠a/\h.get? a=some (PySem.W.instObj C dx) /\
  ∃mA,h.Ns1 dx mA/\(∀f,vT (fs.lookup f) (mA f))/\PySem.Within mA (fs.map (·.1))
 |.own _=>∃o,h.get? a=some o
 |.xd fs=>∃mA,h.Ns1 a mA/\∀f,vT (fs.lookup f) (mA f)
 |.rng lo hi=>∃t u v,h.get? a=some { cls:=.type "range",data:=.fields #[.int lo t,.int hi u,.int 1 v] }
 |.frz o u=>h.get? a=some o/\cF H h a u
 |.tbl ps=>h.get? a=some { cls:=.none,data:=.fields ps }
 |.met f x=>h.get? a=some (PySem.W.methodObj (.ref f) (.ref x))
 |.ext φ=>φ h/\(∃o,h.get? a=some o)/\∀h1 h2:Heap,φ h1->(∀o,h1.get? a=some o->h2.get? a=some o)->φ h2
noncomputable def HOk(H:Hp)(h:Heap):Prop:=∀a o,H a=some o->cF P w H h a o
end
section
variable{P:Program}{w:World}{H H':Hp}{h h':Heap}{a:Addr}{o:HO}
theorem cF.lt(x:cF P w H h a o):a<h.objs.size:=by
 cases o with
 |lst xs=>obtain⟨_,_,_,_,e⟩:=x;exact A9 e
 |tup xs=>obtain⟨_,_,_,p⟩:=x;exact p.lt
 |dK kvs=>obtain⟨_,_,_,_,o,_,_,e,_⟩:=x;exact A9 e
 |dT kvs=>obtain⟨_,_,_,_,o,_,_,e,_⟩:=x;exact A9 e
 |set S n=>obtain⟨o,_,_,_,e,_⟩:=x;exact A9 e
 |ins C dx fs=>obtain⟨_,_,_,e,_⟩:=x;exact A9 e
 |own y=>obtain⟨_,e⟩:=x;exact A9 e
 |xd fs=>obtain⟨_,⟨_,_,_,e,_⟩,_⟩:=x;exact A9 e
 |rng lo hi=>obtain⟨_,_,_,e⟩:=x;exact A9 e
 |frz ob u=>obtain⟨e,_⟩:=x;exact A9 e
 |tbl ps=>exact A9 (show h.get? a=some _ from x)
 |met f y=>exact A9 (show h.get? a=some _ from x)
 |ext φ=>obtain⟨_,⟨_,e⟩,_⟩:=x;exact A9 e
theorem Paired.mapP{α β:Type}{F G:α->β->Prop}:∀{l₁:List α}{l₂:List β},Paired F l₁ l₂->(∀a b,F a b->G a b)->Paired G l₁ l₂
 |_,_,.nil=>fun _=>.nil
 |_,_,.cons r t=>fun f=>.cons (f _ _ r) (Paired.mapP t f)
theorem cF.stay(x:cF P w H h a o)(k:∀b u,(b=a\/H b=some (.own a))->h.get? b=some u->h'.get? b=some u)
 (ho:∀b,H b=some (.own a)->H' b=some (.own a)) (ht:∀b xs,H b=some (.tup xs)->H' b=some (.tup xs)):cF P w H' h' a o:=by
 induction o with
 |lst xs=>obtain⟨z,its,n,r,e⟩:=x;exact⟨z,its,n,r,k _ _ (.inl rfl) e⟩
 |tup xs=>obtain⟨z,its,r,ob,e,c⟩:=x;exact⟨z,its,r,ob,k _ _ (.inl rfl) e,c⟩
 |dK kvs=>obtain⟨z,y,vs,r,ob,es,ep,e,c⟩:=x;exact⟨z,y,vs,r,ob,es,ep,k _ _ (.inl rfl) e,c⟩
 |dT kvs=>
  obtain⟨z,y,xs,r,ob,es,ep,e,c⟩:=x;exact⟨z,y,xs,Paired.mapP r fun p q z=>⟨z.1,ht _ _ z.2.1,z.2.2⟩,ob,es,ep,k _ _ (.inl rfl) e,c⟩
 |set S n=>obtain⟨ob,es,ep,t,e,c⟩:=x;exact⟨ob,es,ep,t,k _ _ (.inl rfl) e,c⟩
 |ins C dx fs=>
  obtain⟨d,z,ne,e,mA,⟨od,es,ep,e2,c⟩,r⟩:=x;exact⟨ho _ d,z,ne,k _ _ (.inl rfl) e,mA,⟨od,es,ep,k _ _ (.inr d) e2,c⟩,r⟩
 |own y=>obtain⟨ob,e⟩:=x;exact⟨ob,k _ _ (.inl rfl) e⟩
 |xd fs=>obtain⟨mA,⟨od,es,ep,e,c⟩,r⟩:=x;exact⟨mA,⟨od,es,ep,k _ _ (.inl rfl) e,c⟩,r⟩
 |rng lo hi=>obtain⟨t,u,v,e⟩:=x;exact⟨t,u,v,k _ _ (.inl rfl) e⟩
 |frz ob u ih=>obtain⟨e,q⟩:=x;exact⟨k _ _ (.inl rfl) e,ih q⟩
 |tbl ps=>
  have e:h.get? a=some { cls:=.none,data:=.fields ps }:=x;show h'.get? a=some { cls:=.none,data:=.fields ps };exact k a _ (.inl rfl) e
 |met f y=>
  have e:h.get? a=some (PySem.W.methodObj (.ref f) (.ref y)):=x;show h'.get? a=some (PySem.W.methodObj (.ref f) (.ref y));exact k a _ (.inl rfl) e
 |ext φ=>obtain⟨p,⟨o,e⟩,st⟩:=x;exact⟨st _ _ p fun o q=>k _ _ (.inl rfl) q,⟨o,k _ _ (.inl rfl) e⟩,st⟩
theorem HOk.lt(x:HOk P w H h)(e:H a=some o):a<h.objs.size:=(x a o e).lt
theorem HOk.fresh(x:HOk P w H h)(e:h.objs.size<=a):H a=none:=by
 cases q:H a with
 |none=>rfl
 |some u=>exact absurd (B7 (x.lt q) e) (J3 _)
theorem HOk.kept(x:HOk P w H h)(k:∀b u,h.get? b=some u->h'.get? b=some u):HOk P w H h':=fun a o e=>
 (x a o e).stay (fun b u _ q=>k b u q) (fun _ q=>q) fun _ _ q=>q
theorem HOk.laid(x:HOk P w H h)(k:∀b u,h.get? b=some u->h'.get? b=some u)(hp:h.objs.size<=a)(new:cF P w (upd H a o) h' a o):HOk P w (upd H a o) h':=fun b u e=>by
 have hn:=x.fresh hp;by_cases hb:b=a
 .subst hb;rw[aV]at e;cases e;exact new
 .rw[aM hb]at e;exact(x b u e).stay (fun c v _ q=>k c v q) (fun c q=>by rw[aM (aP q hn)];exact q) fun c xs q=>by rw[aM (aP q hn)];exact q
end
noncomputable def Rd(H:Hp)(a:Addr)(u:HO):Prop:=H a=some u\/∃o,H a=some (.frz o u)
theorem Rd.ok{P:Program}{w:World}{h:Heap}{a:Addr}{u:HO}(r:Rd H a u)(x:HOk P w H h):cF P w H h a u:=by
 rcases r with r|⟨o,r⟩
 .exact x a u r
 .obtain⟨_,q⟩:=x a _ r;exact q
noncomputable def Mut:Option HO->Prop
 |some (.lst _)=>True
 |some (.dK _)=>True
 |some (.dT _)=>True
 |some (.set _ _)=>True
 |some (.ins _ _ _)=>True
 |some (.ext _)=>True
 |_=>False
section
variable{P:Program}{w:World}{H:Hp}{h h':Heap}{x e:Addr}{o':HO}
theorem HOk.write(ok:HOk P w H h)(mu:Mut (H x))(he:e=x\/H e=some (.own x))(k:∀b u,b≠e->h.get? b=some u->h'.get? b=some u)(heo:∃u,h'.get? e=some u)
 (new:cF P w (upd H x o') h' x o'):HOk P w (upd H x o') h':=fun b u q=>by
 have nown:∀c y,H c=some (.own y)->c≠x:=fun c y r z=>by subst z;rw[r]at mu;exact mu
 have ntup:∀c xs,H c=some (.tup xs)->c≠x:=fun c xs r z=>by subst z;rw[r]at mu;exact mu
 by_cases hb:b=x
 .subst hb;rw[aV]at q;cases q;exact new
 .rw[aM hb]at q;by_cases hbe:b=e
  .have q':H b=some (.own x):=by
    rcases he with z|z
    .exact absurd (hbe.trans z) hb
    .rw[hbe];exact z
   rw[q]at q';cases q';obtain⟨v,hv⟩:=heo;exact⟨v,by rw[hbe];exact hv⟩
  .refine(ok b u q).stay (fun c v hc r=>k c v ?_ r) (fun c r=>by rw[aM (nown c b r)];exact r) fun c xs r=>by rw[aM (ntup c xs r)];exact r
   rcases hc with rfl|hc
   .exact hbe
   .rintro rfl;rcases he with z|z
    .exact nown c b hc z
    .rw[hc]at z;cases z;exact hb rfl
end
structure Un(fs ex:List Addr)(H H':Hp)(h h':Heap):Prop where
 keep:∀b o,h.get? b=some o->H b=none->b∉fs->b∉ex->h'.get? b=some o
 slot:∀b o,h.get? b=some o->H b=none->b∈fs->b∉ex->∃sl,h'.get? b=some { o with slots:=sl }
 free:∀b o,h.get? b=some o->H b=none->b∉ex->H' b=none
 there:∀b o,h.get? b=some o->b∉ex->∃o',h'.get? b=some o'
 tups:∀b xs,H b=some (.tup xs)->H' b=some (.tup xs)
 frzs:∀b o u,H b=some (.frz o u)->H' b=some (.frz o u)
 tbls:∀b ps,H b=some (.tbl ps)->∃more,H' b=some (.tbl (ps++more))
section
variable{fs fs' ex ex':List Addr}{H H1 H2:Hp}{h h1 h2 h':Heap}{a x e:Addr}{o:HO}
theorem Un.any(u:Un fs ex H H1 h h1){b:Addr}{ob:Obj}(q:h.get? b=some ob)(n:H b=none)(hx:b∉ex):∃sl,h1.get? b=some { ob with slots:=sl }:=by
 by_cases hb:b∈fs
 .exact u.slot b ob q n hb hx
 .exact⟨ob.slots,u.keep b ob q n hb hx⟩
theorem Un.kept(k:∀b u,h.get? b=some u->h'.get? b=some u):Un fs ex H H h h':=
 ⟨fun b ob q _ _ _=>k b ob q,fun b ob q _ _ _=>⟨ob.slots,k b ob q⟩,fun _ _ _ n _=>n,fun b ob q _=>⟨ob,k b ob q⟩,fun _ _ q=>q,fun _ _ _ q=>q,fun _ ps q=>⟨#[],by rw[q];simp⟩⟩
theorem Un.refl:Un fs ex H H h h:=Un.kept fun _ _ q=>q
theorem Un.laid(k:∀b u,h.get? b=some u->h'.get? b=some u)(hp:h.objs.size<=a)(hn:H a=none):Un fs ex H (upd H a o) h h' where
 keep:=fun b u q _ _ _=>k b u q
 slot:=fun b u q _ _ _=>⟨u.slots,k b u q⟩
 free:=fun b u q n _=>by rw[aM (B5 (B7 (A9 q) hp))];exact n
 there:=fun b u q _=>⟨u,k b u q⟩
 tups:=fun b xs q=>by rw[aM (aP q hn)];exact q
 frzs:=fun b u xs q=>by rw[aM (aP q hn)];exact q
 tbls:=fun b ps q=>⟨#[],by rw[aM (aP q hn),q];simp⟩
theorem Un.write(mu:Mut (H x))(he:e=x\/H e=some (.own x))(k:∀b u,b≠e->h.get? b=some u->h'.get? b=some u)(heo:∃u,h'.get? e=some u):Un fs ex H (upd H x o) h h':=by
 have hx:∀b,H b=none->b≠x:=fun b n z=>by subst z;rw[n]at mu;exact mu
 have hb:∀b,H b=none->b≠e:=fun b n z=>by
  subst z;rcases he with r|r
  .exact hx b n r
  .rw[n]at r;cases r
 have hm:∀b u,H b=some u->¬Mut (some u)->b≠x:=fun b u q nm z=>by subst z;rw[q]at mu;exact nm mu
 refine⟨fun b u q n _ _=>k b u (hb b n) q,fun b u q n _ _=>⟨u.slots,k b u (hb b n) q⟩,fun b u q n _=>by rw[aM (hx b n)];exact n,fun b u q _=>?_,
  fun b xs q=>by rw[aM (hm b _ q fun z=>z)];exact q,fun b u xs q=>by rw[aM (hm b _ q fun z=>z)];exact q,fun b ps q=>⟨#[],by rw[aM (hm b _ q fun z=>z),q];simp⟩⟩
 by_cases hbe:b=e
 .subst hbe;exact heo
 .exact⟨u,k b u hbe q⟩
end
noncomputable def trk(h:Heap)(H:Hp):List Addr:=(List.range h.objs.size).filter fun a=>(H a).isSome
noncomputable def GX(h:Heap)(H:Hp):Heap:=PySem.W.hideAll h (trk h H)
theorem UU(h:Heap)(H:Hp):(GX h H).objs.size=h.objs.size:=PySem.W.hideAll_size _ _
theorem XE{h:Heap}{b:Addr}{o:Obj}(e:h.get? b=some o)(n:H b=none):(GX h H).get? b=some o:=
 PySem.W.hideAll_get _ e fun hm=>by
  have q:(H b).isSome=true:=(List.mem_filter.mp hm).2;rw[n]at q;simp at q
theorem aDS{h:Heap}{b:Addr}{o:Obj}(e:(GX h H).get? b=some o):h.get? b=some o/\H b=none:=by
 have e':h.get? b=some o:=PySem.W.of_hideAll (trk h H) e;refine⟨e',?_⟩;cases q:H b with
 |none=>rfl
 |some x=>
  have hm:b∈trk h H:=List.mem_filter.mpr ⟨List.mem_range.mpr (A9 e'),by simp[q]⟩;have z:(GX h H).get? b=none:=PySem.W.hideAll_none (trk h H) hm;rw[z]at e;cases e
noncomputable def qY(g h:Heap)(L:Addr):List (Addr×Obj):=(List.range h.objs.size).filterMap fun a=>if a=L\/(g.get? a).isSome=true then none else(h.get? a).map fun o=>(a,o)
theorem wC{g h:Heap}{L a:Addr}{o:Obj}(h1:a≠L)(h2:g.get? a=none)(h3:h.get? a=some o):(a,o)∈qY g h L:=
 List.mem_filterMap.mpr ⟨a,List.mem_range.mpr (A9 h3),by simp[h1,h2,h3]⟩
theorem yO{g h:Heap}{L:Addr}{p:Addr×Obj}(hp:p∈qY g h L):p.1≠L/\g.get? p.1=none/\h.get? p.1=some p.2:=by
 obtain⟨b,_,e⟩:=List.mem_filterMap.mp hp;split at e
 .cases e
 .rename_i hn;cases q:h.get? b with
  |none=>rw[q]at e;simp at e
  |some u=>
   rw[q]at e;simp only[Option.map_some,Option.some.injEq]at e;subst e;refine⟨fun z=>hn (.inl z),?_,q⟩;show g.get? b=none;cases r:g.get? b with
   |none=>rfl
   |some v=>exact(hn (.inr (by simp[r]))).elim
noncomputable def rest(g h:Heap)(L d:Addr):List (Addr×Obj):=(qY g h L).filter fun p=>decide (p.1≠d)
theorem aAG{g h:Heap}{L:Addr}:News g L h (qY g h L):=fun p hp=>let⟨a,b,c⟩:=yO hp;⟨c,a,b⟩
structure Mod(K:Fg)(mg:Str->Option Value)(base:Heap):Prop where
 kin:K.In base
 glob:base.Ns mainGlobals mg
 blt:∃mb,base.Ns builtinsNs mb/\∀x:Str,x≠"__name__"->mb x=bootBuiltins x
 nolimit:base.NoLimit
 sysm:∃o es ep,base.get? sysModules=some o/\o.data=.dict es ep
structure Cx where
 prog:Program
 w:World
 K:Fg
 mg:Str->Option Value
 base:Heap
 A:Around
 N:List Str
 s₀:Shared
 H₀:Hp
 env:Env
 outer:List Env
 stack:List Env
 ex:List Addr
 fn:Str->Bool
 calm:Bool
 pn:List (Addr×Obj)
 xe:Value->Shared->Prop
noncomputable def frs(l:List Env):List Addr:=l.filterMap (·.frame)
noncomputable abbrev Cx.fs(X:Cx):List Addr:=frs X.outer
noncomputable def Vis(sc:Scope)(x:Str):Prop:=sc.names.lookup x=some .local\/sc.names.lookup x=some .cell\/sc.names.lookup x=some .free
noncomputable def Loc(sc:Scope)(x:Str):Prop:=sc.names.lookup x=some .local\/sc.names.lookup x=some .cell
noncomputable def Look(env:Env)(h:Heap)(m:Str->Option Value)(x:Str)(u:Value):Prop:=
 (env.kindOf x=some .local/\m x=some u)\/((env.kindOf x=some .cell\/env.kindOf x=some .free)/\∃c,env.cells.lookup x=some c/\h.IsCell c (some u))
structure Cx.Ok(X:Cx):Prop where
 mod:Mod X.K X.mg X.base
 kind:X.env.scope.kind=.function
 glob:X.env.globals=mainGlobals
 blt:X.env.builtins=builtinsNs
 above:X.s₀.heap.objs.size<=X.env.locals
 inj:∀x y c,X.env.cells.lookup x=some c->X.env.cells.lookup y=some c->x=y
 has:∀x,(X.env.kindOf x=some .cell\/X.env.kindOf x=some .free)->∃c,X.env.cells.lookup x=some c
 cab:∀x c,X.fn x=true->X.env.cells.lookup x=some c->X.s₀.heap.objs.size<=c
 hd:X.calm=true->X.A.handled=none
 frames:X.A.frames=some X.stack
 stk:X.stack=X.outer\/(X.stack=X.env::X.outer/\X.env.frame=some X.env.locals)
 exf:∀b∈X.ex,b≠X.env.locals/\∀x c,X.env.cells.lookup x=some c->c≠b
 bs:∀b o,X.base.get? b=some o->X.s₀.heap.get? b=some o/\X.H₀ b=none
 bsz:X.base.objs.size<=X.s₀.heap.objs.size
 noex:∀b o,X.base.get? b=some o->b∉X.ex
 exfs:∀b∈X.ex,b∉X.fs
 funs:X.s₀.heap.FunFrames X.base X.outer
 frf:∀b∈X.fs,X.H₀ b=none
structure Inv(X:Cx)(pins:List (Addr×Obj))(σ:List (Option V))(H:Hp)(s:Shared):Prop where
 ok:X.Ok
 os:s.os=X.s₀.os
 bare:AllBare s.gens
 base:Un X.fs X.ex X.H₀ H X.s₀.heap s.heap
 loc:∃m,s.heap.Ns X.env.locals m/\∀(i:Nat)(x:Str)(v:V),X.N[i]?=some x->σ[i]?=some (some v)->Vis X.env.scope x->∃u,RelV v u/\Look X.env s.heap m x u
 cell:∀x c,X.env.cells.lookup x=some c->∃v,s.heap.IsCell c v
 free:H X.env.locals=none
 freeC:∀x c,X.env.cells.lookup x=some c->H c=none
 pin:∀p∈X.pn++pins,s.heap.get? p.1=some p.2/\H p.1=none/\p.1≠X.env.locals/\p.1∉X.fs/\∀v,p.2.data≠.cell v
 hok:HOk X.prog X.w H s.heap
 len:σ.length=X.N.length
section
variable{X:Cx}{pins:List (Addr×Obj)}{σ:List (Option V)}{H H':Hp}{s:Shared}{h':Heap}
theorem Cx.Ok.nofr(ok:X.Ok){b:Addr}{o:Obj}(e:X.base.get? b=some o):b∉X.fs:=fun hb=>by
 have:=(ok.funs.mem hb).1;rw[e]at this;cases this
theorem Inv.bs(I:Inv X pins σ H s):∀b o,X.base.get? b=some o->s.heap.get? b=some o/\H b=none:=fun b o e=>
 ⟨I.base.keep b o (I.ok.bs b o e).1 (I.ok.bs b o e).2 (I.ok.nofr e) (I.ok.noex b o e),I.base.free b o (I.ok.bs b o e).1 (I.ok.bs b o e).2 (I.ok.noex b o e)⟩
theorem Inv.bk(I:Inv X pins σ H s):∀b o,X.base.get? b=some o->s.heap.get? b=some o:=fun b o e=>(I.bs b o e).1
theorem Inv.mod(I:Inv X pins σ H s):Mod X.K X.mg X.base:=I.ok.mod
theorem Inv.kIn(I:Inv X pins σ H s):X.K.In s.heap:=I.ok.mod.kin.keeps I.bk
theorem Inv.fr(I:Inv X pins σ H s):∃m,Fr X.base X.env.locals s.heap m:=
 let⟨m,hn,_⟩:=I.loc
 ⟨m,hn,I.bk,C9 I.ok.bsz I.ok.above⟩
theorem Inv.lt(I:Inv X pins σ H s):X.env.locals<s.heap.objs.size:=let⟨_,hn,_⟩:=I.loc;hn.lt
theorem Inv.sz(I:Inv X pins σ H s):X.s₀.heap.objs.size<=s.heap.objs.size:=C9 I.ok.above (U3 I.lt)
theorem Inv.nofs(I:Inv X pins σ H s){a:Addr}(h:s.heap.objs.size<=a):a∉X.fs:=fun hb=>by
 obtain⟨_,o,ho,_⟩:=I.ok.funs.mem hb;exact absurd (B7 (A9 ho) (C9 I.sz h)) (J3 _)
theorem Inv.cne(I:Inv X pins σ H s):∀x c,X.env.cells.lookup x=some c->c≠X.env.locals:=fun x c e z=>by
 obtain⟨v,o,ho,hd⟩:=I.cell x c e;obtain⟨m,⟨o',es,ep,ho',hd',_⟩,_⟩:=I.loc;rw[z,ho']at ho;cases ho;rw[hd']at hd;cases hd
theorem Inv.funs(I:Inv X pins σ H s):s.heap.FunFrames X.base X.outer:=by
 have all:∀(l:List Env),(∀b∈frs l,b∈X.fs)->X.s₀.heap.FunFrames X.base l->s.heap.FunFrames X.base l:=by
  intro l
  induction l with
  |nil=>intro _ _;trivial
  |cons env r ih=>
   intro hs hl;obtain⟨hk,⟨L,o,hf,hn,ho,hd⟩,hr⟩:=hl;have hL:L∈X.fs:=hs L (by unfold frs;rw[List.filterMap_cons,hf];exact B0);obtain⟨sl,e⟩:=I.base.slot L o ho (I.ok.frf L hL) hL fun z=>I.ok.exfs L z hL;exact⟨hk,⟨L,_,hf,hn,e,hd⟩,ih (fun b hb=>hs b (by unfold frs;rw[List.filterMap_cons,hf];exact B1 _ hb)) hr⟩
 exact all X.outer (fun _ hb=>hb) I.ok.funs
theorem Inv.stack(I:Inv X pins σ H s):s.heap.FunFrames X.base X.stack:=by
 rcases I.ok.stk with e|⟨e,hf⟩
 .rw[e];exact I.funs
 .rw[e];obtain⟨m,hn,_⟩:=I.loc;refine .cons (by rw[I.ok.kind];decide) hf hn ?_ I.funs;exact S9 (C9 I.ok.bsz I.ok.above)
theorem Inv.stkSub(I:Inv X pins σ H s):∀b∈frs X.stack,b∈X.env.locals::X.fs:=fun b hb=>by
 rcases I.ok.stk with e|⟨e,hf⟩
 .rw[e]at hb;exact B1 _ hb
 .rw[e]at hb;unfold frs at hb;rw[List.filterMap_cons,hf]at hb;exact hb
theorem Inv.stkFree(I:Inv X pins σ H s):∀b∈frs X.stack,H b=none:=fun b hb=>by
 rcases List.mem_cons.mp (I.stkSub b hb)with e|hb
 .rw[e];exact I.free
 .obtain⟨_,o,ho,_⟩:=I.ok.funs.mem hb;exact I.base.free b o ho (I.ok.frf b hb) fun z=>I.ok.exfs b z hb
theorem Inv.step{g':Array GenState}{t':Nat}{d':Drawn}{ch:List Addr}(I:Inv X pins σ H s)
 (hch:∀b∈ch,(b∈X.ex\/X.s₀.heap.objs.size<=b)/\b≠X.env.locals/\(∀x c,X.env.cells.lookup x=some c->c≠b)/\∀p∈X.pn++pins,p.1≠b)
 (keep:∀b o,b≠X.env.locals->b∉X.fs->b∉ch->s.heap.get? b=some o->H b=none->h'.get? b=some o)
 (slot:∀b o,b≠X.env.locals->b∈X.fs->b∉ch->s.heap.get? b=some o->H b=none->∃sl,h'.get? b=some { o with slots:=sl }) (free:∀b o,b∉ch->s.heap.get? b=some o->H b=none->H' b=none)
 (there:∀b o,b∉ch->s.heap.get? b=some o->∃o',h'.get? b=some o')
 (tups:∀b xs,H b=some (.tup xs)->H' b=some (.tup xs)) (frzs:∀b o u,H b=some (.frz o u)->H' b=some (.frz o u)) (tbls:∀b ps,H b=some (.tbl ps)->∃more,H' b=some (.tbl (ps++more)))
 (ns:∀m,s.heap.Ns X.env.locals m->h'.Ns X.env.locals m) (hok:HOk X.prog X.w H' h') (hg:AllBare g'):
 Inv X pins σ H' { s with heap:=h',gens:=g',drawn:=d',toks:=t' }:=by
 have neL:∀b o,X.s₀.heap.get? b=some o->b≠X.env.locals:=fun b o e=>B5 (B7 (A9 e) I.ok.above)
 have neC:∀b o,X.s₀.heap.get? b=some o->b∉X.ex->b∉ch:=fun b o e hx hb=>by
  rcases (hch b hb).1 with z|z
  .exact hx z
  .exact absurd (B7 (A9 e) z) (J3 _)
 have cellK:∀x c,X.env.cells.lookup x=some c->∀v,s.heap.IsCell c v->h'.IsCell c v:=fun x c e v ⟨o,ho,hd⟩=>by
  have nch:c∉ch:=fun z=>(hch c z).2.2.1 x c e rfl;by_cases hc:c∈X.fs
  .obtain⟨sl,q⟩:=slot c o (I.cne x c e) hc nch ho (I.freeC x c e);exact⟨_,q,hd⟩
  .exact⟨o,keep c o (I.cne x c e) hc nch ho (I.freeC x c e),hd⟩
 refine⟨I.ok,I.os,hg,⟨fun b o e n hb hx=>?_,fun b o e n hb hx=>?_,fun b o e n hx=>?_,fun b o e hx=>?_,fun b xs e=>tups b xs (I.base.tups b xs e),fun b o xs e=>frzs b o xs (I.base.frzs b o xs e),fun b ps e=>?_⟩,?_,fun x c e=>?_,?_,fun x c e=>?_,fun p hp=>?_,hok,I.len⟩
 .exact keep b o (neL b o e) hb (neC b o e hx) (I.base.keep b o e n hb hx) (I.base.free b o e n hx)
 .obtain⟨sl,e1⟩:=I.base.slot b o e n hb hx;obtain⟨sl',e2⟩:=slot b _ (neL b o e) hb (neC b o e hx) e1 (I.base.free b o e n hx);exact⟨sl',e2⟩
 .obtain⟨o',e1⟩:=I.base.there b o e hx;exact free b o' (neC b o e hx) e1 (I.base.free b o e n hx)
 .obtain⟨o',e1⟩:=I.base.there b o e hx;exact there b o' (neC b o e hx) e1
 .obtain⟨m1,e1⟩:=I.base.tbls b ps e;obtain⟨m2,e2⟩:=tbls b _ e1;exact⟨m1++m2,by rw[e2,Array.append_assoc]⟩
 .obtain⟨m,hn,hl⟩:=I.loc;refine⟨m,ns m hn,fun i x v e1 e2 e3=>?_⟩;obtain⟨u,r,l⟩:=hl i x v e1 e2 e3;refine⟨u,r,?_⟩;rcases l with l|⟨k,c,e,z⟩
  .exact .inl l
  .exact .inr ⟨k,c,e,cellK x c e _ z⟩
 .obtain⟨v,z⟩:=I.cell x c e;exact⟨v,cellK x c e v z⟩
 .obtain⟨m,⟨o,_,_,ho,_⟩,_⟩:=I.loc;exact free _ o (fun z=>(hch _ z).2.1 rfl) ho I.free
 .obtain⟨v,o,ho,hd⟩:=I.cell x c e;exact free c o (fun z=>(hch c z).2.2.1 x c e rfl) ho (I.freeC x c e)
 .obtain⟨e,n,ne,nf,d⟩:=I.pin p hp;have nch:p.1∉ch:=fun z=>(hch p.1 z).2.2.2 p hp rfl;exact⟨keep p.1 p.2 ne nf nch e n,free p.1 p.2 nch e n,ne,nf,d⟩
theorem Inv.un{t':Nat}(I:Inv X pins σ H s)(u:Un X.fs [] H H' s.heap h')(hok:HOk X.prog X.w H' h'):Inv X pins σ H' { s with heap:=h',toks:=t' }:=by
 obtain⟨m,⟨o,es,ep,ho,r⟩,_⟩:=id I.loc;obtain⟨sl,hL⟩:=u.any ho I.free (by simp)
 exact I.step (g':=s.gens) (d':=s.drawn) (ch:=[]) (fun _ z=>nomatch z) (fun b o _ hb _ e n=>u.keep b o e n hb (by simp)) (fun b o _ hb _ e n=>u.slot b o e n hb (by simp)) (fun b o _ e n=>u.free b o e n (by simp)) (fun b o _ e=>u.there b o e (by simp)) u.tups u.frzs u.tbls (fun m' hm=>by
  obtain⟨o',es',ep',ho',r'⟩:=hm;rw[ho]at ho';cases ho';exact⟨_,es',ep',hL,r'⟩) hok I.bare
theorem Inv.call{g':Array GenState}{t':Nat}{d':Drawn}{ch:List Addr}(I:Inv X pins σ H s)(u:Un (frs X.stack) ch H H' s.heap h')(hok:HOk X.prog X.w H' h')(hg:AllBare g')
 (hch:∀b∈ch,(b∈X.ex\/X.s₀.heap.objs.size<=b)/\b≠X.env.locals/\(∀x c,X.env.cells.lookup x=some c->c≠b)/\∀p∈X.pn++pins,p.1≠b):
 Inv X pins σ H' { s with heap:=h',gens:=g',drawn:=d',toks:=t' }:=by
 obtain⟨m,⟨o,es,ep,ho,r⟩,_⟩:=id I.loc;obtain⟨sl,hL⟩:=u.any ho I.free fun z=>(hch _ z).2.1 rfl
 exact I.step (ch:=ch) hch (fun b o hL hb hc e n=>u.keep b o e n (fun z=>(List.mem_cons.mp (I.stkSub b z)).elim hL hb) hc) (fun b o _ _ hc e n=>u.any e n hc) (fun b o hc e n=>u.free b o e n hc) (fun b o hc e=>u.there b o e hc) u.tups u.frzs u.tbls (fun m' hm=>by
  obtain⟨o',es',ep',ho',r'⟩:=hm;rw[ho]at ho';cases ho';exact⟨_,es',ep',hL,r'⟩) hok hg
theorem Inv.turned{t':Nat}{it:Addr}(I:Inv X pins σ H s)(k:∀b o,b≠it->s.heap.get? b=some o->h'.get? b=some o)(hn:H it=none)(hL:it≠X.env.locals)
 (h1:it∈X.ex\/X.s₀.heap.objs.size<=it) (h2:∀x c,X.env.cells.lookup x=some c->c≠it) (h3:∀p∈X.pn++pins,p.1≠it):Inv X pins σ H { s with heap:=h',toks:=t' }:=by
 have nit:∀b u,H b=some u->b≠it:=fun b u e z=>by rw[z,hn]at e;cases e
 refine I.step (g':=s.gens) (d':=s.drawn) (ch:=[it]) (fun b hb=>?_) (fun b o _ _ hc e _=>k b o (fun z=>hc (by simp[z])) e) (fun b o _ _ hc e _=>⟨o.slots,k b o (fun z=>hc (by simp[z])) e⟩) (fun _ _ _ _ n=>n)
  (fun b o hc e=>⟨o,k b o (fun z=>hc (by simp[z])) e⟩) (fun _ _ e=>e) (fun _ _ _ e=>e) (fun b ps e=>⟨#[],by rw[e];simp⟩) (fun m hm=>?_) (fun b u e=>?_) I.bare
 .have e:b=it:=by simpa using hb
  subst e;exact⟨h1,hL,h2,h3⟩
 .obtain⟨o,es,ep,ho,r⟩:=hm;exact⟨o,es,ep,k _ o (F7 hL) ho,r⟩
 .refine(I.hok b u e).stay (fun c v hc q=>k c v ?_ q) (fun _ q=>q) fun _ _ q=>q;rcases hc with z|z
  .rw[z];exact nit b u e
  .exact nit c _ z
theorem Inv.tok(I:Inv X pins σ H s)(t:Nat):Inv X pins σ H { s with toks:=t }:=I.un (h':=s.heap) (t':=t) Un.refl I.hok
theorem Inv.kept{t':Nat}(I:Inv X pins σ H s)(k:∀b u,s.heap.get? b=some u->h'.get? b=some u):Inv X pins σ H { s with heap:=h',toks:=t' }:=I.un (Un.kept k) (I.hok.kept k)
theorem Inv.laid{a:Addr}{o:HO}{t':Nat}(I:Inv X pins σ H s)(k:∀b u,s.heap.get? b=some u->h'.get? b=some u)(hp:s.heap.objs.size<=a)(new:cF X.prog X.w (upd H a o) h' a o):
 Inv X pins σ (upd H a o) { s with heap:=h',toks:=t' }:=I.un (Un.laid k hp (I.hok.fresh hp)) (I.hok.laid k hp new)
theorem Inv.write{x e:Addr}{o:HO}{t':Nat}(I:Inv X pins σ H s)(mu:Mut (H x))(he:e=x\/H e=some (.own x))(k:∀b u,b≠e->s.heap.get? b=some u->h'.get? b=some u)(heo:∃u,h'.get? e=some u)
 (new:cF X.prog X.w (upd H x o) h' x o):Inv X pins σ (upd H x o) { s with heap:=h',toks:=t' }:=I.un (Un.write mu he k heo) (I.hok.write mu he k heo new)
theorem Inv.pins_of{pins':List (Addr×Obj)}(I:Inv X pins σ H s)(h:∀p∈pins',s.heap.get? p.1=some p.2/\H p.1=none/\p.1≠X.env.locals/\p.1∉X.fs/\∀v,p.2.data≠.cell v):Inv X pins' σ H s:=
 ⟨I.ok,I.os,I.bare,I.base,I.loc,I.cell,I.free,I.freeC,fun p hp=>(List.mem_append.mp hp).elim (fun z=>I.pin p (E4 _ z)) (h p),I.hok,I.len⟩
theorem zV{N:List Str}(hN:N.Nodup){i j:Nat}{x:Str}(a:N[i]?=some x)(b:N[j]?=some x):i=j:=by
 obtain⟨h1,e1⟩:=List.getElem?_eq_some_iff.mp a;obtain⟨h2,e2⟩:=List.getElem?_eq_some_iff.mp b;exact(List.getElem_inj hN).mp (e1.trans e2.symm)
theorem DH{M:Model}{A:Around}{E:Value->Shared->Prop}{i:Nat}{x:Str}{v:V}{u:Value}{Q:Unit->Shared->Prop}(I:Inv X pins σ H s)(hN:X.N.Nodup)(hi:X.N[i]?=some x)(hx:Loc X.env.scope x)(r:RelV v u)
 (h:∀s',Inv X pins (σ.set i (some v)) H s'->(∃a,Heap.SameBut a s.heap s'.heap/\(a=X.env.locals\/X.env.cells.lookup x=some a))->Q () s') (hf:X.fn x=true\/X.env.scope.names.lookup x=some .local:=by first|exact .inl rfl|exact .inr rfl|assumption):wpAny M A (storeName X.env x u) Q E s:=by
 obtain⟨m,hn,hl⟩:=id I.loc;have hcls:(X.env.scope.kind==.class || (X.env.scope.kind==.module&&X.env.locals != X.env.globals))=false:=by rw[I.ok.kind];rfl
 have hiσ:i<σ.length:=by rw[I.len];exact(List.getElem?_eq_some_iff.mp hi).1
 have cne:=I.cne
 have tracked:∀{a:Addr}{h':Heap},(∃o,s.heap.get? a=some o/\H a=none)->Heap.SameBut a s.heap h'->HOk X.prog X.w H h':=fun{a h'} ha hs b ob e=>by
  obtain⟨_,_,hfree⟩:=ha;refine(I.hok b ob e).stay (fun c w' hc q=>(hs.2 c ?_).trans q) (fun _ q=>q) fun _ _ q=>q;rintro rfl;rcases hc with rfl|hc
  .rw[hfree]at e;cases e
  .rw[hfree]at hc;cases hc
 rcases hx with hk|hk
 .refine wpAny_storeName_local hk hn (fun h' hn' hs=>?_) hcls;obtain⟨oL,_,_,hoL,_⟩:=id hn;refine h _ ⟨I.ok,I.os,I.bare,⟨fun b o e n hb hx=>?_,fun b o e n hb hx=>?_,I.base.free,fun b o e hx=>?_,I.base.tups,I.base.frzs,I.base.tbls⟩,⟨_,hn',fun j y v' e1 e2 e3=>?_⟩,fun y c e=>?_,I.free,I.freeC,fun p hp=>?_,tracked ⟨oL,hoL,I.free⟩ hs,by simpa using I.len⟩ ⟨_,hs,.inl rfl⟩
  .exact(hs.2 b (B5 (B7 (A9 e) I.ok.above))).trans (I.base.keep b o e n hb hx)
  .obtain⟨sl,e1⟩:=I.base.slot b o e n hb hx;exact⟨sl,(hs.2 b (B5 (B7 (A9 e) I.ok.above))).trans e1⟩
  .obtain⟨o',e1⟩:=I.base.there b o e hx;exact⟨o',(hs.2 b (B5 (B7 (A9 e) I.ok.above))).trans e1⟩
  .by_cases hj:j=i
   .subst hj;rw[hi]at e1;cases e1;rw[D8 hiσ]at e2;cases e2;exact⟨u,r,.inl ⟨hk,by simp⟩⟩
   .rw[J1 (F7 hj)]at e2;obtain⟨u',r',q⟩:=hl j y v' e1 e2 e3;refine⟨u',r',?_⟩;rcases q with⟨k,e⟩|⟨k,c,e,z⟩
    .refine .inl ⟨k,?_⟩;have:y≠x:=fun e=>hj (zV hN e1 (e▸hi));simp[this,e]
    .exact .inr ⟨k,c,e,z.sameBut hs (cne y c e)⟩
  .obtain⟨w',z⟩:=I.cell y c e;exact⟨w',z.sameBut hs (cne y c e)⟩
  .obtain⟨e,n,ne,nf,d⟩:=I.pin p hp;exact⟨(hs.2 p.1 ne).trans e,n,ne,nf,d⟩
 .have hfn:X.fn x=true:=by
   rcases hf with z|z
   .exact z
   .rw[z]at hk;cases hk
  obtain⟨c,hc⟩:=I.ok.has x (.inl hk);obtain⟨w',z⟩:=I.cell x c hc;refine wpAny_storeName_cell I.ok.kind hk hc z (fun h' hc' hs=>?_);obtain⟨oc,hoc,hocd⟩:=id z;refine h { s with heap:=h' } ⟨I.ok,I.os,I.bare,⟨fun b o e n hb hx=>?_,fun b o e n hb hx=>?_,I.base.free,fun b o e hx=>?_,I.base.tups,I.base.frzs,I.base.tbls⟩,⟨m,hn.sameBut hs (F7 (cne x c hc)),fun j y v' e1 e2 e3=>?_⟩,fun y c' e=>?_,I.free,I.freeC,fun p hp=>?_,tracked ⟨oc,hoc,I.freeC x c hc⟩ hs,by simpa using I.len⟩ ⟨c,hs,.inr hc⟩
  .exact(hs.2 b (B5 (B7 (A9 e) (I.ok.cab x c hfn hc)))).trans (I.base.keep b o e n hb hx)
  .obtain⟨sl,e1⟩:=I.base.slot b o e n hb hx;exact⟨sl,(hs.2 b (B5 (B7 (A9 e) (I.ok.cab x c hfn hc)))).trans e1⟩
  .obtain⟨o',e1⟩:=I.base.there b o e hx;exact⟨o',(hs.2 b (B5 (B7 (A9 e) (I.ok.cab x c hfn hc)))).trans e1⟩
  .by_cases hj:j=i
   .subst hj;rw[hi]at e1;cases e1;rw[D8 hiσ]at e2;cases e2;exact⟨u,r,.inr ⟨.inl hk,c,hc,hc'⟩⟩
   .rw[J1 (F7 hj)]at e2;obtain⟨u',r',q⟩:=hl j y v' e1 e2 e3;refine⟨u',r',?_⟩;rcases q with q|⟨k,c',e,z'⟩
    .exact .inl q
    .refine .inr ⟨k,c',e,z'.sameBut hs ?_⟩;rintro rfl;exact hj (zV hN e1 (I.ok.inj _ _ _ e hc▸hi))
  .by_cases hcc:c'=c
   .subst hcc;exact⟨_,hc'⟩
   .obtain⟨w2,z2⟩:=I.cell y c' e;exact⟨w2,z2.sameBut hs hcc⟩
  .obtain⟨e,n,ne,nf,d⟩:=I.pin p hp;refine⟨(hs.2 p.1 ?_).trans e,n,ne,nf,d⟩;intro q;rw[q,hoc]at e;have q':oc=p.2:=D3 e;exact d w' (by rw[<- q'];exact hocd)
theorem qC{M:Model}{A:Around}{E:Value->Shared->Prop}{i:Nat}{x:Str}{v:V}{u:Value}{Q:Unit->Shared->Prop}(I:Inv X pins σ H s)(hN:X.N.Nodup)(hi:X.N[i]?=some x)(hx:Loc X.env.scope x)(r:RelV v u)
 (h:∀s',Inv X pins (σ.set i (some v)) H s'->Q () s') (hf:X.fn x=true\/X.env.scope.names.lookup x=some .local:=by first|exact .inl rfl|exact .inr rfl|assumption):wpAny M A (storeName X.env x u) Q E s:=
 DH I hN hi hx r (fun s' I' _=>h s' I') hf
theorem Inv.call'{s':Shared}{ch:List Addr}(I:Inv X pins σ H s)(ho:s'.os=s.os)(u:Un (frs X.stack) ch H H' s.heap s'.heap)(hok:HOk X.prog X.w H' s'.heap)(hg:AllBare s'.gens)
 (hch:∀b∈ch,(b∈X.ex\/X.s₀.heap.objs.size<=b)/\b≠X.env.locals/\(∀x c,X.env.cells.lookup x=some c->c≠b)/\∀p∈X.pn++pins,p.1≠b):Inv X pins σ H' s':=by
 obtain⟨h',g',d',t',o'⟩:=s';have e:o'=s.os:=ho;subst e;exact I.call (g':=g') (t':=t') (d':=d') u hok hg hch
end
noncomputable abbrev XK:=Value->Option Addr->Hp->Prop
noncomputable abbrev St:=List (Option V)
noncomputable abbrev VK:=V->Hp->Prop
noncomputable abbrev TE:=St->Hp->VK->Prop
noncomputable abbrev TT:=St->Hp->(Bool->Hp->Prop)->Prop
noncomputable abbrev TA:=St->Hp->(List V->Hp->Prop)->Prop
structure Ends where
 nx:St->Hp->Prop
 rt:VK
 bk:St->Hp->Prop:=fun _ _=>False
 ct:St->Hp->Prop:=fun _ _=>False
noncomputable abbrev TS:=Ends->St->Hp->Prop
noncomputable def EP(X:Cx)(pins:List (Addr×Obj))(σ:St)(Q:VK)(u:Value)(s':Shared):Prop:=∃v H',Inv X pins σ H' s'/\RelV v u/\Q v H'
noncomputable def TP(X:Cx)(pins:List (Addr×Obj))(σ:St)(Q:Bool->Hp->Prop)(b:Bool)(s':Shared):Prop:=∃H',Inv X pins σ H' s'/\Q b H'
noncomputable def AP(X:Cx)(pins:List (Addr×Obj))(σ:St)(Q:List V->Hp->Prop)(us:List Value)(s':Shared):Prop:=∃vs H',Inv X pins σ H' s'/\bF vs us/\Q vs H'
noncomputable def SP(X:Cx)(pins:List (Addr×Obj))(D:Ends)(f:Flow)(s':Shared):Prop:=
 match f with
 |.next=>∃σ' H',Inv X pins σ' H' s'/\D.nx σ' H'
 |.brk=>∃σ' H',Inv X pins σ' H' s'/\D.bk σ' H'
 |.cont=>∃σ' H',Inv X pins σ' H' s'/\D.ct σ' H'
 |.ret u=>∃v σ' H',Inv X pins σ' H' s'/\RelV v u/\D.rt v H'
noncomputable def PE(X:Cx)(e:Expr)(t:TE):Prop:=
 ∀(pins:List (Addr×Obj))(s:Shared)(σ:St)(H:Hp)(Q:VK),Inv X pins σ H s->t σ H Q->wpAny (model X.prog X.w) X.A (eval e X.env) (EP X pins σ Q) X.xe s
noncomputable def PT(X:Cx)(e:Expr)(t:TT):Prop:=
 ∀(pins:List (Addr×Obj))(s:Shared)(σ:St)(H:Hp)(Q:Bool->Hp->Prop),Inv X pins σ H s->t σ H Q->wpAny (model X.prog X.w) X.A (isTrue e X.env (eval e X.env)) (TP X pins σ Q) X.xe s
noncomputable def PW(X:Cx)(e:Expr)(t:TT):Prop:=
 ∀(whole:Sem Value)(pins:List (Addr×Obj))(s:Shared)(σ:St)(H:Hp)(Q:Bool->Hp->Prop),Inv X pins σ H s->t σ H Q->wpAny (model X.prog X.w) X.A (isTrue e X.env whole) (TP X pins σ Q) X.xe s
theorem PW.pt{X:Cx}{e:Expr}{t:TT}(h:PW X e t):PT X e t:=h _
noncomputable def PA(X:Cx)(es:List Expr)(t:TA):Prop:=
 ∀(pos:Pos)(pins:List (Addr×Obj))(s:Shared)(σ:St)(H:Hp)(Q:List V->Hp->Prop),Inv X pins σ H s->t σ H Q->wpAny (model X.prog X.w) X.A (spliced (backTo pos (starEach es X.env))) (AP X pins σ Q) X.xe s
noncomputable def PS(X:Cx)(st:Stmt)(t:TS):Prop:=
 ∀(pins:List (Addr×Obj))(s:Shared)(σ:St)(H:Hp)(D:Ends),Inv X pins σ H s->t D σ H->wpAny (model X.prog X.w) X.A (exec st X.env) (SP X pins D) X.xe s
noncomputable def PSs(X:Cx)(st:List Stmt)(t:TS):Prop:=
 ∀(pins:List (Addr×Obj))(s:Shared)(σ:St)(H:Hp)(D:Ends),Inv X pins σ H s->t D σ H->wpAny (model X.prog X.w) X.A (execs st X.env) (SP X pins D) X.xe s
theorem thn{α:Type}{t:Sem α}{Q Q':α->Shared->Prop}{M:Model}{E:Value->Shared->Prop}{s:Shared}(h:wpAny M A t Q E s)(hQ:∀a s,Q a s->Q' a s):wpAny M A t Q' E s:=D5 h hQ fun _ _ x=>x
section
variable{X:Cx}
theorem bin{a b:Expr}{ta tb:TE}(ha:PE X a ta)(hb:PE X b tb){pins:List (Addr×Obj)}{R:V->V->Hp->Prop}(I:Inv X pins σ H s)(h:ta σ H fun x H1=>tb σ H1 fun y H2=>R x y H2)
 {α:Type} {Q:α->Shared->Prop} {f:Value->Value->Sem α}
 (hf:∀v u s2 x y H2,Inv X pins σ H2 s2->RelV x v->RelV y u->R x y H2->wpAny (model X.prog X.w) X.A (f v u) Q X.xe s2):
 wpAny (model X.prog X.w) X.A (eval a X.env) (fun v s₁=>wpAny (model X.prog X.w) X.A (eval b X.env) (fun u s₂=>wpAny (model X.prog X.w) X.A (f v u) Q X.xe s₂) X.xe s₁) X.xe s:=by
 refine thn (ha pins s σ H _ I h) fun v s1 ⟨x,H1,I1,r1,q1⟩=>?_;refine thn (hb pins s1 σ H1 _ I1 q1) fun u s2 ⟨y,H2,I2,r2,q2⟩=>?_;exact hf v u s2 x y H2 I2 r1 r2 q2
noncomputable def aJn(i:Nat):TE:=fun σ H Q=>∃v,σ[i]?=some (some v)/\Q v H
noncomputable def tC(v:V):TE:=fun _ H Q=>Q v H
theorem aHL{i:Nat}{x:Str}(hN:X.N[i]?=some x)(hv:Vis X.env.scope x)(hd:(x==("__debug__":Str))=false:=by decide)(hcd:(x==("__classdict__":Str))=false:=by decide):PE X (.Name x pos) (aJn i):=by
 intro pins s σ H Q I h;obtain⟨v,e,h⟩:=h;obtain⟨m,hn,hl⟩:=I.loc;obtain⟨u,r,l⟩:=hl i x v hN e hv;have fin:EP X pins σ Q u s:=⟨v,H,I,r,h⟩;rcases l with⟨hk,hm⟩|⟨hk,c,hc,hcell⟩
 .exact wpAny_Name (wpAny_loadName_local I.ok.kind hk hn hm fin) hd
 .rcases hk with hk|hk
  .exact wpAny_Name (wpAny_loadName_cell I.ok.kind hk hc hcell fin) hd
  .exact wpAny_Name (wpAny_loadName_free I.ok.kind hk hc hcell fin hcd) hd
theorem aFv{i j pos}:PE X (.Constant (.int i) j pos) (tC (.int i)):=fun _ _ _ H _ I h=>wpAny_Constant_int ⟨.int i,H,I.tok _,⟨_,rfl⟩,h⟩
theorem aIL{b j pos}:PE X (.Constant (.bool b) j pos) (tC (.bl b)):=fun _ _ _ H _ I h=>Constant_bool ⟨.bl b,H,I,rfl,h⟩
theorem aIf{j pos}:PE X (.Constant .none j pos) (tC .non):=fun _ _ _ H _ I h=>Constant_none ⟨.non,H,I,rfl,h⟩
theorem aHw{x j pos}:PE X (.Constant (.str x) j pos) (tC (.str x)):=fun _ _ _ H _ I h=>Calls.Constant_str ⟨.str x,H,I.tok _,⟨_,rfl⟩,h⟩
noncomputable def Gl(X:Cx)(x:Str):Prop:=X.env.kindOf x=some .globalImplicit
theorem oI{E:Value->Shared->Prop}{pins:List (Addr×Obj)}{x:Str}{u:Value}{pos:Pos}{Q:Value->Shared->Prop}(I:Inv X pins σ H s)(hg:Gl X x)(hm:X.mg x=some u)(h:Q u s)
 (hd:(x==("__debug__":Str))=false:=by decide):wpAny (model X.prog X.w) X.A (eval (.Name x pos) X.env) Q E s:=
 Calls.Name_function_global I.ok.kind hg (Calls.loadGlobal_global (by rw[I.ok.glob];exact I.mod.glob.keeps I.bk) hm h) hd
theorem sX{E:Value->Shared->Prop}{pins:List (Addr×Obj)}{x:Str}{u:Value}{pos:Pos}{Q:Value->Shared->Prop}(I:Inv X pins σ H s)(hg:Gl X x)(hm:X.mg x=none)(hv:bootBuiltins x=some u)(h:Q u s)
 (hn:x≠"__name__":=by decide) (hd:(x==("__debug__":Str))=false:=by decide):wpAny (model X.prog X.w) X.A (eval (.Name x pos) X.env) Q E s:=by
 obtain⟨mb,h1,h2⟩:=I.mod.blt;exact Calls.Name_function_global I.ok.kind hg (Calls.loadGlobal_builtin (by rw[I.ok.glob];exact I.mod.glob.keeps I.bk) hm (by rw[I.ok.blt];exact h1.keeps I.bk) ((h2 x hn).trans hv) h) hd
theorem HA{x:Str}{v:V}{u:Value}(hg:Gl X x)(hm:X.mg x=some u)(r:RelV v u)(hd:(x==("__debug__":Str))=false:=by decide):PE X (.Name x pos) (tC v):=
 fun _ _ _ H _ I h=>oI I hg hm ⟨v,H,I,r,h⟩ hd
theorem FH{x:Str}{v:V}{u:Value}(hg:Gl X x)(hm:X.mg x=none)(hv:bootBuiltins x=some u)(r:RelV v u)(hn:x≠"__name__":=by decide)(hd:(x==("__debug__":Str))=false:=by decide):PE X (.Name x pos) (tC v):=
 fun _ _ _ H _ I h=>sX I hg hm hv ⟨v,H,I,r,h⟩ hn hd
variable{a b:Expr}{ta tb:TE}{pos:Pos}
noncomputable def PC(X:Cx)(op:CmpOp)(a b:Expr)(t:TE):Prop:=
 ∀(pins:List (Addr×Obj))(s:Shared)(σ:St)(H:Hp)(Q:VK),Inv X pins σ H s->t σ H Q->
  wpAny (model X.prog X.w) X.A (eval a X.env) (fun v s₁=>wpAny (model X.prog X.w) X.A (eval b X.env) (fun u s₂=>wpAny (model X.prog X.w) X.A (compareOp op v u) (EP X pins σ Q) X.xe s₂) X.xe s₁) X.xe s
theorem XX(b:Expr){op:CmpOp}(h:op≠.In)(h2:op≠.NotIn):behindInMarks op b=false:=by
 have e1:(op==CmpOp.In)=false:=by cases op<;>first|rfl|exact absurd rfl h
 have e2:(op==CmpOp.NotIn)=false:=by cases op<;>first|rfl|exact absurd rfl h2
 cases b<;>simp[behindInMarks,e1,e2]
noncomputable def tB(t:TE):TT:=fun σ H Q=>t σ H fun x H1=>∃c,x=.bl c/\Q c H1
theorem aGL{op:CmpOp}{t:TE}(h:PC X op a b t)(h1:behindInMarks op b=false:=by first|exact XX _ (by decide) (by decide)|rfl):PT X (.Compare a [op] [b] pos) (tB t):=by
 intro pins s σ H Q I hw;refine wpAny_isTrue_Compare1 (thn (h pins s σ H _ I hw) fun v s1 h1=>thn h1 fun u s2 h2=>thn h2 fun c s3 ⟨x,H1,I1,r1,q1⟩=>?_) h1;obtain⟨d,rfl,q⟩:=q1;cases r1;exact I0 ⟨H1,I1,q⟩
theorem aHJ{e:Expr}{t:TE}(h:PE X e t)(he:∀whole,isTrue e X.env whole=(do let v <- whole;standAt e.pos;holding [v] (truthy v)):=by intro _;rfl):PT X e (tB t):=by
 intro pins s σ H Q I hw;refine isTrue_plain (thn (h pins s σ H _ I hw) fun v s1 ⟨x,H1,I1,r1,q1⟩=>?_) (he _);obtain⟨d,rfl,q⟩:=q1;cases r1;exact I0 ⟨H1,I1,q⟩
variable{tA tB':TT}{rest:List Expr}
noncomputable def aJe(t u:TT):TT:=fun σ H Q=>t σ H fun c H1=>if c=true then u σ H1 Q else Q false H1
noncomputable def tOr(t u:TT):TT:=fun σ H Q=>t σ H fun c H1=>if c=true then Q true H1 else u σ H1 Q
noncomputable def aJQ(t:TT):TT:=fun σ H Q=>t σ H fun c H1=>Q (!c) H1
theorem aDz(ha:PT X a tA):PW X (.BoolOp .And [a] pos) tA:=by
 intro wh pins s σ H Q I h;refine isTrue_and (thn (ha pins s σ H Q I h) fun c s1 e=>?_);cases c with
 |true=>exact isTrue_and_nil e
 |false=>exact e
theorem aHn(ha:PT X a tA):PW X (.BoolOp .Or [a] pos) tA:=by
 intro wh pins s σ H Q I h;refine isTrue_or (thn (ha pins s σ H Q I h) fun c s1 e=>?_);cases c with
 |false=>exact isTrue_or_nil e
 |true=>exact e
theorem aGV(ha:PT X a tA)(hb:PW X (.BoolOp .And (b::rest) pos) tB'):PW X (.BoolOp .And (a::b::rest) pos) (aJe tA tB'):=by
 intro wh pins s σ H Q I h;refine isTrue_and (thn (ha pins s σ H _ I h) fun c s1 ⟨H1,I1,q1⟩=>?_);cases c with
 |true=>exact hb wh pins s1 σ H1 Q I1 q1
 |false=>exact⟨H1,I1,q1⟩
theorem aIQ(ha:PT X a tA)(hb:PW X (.BoolOp .Or (b::rest) pos) tB'):PW X (.BoolOp .Or (a::b::rest) pos) (tOr tA tB'):=by
 intro wh pins s σ H Q I h;refine isTrue_or (thn (ha pins s σ H _ I h) fun c s1 ⟨H1,I1,q1⟩=>?_);cases c with
 |true=>exact⟨H1,I1,q1⟩
 |false=>exact hb wh pins s1 σ H1 Q I1 q1
theorem aHM(ha:PT X a tA):PT X (.UnaryOp .Not a pos) (aJQ tA):=by
 intro pins s σ H Q I h;exact isTrue_not (ha pins s σ H (fun c H1=>Q (!c) H1) I h)
noncomputable def aFc(ta tb:TE):TE:=fun σ H Q=>ta σ H fun x H1=>∃c,x=.bl c/\if c=true then tb σ H1 Q else Q (.bl false) H1
noncomputable def aEY(ta:TE):TE:=fun σ H Q=>ta σ H fun x H1=>∃c,x=.bl c/\Q (.bl (!c)) H1
theorem aGl{op}{t:TE}(h:PE X a t):PE X (.BoolOp op [a] pos) t:=fun pins s σ H Q I hw=>BoolOp_one (h pins s σ H Q I hw)
theorem aGQ(ha:PE X a ta)(hb:PE X (.BoolOp .And (b::rest) pos) tb):PE X (.BoolOp .And (a::b::rest) pos) (aFc ta tb):=by
 intro pins s σ H Q I h;refine BoolOp_and (thn (ha pins s σ H _ I h) fun v s1 ⟨x,H1,I1,r1,q1⟩=>?_);obtain⟨c,rfl,q1⟩:=q1;cases r1;refine I0 ?_;cases c with
 |true=>exact hb pins s1 σ H1 Q I1 q1
 |false=>exact⟨.bl false,H1,I1,rfl,q1⟩
theorem aGR(ha:PE X a ta):PE X (.UnaryOp .Not a pos) (aEY ta):=by
 intro pins s σ H Q I h;refine UnaryOp_ (thn (ha pins s σ H _ I h) fun v s1 ⟨x,H1,I1,r1,q1⟩=>?_);obtain⟨c,rfl,q1⟩:=q1;cases r1;exact not_of (I0 ⟨.bl (!c),H1,I1,rfl,q1⟩)
noncomputable def tIf(t:TT)(ta tb:TE):TE:=fun σ H Q=>t σ H fun c H1=>if c=true then ta σ H1 Q else tb σ H1 Q
theorem YS{c:Expr}(hc:PT X c tA)(ha:PE X a ta)(hb:PE X b tb):PE X (.IfExp c a b pos) (tIf tA ta tb):=by
 intro pins s σ H Q I h;refine wpAny_IfExp (thn (hc pins s σ H _ I h) fun d s1 ⟨H1,I1,q1⟩=>?_);cases d with
 |true=>exact ha pins s1 σ H1 Q I1 q1
 |false=>exact hb pins s1 σ H1 Q I1 q1
end
noncomputable def SqL(K:Fg)(H:Hp)(a:Addr)(xs:List V):Prop:=
 Rd H a (.lst xs) \/
  ∃(o:Obj)(its:Array Value)(n:Nat),K.lookup a=some o/\o.cls=.type "list"/\o.dict=none/\o.data=.seq its n/\its.size<=sizeLine/\bF xs its.toList
noncomputable def SqT(K:Fg)(H:Hp)(a:Addr)(xs:List V):Prop:=
 Rd H a (.tup xs) \/
  ∃(o:Obj)(its:Array Value)(n:Nat),K.lookup a=some o/\o.cls=.type "tuple"/\o.data=.seq its n/\its.size<=sizeLine/\bF xs its.toList
noncomputable def aKd:Value->Option V
 |.none=>some .non
 |.bool b=>some (.bl b)
 |.int i _=>some (.int i)
 |.str x _=>some (.str x)
 |.bytes b _=>some (.byt b)
 |.float b _=>some (.flt b)
 |.ref a=>some (.ref a)
 |.type n=>some (.ty n)
 |_=>none
theorem RelV.abs{x:V}{u:Value}(r:RelV x u):aKd u=some x:=by
 cases x with
 |non=>cases r;rfl
 |bl _=>cases r;rfl
 |int _=>obtain⟨t,rfl⟩:=r;rfl
 |str _=>obtain⟨t,rfl⟩:=r;rfl
 |byt _=>obtain⟨t,rfl⟩:=r;rfl
 |flt _=>obtain⟨t,rfl⟩:=r;rfl
 |ref _=>cases r;rfl
 |ty _=>cases r;rfl
theorem RelV.inj{x y:V}{u:Value}(r:RelV x u)(q:RelV y u):x=y:=D3 (r.abs.symm.trans q.abs)
theorem bF.inj:∀{xs ys:List V}{us:List Value},bF xs us->bF ys us->xs=ys
 |_,_,_,.nil,.nil=>rfl
 |_,_,_,.cons r t,.cons r' t'=>by rw[r.inj r',bF.inj t t']
section
variable{X:Cx}{pins:List (Addr×Obj)}{σ:St}{H:Hp}{s:Shared}{a:Addr}{xs ys:List V}
theorem SqL.of(h:H a=some (.lst xs)):SqL K H a xs:=.inl (.inl h)
theorem SqT.of(h:H a=some (.tup xs)):SqT K H a xs:=.inl (.inl h)
theorem Inv.list(I:Inv X pins σ H s)(h:SqL X.K H a xs):∃its:List Value,bF xs its/\PlainL s.heap a its.toArray/\xs.length<=sizeLine:=by
 rcases h with h|⟨o,its,n,hk,hc,hd,hs,hz,r⟩
 .obtain⟨z,its,n,r,e⟩:=h.ok I.hok;exact⟨its,r,⟨_,n,e,rfl,rfl,rfl⟩,z⟩
 .refine⟨its.toList,r,⟨o,n,I.kIn a o hk,hc,hd,by simpa using hs⟩,?_⟩;have e:=r.length;simp only[Array.length_toList]at e;omega
theorem Inv.tuple(I:Inv X pins σ H s)(h:SqT X.K H a xs):∃its:List Value,bF xs its/\IsTup s.heap a its.toArray/\xs.length<=sizeLine:=by
 rcases h with h|⟨o,its,n,hk,hc,hs,hz,r⟩
 .obtain⟨z,its,r,p⟩:=h.ok I.hok;exact⟨its,r,p,z⟩
 .refine⟨its.toList,r,⟨o,I.kIn a o hk,hc,n,by simpa using hs⟩,?_⟩;have e:=r.length;simp only[Array.length_toList]at e;omega
theorem Inv.list_inj(I:Inv X pins σ H s)(h:SqL X.K H a xs)(h':SqL X.K H a ys):xs=ys:=by
 obtain⟨its,r,⟨o,n,e,_,_,d⟩,_⟩:=I.list h;obtain⟨its',r',⟨o',n',e',_,_,d'⟩,_⟩:=I.list h';rw[e]at e';cases e';rw[d]at d';injection d' with d1 _
 have:its=its':=by simpa using O1 Array.toList d1
 subst this;exact r.inj r'
theorem Inv.tuple_inj(I:Inv X pins σ H s)(h:SqT X.K H a xs)(h':SqT X.K H a ys):xs=ys:=by
 obtain⟨its,r,⟨o,e,_,n,d⟩,_⟩:=I.tuple h;obtain⟨its',r',⟨o',e',_,n',d'⟩,_⟩:=I.tuple h';rw[e]at e';cases e';rw[d]at d';injection d' with d1 _
 have:its=its':=by simpa using O1 Array.toList d1
 subst this;exact r.inj r'
end
noncomputable abbrev Cx.wish(X:Cx)(E:Value->Shared->Prop):Cx:={ X with xe:=E }
noncomputable abbrev Cx.nox(X:Cx):Cx:=X.wish fun _ _=>False
theorem Cx.Ok.wish{X:Cx}(ok:X.Ok)(E:Value->Shared->Prop):(X.wish E).Ok:=
 ⟨ok.mod,ok.kind,ok.glob,ok.blt,ok.above,ok.inj,ok.has,ok.cab,ok.hd,ok.frames,ok.stk,ok.exf,ok.bs,ok.bsz,ok.noex,ok.exfs,ok.funs,ok.frf⟩
theorem Cx.Ok.unwish{X:Cx}{E:Value->Shared->Prop}(ok:(X.wish E).Ok):X.Ok:=
 ⟨ok.mod,ok.kind,ok.glob,ok.blt,ok.above,ok.inj,ok.has,ok.cab,ok.hd,ok.frames,ok.stk,ok.exf,ok.bs,ok.bsz,ok.noex,ok.exfs,ok.funs,ok.frf⟩
section
variable{X:Cx}{pins:List (Addr×Obj)}{σ:St}{H:Hp}{s:Shared}{E:Value->Shared->Prop}
theorem Inv.wish(I:Inv X pins σ H s)(E:Value->Shared->Prop):Inv (X.wish E) pins σ H s:=⟨I.ok.wish E,I.os,I.bare,I.base,I.loc,I.cell,I.free,I.freeC,I.pin,I.hok,I.len⟩
theorem Inv.unwish(I:Inv (X.wish E) pins σ H s):Inv X pins σ H s:=⟨I.ok.unwish,I.os,I.bare,I.base,I.loc,I.cell,I.free,I.freeC,I.pin,I.hok,I.len⟩
theorem SP.unwish{D:Ends}{f:Flow}{s':Shared}(h:SP (X.wish E) pins D f s'):SP X pins D f s':=by
 cases f with
 |next=>obtain⟨σ',H',I,q⟩:=h;exact⟨σ',H',I.unwish,q⟩
 |brk=>obtain⟨σ',H',I,q⟩:=h;exact⟨σ',H',I.unwish,q⟩
 |cont=>obtain⟨σ',H',I,q⟩:=h;exact⟨σ',H',I.unwish,q⟩
 |ret u=>obtain⟨v,σ',H',I,r,q⟩:=h;exact⟨v,σ',H',I.unwish,r,q⟩
theorem PSs.nox{st:List Stmt}{t:TS}(h:PSs X.nox st t):PSs X st t:=fun pins s σ H D I hw=>
 D5 (h pins s σ H D (I.wish _) hw) (fun _ _ q=>q.unwish) fun _ _ z=>False.elim z
end
section
variable{X:Cx}{st:Stmt}{rest:List Stmt}{t u:TS}{e:Expr}{te:TE}{pos:Pos}
noncomputable def aEO:TS:=fun D σ H=>D.nx σ H
noncomputable def aFT(t u:TS):TS:=fun D σ H=>t { D with nx:=u D } σ H
theorem aCP:PSs X [] aEO:=fun _ _ σ H _ I h=>Y7 ⟨σ,H,I,h⟩
theorem KJ(h1:PS X st t)(h2:PSs X rest u):PSs X (st::rest) (aFT t u):=by
 intro pins s σ H D I h;refine wpAny_execs_cons (thn (h1 pins s σ H { D with nx:=u D } I h) fun f s1 q=>?_);cases f with
 |next=>
  obtain⟨σ',H',I',q⟩:=q;exact h2 pins s1 σ' H' D I' q
 |ret v=>exact q
 |brk=>exact q
 |cont=>exact q
theorem RM(h1:PS X st t):PSs X [st] t:=by
 intro pins s σ H D I h;refine wpAny_execs_cons (thn (h1 pins s σ H D I h) fun f s1 q=>?_);cases f with
 |next=>exact Y7 q
 |ret v=>exact q
 |brk=>exact q
 |cont=>exact q
theorem Inv.quiet{pins:List (Addr×Obj)}(I:Inv X pins σ H s):interactive X.env=false:=by simp[interactive,I.ok.kind]
noncomputable def aEu(te:TE):TS:=fun D σ H=>te σ H fun _ H1=>D.nx σ H1
theorem aEh(he:PE X e te)(hs:swapsWith e none pos.line X.env=pure false:=by rfl):PS X (.Expr e pos) (aEu te):=by
 intro pins s σ H D I h;exact wpAny_Expr_any (thn (he pins s σ H _ I h) fun v s1 ⟨x,H1,I1,r1,q1⟩=>⟨σ,H1,I1,q1⟩) I.quiet hs
noncomputable def aFj(te:TE):TS:=fun D σ H=>te σ H D.rt
theorem aBc(he:PE X e te):PS X (.Return (some e) pos) (aFj te):=by
 intro pins s σ H D I h;exact wpAny_Return_some (thn (he pins s σ H _ I h) fun v s1 ⟨x,H1,I1,r1,q1⟩=>⟨x,σ,H1,I1,r1,q1⟩)
noncomputable def aFL(c:TT)(t u:TS):TS:=fun D σ H=>c σ H fun b H1=>if b=true then t D σ H1 else u D σ H1
theorem aEs{c:Expr}{a b:List Stmt}{tc:TT}(hc:PT X c tc)(ha:PSs X a t)(hb:PSs X b u):PS X (.If c a b pos) (aFL tc t u):=by
 intro pins s σ H D I h;refine wpAny_If (thn (hc pins s σ H _ I h) fun d s1 ⟨H1,I1,q1⟩=>?_);cases d with
 |true=>exact ha pins s1 σ H1 D I1 q1
 |false=>exact hb pins s1 σ H1 D I1 q1
noncomputable def WB:TS:=fun _ _ _=>False
theorem YA:PS X st WB:=fun _ _ _ _ _ _ h=>h.elim
end
noncomputable abbrev TG:=V->St->Hp->(St->Hp->Prop)->Prop
noncomputable abbrev TGs:=List V->St->Hp->(St->Hp->Prop)->Prop
noncomputable def PG(X:Cx)(target:Expr)(t:TG):Prop:=
 ∀(pins:List (Addr×Obj))(s:Shared)(σ:St)(H:Hp)(v:V)(u:Value)(Q:St->Hp->Prop),Inv X pins σ H s->RelV v u->t v σ H Q->
  wpAny (model X.prog X.w) X.A (assign target X.env u) (fun _ s'=>∃σ' H',Inv X pins σ' H' s'/\Q σ' H') X.xe s
noncomputable def PGs(X:Cx)(ts:List Expr)(t:TGs):Prop:=
 ∀(pins:List (Addr×Obj))(s:Shared)(σ:St)(H:Hp)(vs:List V)(us:List Value)(Q:St->Hp->Prop),Inv X pins σ H s->bF vs us->t vs σ H Q->
  wpAny (model X.prog X.w) X.A (assignInOrder ((assignEach ts X.env).map (·.2)) us) (fun _ s'=>∃σ' H',Inv X pins σ' H' s'/\Q σ' H') X.xe s
noncomputable abbrev aCF:=V->V->V->Hp->(Hp->Prop)->Prop
noncomputable def aGp(X:Cx)(t:aCF):Prop:=
 ∀(pins:List (Addr×Obj))(s:Shared)(σ:St)(H:Hp)(o i v:V)(ov iv u:Value)(Q:Hp->Prop),Inv X pins σ H s->RelV o ov->RelV i iv->RelV v u->t o i v H Q->
  wpAny (model X.prog X.w) X.A (setItem ov iv u) (fun _ s'=>∃H',Inv X pins σ H' s'/\Q H') X.xe s
section
variable{X:Cx}{pos:Pos}
noncomputable def IF(i:Nat):TG:=fun v σ H Q=>Q (σ.set i (some v)) H
theorem aEi{i:Nat}{x:Str}(hN:X.N.Nodup)(hi:X.N[i]?=some x)(hx:Loc X.env.scope x)(hf:X.fn x=true\/X.env.scope.names.lookup x=some .local:=by first|exact .inl rfl|exact .inr rfl|assumption):PG X (.Name x pos) (IF i):=by
 intro pins s σ H v u Q I r h;exact wpAny_assign_Name (qC I hN hi hx r (fun s' I'=>⟨_,H,I',h⟩) hf)
noncomputable def aJF:TGs:=fun vs σ H Q=>vs=[]/\Q σ H
noncomputable def aEp(t:TG)(u:TGs):TGs:=fun vs σ H Q=>∃v r,vs=v::r/\t v σ H fun σ' H'=>u r σ' H' Q
theorem aDV:PGs X [] aJF:=by
 intro pins s σ H vs us Q I r h;obtain⟨e,h⟩:=h;subst e;cases r;exact assignInOrder_nil ⟨σ,H,I,h⟩
theorem WS{e:Expr}{es:List Expr}{t:TG}{u:TGs}(h1:PG X e t)(h2:PGs X es u)
 (hs:(assignEach (e::es) X.env).map (·.2)=assign e X.env::(assignEach es X.env).map (·.2):=by rfl):PGs X (e::es) (aEp t u):=by
 intro pins s σ H vs us Q I r h;obtain⟨v,vr,e1,h⟩:=h;subst e1;cases r with
 |cons r rr=>
  rw[hs];refine assignInOrder_cons (thn (h1 pins s σ H _ _ _ I r h) fun _ s1 ⟨σ1,H1,I1,q1⟩=>?_);exact h2 pins s1 σ1 H1 _ _ Q I1 rr q1
noncomputable def aHR(K:Fg)(n:Nat)(t:TGs):TG:=fun v σ H Q=>∃a xs,v=.ref a/\SqT K H a xs/\xs.length=n/\t xs σ H Q
theorem aIh{es:List Expr}{k:Nat}{t:TGs}{n:Nat}(hc:X.calm=true)(h:PGs X es t)
 (hn:(assignEach es X.env).length=n:=by rfl) (hst:(assignEach es X.env).findIdx? (·.1)=none:=by rfl):PG X (.Tuple es k pos) (aHR X.K n t):=by
 intro pins s σ H v u Q I r hw;obtain⟨a,xs,e1,hq,hl,hw⟩:=hw;subst e1;cases r;obtain⟨its,rv,ht,hz⟩:=I.tuple hq;refine assign_Tuple_tuple (I.ok.hd hc) ht (by simp[hn,<- hl,rv.length]) hst fun h' hx=>?_;have I1:Inv X pins σ H { s with heap:=h' }:=I.kept (t':=s.toks) fun b o e=>hx b o (B5 (A9 e)) e;exact h pins _ σ H xs _ Q I1 (by simpa using rv) hw
noncomputable def aJA(to ti:TE)(t:aCF):TG:=fun v σ H Q=>to σ H fun o H1=>ti σ H1 fun i H2=>t o i v H2 fun H3=>Q σ H3
theorem aGx{o i:Expr}{to ti:TE}{t:aCF}(ho:PE X o to)(hi:PE X i ti)(hs:aGp X t)
 (ha:∀v,assign (.Subscript o i pos) X.env v=(do
  let ov <- holding [v] (eval o X.env);let iv <- holding [v,ov] (eval i X.env)
  standAt pos
  holding [v,ov,iv] (setItem ov iv v)
  release [v,ov,iv] []):=by intro _;rfl):PG X (.Subscript o i pos) (aJA to ti t):=by
 intro pins s σ H v u Q I r h;rw[ha];refine A0 (E9 (thn (ho pins s σ H _ I h) fun ov s1 ⟨x,H1,I1,r1,q1⟩=>?_));refine A0 (E9 (thn (hi pins s1 σ H1 _ I1 q1) fun iv s2 ⟨y,H2,I2,r2,q2⟩=>?_));refine A0 (S3 (A0 (E9 (thn (hs pins s2 σ H2 x y v ov iv u _ I2 r1 r2 r q2) fun _ s3 ⟨H3,I3,q3⟩=>?_))));exact wpAny_release ⟨σ,H3,I3,q3⟩
noncomputable def aDL(te:TE)(g:TG):TS:=fun D σ H=>te σ H fun x H1=>g x σ H1 D.nx
theorem aHb{tg e:Expr}{te:TE}{g:TG}(he:PE X e te)(hg:PG X tg g)(hs:swapsWithSole [tg] e pos.line X.env=pure false:=by rfl)(hw:swappedStores [tg] e X.env=pure none:=by rfl)
 (h1:(assignEach [tg] X.env).map (·.2)=[assign tg X.env]:=by rfl):PS X (.Assign [tg] e pos) (aDL te g):=by
 intro pins s σ H D I h;refine wpAny_Assign_stores (thn (he pins s σ H _ I h) fun v s1 ⟨x,H1,I1,r1,q1⟩=>?_) hs hw;rw[h1];exact thn (hg pins s1 σ H1 x v _ I1 r1 q1) fun _ s2 q=>q
theorem aFt{i:Nat}{x:Str}{e:Expr}{te:TE}{pos':Pos}(hN:X.N.Nodup)(hi:X.N[i]?=some x)(hx:Loc X.env.scope x)(he:PE X e te)(hs:swapsWith e (some (.Name x pos')) pos.line X.env=pure false:=by rfl)(hf:X.fn x=true\/X.env.scope.names.lookup x=some .local:=by first|exact .inl rfl|exact .inr rfl|assumption):
 PS X (.Assign [.Name x pos'] e pos) (aDL te (IF i)):=by
 intro pins s σ H D I h;refine wpAny_Assign_Name (thn (he pins s σ H _ I h) fun v s1 ⟨y,H1,I1,r1,q1⟩=>?_) hs;exact qC I1 hN hi hx r1 (fun s2 I2=>⟨_,H1,I2,q1⟩) hf
noncomputable def aJg(i j:Nat)(ta:TA):TS:=fun D σ H=>ta σ H fun vs H1=>∃v w,vs=[v,w]/\D.nx ((σ.set i (some v)).set j (some w)) H1
theorem aHx{i j:Nat}{x y:Str}{a b:Expr}{ta:TA}{px py pt:Pos}{kt k2 pt2}(hc:X.calm=true)(hN:X.N.Nodup)(hi:X.N[i]?=some x)(hj:X.N[j]?=some y)(hij:i≠j)
 (hx:X.env.scope.names.lookup x=some .local) (hy:X.env.scope.names.lookup y=some .local) (ha:PA X [a,b] ta)
 (hw:swappedStores [.Tuple [.Name x px,.Name y py] kt pt] (.Tuple [a,b] k2 pt2) X.env=pure (some [x,y]))
 (hs:swapsWithSole [.Tuple [.Name x px,.Name y py] kt pt] (.Tuple [a,b] k2 pt2) pos.line X.env=pure false:=by rfl):
 PS X (.Assign [.Tuple [.Name x px,.Name y py] kt pt] (.Tuple [a,b] k2 pt2) pos) (aJg i j ta):=by
 intro pins s σ H D I h;rw[exec_Assign_arm];refine A0 (S3 ?_);rw[hs];refine A0 (A6 ?_);rw[A5 (by decide)];refine A0 (Tuple_ (thn (ha _ pins s σ H _ I h) fun us s1 ⟨vs,H1,I1,r1,q1⟩=>?_));obtain⟨v,w,e1,q1⟩:=q1;subst e1
 obtain⟨u1,u2,rfl,rv,rw'⟩:∃u1 u2,us=[u1,u2]/\RelV v u1/\RelV w u2:=by
  cases r1 with
  |cons p q=>
   cases q with
   |cons p' q'=>
    cases q';exact⟨_,_,rfl,p,p'⟩
 refine D1 ?_ (by show 2<=sizeLine;decide);have I2:Inv X pins σ H1 { s1 with heap:=s1.heap.push { cls:=.type "tuple",data:=.seq [u1,u2].toArray } }:=I1.kept (t':=s1.toks) fun b o e=>A3 _ e;rw[hw];refine A0 (A6 ?_);show wpAny (model X.prog X.w) X.A (do rule "assign.swapped-stores";let items <- unpackItems (.ref s1.heap.objs.size) 2 none;assignInOrder [fun v=>bindName X.env y v,fun v=>bindName X.env x v] items.reverse;pure Flow.next) _ _ _;refine A0 (wpAny_rule (A0 (unpackItems_tuple (items:=#[u1,u2]) (I.ok.hd hc) (IsTup.new s1.heap _) fun h' hx'=>?_)));have I3:=I2.kept (h':=h') (t':=s1.toks) fun b o e=>hx' b o (B5 (A9 e)) e;show wpAny _ _ (assignInOrder [fun v=>bindName X.env y v,fun v=>bindName X.env x v] [u2,u1] >>= fun _=>pure Flow.next) _ _ _;refine A0 (assignInOrder_cons (wpAny_bindName (qC I3 hN hj (.inl hy) rw' (fun s2 I4=>?_) (.inr hy))));refine assignInOrder_cons (wpAny_bindName (qC I4 hN hi (.inl hx) rv (fun s3 I5=>assignInOrder_nil (A6 ?_)) (.inr hx)));rw[List.set_comm _ _ (F7 hij)]at I5;exact⟨_,H1,I5,q1⟩
end
section
variable{X:Cx}{pos:Pos}
noncomputable def YY(c:TT)(tb:TS):TS:=fun D σ H=>∃W:Nat->St->Hp->Prop,(∃m,W m σ H)/\∀m σ H,W m σ H->
 c σ H fun b H1=>if b=true then ∃N:St->Hp->Prop,(∀σ' H',N σ' H'->∃m',m'<m/\W m' σ' H')/\tb { D with nx:=N,ct:=N,bk:=D.nx } σ H1 else D.nx σ H1
theorem aAH{c:Expr}{body:List Stmt}{tc:TT}{tb:TS}(hp:PassesOwn (model X.prog X.w) X.A X.env X.xe)(hc:PT X c tc)(hb:PSs X body tb):PS X (.While c body [] pos) (YY tc tb):=by
 intro pins s σ H D I h;obtain⟨W,⟨m0,w0⟩,turn⟩:=h;refine wpAny_While (codeAny_whileLoop (fun n s'=>∃σ' H',Inv X pins σ' H' s'/\W n σ' H') ?_ m0 ⟨σ,H,I,w0⟩);rintro n s1 ⟨σ1,H1,I1,w1⟩;refine S1 hp (thn (hc pins s1 σ1 H1 _ I1 (turn n σ1 H1 w1)) fun b s2 ⟨H2,I2,q2⟩=>?_);cases b with
 |true=>
  obtain⟨N,hN,q2⟩:=q2;rw[A4 rfl];refine S1 hp (thn (hb pins s2 σ1 H2 _ I2 q2) fun f s3 q3=>?_);cases f with
  |next=>
   obtain⟨σ3,H3,I3,n3⟩:=q3;obtain⟨m',hm,w3⟩:=hN σ3 H3 n3;exact⟨m',hm,σ3,H3,I3,w3⟩
  |cont=>
   obtain⟨σ3,H3,I3,n3⟩:=q3;obtain⟨m',hm,w3⟩:=hN σ3 H3 n3;exact⟨m',hm,σ3,H3,I3,w3⟩
  |brk=>exact q3
  |ret v=>exact q3
 |false=>
  rw[A5 A7];exact Y7 ⟨σ1,H2,I2,q2⟩
end
structure It where
 go:Nat->Hp->Prop
 yld:Nat->Hp->V->Hp->Prop
 stop:Nat->Hp->Prop
noncomputable def rF(X:Cx)(pins:List (Addr×Obj))(H:Hp)(b:Addr):Prop:=
 H b=none/\b≠X.env.locals/\b∉X.fs/\(b∈X.ex\/X.s₀.heap.objs.size<=b)/\(∀x c,X.env.cells.lookup x=some c->c≠b)/\∀p∈X.pn++pins,p.1≠b
theorem Inv.fpOk{X:Cx}{pins:List (Addr×Obj)}{H':Hp}{b:Addr}(I:Inv X pins σ H s)(hb:s.heap.objs.size<=b)(hn:H' b=none):rF X pins H' b:=by
 refine⟨hn,F9 (B7 I.lt hb),I.nofs hb,.inr (C9 I.sz hb),fun x c e z=>?_,fun p hp z=>?_⟩
 .obtain⟨v,q⟩:=I.cell x c e;exact absurd (B7 q.lt (by rw[z];exact hb)) (J3 _)
 .exact absurd (B7 (A9 (I.pin p hp).1) (by rw[z];exact hb)) (J3 _)
structure Turn(P:Program)(w:World)(K:Fg)(tg:Expr)(J:It)(fp:List Addr)(it:Addr)(tn:Nat->Heap->Prop):Prop where
 mem:it∈fp
 obj:∀i h,tn i h->∀b∈fp,∃o,h.get? b=some o/\∀v,o.data≠.cell v
 keep:∀i h h',tn i h->(∀b∈fp,∀o,h.get? b=some o->h'.get? b=some o)->tn i h'
 item:∀(X:Cx),X.prog=P->X.w=w->X.K=K->X.calm=true->∀(i:Nat)(pins:List (Addr×Obj))(s:Shared)(σ:St)(H:Hp)(E:Value->Shared->Prop),Inv X pins σ H s->(∀b∈fp,rF X pins H b)->tn i s.heap->J.go i H->
  wpAny (model P w) X.A (pyNext (.ref it)) (fun r s1=>∃u,r=some u /\
   wpAny (model P w) X.A (letOwnedTupleGo tg (.ref it) u) (fun _ s2=>∃x H',Inv X pins σ H' s2/\RelV x u/\J.yld i H x H'/\tn (i+1) s2.heap/\∀b∈fp,H' b=none) E s1) E s
 done:∀(X:Cx),X.prog=P->X.w=w->X.K=K->X.calm=true->∀(i:Nat)(pins:List (Addr×Obj))(s:Shared)(σ:St)(H:Hp)(E:Value->Shared->Prop),Inv X pins σ H s->(∀b∈fp,rF X pins H b)->tn i s.heap->J.stop i H->
  wpAny (model P w) X.A (pyNext (.ref it)) (fun r s1=>r=none/\Inv X pins σ H s1) E s
 self:∀(A:Around)(i:Nat)(s:Shared)(Q:Value->Shared->Prop)(E:Value->Shared->Prop),tn i s.heap->Q (.ref it) s->wpAny (model P w) A (pyIter (.ref it)) Q E s
noncomputable abbrev TI:=St->Hp->(It->Hp->Prop)->Prop
noncomputable def PIE(X:Cx)(pins:List (Addr×Obj))(σ:St)(tg:Expr)(R:It->Hp->Prop)(itv:Value)(s2:Shared):Prop:=
 ∃(it:Addr)(fp:List Addr)(tn:Nat->Heap->Prop)(J:It)(H':Hp),itv=.ref it/\Inv X pins σ H' s2/\Turn X.prog X.w X.K tg J fp it tn/\tn 0 s2.heap/\(∀b∈fp,rF X pins H' b)/\R J H'
noncomputable def PI(X:Cx)(tg iter:Expr)(wi:TI):Prop:=
 ∀(pins:List (Addr×Obj))(s:Shared)(σ:St)(H:Hp)(R:It->Hp->Prop),Inv X pins σ H s->wi σ H R->
  wpAny (model X.prog X.w) X.A (eval iter X.env) (fun v s1=>wpAny (model X.prog X.w) X.A (pyIter v) (PIE X pins σ tg R) X.xe s1) X.xe s
theorem PK{M:Model}{A:Around}{E:Value->Shared->Prop}{tg:Expr}{it:Addr}{u:Value}{o:Obj}{n:String}{vs:Array Value}{Q:Unit->Shared->Prop}(ho:s.heap.get? it=some o)(hc:o.cls=.type n)(hd:o.data=.fields vs)
 (hn:["enumerate","zip","dict_itemiterator","dict_reverseitemiterator","odict_iterator","itertools.zip_longest","itertools.pairwise"].contains n=false) (hQ:Q () s):wpAny M A (letOwnedTupleGo tg (.ref it) u) Q E s:=by
 unfold letOwnedTupleGo
 cases tg<;>first
  |exact A6 hQ
  |(cases u<;>first
   |exact A6 hQ
   | (refine A0 (wpAny_load ho ?_)
      rw[hc,hd];show wpAny M A (if (["enumerate","zip","dict_itemiterator","dict_reverseitemiterator","odict_iterator","itertools.zip_longest","itertools.pairwise"].contains n&&vs[0]?==some (rawInt _))=true then _ else _) Q E s;rw[A5 (by intro h;rw[hn,Bool.false_and]at h;cases h)];exact A6 hQ))
noncomputable def Itl(K:Fg)(a:Addr):It:=
 ⟨fun i H=>∃xs x,SqL K H a xs/\xs[i]?=some x,fun i H x H'=>H'=H/\∀xs,SqL K H a xs->xs[i]?=some x,fun i H=>∃xs,SqL K H a xs/\xs.length<=i⟩
noncomputable def Itt(K:Fg)(a:Addr):It:=
 ⟨fun i H=>∃xs x,SqT K H a xs/\xs[i]?=some x,fun i H x H'=>H'=H/\∀xs,SqT K H a xs->xs[i]?=some x,fun i H=>∃xs,SqT K H a xs/\xs.length<=i⟩
noncomputable def Itr(lo:Int)(n:Nat):It:=⟨fun i _=>i<n,fun i H x H'=>H'=H/\x=.int (lo+i),fun i _=>n<=i⟩
theorem VP{P:Program}{w:World}{tg:Expr}(a it:Addr):Turn P w K tg (Itl K a) [it] it (fun i h=>h.IsListIter it a i) where
 mem:=by simp
 obj:=fun i h st b hb=>by
  have e:b=it:=by simpa using hb
  subst e;obtain⟨o,e,c,d⟩:=st;exact⟨o,e,fun v z=>by rw[d]at z;cases z⟩
 keep:=fun i h h' st k=>st.at fun o e=>k it (by simp) o e
 item:=by
  intro X hP hw hK hc i pins s σ H E I hf st hg;subst hP hw hK;obtain⟨xs,x,hq,hx⟩:=hg;obtain⟨its,rv,p,hz⟩:=I.list hq;obtain⟨u,hu,ru⟩:=rv.get hx;obtain⟨f0,f1,f2,f3,f4,f5⟩:=hf it (by simp);refine wpAny_pyNext_list_item st p.isList (x:=u) (by simpa using hu) fun h' st' sb=>?_;have I1:Inv X pins σ H { s with heap:=h' }:=I.turned (t':=s.toks) (fun b o hb e=>(sb.2 b hb).trans e) f0 f1 f3 f4 f5;obtain⟨o,e,c,d⟩:=id st';exact⟨u,rfl,PK (s:={ s with heap:=h' }) e c d (by decide) ⟨x,H,I1,ru,⟨rfl,fun ys hy=>by rw[I.list_inj hy hq];exact hx⟩,st',fun b hb=>(hf b hb).1⟩⟩
 done:=by
  intro X hP hw hK hc i pins s σ H E I hf st hg;subst hP hw hK;obtain⟨xs,hq,hx⟩:=hg;obtain⟨its,rv,p,hz⟩:=I.list hq;obtain⟨f0,f1,f2,f3,f4,f5⟩:=hf it (by simp);have hl:=rv.length;exact wpAny_pyNext_list_end (I.ok.hd hc) st p.isList (by simp;omega) fun h' eb=>⟨rfl,I.turned (t':=s.toks) (fun b o hb e=>eb b o hb e) f0 f1 f3 f4 f5⟩
 self:=fun _ _ _ _ _ st h=>wpAny_pyIter_listiter st h
theorem OQ{P:Program}{w:World}{tg:Expr}(a it:Addr):Turn P w K tg (Itt K a) [it] it (fun i h=>h.IsTupleIter it a i) where
 mem:=by simp
 obj:=fun i h st b hb=>by
  have e:b=it:=by simpa using hb
  subst e;obtain⟨o,e,c,d⟩:=st;exact⟨o,e,fun v z=>by rw[d]at z;cases z⟩
 keep:=fun i h h' st k=>st.at fun o e=>k it (by simp) o e
 item:=by
  intro X hP hw hK hc i pins s σ H E I hf st hg;subst hP hw hK;obtain⟨xs,x,hq,hx⟩:=hg;obtain⟨its,rv,p,hz⟩:=I.tuple hq;obtain⟨u,hu,ru⟩:=rv.get hx;obtain⟨f0,f1,f2,f3,f4,f5⟩:=hf it (by simp);refine wpAny_pyNext_tuple_item st (show s.heap.IsTuple a its.toArray from p) (x:=u) (by simpa using hu) fun h' st' sb=>?_;have I1:Inv X pins σ H { s with heap:=h' }:=I.turned (t':=s.toks) (fun b o hb e=>(sb.2 b hb).trans e) f0 f1 f3 f4 f5;obtain⟨o,e,c,d⟩:=id st';exact⟨u,rfl,PK (s:={ s with heap:=h' }) e c d (by decide) ⟨x,H,I1,ru,⟨rfl,fun ys hy=>by rw[I.tuple_inj hy hq];exact hx⟩,st',fun b hb=>(hf b hb).1⟩⟩
 done:=by
  intro X hP hw hK hc i pins s σ H E I hf st hg;subst hP hw hK;obtain⟨xs,hq,hx⟩:=hg;obtain⟨its,rv,p,hz⟩:=I.tuple hq;obtain⟨f0,f1,f2,f3,f4,f5⟩:=hf it (by simp);have hl:=rv.length;exact wpAny_pyNext_tuple_end (I.ok.hd hc) st (show s.heap.IsTuple a its.toArray from p) (by simp;omega) fun h' eb=>⟨rfl,I.turned (t':=s.toks) (fun b o hb e=>eb b o hb e) f0 f1 f3 f4 f5⟩
 self:=fun _ _ _ _ _ st h=>wpAny_pyIter_tupleiter st h
theorem MR{P:Program}{w:World}{tg:Expr}(it:Addr)(lo:Int)(n:Nat):Turn P w K tg (Itr lo n) [it] it (fun i h=>IsRangeIter h it (lo+(i:Nat)*1) ((n:Int)-(i:Nat)) 1) where
 mem:=by simp
 obj:=fun i h st b hb=>by
  have e:b=it:=by simpa using hb
  subst e
  exact⟨_,st,fun v z=>by
   have z':Data.fields _=Data.cell v:=z;cases z'⟩
 keep:=fun i h h' st k=>k it (by simp) _ st
 item:=by
  intro X hP hw hK hc i pins s σ H E I hf st hg;subst hP hw hK;obtain⟨f0,f1,f2,f3,f4,f5⟩:=hf it (by simp);have W:=Walks.range (prog:=X.prog) (w:=X.w) (I.ok.hd hc) it lo 1 n;refine W.item i s _ _ hg st fun v h' tk hv st' kk=>?_;obtain⟨t,rfl⟩:=hv;have I1:Inv X pins σ H { s with heap:=h',toks:=tk }:=I.turned (fun b o hb e=>kk b o (by simpa using hb) e) f0 f1 f3 f4 f5;refine⟨_,rfl,PK (s:={ s with heap:=h',toks:=tk }) (n:="range_iterator") st' rfl rfl (by decide) ⟨.int (lo+i),H,I1,⟨t,?_⟩,⟨rfl,rfl⟩,st',fun b hb=>(hf b hb).1⟩⟩;rw[Int.mul_one]
 done:=by
  intro X hP hw hK hc i pins s σ H E I hf st hg;subst hP hw hK;obtain⟨f0,f1,f2,f3,f4,f5⟩:=hf it (by simp);exact wpAny_pyNext_range_end (I.ok.hd hc) st (by have:n<=i:=hg;omega) fun h' eb=>⟨rfl,I.turned (t':=s.toks) (fun b o hb e=>eb b o hb e) f0 f1 f3 f4 f5⟩
 self:=fun _ _ _ _ _ st h=>wpAny_pyIter_rangeiter st h
section
variable{X:Cx}{tg:Expr}
theorem aAm{pins:List (Addr×Obj)}{R:It->Hp->Prop}{E:Value->Shared->Prop}{lo hi:Int}{t u v:Tok}{tk:Nat}(I:Inv X pins σ H s)(h1:-(2 ^ 62)<=lo)(h2:lo<2 ^ 62)(h3:-(2 ^ 62)<=hi)(h4:hi<2 ^ 62)
 (q:R (Itr lo (hi-lo).toNat) H):wpAny (model X.prog X.w) X.A (pyIter (.ref s.heap.objs.size)) (PIE X pins σ tg R) E { s with heap:=s.heap.push { cls:=.type "range",data:=.fields #[.int lo t,.int hi u,.int 1 v] },toks:=tk }:=by
 refine wpAny_pyIter_range (IsRange.new ..) (small_one h1 h2 h3 h4) ?_;have I1:Inv X pins σ H { s with heap:=s.heap.push { cls:=.type "range",data:=.fields #[.int lo t,.int hi u,.int 1 v] },toks:=tk }:=I.kept fun b o e=>A3 _ e
 refine⟨(s.heap.push { cls:=.type "range",data:=.fields #[.int lo t,.int hi u,.int 1 v] }).objs.size,[(s.heap.push { cls:=.type "range",data:=.fields #[.int lo t,.int hi u,.int 1 v] }).objs.size],_,_,H,rfl,
  I1.kept (t':=tk) fun b o e=>A3 _ e,MR _ lo (hi-lo).toNat,?_,fun b hb=>?_,q⟩
 .have e1:lo+((0:Nat):Int)*1=lo:=by simp
  have e2:(((hi-lo).toNat:Nat):Int)-((0:Nat):Int)=Builtin.Range.rangeSize lo hi 1:=by rw[rangeSize_one];split<;>omega
  show IsRangeIter _ _ (lo+((0:Nat):Int)*1) ((((hi-lo).toNat:Nat):Int)-((0:Nat):Int)) 1;rw[e1,e2];exact B3 _ rfl
 .have e:b=(s.heap.push { cls:=.type "range",data:=.fields #[.int lo t,.int hi u,.int 1 v] }).objs.size:=by simpa using hb
  subst e;exact I1.fpOk (A8 _) (I1.hok.fresh (A8 _))
noncomputable def aEA(ta:TA):TI:=fun σ H R=>ta σ H fun vs H1=>∃j:Int,vs=[.int j]/\-(2 ^ 62)<=j/\j<2 ^ 62/\R (Itr 0 j.toNat) H1
theorem UA{a:Expr}{ta:TA}{p:Pos}(hg:Gl X "range")(hm:X.mg "range"=none)(ha:PA X [a] ta)(hs:starEach [a] X.env=[(false,eval a X.env)]:=by rfl):PI X tg (.Call (.Name "range" p) [a] [] pos) (aEA ta):=by
 intro pins s σ H R I h;refine Call_ (sX I hg hm boot_range (Y1 (thn (ha pos pins s σ H _ I h) fun us s1 ⟨vs,H1,I1,r1,q1⟩=>?_) hs rfl));obtain⟨j,e,q1,q2,q⟩:=q1;subst e;cases r1 with
 |cons r rr=>
  cases rr;obtain⟨t,rfl⟩:=r;exact call_range_1 (aAm I1 (by omega) (by omega) q1 q2 (by simpa using q))
noncomputable def aHA(wi:TI)(g:TG)(tb:TS):TS:=fun D σ H=>wi σ H fun J H1=>∃W:Nat->Nat->St->Hp->Prop,(∃m,W 0 m σ H1)/\∀i m σ H,W i m σ H->
 (J.stop i H/\D.nx σ H)\/(J.go i H/\∃N:St->Hp->Prop,(∀σ' H',N σ' H'->∃m',m'<m/\W (i+1) m' σ' H')/\∀x H',J.yld i H x H'->g x σ H' fun σ2 H2=>tb { D with nx:=N,ct:=N,bk:=D.nx } σ2 H2)
noncomputable def vC(fp:List Addr)(h:Heap):List (Addr×Obj):=fp.filterMap fun b=>(h.get? b).map fun o=>(b,o)
theorem gU{fp:List Addr}{h:Heap}{b:Addr}{o:Obj}(hb:b∈fp)(e:h.get? b=some o):(b,o)∈vC fp h:=List.mem_filterMap.mpr ⟨b,hb,by rw[e];rfl⟩
theorem TC{fp:List Addr}{h:Heap}{p:Addr×Obj}(hp:p∈vC fp h):p.1∈fp/\h.get? p.1=some p.2:=by
 obtain⟨b,hb,e⟩:=List.mem_filterMap.mp hp;cases q:h.get? b with
 |none=>rw[q]at e;cases e
 |some o=>
  rw[q]at e;have e':(b,o)=p:=D3 e;subst e';exact⟨hb,q⟩
theorem Inv.pinned{pins:List (Addr×Obj)}{fp:List Addr}(I:Inv X pins σ H s)(hf:∀b∈fp,rF X pins H b)(ho:∀b∈fp,∃o,s.heap.get? b=some o/\∀v,o.data≠.cell v):Inv X (pins++vC fp s.heap) σ H s:=
 I.pins_of fun p hp=>(List.mem_append.mp hp).elim (fun z=>I.pin p (C8 _ z)) fun z=>by
  obtain⟨hb,e⟩:=TC z;obtain⟨f0,f1,f2,_⟩:=hf p.1 hb;obtain⟨o,e',d⟩:=ho p.1 hb;rw[e]at e';cases e';exact⟨e,f0,f1,f2,d⟩
theorem Inv.unpinned{pins pl:List (Addr×Obj)}(I:Inv X (pins++pl) σ H s):Inv X pins σ H s:=I.pins_of fun p hp=>I.pin p (C8 _ (E4 _ hp))
theorem WK{iter:Expr}{body:List Stmt}{wi:TI}{g:TG}{tb:TS}{pos:Pos}(hp:PassesOwn (model X.prog X.w) X.A X.env X.xe)(hc:X.calm=true)(hi:PI X tg iter wi)(hg:PG X tg g)(hb:PSs X body tb)
 (hs:∀x,foldedSetIterable iter X.env x=pure x:=by intro _;rfl):PS X (.For tg iter body [] pos) (aHA wi g tb):=by
 intro pins s σ H D I h;refine wpAny_For (thn (hi pins s σ H _ I h) fun v s1 h1=>thn h1 fun itv s2 h2=>?_) hs;obtain⟨it,fp,tn,J,H2,e,I2,T,st2,f2,W,⟨m0,w0⟩,turn⟩:=h2;subst e;have stat:∀{H':Hp},(∀b∈fp,H' b=none)->∀b∈fp,rF X pins H' b:=fun hn b hb=>⟨hn b hb,(f2 b hb).2⟩;refine codeAny_forLoop_any (fun n s'=>∃i σ' H',Inv X pins σ' H' s'/\tn i s'.heap/\(∀b∈fp,H' b=none)/\W i n σ' H') ?_ m0 ⟨0,σ,H2,I2,st2,fun b hb=>(f2 b hb).1,w0⟩;rintro n s3 ⟨i,σ3,H3,I3,st3,fr3,w3⟩;rcases turn i n σ3 H3 w3 with⟨stop,qn⟩|⟨go,N,hN,step⟩
 .refine S1 hp (thn (T.done X rfl rfl rfl hc i pins s3 σ3 H3 X.xe I3 (stat fr3) st3 stop) fun r s4 ⟨hr,I4⟩=>?_);subst hr;exact Y7 ⟨σ3,H3,I4,qn⟩
 .refine S1 hp (thn (T.item X rfl rfl rfl hc i pins s3 σ3 H3 X.xe I3 (stat fr3) st3 go) fun r s4 ⟨u,hr,h4⟩=>?_);subst hr;refine S1 hp (thn h4 fun _ s5 ⟨x,H5,I5,r5,y5,st5,fr5⟩=>?_);have I5':=I5.pinned (stat fr5) (T.obj _ _ st5);refine S1 hp (thn (hg _ s5 σ3 H5 x u _ I5' r5 (step x H5 y5)) fun _ s6 ⟨σ6,H6,I6,q6⟩=>?_);refine S1 hp (thn (hb _ s6 σ6 H6 _ I6 q6) fun f s7 q7=>?_)
  have again:∀{σ7:St}{H7:Hp},Inv X (pins++vC fp s5.heap) σ7 H7 s7->N σ7 H7->∃m,m<n/\∃i σ' H',Inv X pins σ' H' s7/\tn i s7.heap/\(∀b∈fp,H' b=none)/\W i m σ' H':=fun{σ7 H7} I7 n7=>by
   obtain⟨m',hm,w7⟩:=hN σ7 H7 n7;refine⟨m',hm,i+1,σ7,H7,I7.unpinned,T.keep _ _ _ st5 fun b hb o e=>(I7.pin (b,o) (C8 _ (C8 _ (gU hb e)))).1,fun b hb=>?_,w7⟩;obtain⟨o,e,d⟩:=T.obj _ _ st5 b hb;exact(I7.pin (b,o) (C8 _ (C8 _ (gU hb e)))).2.1
  cases f with
  |next=>obtain⟨σ7,H7,I7,n7⟩:=q7;exact again I7 n7
  |cont=>obtain⟨σ7,H7,I7,n7⟩:=q7;exact again I7 n7
  |brk=>obtain⟨σ7,H7,I7,q7⟩:=q7;exact⟨σ7,H7,I7.unpinned,q7⟩
  |ret v=>obtain⟨x7,σ7,H7,I7,r7,q7⟩:=q7;exact⟨x7,σ7,H7,I7.unpinned,r7,q7⟩
end
noncomputable abbrev R2:=V->V->Hp->VK->Prop
noncomputable def OpR(X:Cx)(f:Value->Value->Sem Value)(r:R2):Prop:=
 ∀(pins:List (Addr×Obj))(s:Shared)(σ:St)(H:Hp)(x y:V)(v u:Value)(Q:VK),Inv X pins σ H s->RelV x v->RelV y u->r x y H Q->
  wpAny (model X.prog X.w) X.A (f v u) (EP X pins σ Q) X.xe s
noncomputable def UnR(X:Cx)(f:Value->Sem Value)(r:V->Hp->VK->Prop):Prop:=
 ∀(pins:List (Addr×Obj))(s:Shared)(σ:St)(H:Hp)(x:V)(v:Value)(Q:VK),Inv X pins σ H s->RelV x v->r x H Q->
  wpAny (model X.prog X.w) X.A (f v) (EP X pins σ Q) X.xe s
noncomputable def eI(X:Cx)(f:Value)(r:List V->Hp->VK->Prop):Prop:=
 ∀(pins:List (Addr×Obj))(s:Shared)(σ:St)(H:Hp)(xs:List V)(us:List Value)(Q:VK),Inv X pins σ H s->bF xs us->r xs H Q->
  wpAny (model X.prog X.w) X.A (call f us) (EP X pins σ Q) X.xe s
noncomputable def aKq(X:Cx)(r:V->Hp->(Bool->Hp->Prop)->Prop):Prop:=
 ∀(pins:List (Addr×Obj))(s:Shared)(σ:St)(H:Hp)(x:V)(v:Value)(Q:Bool->Hp->Prop),Inv X pins σ H s->RelV x v->r x H Q->
  wpAny (model X.prog X.w) X.A (truthy v) (TP X pins σ Q) X.xe s
noncomputable def tOp(r:R2)(ta tb:TE):TE:=fun σ H Q=>ta σ H fun x H1=>tb σ H1 fun y H2=>r x y H2 Q
noncomputable def tUn(r:V->Hp->VK->Prop)(ta:TE):TE:=fun σ H Q=>ta σ H fun x H1=>r x H1 Q
noncomputable def rI(C:Int->Int->Prop)(g:Int->Int->V):R2:=fun x y H Q=>∃i j,x=.int i/\y=.int j/\C i j/\Q (g i j) H
noncomputable def rI0(g:Int->Int->V):R2:=fun x y H Q=>∃i j,x=.int i/\y=.int j/\Q (g i j) H
noncomputable def rU(g:Int->V):V->Hp->VK->Prop:=fun x H Q=>∃i,x=.int i/\Q (g i) H
section
variable{X:Cx}{a b c:Expr}{ta tb tc:TE}{pos:Pos}
theorem aGd(ha:PE X a ta)(hb:PE X b tb){pins:List (Addr×Obj)}{R:V->V->Hp->Prop}(I:Inv X pins σ H s)
 (h:ta σ H fun x H1=>tb σ H1 fun y H2=>R x y H2) {Q:Value->Shared->Prop} {f:Value->Value->Sem Value}
 (hf:∀v u s2 x y H2,Inv X pins σ H2 s2->RelV x v->RelV y u->R x y H2->wpAny (model X.prog X.w) X.A (f v u) Q X.xe s2):
 wpAny (model X.prog X.w) X.A (eval a X.env) (fun v s₁=>wpAny (model X.prog X.w) X.A (eval b X.env) (fun u s₂=>wpAny (model X.prog X.w) X.A (f v u) Q X.xe s₂) X.xe s₁) X.xe s:=by
 refine thn (ha pins s σ H _ I h) fun v s1 ⟨x,H1,I1,r1,q1⟩=>?_;refine thn (hb pins s1 σ H1 _ I1 q1) fun u s2 ⟨y,H2,I2,r2,q2⟩=>?_;exact hf v u s2 x y H2 I2 r1 r2 q2
theorem aIT{op:Operator}{r:R2}(ho:OpR X (binaryOp op) r)(ha:PE X a ta)(hb:PE X b tb):PE X (.BinOp a op b pos) (tOp r ta tb):=by
 intro pins s σ H Q I h;exact wpAny_BinOp (aGd ha hb I h fun v u s2 x y H2 I2 rx ry q=>ho pins s2 σ H2 x y v u Q I2 rx ry q)
theorem aJP{op:UnaryOp}{r:V->Hp->VK->Prop}(ho:UnR X (unaryOp op) r)(ha:PE X a ta):PE X (.UnaryOp op a pos) (tUn r ta):=by
 intro pins s σ H Q I h;exact UnaryOp_ (thn (ha pins s σ H _ I h) fun v s1 ⟨x,H1,I1,r1,q1⟩=>ho pins s1 σ H1 x v Q I1 r1 q1)
theorem opI{f:Value->Value->Sem Value}{C:Int->Int->Prop}{g:Int->Int->Int}
 (rule:∀(i j:Int)(t u:Tok)(s:Shared)(Q:Value->Shared->Prop)(E:Value->Shared->Prop),C i j->Q (.int (g i j) s.toks) { s with toks:=s.toks+1 }->wpAny (model X.prog X.w) X.A (f (.int i t) (.int j u)) Q E s):
 OpR X f (rI C fun i j=>.int (g i j)):=by
 intro pins s σ H x y v u Q I rx ry h;obtain⟨i,j,rfl,rfl,hc,q⟩:=h;obtain⟨t,rfl⟩:=rx;obtain⟨t',rfl⟩:=ry;exact rule i j t t' s _ _ hc ⟨.int (g i j),H,I.tok _,⟨_,rfl⟩,q⟩
theorem aJJ{f:Value->Value->Sem Value}{g:Int->Int->Int}
 (rule:∀(i j:Int)(t u:Tok)(s:Shared)(Q:Value->Shared->Prop)(E:Value->Shared->Prop),Q (.int (g i j) s.toks) { s with toks:=s.toks+1 }->wpAny (model X.prog X.w) X.A (f (.int i t) (.int j u)) Q E s):
 OpR X f (rI0 fun i j=>.int (g i j)):=by
 intro pins s σ H x y v u Q I rx ry h;obtain⟨i,j,rfl,rfl,q⟩:=h;obtain⟨t,rfl⟩:=rx;obtain⟨t',rfl⟩:=ry;exact rule i j t t' s _ _ ⟨.int (g i j),H,I.tok _,⟨_,rfl⟩,q⟩
theorem aDU{f:Value->Value->Sem Value}{g:Int->Int->Bool}
 (rule:∀(i j:Int)(t u:Tok)(s:Shared)(Q:Value->Shared->Prop)(E:Value->Shared->Prop),Q (.bool (g i j)) s->wpAny (model X.prog X.w) X.A (f (.int i t) (.int j u)) Q E s):
 OpR X f (rI0 fun i j=>.bl (g i j)):=by
 intro pins s σ H x y v u Q I rx ry h;obtain⟨i,j,rfl,rfl,q⟩:=h;obtain⟨t,rfl⟩:=rx;obtain⟨t',rfl⟩:=ry;exact rule i j t t' s _ _ ⟨.bl (g i j),H,I,rfl,q⟩
noncomputable def aIw(i j:Int):Prop:=0<=j/\j<=1000000/\i.natAbs<2 ^ 64
noncomputable def aIj(i j:Int):Prop:=(-(2 ^ 64)<i/\i<2 ^ 64)\/(-(2 ^ 64)<j/\j<2 ^ 64)
theorem aIj.ok{i j:Int}(h:aIj i j):IntMulOk i j:=by
 rcases h with⟨h1,h2⟩|⟨h1,h2⟩
 .exact .of_left (intBits_le_64 h1 h2)
 .exact .of_right (intBits_le_64 h1 h2)
theorem op_add:OpR X (binaryOp .Add) (rI0 fun i j=>.int (i+j)):=aJJ fun _ _ _ _ _ _ _ q=>add_int q
theorem aGw:OpR X (binaryOp .Sub) (rI0 fun i j=>.int (i-j)):=aJJ fun _ _ _ _ _ _ _ q=>sub_int q
theorem aGA:OpR X (binaryOp .Mod) (rI (fun _ j=>0<j) fun i j=>.int (i % j)):=opI fun i j _ _ _ _ _ hc q=>by
 have h1:(0:Int)<j:=hc;exact mod_int' (by omega) (by rw[Int.fmod_eq_emod_of_nonneg i (by omega)];exact q)
theorem aHk:OpR X (binaryOp .Pow) (rI aIw fun i j=>.int (i ^ j.toNat)):=opI fun _ _ _ _ _ _ _ hc q=>pow_int_small hc.1 hc.2.1 hc.2.2 q
theorem unI{f:Value->Sem Value}{g:Int->Int}
 (rule:∀(i:Int)(t:Tok)(s:Shared)(Q:Value->Shared->Prop)(E:Value->Shared->Prop),Q (.int (g i) s.toks) { s with toks:=s.toks+1 }->wpAny (model X.prog X.w) X.A (f (.int i t)) Q E s):
 UnR X f (rU fun i=>.int (g i)):=by
 intro pins s σ H x v Q I rx h;obtain⟨i,rfl,q⟩:=h;obtain⟨t,rfl⟩:=rx;exact rule i t s _ _ ⟨.int (g i),H,I.tok _,⟨_,rfl⟩,q⟩
theorem aFs:UnR X (unaryOp .USub) (rU fun i=>.int (-i)):=unI fun _ _ _ _ _ q=>neg_int q
end
noncomputable def aJl:V->V->Bool
 |.non,.non=>true|.non,.int _=>true|.int _,.non=>true|.non,.bl _=>true|.bl _,.non=>true|.non,.str _=>true|.str _,.non=>true
 |.int _,.int _=>true|.bl _,.bl _=>true|.str _,.str _=>true|.byt _,.byt _=>true
 |.int _,.str _=>true|.str _,.int _=>true|.bl _,.str _=>true|.str _,.bl _=>true
 |_,_=>false
noncomputable def rEq:R2:=fun x y H Q=>aJl x y=true/\Q (.bl (decide (x=y))) H
noncomputable def rNe:R2:=fun x y H Q=>aJl x y=true/\Q (.bl (!decide (x=y))) H
theorem QB{i j:Int}:decide (V.int i=V.int j)=(i==j):=by
 rw[U1];simp
theorem aAY{i j:Bool}:decide (V.bl i=V.bl j)=(i==j):=by
 rw[U1];simp
theorem RA{i j:Str}:decide (V.str i=V.str j)=(i==j):=by
 rw[U1];simp
theorem RE{i j:Array UInt8}:decide (V.byt i=V.byt j)=(i.toList==j.toList):=by
 rw[U1];cases i;cases j;simp
section
variable{X:Cx}{a b c:Expr}{ta tb tc:TE}{pos:Pos}
theorem bU{pins:List (Addr×Obj)}{Q:VK}{k k':Bool}(I:Inv X pins σ H s)(q:Q (.bl k) H)(e:k=k'):EP X pins σ Q (.bool k') s:=by
 subst e;exact⟨.bl k,H,I,rfl,q⟩
theorem op_eq:OpR X (compareOp .Eq) rEq:=by
 intro pins s σ H x y v u Q I rx ry h;obtain⟨hs,q⟩:=h;cases x with
 |non=>
  cases rx;cases y with
  |non=>cases ry;exact PySem.EqNone.eq_none_none (bU I q (by simp))
  |bl j=>cases ry;exact PySem.EqNone.eq_none_bool (bU I q (by simp))
  |int j=>obtain⟨t',rfl⟩:=ry;exact PySem.EqNone.eq_none_int (bU I q (by simp))
  |str j=>obtain⟨t',rfl⟩:=ry;exact PySem.EqNone.eq_none_str (bU I q (by simp))
  |_=>exact absurd (show false=true from hs) A7
 |bl i=>
  cases rx;cases y with
  |non=>cases ry;exact PySem.EqNone.eq_bool_none (bU I q (by simp))
  |bl j=>cases ry;exact eq_bool (bU I q aAY)
  |str j=>obtain⟨t',rfl⟩:=ry;exact PySem.EqMixed.eq_bool_str (bU I q (by simp))
  |_=>exact absurd (show false=true from hs) A7
 |int i=>
  obtain⟨t,rfl⟩:=rx;cases y with
  |non=>cases ry;exact PySem.EqNone.eq_int_none (bU I q (by simp))
  |int j=>obtain⟨t',rfl⟩:=ry;exact eq_int (bU I q QB)
  |str j=>obtain⟨t',rfl⟩:=ry;exact PySem.EqMixed.eq_int_str (bU I q (by simp))
  |_=>exact absurd (show false=true from hs) A7
 |str i=>
  obtain⟨t,rfl⟩:=rx;cases y with
  |non=>cases ry;exact PySem.EqNone.eq_str_none (bU I q (by simp))
  |bl j=>cases ry;exact PySem.EqMixed.eq_str_bool (bU I q (by simp))
  |int j=>obtain⟨t',rfl⟩:=ry;exact PySem.EqMixed.eq_str_int (bU I q (by simp))
  |str j=>obtain⟨t',rfl⟩:=ry;exact eq_str (bU I q RA)
  |_=>exact absurd (show false=true from hs) A7
 |byt i=>
  obtain⟨t,rfl⟩:=rx;cases y with
  |byt j=>obtain⟨t',rfl⟩:=ry;exact PySem.W.eq_bytes (bU I q RE)
  |_=>exact absurd (show false=true from hs) A7
 |_=>cases y<;>exact absurd (show false=true from hs) A7
theorem op_ne:OpR X (compareOp .NotEq) rNe:=by
 intro pins s σ H x y v u Q I rx ry h;obtain⟨hs,q⟩:=h;cases x with
 |non=>
  cases rx;cases y with
  |non=>cases ry;exact PySem.EqNone.ne_none_none (bU I q (by simp))
  |bl j=>cases ry;exact PySem.EqNone.ne_none_bool (bU I q (by simp))
  |int j=>obtain⟨t',rfl⟩:=ry;exact PySem.EqNone.ne_none_int (bU I q (by simp))
  |str j=>obtain⟨t',rfl⟩:=ry;exact PySem.EqNone.ne_none_str (bU I q (by simp))
  |_=>exact absurd (show false=true from hs) A7
 |bl i=>
  cases rx;cases y with
  |non=>cases ry;exact PySem.EqNone.ne_bool_none (bU I q (by simp))
  |bl j=>cases ry;exact ne_bool (bU I q (O1 not aAY))
  |str j=>obtain⟨t',rfl⟩:=ry;exact PySem.EqMixed.ne_bool_str (bU I q (by simp))
  |_=>exact absurd (show false=true from hs) A7
 |int i=>
  obtain⟨t,rfl⟩:=rx;cases y with
  |non=>cases ry;exact PySem.EqNone.ne_int_none (bU I q (by simp))
  |int j=>obtain⟨t',rfl⟩:=ry;exact ne_int (bU I q (O1 not QB))
  |str j=>obtain⟨t',rfl⟩:=ry;exact PySem.EqMixed.ne_int_str (bU I q (by simp))
  |_=>exact absurd (show false=true from hs) A7
 |str i=>
  obtain⟨t,rfl⟩:=rx;cases y with
  |non=>cases ry;exact PySem.EqNone.ne_str_none (bU I q (by simp))
  |bl j=>cases ry;exact PySem.EqMixed.ne_str_bool (bU I q (by simp))
  |int j=>obtain⟨t',rfl⟩:=ry;exact PySem.EqMixed.ne_str_int (bU I q (by simp))
  |str j=>obtain⟨t',rfl⟩:=ry;exact ne_str (bU I q (O1 not RA))
  |_=>exact absurd (show false=true from hs) A7
 |byt i=>
  obtain⟨t,rfl⟩:=rx;cases y with
  |byt j=>obtain⟨t',rfl⟩:=ry;exact PySem.W.ne_bytes (bU I q (O1 not RE))
  |_=>exact absurd (show false=true from hs) A7
 |_=>cases y<;>exact absurd (show false=true from hs) A7
theorem aJj:OpR X (compareOp .Lt) (rI0 fun i j=>.bl (decide (i<j))):=aDU fun _ _ _ _ _ _ _ q=>lt_int q
theorem aJD:OpR X (compareOp .LtE) (rI0 fun i j=>.bl (decide (i<=j))):=aDU fun _ _ _ _ _ _ _ q=>le_int q
theorem aIY:OpR X (compareOp .Gt) (rI0 fun i j=>.bl (decide (j<i))):=aDU fun _ _ _ _ _ _ _ q=>gt_int q
theorem aIs:OpR X (compareOp .GtE) (rI0 fun i j=>.bl (decide (j<=i))):=aDU fun _ _ _ _ _ _ _ q=>ge_int q
theorem UG:OpR X (compareOp .In) (fun x y H Q=>∃i j,x=.str i/\y=.str j/\Q (.bl (!(Builtin.Str.occurrences j i 0 j.length 1).isEmpty)) H):=by
 intro pins s σ H x y v u Q I rx ry h;obtain⟨i,j,rfl,rfl,q⟩:=h;obtain⟨t,rfl⟩:=rx;obtain⟨t',rfl⟩:=ry;exact in_str (bU I q rfl)
theorem aFo:OpR X (compareOp .Is) (fun x y H Q=>y=.non/\Q (.bl (decide (x=.non))) H):=by
 intro pins s σ H x y v u Q I rx ry h;obtain⟨rfl,q⟩:=h;cases ry;refine is_none_gen (bU I q ?_)
 cases x<;>first
  |(cases rx;rfl)
  |(obtain⟨t,rfl⟩:=rx;rfl)
theorem aCV:OpR X (compareOp .IsNot) (fun x y H Q=>y=.non/\Q (.bl (!decide (x=.non))) H):=by
 intro pins s σ H x y v u Q I rx ry h;obtain⟨rfl,q⟩:=h;cases ry;refine isnot_none_gen (bU I q ?_)
 cases x<;>first
  |(cases rx;rfl)
  |(obtain⟨t,rfl⟩:=rx;rfl)
theorem OpR.or{f:Value->Value->Sem Value}{r r':R2}(h:OpR X f r)(h':OpR X f r'):OpR X f (fun x y H Q=>r x y H Q\/r' x y H Q):=by
 intro pins s σ H x y v u Q I rx ry q;rcases q with q|q
 .exact h pins s σ H x y v u Q I rx ry q
 .exact h' pins s σ H x y v u Q I rx ry q
theorem aBI{op:CmpOp}{r:R2}(ho:OpR X (compareOp op) r)(ha:PE X a ta)(hb:PE X b tb)(hm:behindInMarks op b=false):PE X (.Compare a [op] [b] pos) (tOp r ta tb):=by
 intro pins s σ H Q I h;exact wpAny_Compare1 (aGd ha hb I h fun v u s2 x y H2 I2 rx ry q=>ho pins s2 σ H2 x y v u Q I2 rx ry q) hm
noncomputable def aBa(t:TE):TT:=fun σ H Q=>t σ H fun x H'=>∃k,x=.bl k/\Q k H'
theorem aDY{op:CmpOp}{r:R2}(ho:OpR X (compareOp op) r)(ha:PE X a ta)(hb:PE X b tb)(hm:behindInMarks op b=false):PT X (.Compare a [op] [b] pos) (aBa (tOp r ta tb)):=by
 intro pins s σ H Q I h
 refine wpAny_isTrue_Compare1 (thn (ha pins s σ H _ I h) fun v s1 ⟨x,H1,I1,r1,q1⟩=>thn (hb pins s1 σ H1 _ I1 q1) fun u s2 ⟨y,H2,I2,r2,q2⟩=>
  thn (ho pins s2 σ H2 x y v u _ I2 r1 r2 q2) fun c s3 ⟨z,H3,I3,r3,k,e,q3⟩=>?_) hm
 subst e;cases r3;exact I0 ⟨H3,I3,q3⟩
noncomputable def NO(r r':R2)(ta tb tc:TE):TE:=fun σ H Q=>ta σ H fun x H1=>tb σ H1 fun y H2=>r x y H2 fun z H3=>∃k,z=.bl k /\
 (if k=true then tc σ H3 fun w' H4=>r' y w' H4 Q else Q (.bl false) H3)
theorem aBr{op op':CmpOp}{r r':R2}(ho:OpR X (compareOp op) r)(ho':OpR X (compareOp op') r')(ha:PE X a ta)(hb:PE X b tb)(hc:PE X c tc)
 (hm:lastMarks [op,op'] [b,c]=false:=by with_unfolding_all rfl):PE X (.Compare a [op,op'] [b,c] pos) (NO r r' ta tb tc):=by
 intro pins s σ H Q I h
 refine Compare_chain (thn (ha pins s σ H _ I h) fun v s1 ⟨x,H1,I1,r1,q1⟩=>chain_link (thn (hb pins s1 σ H1 _ I1 q1) fun u s2 ⟨y,H2,I2,r2,q2⟩=>
  thn (ho pins s2 σ H2 x y v u _ I2 r1 r2 q2) fun d s3 ⟨z,H3,I3,r3,k,e,q3⟩=>?_)) hm
 subst e;cases r3;refine I0 ?_;cases k with
 |false=>exact ite_ff ⟨.bl false,H3,I3,rfl,q3⟩
 |true=>exact ite_tt (chain_last (thn (hc pins s3 σ H3 _ I3 q3) fun w' s4 ⟨z',H4,I4,r4,q4⟩=>ho' pins s4 σ H4 y z' u w' Q I4 r2 r4 q4))
theorem YF{op op':CmpOp}{r r':R2}(ho:OpR X (compareOp op) r)(ho':OpR X (compareOp op') r')(ha:PE X a ta)(hb:PE X b tb)(hc:PE X c tc)
 (hm:lastMarks [op,op'] [b,c]=false:=by with_unfolding_all rfl):PT X (.Compare a [op,op'] [b,c] pos) (aBa (NO r r' ta tb tc)):=by
 intro pins s σ H Q I h
 refine isTrue_chain (thn (ha pins s σ H _ I h) fun v s1 ⟨x,H1,I1,r1,q1⟩=>test_link (thn (hb pins s1 σ H1 _ I1 q1) fun u s2 ⟨y,H2,I2,r2,q2⟩=>
  thn (ho pins s2 σ H2 x y v u _ I2 r1 r2 q2) fun d s3 ⟨z,H3,I3,r3,k,e,q3⟩=>?_)) hm
 subst e;cases r3;refine I0 ?_;cases k with
 |false=>
  obtain⟨k',e',q'⟩:=q3;cases e';exact ite_ff ⟨H3,I3,q'⟩
 |true=>
  refine ite_tt (test_last (thn (hc pins s3 σ H3 _ I3 q3) fun w' s4 ⟨z',H4,I4,r4,q4⟩=>thn (ho' pins s4 σ H4 y z' u w' _ I4 r2 r4 q4) fun d' s5 ⟨z2,H5,I5,r5,k2,e2,q5⟩=>?_));subst e2;cases r5;exact I0 ⟨H5,I5,q5⟩
noncomputable def aAS(K:Fg)(x:V)(H:Hp)(k:Bool):Prop:=
 match x with
 |.non=>k=false
 |.bl b=>k=b
 |.int i=>k=(i != 0)
 |.str y=>y.length<=sizeLine/\k=((y.length:Int) != 0)
 |.byt y=>y.size<=sizeLine/\k=((y.size:Int) != 0)
 |.ref p=>(∃xs,SqL K H p xs/\k=!xs.isEmpty)\/(∃xs,SqT K H p xs/\k=!xs.isEmpty)\/∃kvs,H p=some (.dK kvs)/\k=!kvs.isEmpty
 |_=>False
theorem OL{κ:Type}{kvs:List (κ×V)}{vs:List (κ×Value)}(r:KV kvs vs):(!vs.isEmpty)=!kvs.isEmpty:=by
 cases r<;>rfl
theorem zS{xs:List V}{its:List Value}(r:bF xs its):(!its.toArray.isEmpty)=!xs.isEmpty:=by
 cases r<;>simp
theorem sN:(sizeLine:Nat)<2 ^ 63:=by rw[F0];decide
theorem aHP:aKq X (fun x H Q=>∃k,aAS X.K x H k/\Q k H):=by
 intro pins s σ H x v Q I rx h;obtain⟨k,e,q⟩:=h;have hl:=sN;have hs:sizeLine=16777216:=F0;cases x with
 |non=>
  cases rx;have e':k=false:=e;subst e';exact truthy_none ⟨H,I,q⟩
 |bl b=>
  cases rx;have e':k=b:=e;subst e';exact I0 ⟨H,I,q⟩
 |int i=>
  obtain⟨t,rfl⟩:=rx;have e':k=(i != 0):=e;subst e';exact PySem.P.truthy_int ⟨H,I,q⟩
 |str y=>
  obtain⟨t,rfl⟩:=rx;obtain⟨hy,e'⟩:y.length<=sizeLine/\k=((y.length:Int) != 0):=e;subst e';exact PySem.P.truthy_str (by omega) ⟨H,I.tok _,q⟩
 |byt y=>
  obtain⟨t,rfl⟩:=rx;obtain⟨hy,e'⟩:y.size<=sizeLine/\k=((y.size:Int) != 0):=e;subst e';exact PySem.W.truthy_bytes (by omega) ⟨H,I.tok _,q⟩
 |ref p=>
  cases rx;have e':(∃xs,SqL X.K H p xs/\k=!xs.isEmpty)\/(∃xs,SqT X.K H p xs/\k=!xs.isEmpty)\/∃kvs,H p=some (.dK kvs)/\k=!kvs.isEmpty:=e;rcases e' with⟨xs,hx,e'⟩|⟨xs,hx,e'⟩|⟨kvs,hx,e'⟩
  .subst e';obtain⟨its,r,pl,hz⟩:=I.list hx;have hlen:=r.length;exact wpAny_truthy_list pl.isList (by simp only[List.size_toArray];omega) ⟨H,I.tok _,by rw[zS r];exact q⟩
  .subst e';obtain⟨its,r,pl,hz⟩:=I.tuple hx;have hlen:=r.length;exact truthy_tuple pl (by simp only[List.size_toArray];omega) ⟨H,I.tok _,by rw[zS r];exact q⟩
  .subst e';obtain⟨hz,hS,vs,r,m⟩:kvs.length<=sizeLine/\(p==sysModules)=false/\∃vs,KV kvs vs/\s.heap.DictOf (dY X.prog X.w) p vs:=I.hok p _ hx;have hlen:kvs.length=vs.length:=Y3 r;exact wpAny_truthy_dict hS m (by omega) ⟨H,I.tok _,by rw[OL r];exact q⟩
 |_=>exact(show False from e).elim
theorem YK(ha:PE X a ta)(he:∀whole,isTrue a X.env whole=(do let v <- whole;standAt a.pos;holding [v] (truthy v))):
 PT X a (fun σ H Q=>ta σ H fun x H'=>∃k,aAS X.K x H' k/\Q k H'):=by
 intro pins s σ H Q I h;exact isTrue_plain (thn (ha pins s σ H _ I h) fun v s1 ⟨x,H1,I1,r1,q1⟩=>aHP pins s1 σ H1 x v Q I1 r1 q1) (he _)
theorem LW:OpR X (binaryOp .Add) (fun x y H Q=>∃i j,x=.str i/\y=.str j/\i.length+j.length<=sizeLine/\Q (.str (i++j)) H):=by
 intro pins s σ H x y v u Q I rx ry h;obtain⟨i,j,rfl,rfl,hz,q⟩:=h;obtain⟨t,rfl⟩:=rx;obtain⟨t',rfl⟩:=ry;exact add_str (fun t' tk=>⟨.str (i++j),H,I.tok _,⟨_,rfl⟩,q⟩) hz
theorem vals1{x:V}{us:List Value}(r:bF [x] us):∃u,us=[u]/\RelV x u:=by
 cases r with
 |cons r1 r2=>cases r2;exact⟨_,rfl,r1⟩
theorem vals2{x y:V}{us:List Value}(r:bF [x,y] us):∃u w',us=[u,w']/\RelV x u/\RelV y w':=by
 cases r with
 |cons r1 r2=>
  cases r2 with
  |cons r3 r4=>cases r4;exact⟨_,_,rfl,r1,r3⟩
theorem VJ(hc:X.calm=true):eI X (.builtin "max") (fun xs H Q=>∃i j,xs=[.int i,.int j]/\Q (.int (if j > i then j else i)) H):=by
 intro pins s σ H xs us Q I r h;obtain⟨i,j,rfl,q⟩:=h;obtain⟨u,w',rfl,⟨t,rfl⟩,⟨t',rfl⟩⟩:=vals2 r;refine max_two_ints (I.ok.hd hc) fun h' tk k=>⟨_,H,I.kept k,?_,q⟩;by_cases hj:j > i
 .rw[A4 hj,A4 hj];exact⟨_,rfl⟩
 .rw[A5 hj,A5 hj];exact⟨_,rfl⟩
theorem UQ(hc:X.calm=true):eI X (.builtin "min") (fun xs H Q=>∃i j,xs=[.int i,.int j]/\Q (.int (if j<i then j else i)) H):=by
 intro pins s σ H xs us Q I r h;obtain⟨i,j,rfl,q⟩:=h;obtain⟨u,w',rfl,⟨t,rfl⟩,⟨t',rfl⟩⟩:=vals2 r;refine min_two_ints (I.ok.hd hc) fun h' tk k=>⟨_,H,I.kept k,?_,q⟩;by_cases hj:j<i
 .rw[A4 hj,A4 hj];exact⟨_,rfl⟩
 .rw[A5 hj,A5 hj];exact⟨_,rfl⟩
theorem GR:eI X (.type "str") (fun xs H Q=>∃i,xs=[.int i]/\i.natAbs.log2<1920/\Q (.str (toString i)) H):=by
 intro pins s σ H xs us Q I r h;obtain⟨i,rfl,hz,q⟩:=h;obtain⟨u,rfl,t,rfl⟩:=vals1 r;exact PySem.P.str_of_int hz ⟨.str _,H,I.tok _,⟨_,rfl⟩,q⟩
noncomputable def aIm(K:Fg)(x:V)(H:Hp)(n:Nat):Prop:=
 match x with
 |.str y=>y.length<=sizeLine/\n=y.length
 |.byt y=>y.size<=sizeLine/\n=y.size
 |.ref p=>(∃xs,SqL K H p xs/\n=xs.length)\/∃xs,SqT K H p xs/\n=xs.length
 |_=>False
theorem WH:eI X (.builtin "len") (fun xs H Q=>∃x n,xs=[x]/\aIm X.K x H n/\Q (.int n) H):=by
 intro pins s σ H xs us Q I r h;obtain⟨x,n,rfl,e,q⟩:=h;obtain⟨u,rfl,rx⟩:=vals1 r;have hl:=sN;have hs:sizeLine=16777216:=F0;cases x with
 |str y=>
  obtain⟨t,rfl⟩:=rx;obtain⟨hy,e'⟩:y.length<=sizeLine/\n=y.length:=e;subst e';exact len_str (by omega) ⟨.int _,H,I.tok _,⟨_,rfl⟩,q⟩
 |byt y=>
  obtain⟨t,rfl⟩:=rx;obtain⟨hy,e'⟩:y.size<=sizeLine/\n=y.size:=e;subst e';exact PySem.W.len_bytes (by omega) ⟨.int _,H,I.tok _,⟨_,rfl⟩,q⟩
 |ref p=>
  cases rx;have e':(∃xs,SqL X.K H p xs/\n=xs.length)\/∃xs,SqT X.K H p xs/\n=xs.length:=e;rcases e' with⟨xs,hx,e'⟩|⟨xs,hx,e'⟩
  .subst e';obtain⟨its,r',pl,hz⟩:=I.list hx;have hlen:=r'.length;exact Calls.call_len_list pl.isList (by simp only[List.size_toArray];omega) ⟨.int xs.length,H,I.tok _,⟨_,by simp only[List.size_toArray];rw[hlen]⟩,q⟩
  .subst e';obtain⟨its,r',pl,hz⟩:=I.tuple hx;have hlen:=r'.length;exact len_tuple pl (by simp only[List.size_toArray];omega) ⟨.int xs.length,H,I.tok _,⟨_,by simp only[List.size_toArray];rw[hlen]⟩,q⟩
 |_=>exact(show False from e).elim
end
structure UZ(h:Heap)(x dx C:Addr)(mA:Str->Option Value):Prop where
 obj:h.get? x=some (PySem.W.instObj C dx)
 ns:h.Ns1 dx mA
 ne:dx≠x
theorem UM{h:Heap}{dx:Addr}{mA:Str->Option Value}(n:h.Ns1 dx mA):∃od,h.get? dx=some od/\∀name,PySem.W.lookIn name od=some (mA name):=by
 obtain⟨o,es,ep,ho,hd,hk,_,hm⟩:=n;refine⟨o,ho,fun name=>?_⟩;have e:=hm name;unfold nsFind findBy at e;rw[<- Array.find?_toList]at e;unfold PySem.W.lookIn;rw[hd];dsimp only;split
 .rename_i y q;rw[q]at e;exact O1 some e
 .rename_i q;rw[q]at e
  have a:es.toList.any (·.refKey)=false:=by
   rw[List.any_eq_false];intro y hy;obtain⟨z,t,hkey⟩:=hk y (Array.mem_toList_iff.mp hy);simp[DictEntry.refKey,hkey]
  have a':¬es.toList.any (·.refKey)=true:=by rw[a];exact A7
  rw[A5 a'];exact O1 some e
theorem UZ.look{h:Heap}{x dx C:Addr}{mA:Str->Option Value}(I:UZ h x dx C mA):∃od,PySem.W.InstAt h x (PySem.W.instObj C dx) C (some od)/\∀name,PySem.W.lookIn name od=some (mA name):=
 let⟨od,ho,hl⟩:=UM I.ns
 ⟨od,⟨I.obj,rfl,rfl,ho⟩,hl⟩
section
variable{prog:Program}{w:World}{A:Around}{E:Value->Shared->Prop}{s:Shared}{K:Fg}{x dx C f:Addr}{mA:Str->Option Value}{name:Str}{v:Value}
theorem get_map{expr:Bool}{Q:Value->Shared->Prop}(X:K.In s.heap)(I:UZ s.heap x dx C mA)(hg:PySem.W.plainGet K C name=true)(hh:PySem.W.hasDictIn K C=true)
 (ha:PySem.W.findIn K (.ref C) name=some none) (hv:mA name=some v) (hv':PySem.W.handedIn v=true) (h:Q v { s with toks:=s.toks+1 }):
 wpAny (model prog w) A (getAttr (.ref x) name expr) Q E s:=by
 obtain⟨od,J,hl⟩:=I.look;exact PySem.W.get_value X J (PySem.W.plainGet_of hg).1 (PySem.W.findObj_own hh ha rfl (by rw[hl,hv])) hv' h
theorem aDM{ns:List Str}{Q:Unit->Shared->Prop}(X:K.In s.heap)(I:UZ s.heap x dx C mA)
 (hs:PySem.W.findIn K (.ref C) "__setattr__"=some (some (.builtin "object.__setattr__"))) (hp:PySem.W.plainOver K C=true) (ht:PySem.W.takerIn K C name=some none) (hh:PySem.W.hasDictIn K C=true)
 (hw:PySem.Within mA ns) (hsz:ns.length<=sizeLine)
 (h:∀h',UZ h' x dx C (fun y=>if y=name then some v else mA y)->Heap.SameBut dx s.heap h'->Q () { s with heap:=h',toks:=s.toks+2 }):
 wpAny (model prog w) A (setAttr (.ref x) name v) Q E s:=by
 obtain⟨od,J,hl⟩:=I.look;refine PySem.W.set_plain X J hs (PySem.W.osa_open (s:={ s with toks:=s.toks+1 }) (r:=none) X J hp ht fun b=>?_);obtain⟨cd,hc,hd'⟩:=PySem.W.any_some hh;have hx:s.heap.get? x=some ⟨.ref C,some dx,.plain,#[]⟩:=I.obj;refine A0 (A6 (A0 (A0 (wpAny_loadPart hx (A0 (J9 (s:={ s with toks:=s.toks+1 }) (PySem.W.looks_clsIn X hc) ?_))))));rw[hd'];refine A6 (a:=some dx) (A0 (A6 (A0 ?_)));refine wpAny_nsSet1 (s:={ s with toks:=s.toks+1 }) I.ns fun h' hn2 hs2=>?_;obtain⟨oD,esD,epD,hoD,hdD,hcD⟩:=hn2.count (PySem.Within.cons name v hw);refine A0 (wpAny_lookBehind hoD (by rw[hdD];exact pastItsLine_dict (C9 hcD (by rw[B4];omega))) ?_);exact A6 (h _ ⟨(hs2.2 _ (F7 I.ne)).trans I.obj,hn2,I.ne⟩ hs2)
theorem aAX{R:Result->Shared->Prop}{vs:List Value}{kw:List (Str×Value)}(X:K.In s.heap)(hm:PySem.W.makesIn K C=true)
 (hi:PySem.W.findIn K (.ref C) "__init__"=some (some (.ref f))) (hf:PySem.W.typeIn K (.ref f)=some (.type "function"))
 (h:codeAny (model prog w) (A.under (.builtin "type.__call__" ⟨.ref C::vs,kw⟩)) (.call (.ref f) ⟨.ref (s.heap.objs.size+1)::vs,kw⟩) (PySem.W.InitBack (s.heap.objs.size+1) R)
  { s with heap:=(s.heap.push PySem.W.emptyDict).push (PySem.W.instObj C s.heap.objs.size) }):
 codeAny (model prog w) A (.call (.ref C) ⟨vs,kw⟩) R s:=by
 obtain⟨hh,g,d,t,os⟩:=s;exact PySem.W.make_core (PySem.W.makes_of X hm) (PySem.W.looks_findIn X hi) (fun self=>PySem.W.bind_fn X self hf) (.inl rfl) h
end
noncomputable def mX(f:Str)(v:V):List (Str×V)->List (Str×V)
 |[]=>[(f,v)]
 |(g,x)::r=>if g=f then(g,v)::r else(g,x)::mX f v r
theorem wH(f g:Str)(v:V):∀fs:List (Str×V),(mX f v fs).lookup g=if g=f then some v else fs.lookup g
 |[]=>by
  show List.lookup g [(f,v)]=_;by_cases h:g=f
  .have hb:(g==f)=true:=beq_iff_eq.mpr h;simp only[List.lookup,hb,if_pos h]
  .have hb:(g==f)=false:=beq_eq_false_iff_ne.mpr h;simp only[List.lookup,hb,if_neg h]
 |(k,x)::r=>by
  have ih:=wH f g v r;rw[show mX f v ((k,x)::r)=(if k=f then(k,v)::r else(k,x)::mX f v r)from rfl];by_cases hk:k=f
  .rw[A4 hk];by_cases h:g=k
   .have hb:(g==k)=true:=beq_iff_eq.mpr h;simp only[List.lookup,hb,if_pos (h.trans hk)]
   .have hb:(g==k)=false:=beq_eq_false_iff_ne.mpr h;simp only[List.lookup,hb,if_neg (fun e:g=f=>h (e.trans hk.symm))]
  .rw[A5 hk];by_cases h:g=k
   .have hb:(g==k)=true:=beq_iff_eq.mpr h;simp only[List.lookup,hb,if_neg (fun e:g=f=>hk (h.symm.trans e))]
   .have hb:(g==k)=false:=beq_eq_false_iff_ne.mpr h;simp only[List.lookup,hb];exact ih
theorem vE(f:Str)(v:V):∀fs:List (Str×V),f∈(mX f v fs).map (·.1)/\∀g,g∈fs.map (·.1)->g∈(mX f v fs).map (·.1)
 |[]=>⟨by simp[mX],fun g h=>by simp at h⟩
 |(k,x)::r=>by
  obtain⟨i1,i2⟩:=vE f v r;rw[show mX f v ((k,x)::r)=(if k=f then(k,v)::r else(k,x)::mX f v r)from rfl];by_cases hk:k=f
  .rw[A4 hk];subst hk;exact⟨by simp,fun g h=>by simpa using h⟩
  .rw[A5 hk];refine⟨?_,fun g h=>?_⟩
   .rw[B2];exact B1 _ i1
   .rw[B2]at h ⊢;rcases List.mem_cons.mp h with e|e
    .exact List.mem_cons.mpr (.inl e)
    .exact B1 _ (i2 g e)
theorem xB(f:Str)(v:V):∀fs:List (Str×V),(mX f v fs).length<=fs.length+1
 |[]=>by simp[mX]
 |(k,x)::r=>by
  have ih:=xB f v r;rw[show mX f v ((k,x)::r)=(if k=f then(k,v)::r else(k,x)::mX f v r)from rfl];by_cases hk:k=f
  .rw[A4 hk,B4,B4];omega
  .rw[A5 hk,B4,B4];omega
theorem vT.some_of{v:V}{o:Option Value}(r:vT (some v) o):∃u,o=some u/\RelV v u:=by
 cases o with
 |none=>exact(show False from r).elim
 |some u=>exact⟨u,rfl,r⟩
theorem UY{v:V}{u:Value}(r:RelV v u):PySem.W.handedIn u=true:=by
 cases v with
 |non=>cases (show u=Value.none from r);rfl
 |bl b=>cases (show u=Value.bool b from r);rfl
 |int i=>obtain⟨t,e⟩:=(show ∃t,u=Value.int i t from r);cases e;rfl
 |str x=>obtain⟨t,e⟩:=(show ∃t,u=Value.str x t from r);cases e;rfl
 |byt b=>obtain⟨t,e⟩:=(show ∃t,u=Value.bytes b t from r);cases e;rfl
 |flt b=>obtain⟨t,e⟩:=(show ∃t,u=Value.float b t from r);cases e;rfl
 |ref a=>cases (show u=Value.ref a from r);rfl
 |ty n=>cases (show u=Value.type n from r);rfl
section
variable{P:Program}{w:World}{H H':Hp}{h h':Heap}{a C dx:Addr}{fs fs':List (Str×V)}
theorem EH(hok:HOk P w H h)(e:H a=some (.ins C dx fs)):∃mA,UZ h a dx C mA/\(∀f,vT (fs.lookup f) (mA f))/\PySem.Within mA (fs.map (·.1))/\fs.length<=1000/\H dx=some (.own a):=by
 obtain⟨d,z,ne,ob,mA,n,r,q⟩:=(show cF P w H h a (.ins C dx fs)from hok a _ e);exact⟨mA,⟨ob,n,ne⟩,r,q,z,d⟩
end
structure Cls(K:Fg)(C:Addr):Prop where
 pg:PySem.W.plainGet K C Str.empty=true
 hd:PySem.W.hasDictIn K C=true
 po:PySem.W.plainOver K C=true
 sa:PySem.W.findIn K (.ref C) "__setattr__"=some (some (.builtin "object.__setattr__"))
theorem Cls.get{C:Addr}(c:Cls K C)(f:Str):PySem.W.plainGet K C f=true:=c.pg
noncomputable def fS(K:Fg)(C:Addr)(f:Str):Prop:=PySem.W.findIn K (.ref C) f=some none
theorem fS.taker{C:Addr}{f:Str}(n:fS K C f):PySem.W.takerIn K C f=some none:=by
 unfold PySem.W.takerIn;rw[show PySem.W.findIn K (.ref C) f=some none from n];rfl
section
variable{X:Cx}{pins:List (Addr×Obj)}{σ:St}{H:Hp}{s:Shared}{a C dx:Addr}{fs:List (Str×V)}{f:Str}{v:V}{A:Around}{E:Value->Shared->Prop}
theorem LX{b:Bool}{Q:Value->Shared->Prop}(I:Inv X pins σ H s)(e:H a=some (.ins C dx fs))(c:Cls X.K C)(n:fS X.K C f)(l:fs.lookup f=some v)
 (h:∀u s',Inv X pins σ H s'->RelV v u->Q u s'):wpAny (model X.prog X.w) A (getAttr (.ref a) f b) Q E s:=by
 obtain⟨mA,O,r,_,_,_⟩:=EH I.hok e;obtain⟨u,hu,ru⟩:=vT.some_of (v:=v) (o:=mA f) (by rw[<- l];exact r f);exact get_map I.kIn O (c.get f) c.hd n hu (UY ru) (h u _ (I.tok _) ru)
theorem MM{y:V}{u:Value}{Q:Unit->Shared->Prop}(I:Inv X pins σ H s)(e:H a=some (.ins C dx fs))(c:Cls X.K C)(n:fS X.K C f)(hl:fs.length<1000)(ry:RelV y u)
 (h:∀s',Inv X pins σ (upd H a (.ins C dx (mX f y fs))) s'->Q () s'):wpAny (model X.prog X.w) A (setAttr (.ref a) f u) Q E s:=by
 obtain⟨mA,O,r,wi,_,ho⟩:=EH I.hok e;have hz:(fs.map (·.1)).length<=sizeLine:=by rw[A2,F0];omega
 refine aDM I.kIn O c.sa c.po n.taker c.hd wi hz fun h' O' sb=>h _ ?_;have hd:∃o,h'.get? dx=some o:=let⟨o,_,_,e',_⟩:=O'.ns;⟨o,e'⟩;refine I.write (x:=a) (e:=dx) (by rw[e];exact True.intro) (.inr ho) (fun b q hb z=>(sb.2 b hb).trans z) hd ?_;refine⟨by rw[aM O.ne];exact ho,?_,O.ne,O'.obj,_,O'.ns,fun g=>?_,fun g hg=>?_⟩
 .have:=xB f y fs;omega
 .show vT ((mX f y fs).lookup g) (if g=f then some u else mA g);rw[wH];by_cases q:g=f
  .rw[A4 q,A4 q];exact ry
  .rw[A5 q,A5 q];exact r g
 .by_cases q:g=f
  .rw[q];exact(vE f y fs).1
  .refine(vE f y fs).2 g (wi g fun z=>hg ?_);show(if g=f then some u else mA g)=none;rw[A5 q];exact z
theorem Inv.made(I:Inv X pins σ H s):Inv X pins σ (upd (upd H s.heap.objs.size (.own (s.heap.objs.size+1))) (s.heap.objs.size+1) (.ins C s.heap.objs.size []))
 { s with heap:=(s.heap.push PySem.W.emptyDict).push (PySem.W.instObj C s.heap.objs.size) }:=by
 have e1:(s.heap.push PySem.W.emptyDict).get? s.heap.objs.size=some PySem.W.emptyDict:=B3 s.heap rfl
 have e2:((s.heap.push PySem.W.emptyDict).push (PySem.W.instObj C s.heap.objs.size)).get? (s.heap.objs.size+1)=some (PySem.W.instObj C s.heap.objs.size):=by
  have:=B3 (s.heap.push PySem.W.emptyDict) (o:=PySem.W.instObj C s.heap.objs.size) rfl
  rwa [O5]at this
 have e3:(s.heap.push PySem.W.emptyDict).Ns s.heap.objs.size (fun _=>none):=⟨PySem.W.emptyDict,#[],_,e1,rfl,(fun e he=>absurd he (by simp)),fun _=>rfl⟩;have I1:=I.laid (a:=s.heap.objs.size) (o:=.own (s.heap.objs.size+1)) (h':=s.heap.push PySem.W.emptyDict) (t':=s.toks) (fun b u q=>A3 _ q) (A8 _) ⟨_,e1⟩;refine I1.laid (a:=s.heap.objs.size+1) (o:=.ins C s.heap.objs.size []) (t':=s.toks) (fun b u q=>A3 _ q) (Nat.le_of_eq (O5 _ _)) ?_;have ne:s.heap.objs.size≠s.heap.objs.size+1:=B5 (J2 _);refine⟨by rw[aM ne,aV],F8 _,ne,e2,fun _=>none,(Heap.Ns1.of_empty e3).at fun o q=>A3 _ q,fun _=>True.intro,fun y hy=>absurd rfl hy⟩
theorem aBL{prog:Program}{w:World}{env:Env}{e:Expr}{f:Str}{pos:Pos}{s:Shared}{Q:Value->Shared->Prop}(hb:attributeBase e f env (eval e env)=eval e env)
 (h:wpAny (model prog w) A (eval e env) (fun o s₁=>wpAny (model prog w) A (getAttr o f true) Q E s₁) E s):wpAny (model prog w) A (eval (.Attribute e f pos) env) Q E s:=
 Attribute_any_ h (by rw[arm_eval_Attribute,hb])
end
noncomputable def aJx(K:Fg)(ta:TE)(f:Str):TE:=fun σ H Q=>ta σ H fun x H1=>∃a C dx fs v,x=.ref a/\H1 a=some (.ins C dx fs)/\Cls K C/\fS K C f/\fs.lookup f=some v/\Q v H1
noncomputable def aDk(K:Fg)(ta tv:TE)(f:Str):TS:=fun D σ H=>tv σ H fun y H1=>ta σ H1 fun x H2=>∃a C dx fs,x=.ref a/\H2 a=some (.ins C dx fs)/\Cls K C/\fS K C f/\fs.length<1000 /\
 D.nx σ (upd H2 a (.ins C dx (mX f y fs)))
section
variable{X:Cx}{o e value:Expr}{f:Str}{pos pos' tpos:Pos}{ta tv:TE}
theorem aHe(he:PE X e ta)(hb:attributeBase e f X.env (eval e X.env)=eval e X.env):PE X (.Attribute e f pos) (aJx X.K ta f):=by
 intro pins s σ H Q I h;refine aBL hb (thn (he pins s σ H _ I h) fun u s1 ⟨x,H1,I1,rx,a,C,dx,fs,v,ex,ea,c,n,l,q⟩=>?_);subst ex;obtain rfl:u=Value.ref a:=rx;exact LX I1 ea c n l fun u' s2 I2 ru=>⟨v,H1,I2,ru,q⟩
theorem aAg(ha:PE X o ta)(hv:PE X value tv)(hs:swapsWith value (some (.Attribute o f pos')) pos.line X.env=pure false):PS X (.Assign [.Attribute o f pos'] value pos) (aDk X.K ta tv f):=by
 intro pins s σ H D I h;refine plainObj_wpAny_Assign_Attribute (thn (hv pins s σ H _ I h) fun u s1 ⟨y,H1,I1,ry,q⟩=>thn (ha pins s1 σ H1 _ I1 q) fun ov s2 ⟨x,H2,I2,rx,a,C,dx,fs,ex,ea,c,n,l,q2⟩=>?_) hs;subst ex;obtain rfl:ov=Value.ref a:=rx;exact MM I2 ea c n l ry fun s3 I3=>⟨σ,_,I3,q2⟩
end
section
variable{X:Cx}{pins:List (Addr×Obj)}{σ:St}{H:Hp}{s:Shared}{A:Around}{E:Value->Shared->Prop}{Q:Value->Shared->Prop}{c:Value}{b:Bool}
inductive xJ(K:Fg)(H:Hp):V->Value->Prop where
 |non:xJ K H .non (.type "NoneType")
 |bl (x:Bool):xJ K H (.bl x) (.type "bool")
 |int (i:Int):xJ K H (.int i) (.type "int")
 |str (x:Str):xJ K H (.str x) (.type "str")
 |flt (x:UInt64):xJ K H (.flt x) (.type "float")
 |lst {a:Addr} {xs:List V} (e:H a=some (.lst xs)):xJ K H (.ref a) (.type "list")
 |frz {a:Addr} {o:Obj} {xs:List V} (e:H a=some (.frz o (.lst xs))):xJ K H (.ref a) (.type "list")
 |tup {a:Addr} {xs:List V} (e:H a=some (.tup xs)):xJ K H (.ref a) (.type "tuple")
 |dK {a:Addr} {kvs:List (Key×V)} (e:H a=some (.dK kvs)):xJ K H (.ref a) (.type "dict")
 |dT {a:Addr} {kvs:List (List Key×V)} (e:H a=some (.dT kvs)):xJ K H (.ref a) (.type "dict")
 |ins {a C dx:Addr} {fs:List (Str×V)} (e:H a=some (.ins C dx fs)) (cl:Cls K C) (ha:PySem.W.findIn K (.ref C) "__class__"=some (some (.builtin "object.__class__")))
  (hn:PySem.W.specialIn K (.builtin "object.__class__") "__get__"=some (some (.builtin "getset_descriptor.__get__"))) (htk:PySem.W.takesIn K (.builtin "object.__class__")=some true)
  (hm:PySem.W.mroIn K C (.type "object")=some true):xJ K H (.ref a) (.ref C)
theorem SC{x:V}{u t:Value}(I:Inv X pins σ H s)(rx:RelV x u)(ty:xJ X.K H x t)(e:PySem.W.kitOne X.K t c=some b)(h:∀tk,Q (.bool b) { s with toks:=tk }):
 wpAny (model X.prog X.w) A (call (.builtin "isinstance") [u,c]) Q E s:=by
 cases ty with
 |non=>cases (show u=Value.none from rx);exact F6 PySem.W.kitx_none I.kIn True.intro e (fun z=>nomatch z) h
 |bl y=>cases (show u=Value.bool y from rx);exact F6 PySem.W.kitx_bool I.kIn True.intro e (fun z=>nomatch z) h
 |int i=>obtain⟨t,q⟩:=(show ∃t,u=Value.int i t from rx);cases q;exact F6 PySem.W.kitx_int I.kIn True.intro e (fun z=>nomatch z) h
 |str y=>obtain⟨t,q⟩:=(show ∃t,u=Value.str y t from rx);cases q;exact F6 PySem.W.kitx_str I.kIn True.intro e (fun z=>nomatch z) h
 |flt y=>obtain⟨t,q⟩:=(show ∃t,u=Value.float y t from rx);cases q;exact F6 PySem.W.kitx_float I.kIn True.intro e (fun z=>nomatch z) h
 |@lst a xs ea=>
  cases (show u=Value.ref a from rx);obtain⟨_,_,n,_,h1⟩:=(show cF X.prog X.w H s.heap a (.lst xs)from I.hok a _ ea);exact F6 PySem.W.kitx_list I.kIn ⟨_,h1,rfl⟩ e (fun z=>nomatch z) h
 |@frz a ob xs ea=>
  cases (show u=Value.ref a from rx);obtain⟨_,_,_,n,_,h1⟩:=(show cF X.prog X.w H s.heap a (.frz ob (.lst xs))from I.hok a _ ea);exact F6 PySem.W.kitx_list I.kIn ⟨_,h1,rfl⟩ e (fun z=>nomatch z) h
 |@tup a xs ea=>
  cases (show u=Value.ref a from rx);obtain⟨_,_,_,p⟩:=(show cF X.prog X.w H s.heap a (.tup xs)from I.hok a _ ea);obtain⟨o,h1,h2,_⟩:=p;exact F6 PySem.W.kitx_tuple I.kIn ⟨o,h1,h2⟩ e (fun z=>nomatch z) h
 |@dK a kvs ea=>
  cases (show u=Value.ref a from rx);obtain⟨_,_,vs,_,p⟩:=(show cF X.prog X.w H s.heap a (.dK kvs)from I.hok a _ ea);obtain⟨o,es,ep,h1,h2,_⟩:=p;exact F6 PySem.W.kitx_dict I.kIn ⟨o,h1,h2.1⟩ e (fun z=>nomatch z) h
 |@dT a kvs ea=>
  cases (show u=Value.ref a from rx);obtain⟨_,_,xs,_,o,es,ep,h1,h2,_⟩:=(show cF X.prog X.w H s.heap a (.dT kvs)from I.hok a _ ea);exact F6 PySem.W.kitx_dict I.kIn ⟨o,h1,h2.1⟩ e (fun z=>nomatch z) h
 |@ins a C dx fs ea cl ha hn htk hm=>
  cases (show u=Value.ref a from rx);obtain⟨mA,O,_⟩:=EH I.hok ea;obtain⟨od,J,_⟩:=O.look;exact F6 (PySem.W.kitx_own (cl.get _) cl.hd ha hn htk hm) I.kIn J e (fun z=>nomatch z) h
end
structure cG(k:Nat)(A:Around)(q:Bool:=true):Prop where
 hd:q=true->A.handled=none
 dp:A.depth+3*k+5<recursionLimit
 un:A.units+16*k+200<cLine
 gd:A.guards=some []
theorem cG.mono{j k:Nat}{q:Bool}(r:cG k A q)(h:j<=k):cG j A q:=⟨r.hd,by have:=r.dp;omega,by have:=r.un;omega,r.gd⟩
theorem cG.deeper{k:Nat}{q:Bool}(r:cG (k+1) A q)(env:Env):cG k (A.deeper env) q:=
 ⟨r.hd,by have:=r.dp;show A.depth+1+3*k+5<_;omega,by have:=r.un;show A.units+3+16*k+200<_;omega,r.gd⟩
theorem LZ{C:Addr}{us:List Value}{kw:List (Str×Value)}:(A.under (.builtin "type.__call__" ⟨.ref C::us,kw⟩)).depth=A.depth+1:=by
 first|rfl|simp[Around.under,Code.weight,Code.isCreation,Code.isGuard,Code.isCaller,Code.frames,Code.isFrame,guardIds]
theorem MJ{C:Addr}{us:List Value}{kw:List (Str×Value)}:(A.under (.builtin "type.__call__" ⟨.ref C::us,kw⟩)).units=A.units+1:=by
 first|rfl|simp[Around.under,Code.cUnits,Code.frames,Code.isFrame]
theorem KB{C:Addr}{us:List Value}{kw:List (Str×Value)}:(A.under (.builtin "type.__call__" ⟨.ref C::us,kw⟩)).guards=A.guards:=by
 first|rfl|simp[Around.under,Code.guards,pushGuards,Code.isGuard,guardIds]|(unfold Around.under;cases A.guards<;>rfl)
theorem cG.make{k:Nat}{q:Bool}(r:cG (k+1) A q)(C:Addr)(us:List Value)(kw:List (Str×Value)):cG k (A.under (.builtin "type.__call__" ⟨.ref C::us,kw⟩)) q:=
 ⟨r.hd,by have:=r.dp;rw[LZ];omega,by have:=r.un;rw[MJ];omega,by rw[KB];exact r.gd⟩
theorem cG.depth{k:Nat}{q:Bool}(r:cG k A q):A.depth<recursionLimit:=by have:=r.dp;omega
theorem cG.units{k:Nat}{q:Bool}(r:cG k A q):A.units+64<cLine:=by have:=r.un;omega
noncomputable def TY:TA:=fun _ H Q=>Q [] H
noncomputable def rO(ta:TE)(tr:TA):TA:=fun σ H Q=>ta σ H fun x H1=>tr σ H1 fun xs H2=>Q (x::xs) H2
section
variable{X:Cx}{e:Expr}{es:List Expr}{te:TE}{t:TA}{pos:Pos}
theorem zM:PA X [] TY:=fun _ _ _ _ H Q I h=>Calls.spliced_nil ⟨[],H,I,.nil,h⟩
theorem jH(ha:PE X e te)(hr:PA X es t)(hs:starEach (e::es) X.env=(false,eval e X.env)::starEach es X.env:=by rfl):PA X (e::es) (rO te t):=by
 intro pos pins s σ H Q I h;rw[hs];show wpAny _ _ (spliced ((false,eval e X.env)::backTo pos (starEach es X.env))) _ _ s;refine Calls.spliced_cons (thn (ha pins s σ H _ I h) fun u s1 ⟨x,H1,I1,r1,q1⟩=>?_);exact thn (hr pos pins s1 σ H1 _ I1 q1) fun us s2 ⟨xs,H2,I2,r2,q2⟩=>⟨x::xs,H2,I2,.cons r1 r2,q2⟩
noncomputable def aDb(t:TA):TE:=fun σ H Q=>t σ H fun xs H1=>xs.length<=sizeLine/\∀p,H1 p=none->Q (.ref p) (upd H1 p (.tup xs))
noncomputable def aGf(t:TA):TE:=fun σ H Q=>t σ H fun xs H1=>xs.length<=sizeLine/\∀p,H1 p=none->Q (.ref p) (upd H1 p (.lst xs))
theorem ND{x1}(h:PA X es t):PE X (.Tuple es x1 pos) (aDb t):=by
 intro pins s σ H Q I hq;refine wpAny_Tuple_spliced (thn (h pos pins s σ H _ I hq) fun us s1 ⟨xs,H1,I1,r,z,q⟩=>⟨by rw[<- r.length];exact z,?_⟩);have hf:H1 s1.heap.objs.size=none:=I1.hok.fresh (A8 _);refine⟨.ref s1.heap.objs.size,upd H1 s1.heap.objs.size (.tup xs),I1.laid (t':=s1.toks) (fun b u e=>A3 _ e) (A8 _) ?_,rfl,q _ hf⟩;exact⟨z,us,r,⟨_,B3 _ rfl,rfl,_,rfl⟩⟩
theorem aBv(h:PA X es t):PE X (.List es pos) (aGf t):=by
 intro pins s σ H Q I hq;refine wpAny_List_spliced (thn (h pos pins s σ H _ I hq) fun us s1 ⟨xs,H1,I1,r,z,q⟩=>⟨by rw[<- r.length];exact z,?_⟩);have hf:H1 s1.heap.objs.size=none:=I1.hok.fresh (A8 _);refine⟨.ref s1.heap.objs.size,upd H1 s1.heap.objs.size (.lst xs),I1.laid (t':=s1.toks) (fun b u e=>A3 _ e) (A8 _) ?_,rfl,q _ hf⟩;exact⟨z,us,0,r,B3 _ rfl⟩
end
noncomputable abbrev Sp:=List V->Hp->VK->XK->Prop
noncomputable abbrev CXT:=List Env->Hp->Shared->XK->Value->Shared->Prop
structure OR(P:Program)(w:World)(K:Fg)(mg:Str->Option Value)(base:Heap)(A:Around)(outer:List Env)(s:Shared)(H:Hp):Prop where
 frames:A.frames=some outer
 mod:Mod K mg base
 bs:∀b o,base.get? b=some o->s.heap.get? b=some o/\H b=none
 bsz:base.objs.size<=s.heap.objs.size
 funs:s.heap.FunFrames base outer
 frf:∀b∈frs outer,H b=none
 hok:HOk P w H s.heap
 bare:AllBare s.gens
noncomputable def CE(outer:List Env)(P:Program)(w:World)(H:Hp)(s:Shared)(Q:VK)(u:Value)(s':Shared):Prop:=
 ∃v H',s'.os=s.os/\AllBare s'.gens/\Un (frs outer) [] H H' s.heap s'.heap/\HOk P w H' s'.heap/\RelV v u/\Q v H'
noncomputable def CR(CX:CXT)(outer:List Env)(P:Program)(w:World)(H:Hp)(s:Shared)(Q:VK)(E:XK)(r:Result)(s':Shared):Prop:=
 match r with
 |.ok (.ret u)=>CE outer P w H s Q u s'
 |.ok _=>False
 |.error e=>CX outer H s E e s'
structure gY(P:Program)(w:World)(K:Fg)(mg:Str->Option Value)(base:Heap)(CX:CXT)(k:Nat)(f:Addr)(fd:FuncData)(ps:List Str)(sp:Sp)(q:Bool:=true):Prop where
 len:∀vs H Q E,sp vs H Q E->vs.length=ps.length
 run:∀(A:Around)(outer:List Env)(s:Shared)(H:Hp)(args:Args)(us:List Value)(vs:List V)(Q:VK)(E:XK),cG k A q->OR P w K mg base A outer s H->BindsTo s fd args (ps.zip us)->bF vs us->sp vs H Q E->
  codeAny (model P w) A (.call (.ref f) args) (CR CX outer P w H s Q E) s
theorem gY.mono{P:Program}{w:World}{mg:Str->Option Value}{base:Heap}{CX:CXT}{j k:Nat}{f:Addr}{fd:FuncData}{ps:List Str}{sp:Sp}{q:Bool}(F:gY P w K mg base CX j f fd ps sp q)(h:j<=k):
 gY P w K mg base CX k f fd ps sp q:=⟨F.len,fun A outer s H args us vs Q E hr=>F.run A outer s H args us vs Q E (hr.mono h)⟩
theorem OR.make{P:Program}{w:World}{mg:Str->Option Value}{base:Heap}{outer:List Env}(e:OR P w K mg base A outer s H)(C:Addr)(us:List Value)(kw:List (Str×Value)):
 OR P w K mg base (A.under (.builtin "type.__call__" ⟨.ref C::us,kw⟩)) outer s H:=⟨by first|exact e.frames|(simpa[Around.under,Code.envs,Code.isFrame,pushEnvs]using e.frames),e.mod,e.bs,e.bsz,e.funs,e.frf,e.hok,e.bare⟩
section
variable{X:Cx}{pins:List (Addr×Obj)}{σ:St}{H:Hp}{s s':Shared}
theorem Inv.env0(I:Inv X pins σ H s):OR X.prog X.w X.K X.mg X.base X.A X.stack s H:=
 ⟨I.ok.frames,I.ok.mod,I.bs,C9 I.ok.bsz I.sz,I.stack,I.stkFree,I.hok,I.bare⟩
theorem Inv.after{Q:VK}{u:Value}(I:Inv X pins σ H s)(h:CE X.stack X.prog X.w H s Q u s'):EP X pins σ Q u s':=by
 obtain⟨v,H',os,bare,un,hok,r,q⟩:=h;obtain⟨hh,g,d,t,os'⟩:=s';obtain rfl:os'=s.os:=os;exact⟨v,H',I.call (h':=hh) (g':=g) (d':=d) (t':=t) (ch:=[]) un hok bare (fun b z=>absurd z (by simp)),r,q⟩
end
noncomputable def aBw(sp:Sp)(dvs:List V)(E:XK)(t:TA):TE:=fun σ H Q=>t σ H fun vs H1=>sp (vs++dvs) H1 Q E
noncomputable def aJk(C:Addr)(sp:Sp)(dvs:List V)(E:XK)(t:TA):TE:=fun σ H Q=>t σ H fun vs H1=>∀x dx,H1 x=none->H1 dx=none->dx≠x->
 sp (.ref x::(vs++dvs)) (upd (upd H1 dx (.own x)) x (.ins C dx [])) (fun v H2=>v=.non/\Q (.ref x) H2) E
noncomputable def Binds(K:Fg)(fd:FuncData)(ps:List Str)(ds:List Value):Prop:=
 ∀(s:Shared)(us:List Value),K.In s.heap->(us++ds).length=ps.length->BindsTo s fd ⟨us,[]⟩ (ps.zip (us++ds))
theorem Binds.all{fd:FuncData}{ps:List Str}(h:∀us:List Value,us.length=ps.length->bindArgs fd ⟨us,[]⟩=pure (ps.zip us)):Binds K fd ps []:=fun s us _ hl=>by
 rw[C3]at hl ⊢;exact .of_eq (h us hl)
noncomputable def NC(CX:CXT)(X:Cx)(E:XK):Prop:=∀(pins:List (Addr×Obj))(σ:St)(H:Hp)(s:Shared)(e:Value)(s':Shared),Inv X pins σ H s->CX X.stack H s E e s'->X.xe e s'
section
variable{X:Cx}{CX:CXT}{k:Nat}{f C:Addr}{fd:FuncData}{ps:List Str}{sp:Sp}{dvs:List V}{ds:List Value}{E:XK}{x m:Str}{p pos apos:Pos}{e o:Expr}{es:List Expr}{ta:TE}{t:TA}
theorem aFO{pins:List (Addr×Obj)}{σ:St}{H:Hp}{s:Shared}{Q:VK}{us:List Value}{vs:List V}{q:Bool}(F:gY X.prog X.w X.K X.mg X.base CX k f fd ps sp q)(hr:cG k X.A q)(hb:Binds X.K fd ps ds)(hd:bF dvs ds)(hx:NC CX X E)
 (I:Inv X pins σ H s) (r:bF vs us) (h:sp (vs++dvs) H Q E):wpAny (model X.prog X.w) X.A (call (.ref f) us) (EP X pins σ Q) X.xe s:=by
 have r2:bF (vs++dvs) (us++ds):=r.append hd;have hl:(us++ds).length=ps.length:=by rw[<- r2.length];exact F.len _ _ _ _ h
 refine wpAny_call (Y8 (F.run X.A X.stack s H ⟨us,[]⟩ (us++ds) (vs++dvs) Q E hr I.env0 (hb s us I.kIn hl) r2 h) fun r s' hq=>?_);cases r with
 |error e=>exact hx pins σ H s e s' I hq
 |ok fl=>
  cases fl with
  |ret u=>exact I.after hq
  |next=>exact False.elim hq
  |brk=>exact False.elim hq
  |cont=>exact False.elim hq
theorem aEd{q:Bool}(F:gY X.prog X.w X.K X.mg X.base CX k f fd ps sp q)(hr:cG k X.A q)(hg:Gl X x)(hm:X.mg x=some (.ref f))(hk:PySem.W.keepIn X.K (.ref f)=true)(hb:Binds X.K fd ps ds)(hd:bF dvs ds)(hx:NC CX X E)
 (ha:PA X (e::es) t) (hdb:(x==("__debug__":Str))=false:=by decide) (he:starEach (e::es) X.env=(false,eval e X.env)::starEach es X.env:=by rfl) (hpl:(backTo pos (starEach es X.env)).any (·.1)=false:=by rfl):
 PE X (.Call (.Name x p) (e::es) [] pos) (aBw sp dvs E t):=by
 intro pins s σ H Q I h;refine L5 (oI I hg hm ?_ hdb);refine Y4 (h₀:=X.base) I.ok.mod.kin hk (thn (ha pos pins s σ H _ I h) fun us s1 ⟨vs,H1,I1,r,q⟩=>⟨I1.kIn,?_⟩) he hpl;exact aFO F hr hb hd hx I1 r q
structure Mk(K:Fg)(C f:Addr):Prop where
 makes:PySem.W.makesIn K C=true
 init:PySem.W.findIn K (.ref C) "__init__"=some (some (.ref f))
 fn:PySem.W.isFn K (.ref f)=true
 kp:PySem.W.keepIn K (.ref C)=true
theorem aBq{pins:List (Addr×Obj)}{σ:St}{H:Hp}{s:Shared}{Q:VK}{us:List Value}{vs:List V}(M:Mk X.K C f)(F:gY X.prog X.w X.K X.mg X.base CX k f fd ps sp)(hr:cG (k+1) X.A)(hb:Binds X.K fd ps ds)(hd:bF dvs ds)
 (hx:∀H s e s',Inv X pins σ H s->CX X.stack H s E e s'->X.xe e s') (I:Inv X pins σ H s) (r:bF vs us)
 (h:∀x dx,H x=none->H dx=none->dx≠x->sp (.ref x::(vs++dvs)) (upd (upd H dx (.own x)) x (.ins C dx [])) (fun v H2=>v=.non/\Q (.ref x) H2) E):
 wpAny (model X.prog X.w) X.A (call (.ref C) us) (EP X pins σ Q) X.xe s:=by
 have hq:=h (s.heap.objs.size+1) s.heap.objs.size (I.hok.fresh (Nat.le_succ _)) (I.hok.fresh (A8 _)) (B5 (J2 _));have I2:=Inv.made (C:=C) I;have r2:bF (V.ref (s.heap.objs.size+1)::(vs++dvs)) (Value.ref (s.heap.objs.size+1)::(us++ds)):=.cons rfl (r.append hd)
 have hl:(Value.ref (s.heap.objs.size+1)::us++ds).length=ps.length:=by
  have e:=r2.length;rw[F.len _ _ _ _ hq]at e;exact e.symm
 refine wpAny_call (aAX (f:=f) I.kIn M.makes M.init (beq_iff_eq.mp M.fn) (Y8 (F.run _ X.stack _ _ ⟨Value.ref (s.heap.objs.size+1)::us,[]⟩ (Value.ref (s.heap.objs.size+1)::(us++ds)) _ _ E (hr.make C us [])
  (I2.env0.make C us []) (hb _ (Value.ref (s.heap.objs.size+1)::us) I2.kIn hl) r2 hq) fun r s' hq'=>?_))
 cases r with
 |error e=>exact hx _ _ e s' I2 hq'
 |ok fl=>
  cases fl with
  |ret u=>
   obtain⟨v,H',I3,rv,ev,q3⟩:=I2.after hq';subst ev;exact⟨rv,⟨V.ref (s.heap.objs.size+1),H',I3,rfl,q3⟩⟩
  |next=>exact False.elim hq'
  |brk=>exact False.elim hq'
  |cont=>exact False.elim hq'
end
structure aS(N P:List Str)(sc:Scope):Prop where
 kind:sc.kind=.function
 co:sc.isCoroutine=false
 gen:sc.isGenerator=false
 nd:N.Nodup
 pre:N.take P.length=P
 par:∀x∈P,sc.names.lookup x=some .local\/sc.names.lookup x=some .cell
 nofree:∀y∈sc.names,y.2≠.free
theorem EC{kindOf:Str->Option NameKind}{x:Str}:∀{binds:List (Str×Value)}{m:Str->Option Value},(∀v,(x,v)∉binds)->bindL kindOf binds m x=m x
 |[],_=>fun _=>rfl
 |(n,v)::r,m=>fun h=>by
  unfold bindL;rw[EC fun w hw=>h w (B1 _ hw)];split
  .have:x≠n:=by rintro rfl;exact h v B0
   simp[this]
  .rfl
theorem DA{kindOf:Str->Option NameKind}{x:Str}:∀{binds:List (Str×Value)}{m:Str->Option Value},(∀v,(x,v)∉binds)->bindC kindOf binds m x=m x
 |[],_=>fun _=>rfl
 |(n,v)::r,m=>fun h=>by
  unfold bindC;rw[DA fun w hw=>h w (B1 _ hw)];split
  .rfl
  .have:x≠n:=by rintro rfl;exact h v B0
   simp[this]
theorem DF{kindOf:Str->Option NameKind}{x:Str}{v:Value}:∀{P:List Str}{vs:List Value}{i:Nat}{m:Str->Option Value},P.Nodup->P[i]?=some x->vs[i]?=some v->kindOf x=some .local->
 bindL kindOf (P.zip vs) m x=some v
 |[],_,_,_=>fun _ h _ _=>by simp at h
 |_::_,[],_,_=>fun _ _ h _=>by simp at h
 |p::P,w::vs,0,m=>fun nd h1 h2 hk=>by
  simp at h1 h2;subst h1;subst h2;show bindL kindOf ((p,w)::P.zip vs) m p=_;unfold bindL;rw[EC fun v hv=>(List.nodup_cons.mp nd).1 (List.of_mem_zip hv).1,A4 hk];simp
 |p::P,w::vs,i+1,m=>fun nd h1 h2 hk=>by
  show bindL kindOf ((p,w)::P.zip vs) m x=_;unfold bindL;exact DF (i:=i) (List.nodup_cons.mp nd).2 (by simpa using h1) (by simpa using h2) hk
theorem DW{kindOf:Str->Option NameKind}{x:Str}{v:Value}:∀{P:List Str}{vs:List Value}{i:Nat}{m:Str->Option Value},P.Nodup->P[i]?=some x->vs[i]?=some v->kindOf x≠some .local->
 bindC kindOf (P.zip vs) m x=some v
 |[],_,_,_=>fun _ h _ _=>by simp at h
 |_::_,[],_,_=>fun _ _ h _=>by simp at h
 |p::P,w::vs,0,m=>fun nd h1 h2 hk=>by
  simp at h1 h2;subst h1;subst h2;show bindC kindOf ((p,w)::P.zip vs) m p=_;unfold bindC;rw[DA fun v hv=>(List.nodup_cons.mp nd).1 (List.of_mem_zip hv).1,A5 hk];simp
 |p::P,w::vs,i+1,m=>fun nd h1 h2 hk=>by
  show bindC kindOf ((p,w)::P.zip vs) m x=_;unfold bindC;exact DW (i:=i) (List.nodup_cons.mp nd).2 (by simpa using h1) (by simpa using h2) hk
noncomputable def start(N:List Str)(vs:List V):St:=vs.map some++List.replicate (N.length-vs.length) none
noncomputable def mE(CX:CXT)(P:Program)(w:World)(K:Fg)(mg:Str->Option Value)(base:Heap)(N:List Str)(qual:Str)(scope:Scope)(f:Addr)(cd:Value)(A:Around)(outer:List Env)(s:Shared)(H:Hp)(E:XK)(q:Bool:=true):Cx where
 prog:=P
 w:=w
 K:=K
 mg:=mg
 base:=base
 A:=A.deeper (envOfC qual scope s.heap.objs.size f cd)
 N:=N
 s₀:=s
 H₀:=H
 env:=envOfC qual scope s.heap.objs.size f cd
 outer:=outer
 stack:=envOfC qual scope s.heap.objs.size f cd::outer
 ex:=[]
 calm:=q
 fn:=fun _=>true
 pn:=[]
 xe:=fun e s'=>wpAny (model P w) (A.deeper (envOfC qual scope s.heap.objs.size f cd)) (leaving (envOfC qual scope s.heap.objs.size f cd) e) (fun _ s''=>CX outer H s E e s'') (fun e' s''=>CX outer H s E e' s'') s'
theorem HL{sc:Scope}{n:Nat}{x:Str}(h:sc.names.lookup x=some .cell):∃c,(cellsFrom n sc.names []).lookup x=some c:=by
 have q:=PySem.W.cellsFrom_some sc.names n [] (.inl h);exact Option.isSome_iff_exists.mp q
theorem UO{CX:CXT}{P:Program}{w:World}{K:Fg}{mg:Str->Option Value}{base:Heap}{N ps:List Str}{qual:Str}{scope:Scope}{f:Addr}{cd:Value}{A:Around}{outer:List Env}{s s1:Shared}{H:Hp}{E:XK}{us:List Value}{vs:List V}{q:Bool}
 (S:aS N ps scope) (hd:q=true->A.handled=none) (e0:OR P w K mg base A outer s H) (hl:vs.length=ps.length) (r:bF vs us)
 (x:InCallC s s.heap.objs.size (bindL (envOfC qual scope s.heap.objs.size f cd).kindOf (ps.zip us) fun _=>none) (cellsFrom (s.heap.objs.size+1) scope.names []) (bindC (envOfC qual scope s.heap.objs.size f cd).kindOf (ps.zip us) fun _=>none) s1):
 Inv (mE CX P w K mg base N qual scope f cd A outer s H E q) [] (start N vs) H s1:=by
 have hpl:ps.length<=N.length:=by have:=O1 List.length S.pre;rw[List.length_take]at this;omega
 obtain⟨h1,tk,rfl,hk⟩:=x.done;have noA:∀b:Addr,b∉(mE CX P w K mg base N qual scope f cd A outer s H E q).ex:=fun b z=>absurd (show b∈([]:List Addr)from z) (by simp)
 refine⟨⟨e0.mod,S.kind,rfl,rfl,A8 _,fun y z c h1 h2=>?_,fun y hy=>?_,fun y c _ h=>?_,hd,Around.frames_deeper e0.frames,.inr ⟨rfl,rfl⟩,fun b z=>absurd z (noA b),e0.bs,e0.bsz,fun b _ _=>noA b,fun b z=>absurd z (noA b),e0.funs,e0.frf⟩,
  rfl,e0.bare,Un.kept hk,⟨_,x.toInCall.ns,fun i y v h1 h2 h3=>?_⟩,fun y c h=>⟨_,x.cell y c h⟩,e0.hok.fresh (A8 _),fun y c h=>?_,fun p hp=>absurd (show p∈([]:List (Addr×Obj))from hp) (by simp),e0.hok.kept hk,?_⟩
 .exact name_of_addr x.apart (E6 h1) (E6 h2)
 .have hy:scope.names.lookup y=some .cell\/scope.names.lookup y=some .free:=hy;rcases hy with hy|hy
  .exact HL hy
  .exact absurd rfl (S.nofree _ (E6 hy))
 .exact U3 (x.above y c (E6 h))
 .have hi:i<vs.length:=by
   unfold start at h2;by_cases hi:i<vs.length
   .exact hi
   .rw[E1 (by simpa using hi)]at h2;rw[List.getElem?_replicate]at h2;split at h2<;>cases h2
  have ha:vs[i]?=some v:=by
   unfold start at h2;rw[S6 (by simpa using hi),D2]at h2;cases e:vs[i]? with
   |none=>rw[e]at h2;cases h2
   |some a=>rw[e]at h2;cases h2;rfl
  obtain⟨u,hu,rv⟩:=r.get ha
  have hp:ps[i]?=some y:=by
   rw[<- S.pre,List.getElem?_take_of_lt (by omega)];exact h1
  have ndP:ps.Nodup:=by rw[<- S.pre];exact S.nd.sublist (List.take_sublist _ _)
  refine⟨u,rv,?_⟩;rcases S.par y (S2 hp)with k|k
  .exact .inl ⟨k,DF ndP hp hu k⟩
  .obtain⟨c,e⟩:=HL (n:=s.heap.objs.size+1) k;refine .inr ⟨.inl k,c,e,?_⟩;have q:=x.cell y c e;rw[DW ndP hp hu (by show scope.names.lookup y≠_;rw[k];decide)]at q;exact q
 .exact e0.hok.fresh (U3 (x.above y c (E6 h)))
 .unfold start;show _=N.length;rw[C0,A2,L0];omega
theorem aER{CX:CXT}{P:Program}{w:World}{K:Fg}{mg:Str->Option Value}{base:Heap}{k:Nat}{f:Addr}{name qual:Str}{params:Arguments}{body:List Stmt}{scope:Scope}{dV kV doc pm cdv ct oc:Value}{an od:Option Addr}
 {osl:Array (Option Value)} {N ps:List Str} {sp:Sp} {q:Bool} (lk:K.lookup f=some ⟨oc,od,.func (PySem.W.fnOf name qual params body scope dV kV doc pm an cdv ct),osl⟩) (hcd:PySem.W.codeIn K cdv qual=true) (S:aS N ps scope)
 (len:∀vs H Q E,sp vs H Q E->vs.length=ps.length)
 (hbody:∀(A:Around)(outer:List Env)(s:Shared)(H:Hp)(vs:List V)(Q:VK)(E:XK),cG k (A.deeper (envOfC qual scope s.heap.objs.size f cdv)) q->sp vs H Q E->
  ∃t,PSs (mE CX P w K mg base N qual scope f cdv A outer s H E q) body t/\t { nx:=fun _ H'=>Q .non H',rt:=Q } (start N vs) H):
 gY P w K mg base CX (k+1) f (PySem.W.fnOf name qual params body scope dV kV doc pm an cdv ct) ps sp q:=by
 refine⟨len,fun A outer s H args us vs Q E hr e0 hb r hsp=>?_⟩;have hl:=len _ _ _ _ hsp;have KX:K.In s.heap:=e0.mod.kin.keeps fun b o e=>(e0.bs b o e).1;have lim:s.heap.NoLimit:=e0.mod.nolimit.keeps fun b o e=>(e0.bs b o e).1
 have hkind:∀y∈ps.zip us,scope.names.lookup y.1=some .local\/(scope.names.lookup y.1=some .cell/\((cellsFrom (s.heap.objs.size+1) scope.names []).lookup y.1).isSome=true):=fun⟨n,v⟩ hy=>by
  rcases S.par n (List.of_mem_zip hy).1 with q|q
  .exact .inl q
  .exact .inr ⟨q,PySem.W.cellsFrom_some _ _ _ (.inl q)⟩
 refine codeAny_call_function hr.depth (KX _ _ lk) rfl S.co S.gen rfl (PySem.W.codeRec_of KX hcd) (hb _ _ _ _ ?_);refine wpAny_newFunctionEnv_cells S.kind hkind fun env he s1 x=>?_;subst he;refine⟨lim.keeps x.toInCall.keep,codeAny_func ?_⟩;obtain⟨t,ht,hq⟩:=hbody A outer s H vs Q E (hr.deeper _) hsp;have I:Inv (mE CX P w K mg base N qual scope f cdv A outer s H E q) [] (start N vs) H s1:=UO S hr.hd e0 hl r x;refine D5 (ht [] s1 (start N vs) H _ I hq) (fun fl s' hs=>?_) fun e s' hs=>hs
 have fin:∀{σ':St}{H':Hp}{v:V}{u:Value},Inv (mE CX P w K mg base N qual scope f cdv A outer s H E q) [] σ' H' s'->RelV v u->Q v H'->CE outer P w H s Q u s':=
  fun{σ' H' v u} J rv q=>⟨v,H',J.os,J.bare,J.base,J.hok,rv,q⟩
 cases fl with
 |ret u=>
  obtain⟨v,σ',H',J,rv,q⟩:=hs;exact fin J rv q
 |next=>
  obtain⟨σ',H',J,q⟩:=hs;exact fin (v:=V.non) (u:=Value.none) J rfl q
 |brk=>
  obtain⟨_,_,_,q⟩:=hs;exact False.elim q
 |cont=>
  obtain⟨_,_,_,q⟩:=hs;exact False.elim q
section
variable{X:Cx}{x:Str}{p pos:Pos}{e:Expr}{es:List Expr}{t:TA}{id T:String}{r:List V->Hp->VK->Prop}
noncomputable def tCB(r:List V->Hp->VK->Prop)(t:TA):TE:=fun σ H Q=>t σ H fun vs H1=>r vs H1 Q
theorem uM(hc:eI X (.builtin id) r)(hg:Gl X x)(hm:X.mg x=none)(hv:bootBuiltins x=some (.builtin id))(ha:PA X (e::es) t)(hn:x≠"__name__":=by decide)(hdb:(x==("__debug__":Str))=false:=by decide)
 (he:starEach (e::es) X.env=(false,eval e X.env)::starEach es X.env:=by rfl) (hpl:(backTo pos (starEach es X.env)).any (·.1)=false:=by rfl):PE X (.Call (.Name x p) (e::es) [] pos) (tCB r t):=by
 intro pins s σ H Q I h;refine L5 (sX I hg hm hv ?_ hn hdb);exact PyProof.Rows.callWith_builtin1 (thn (ha pos pins s σ H _ I h) fun us s1 ⟨vs,H1,I1,r1,q1⟩=>hc pins s1 σ H1 vs us Q I1 r1 q1) he hpl
theorem UJ(hc:eI X (.type T) r)(hg:Gl X x)(hm:X.mg x=none)(hv:bootBuiltins x=some (.type T))(ha:PA X (e::es) t)(hn:x≠"__name__":=by decide)(hdb:(x==("__debug__":Str))=false:=by decide)
 (he:starEach (e::es) X.env=(false,eval e X.env)::starEach es X.env:=by rfl) (hpl:(backTo pos (starEach es X.env)).any (·.1)=false:=by rfl):PE X (.Call (.Name x p) (e::es) [] pos) (tCB r t):=by
 intro pins s σ H Q I h;refine L5 (sX I hg hm hv ?_ hn hdb);exact Y1 (thn (ha pos pins s σ H _ I h) fun us s1 ⟨vs,H1,I1,r1,q1⟩=>hc pins s1 σ H1 vs us Q I1 r1 q1) he hpl
end
end L2
namespace HT
open PySem PyProof.Rows
noncomputable def lexLt:List Int->List Int->Bool
 |[],[]=>false
 |[],_::_=>true
 |_::_,[]=>false
 |x::xs,y::ys=>if x=y then lexLt xs ys else decide (x<y)
theorem lexLt_cons(x y:Int)(xs ys:List Int):lexLt (x::xs) (y::ys)=if x=y then lexLt xs ys else decide (x<y):=rfl
theorem BZ:lexLt [] []=false:=rfl
theorem BX(y:Int)(ys:List Int):lexLt [] (y::ys)=true:=rfl
theorem AD(x:Int)(xs:List Int):lexLt (x::xs) []=false:=rfl
theorem XR(A:Around)(s:Shared)(a:Int)(t:Tok)(c:Int)(u:Tok):∃e,SeqAt.EqAt A s (.int a t) (.int c u) e/\(e=true↔a=c):=
 ⟨(a==c),SeqAt.EqAt.int_int a t c u,by simp⟩
theorem aAe(A:Around)(s:Shared)(a:Int)(t:Tok)(c:Int)(u:Tok)(prog:Program)(w:World)(E:Value->Shared->Prop)(Q:Value->Shared->Prop)(h:Q (.bool (decide (a<c))) s):
 wpAny (model prog w) A (richCompare .Lt (.int a t) (.int c u)) Q E s:=
 (PyProof.Rows.lt_int h:wpAny (model prog w) A (compareOp .Lt (.int a t) (.int c u)) Q E s)
section
open PySem.SeqAt
open PySem.AutoSeq1 (wpAny_loadPart')
open PySem.MeetsSeq PySem.MeetsSeq2 PySem.MeetsSeq3
theorem BY(l b:Addr)(items items2:Array Value)(n n2:Nat)(dd dd2:Option Addr)(sl sl2:Array (Option Value))(ns ms:List Int)(hi:IntsAre items.toList ns)(hj:IntsAre items2.toList ms):
 Meets (Builtin.«tuple.__lt__» ⟨[.ref l,.ref b],[]⟩)
  (fun _ R s=>s.heap.get? l=some { cls:=.type "tuple",dict:=dd,data:=.seq items n,slots:=sl }/\s.heap.get? b=some { cls:=.type "tuple",dict:=dd2,data:=.seq items2 n2,slots:=sl2 } /\
   R (.ok (.ret (.bool (lexLt ns ms)))) s):=
 .of_wp fun prog w A R s h=>by
  obtain⟨hp,g,d,tk,os⟩:=s;obtain⟨hl,hb,h⟩:=h;have f2:=AutoSeq1.sub_tuple_tuple;have z1:items.size=ns.length:=by rw[<- hi.length];simp
  have z2:items2.size=ms.length:=by rw[<- hj.length];simp
  wp_walk using U5 hl,U5 hb,wpAny_forIn_list _ (fun rest b s'=>b.1=none/\s'=⟨hp,g,d,tk,os⟩/\∃(vs ws:List Value)(ns' ms':List Int),rest=vs.zip ws /\
   IntsAre vs ns'/\IntsAre ws ms'/\ns'.length+items2.size=ms'.length+items.size/\R (.ok (.ret (.bool (lexLt ns' ms')))) ⟨hp,g,d,tk,os⟩) _
  case turn=>
   rintro⟨y,x⟩ rest b s' ⟨hb',rfl,vs,ws,ns',ms',hz,hvi,hwi,hlen,hR⟩;cases hvi with
   |nil=>rw[List.zip_nil_left]at hz;cases hz
   |cons a t hvi'=>
    cases hwi with
    |nil=>rw[List.zip_nil_right]at hz;cases hz
    |cons c u hwi'=>
     rw[List.zip_cons_cons]at hz;injection hz with hyx hrest
     injection hyx with hy hx
     subst hy hx;rw[lexLt_cons]at hR;simp only[List.length_cons]at hlen;obtain⟨e,he,hiff⟩:=XR A.in1 ⟨hp,g,d,tk,os⟩ a t c u;refine A0 (he prog w _ _ ?_);cases e with
     |true=>
      rw[A4 (hiff.mp rfl)]at hR
      wp_walk
      exact⟨rfl,rfl,_,_,_,_,hrest,hvi',hwi',by omega,hR⟩
     |false=>
      rw[A5 (fun q=>absurd (hiff.mpr q) A7)]at hR;have hri:=aAe A.in1 ⟨hp,g,d,tk,os⟩ a t c u prog w
      wp_walk using hri
      exact⟨_,rfl,by simpa using hR⟩
  case fin=>
   rintro⟨b1,b2⟩ s' ⟨hb',rfl,vs,ws,ns',ms',hz,hvi,hwi,hlen,hR⟩;simp only at hb';subst hb'
   have hv:lexLt ns' ms'=decide (items.size<items2.size):=by
    cases hvi with
    |nil=>
     cases hwi with
     |nil=>
      simp only[List.length_nil]at hlen;rw[BZ];exact(C7 (by omega)).symm
     |cons c u hw=>
      simp only[List.length_nil,List.length_cons]at hlen;rw[BX];exact(C5 (by omega)).symm
    |cons a t hv=>
     cases hwi with
     |nil=>
      simp only[List.length_nil,List.length_cons]at hlen;rw[AD];exact(C7 (by omega)).symm
     |cons c u hw=>
      rw[List.zip_cons_cons]at hz;cases hz
   rw[hv]at hR
   wp_walk
   exact⟨_,rfl,by simpa[Builtin.Tuple.tupleCompareSizes]using hR⟩
  case h=>
   exact⟨rfl,rfl,items.toList,items2.toList,ns,ms,rfl,hi,hj,by omega,h⟩
end
section
variable{prog:Program}{w:World}{A:Around}{E:Value->Shared->Prop}{s:Shared}
theorem lt_tupInts{l b:Addr}{items items2:Array Value}{ns ms:List Int}{Q:Value->Shared->Prop}(hl:IsTup s.heap l items)(hb:IsTup s.heap b items2)(hi:IntsAre items.toList ns)(hj:IntsAre items2.toList ms)
 (hu:A.units<cLine) (h:Q (.bool (lexLt ns ms)) s):wpAny (model prog w) A (compareOp .Lt (.ref l) (.ref b)) Q E s:=by
 obtain⟨⟨cls,dd,data,sl⟩,ho,hc,n,hd⟩:=id hl;obtain⟨⟨cls2,dd2,data2,sl2⟩,ho2,hc2,n2,hd2⟩:=id hb;simp only at hc hd hc2 hd2;subst hc hd hc2 hd2
 exact richCompare_meets_room (op:=.Lt) ⟨_,ho,rfl⟩ ⟨_,ho2,rfl⟩ PySem.F.slot_tuple_lt PySem.F.entry_tuple_lt (PySem.F.args_tuple_lt_2 _ _) (BY l b items items2 n n2 dd dd2 sl sl2 ns ms hi hj)
  ⟨ho,ho2,show Value.bool (lexLt ns ms)≠Value.notImplemented/\Q (.bool (lexLt ns ms)) s from⟨(fun x=>nomatch x),h⟩⟩ hu
theorem cat_tup{t b:Addr}{vs ws:List Value}{Q:Value->Shared->Prop}(ht:IsTup s.heap t vs.toArray)(hb:IsTup s.heap b ws.toArray)(hv:vs≠[])
 (h1:ws=[]->Q (.ref t) s) (h2:ws≠[]->Q (.ref s.heap.objs.size) { s with heap:=s.heap.push { cls:=.type "tuple",data:=.seq (vs++ws).toArray } })
 (hsz:vs.length+ws.length<=sizeLine):wpAny (model prog w) A (binaryOp .Add (.ref t) (.ref b)) Q E s:=by
 obtain⟨⟨cls,dd,data,sl⟩,ho,hc,n,hd⟩:=id ht;obtain⟨⟨cls2,dd2,data2,sl2⟩,ho2,hc2,n2,hd2⟩:=id hb;simp only at hc hd hc2 hd2;subst hc hd hc2 hd2;have e:vs.toArray++ws.toArray=(vs++ws).toArray:=by simp
 by_cases hw:ws=[]
 .exact concat_meets ⟨_,ho,rfl⟩ ⟨_,ho2,rfl⟩ noFill_tuple_add seq_tuple_add PySem.F.slot_tuple_add PySem.F.entry_tuple_add (PySem.F.args_tuple_add_2 _ _)
   (tuple_addW1 t b vs.toArray ws.toArray n n2 dd dd2 sl sl2 (by simpa using hv) (by simp[hw])) ⟨ho,ho2,h1 hw⟩
 .refine concat_meets ⟨_,ho,rfl⟩ ⟨_,ho2,rfl⟩ noFill_tuple_add seq_tuple_add PySem.F.slot_tuple_add PySem.F.entry_tuple_add (PySem.F.args_tuple_add_2 _ _)
   (tuple_addW2 t b vs.toArray ws.toArray n n2 dd dd2 sl sl2 (by simpa using hv) (by simpa using hw) (by rw[C2,C2];exact hsz)) ⟨ho,ho2,?_⟩
  rw[e];exact h2 hw
noncomputable def sIx(n d:Nat):Option Int->Nat
 |none=>d
 |some v=>if v<0 then(v+(n:Int)).toNat else min v.toNat n
theorem aHC(n d:Nat)(hd:d<=n)(o:Option Int):sIx n d o<=n:=by
 cases o with
 |none=>exact hd
 |some v=>
  show(if v<0 then(v+(n:Int)).toNat else min v.toNat n)<=n;by_cases hv:v<0
  .rw[A4 hv];omega
  .rw[A5 hv];exact Nat.min_le_right _ _
theorem RS(v:Int)(n d:Nat):(if v<0 then max (v+(n:Int)) 0 else min v (n:Int))=((sIx n d (some v):Nat):Int):=by
 show(if v<0 then max (v+(n:Int)) 0 else min v (n:Int))=(((if v<0 then(v+(n:Int)).toNat else min v.toNat n):Nat):Int);by_cases hv:v<0
 .simp only[if_pos hv];omega
 .simp only[if_neg hv];omega
theorem OS(lo hi:Option Int)(n:Nat):Builtin.Slice.sliceAdjust lo hi 1 (n:Int)=(((sIx n 0 lo:Nat):Int),((sIx n n hi:Nat):Int)):=by
 have h1:¬((1:Int)<0):=by omega
 unfold Builtin.Slice.sliceAdjust;simp only[h1,if_false];refine Prod.ext ?_ ?_
 .cases lo with
  |none=>rfl
  |some v=>exact RS v n 0
 .cases hi with
  |none=>rfl
  |some v=>exact RS v n n
theorem OG(i j:Nat):Builtin.Slice.slicePlaces (i:Int) (j:Int) 1=j-i:=by
 unfold Builtin.Slice.slicePlaces;have h1:(1:Int) > 0:=by omega
 simp only[h1,if_true,Int.ediv_one];split<;>omega
theorem AE{v:Value}{o:Option Int}{Q:Option Int->Shared->Prop}(p:IsPart v o)(h:Q o s):wpAny (model prog w) A (Builtin.Slice.slicePartIndex v) Q E s:=by
 cases p with
 |none=>exact slicePart_none h
 |int i t=>exact slicePart_int h
theorem nB{sl:Addr}{vl vu:Value}{lo hi:Option Int}{n:Nat}{Q:Int×Int×Nat->Shared->Prop}(hs:s.heap.IsSliceOf sl vl vu .none)(pl:IsPart vl lo)(pu:IsPart vu hi)
 (h:Q (((sIx n 0 lo:Nat):Int),1,sIx n n hi-sIx n 0 lo) s):wpAny (model prog w) A (Builtin.Slice.sliceApplied (.ref sl) (pure (n:Int))) Q E s:=by
 obtain⟨os,hos,hcs,hds⟩:=id hs;unfold Builtin.Slice.sliceApplied Builtin.Slice.sliceFields;refine A0 (A0 (E2 hos hds (x:=vl) rfl (A0 (E2 hos hds (x:=vu) rfl (A0 (E2 hos hds (x:=.none) rfl (A6 ?_)))))));refine A0 (slicePart_none ?_);show wpAny _ _ (if ((1:Int)==0)=true then _ else _) _ _ s;rw[A5 (by decide)];refine A0 (AE pl (A0 (AE pu (A0 (A6 ?_)))));show wpAny _ _ (match Builtin.Slice.sliceAdjust lo hi 1 (n:Int)with|(lo,hi)=>pure (lo,(1:Int),Builtin.Slice.slicePlaces lo hi 1)) _ _ s;rw[OS lo hi n];show wpAny _ _ (pure (((sIx n 0 lo:Nat):Int),(1:Int),Builtin.Slice.slicePlaces ((sIx n 0 lo:Nat):Int) ((sIx n n hi:Nat):Int) 1)) _ _ s;rw[OG];exact A6 h
theorem YZ(xs:Array Value)(i k:Nat):((List.range k).filterMap fun(m:Nat)=>xs[((i:Int)+(m:Int)*1).toNat]?).toArray=((xs.toList.drop i).take k).toArray:=by
 have e:(fun(m:Nat)=>xs[((i:Int)+(m:Int)*1).toNat]?)=fun m=>xs[i+m]?:=by
  funext m;have:((i:Int)+(m:Int)*1).toNat=i+m:=by omega
  rw[this]
 rw[e];have:=pick_run xs i k;rw[List.filterMap_map]at this;have e2:((fun x=>xs[x]?) ∘ fun x=>i+x)=fun m=>xs[i+m]?:=rfl;rw[e2]at this;rw[this]
theorem getItem_tuple_cut{t sl:Addr}{items:Array Value}{vl vu:Value}{lo hi:Option Int}{Q:Value->Shared->Prop}(ht:IsTup s.heap t items)(hs:s.heap.IsSliceOf sl vl vu .none)(pl:IsPart vl lo)(pu:IsPart vu hi)
 (hw:¬(sIx items.size 0 lo=0/\sIx items.size items.size hi=items.size))
 (h:Q (.ref s.heap.objs.size) { s with heap:=s.heap.push { cls:=.type "tuple",data:=.seq ((items.toList.drop (sIx items.size 0 lo)).take (sIx items.size items.size hi-sIx items.size 0 lo)).toArray } })
 (hsz:items.size<=sizeLine):wpAny (model prog w) A (getItem (.ref t) (.ref sl)) Q E s:=by
 have htake:sizeOk (.seq ((items.toList.drop (sIx items.size 0 lo)).take (sIx items.size items.size hi-sIx items.size 0 lo)).toArray):=by
  show((items.toList.drop (sIx items.size 0 lo)).take (sIx items.size items.size hi-sIx items.size 0 lo)).toArray.size<=sizeLine;rw[C2,List.length_take,List.length_drop,L8];omega
 have hj:sIx items.size items.size hi<=items.size:=aHC _ _ (A8 _) hi;obtain⟨os,hos,hcs,hds⟩:=id hs;have hTs:s.TypeIs (.ref sl) "slice":=⟨os,hos,hcs⟩;unfold getItem
 try with_reducible refine E9 ?_
 first|refine A0 (A6 ?_)|skip
 refine A0 (wpAny_sequenceKey ht.typeIs (by decide) ?_)
 refine A0 (J7 (name:=Str.ofString "__getitem__") ht.typeIs L7
  (J4 L7 ht.typeIs entry_tuple_getitem ?_ (args_tuple_getitem _ _)))
 show wpAny _ _ (Builtin.Tuple.tupleItemsOf (.ref t) >>= _) _ _ s;refine A0 (tupleItemsOf_ ht ?_);refine A0 (wpAny_typeOf hTs ?_);rw[A4 (by decide)];refine A0 (nB hs pl pu ?_)
 have hno:¬((((sIx items.size 0 lo:Nat):Int)==0&&(1:Int)==1&&(sIx items.size items.size hi-sIx items.size 0 lo)==items.size)=true):=by
  intro q;rw[B8,B8]at q;have q1:((sIx items.size 0 lo:Nat):Int)=0:=eq_of_beq q.1.1;have q2:sIx items.size items.size hi-sIx items.size 0 lo=items.size:=eq_of_beq q.2;exact hw ⟨by omega,by omega⟩
 show wpAny _ _ (if (((sIx items.size 0 lo:Nat):Int)==0&&(1:Int)==1&&(sIx items.size items.size hi-sIx items.size 0 lo)==items.size)=true then _ else _) _ _ s;rw[A5 hno,YZ]
 first
  |exact A0 (m:=Builtin.Tuple.tupleExact _) (D1 (A6 ⟨_,rfl,A6 h⟩) htake)
  |exact A0 (m:=Builtin.Tuple.tupleExact _) (D1 (A0 (A6 (A6 ⟨_,rfl,A6 h⟩))) htake)
  |exact A0 (A0 (m:=Builtin.Tuple.tupleExact _) (D1 (A6 (A6 ⟨_,rfl,A6 h⟩)) htake))
  |exact A0 (A0 (m:=Builtin.Tuple.tupleExact _) (D1 (A6 ⟨_,rfl,A6 h⟩) htake))
end
end HT
namespace L2
variable{H:Hp}{σ:St}{s:Shared}
open PySem PySem.Spec PyProof.Rows
noncomputable abbrev TO:=St->Hp->(Option Int->Hp->Prop)->Prop
noncomputable def PO(X:Cx)(e:Option Expr)(t:TO):Prop:=
 ∀(pins:List (Addr×Obj))(s:Shared)(σ:St)(H:Hp)(Q:Option Int->Hp->Prop),Inv X pins σ H s->t σ H Q->
  wpAny (model X.prog X.w) X.A (evalPart e X.env) (fun u s'=>∃o H',Inv X pins σ H' s'/\IsPart u o/\Q o H') X.xe s
noncomputable def QU:TO:=fun _ H Q=>Q none H
noncomputable def aEv(t:TE):TO:=fun σ H Q=>t σ H fun x H1=>∃i,x=.int i/\Q (some i) H1
section
variable{X:Cx}{e:Expr}{te:TE}{lo hi:Option Expr}{tl th:TO}{pos p2:Pos}
theorem aDp:PO X none QU:=by
 intro pins s σ H Q I h;rw[evalPart_none];exact A6 ⟨none,H,I,.none,h⟩
theorem aDi(h:PE X e te):PO X (some e) (aEv te):=by
 intro pins s σ H Q I hw;rw[evalPart_some];refine thn (h pins s σ H _ I hw) fun u s1 ⟨x,H1,I1,r1,q1⟩=>?_;obtain⟨i,rfl,q⟩:=q1;obtain⟨t,rfl⟩:=r1;exact⟨some i,H1,I1,.int i t,q⟩
noncomputable def SlR(X:Cx)(r:V->Option Int->Option Int->Hp->VK->Prop):Prop:=
 ∀(pins:List (Addr×Obj))(s:Shared)(σ:St)(H:Hp)(x:V)(v vl vu:Value)(lo hi:Option Int)(sl:Addr)(Q:VK),Inv X pins σ H s->RelV x v->s.heap.IsSliceOf sl vl vu .none->IsPart vl lo->IsPart vu hi->r x lo hi H Q->
  ∃T id,typeLookup (.type T) "__getitem__"=pure (some (.builtin id))/\s.TypeIs v T/\wpAny (model X.prog X.w) X.A (getItem v (.ref sl)) (EP X pins σ Q) X.xe s
theorem SlR.or{r r':V->Option Int->Option Int->Hp->VK->Prop}(h:SlR X r)(h':SlR X r'):SlR X (fun x lo hi H Q=>r x lo hi H Q\/r' x lo hi H Q):=by
 intro pins s σ H x v vl vu lo hi sl Q I rx hs pl pu q;rcases q with q|q
 .exact h pins s σ H x v vl vu lo hi sl Q I rx hs pl pu q
 .exact h' pins s σ H x v vl vu lo hi sl Q I rx hs pl pu q
noncomputable def tSl(r:V->Option Int->Option Int->Hp->VK->Prop)(te:TE)(tl th:TO):TE:=fun σ H Q=>te σ H fun x H1=>tl σ H1 fun l H2=>th σ H2 fun u H3=>r x l u H3 Q
theorem HM{r:V->Option Int->Option Int->Hp->VK->Prop}(hr:SlR X r)(he:PE X e te)(hl:PO X lo tl)(hu:PO X hi th):PE X (.Subscript e (.Slice lo hi none p2) pos) (tSl r te tl th):=by
 intro pins s σ H Q I h;refine Subscript_ (thn (he pins s σ H _ I h) fun v s1 ⟨x,H1,I1,r1,q1⟩=>?_);refine wpAny_Slice (thn (hl pins s1 σ H1 _ I1 q1) fun vl s2 ⟨l,H2,I2,pl,q2⟩=>thn (hu pins s2 σ H2 _ I2 q2) fun vu s3 ⟨u,H3,I3,pu,q3⟩=>?_);rw[evalPart_none];refine A6 ?_;have I4:Inv X pins σ H3 { s3 with heap:=s3.heap.push { cls:=.type "slice",data:=.fields #[vl,vu,.none] } }:=I3.kept (t':=s3.toks) fun b ob q=>A3 _ q;obtain⟨T,id,hT,ht,hg⟩:=hr pins { s3 with heap:=s3.heap.push { cls:=.type "slice",data:=.fields #[vl,vu,.none] } } σ H3 x v vl vu l u s3.heap.objs.size Q I4 r1 (Heap.IsSliceOf.new ..) pl pu q3;show wpAny (model X.prog X.w) X.A (subscriptTail e (.Slice lo hi none p2) v (.ref s3.heap.objs.size)) (EP X pins σ Q) X.xe { s3 with heap:=s3.heap.push { cls:=.type "slice",data:=.fields #[vl,vu,.none] } };exact tail_any (ops:=[.ref s3.heap.objs.size,v]) ht hT hg (by with_unfolding_all rfl)
noncomputable def uS(xs:List V)(lo hi:Option Int):List V:=(xs.drop (HT.sIx xs.length 0 lo)).take (HT.sIx xs.length xs.length hi-HT.sIx xs.length 0 lo)
theorem wL(xs:List V)(lo hi:Option Int):(uS xs lo hi).length<=xs.length:=by
 unfold uS;rw[List.length_take,List.length_drop];omega
noncomputable def aJV(K:Fg):V->Option Int->Option Int->Hp->VK->Prop:=fun x lo hi H Q=>∃a xs,x=.ref a/\SqT K H a xs /\
 ¬(HT.sIx xs.length 0 lo=0/\HT.sIx xs.length xs.length hi=xs.length)/\∀p,H p=none->Q (.ref p) (upd H p (.tup (uS xs lo hi)))
theorem sl_tup:SlR X (aJV X.K):=by
 intro pins s σ H x v vl vu lo hi sl Q I rx hs pl pu h;obtain⟨a,xs,rfl,hx,hw,q⟩:=h;cases rx;obtain⟨its,r,ht,hz⟩:=I.tuple hx;have hlen:its.toArray.size=xs.length:=by rw[C2];exact r.length.symm
 refine⟨"tuple",_,PyProof.Rows.slot_tuple_getitem.lookup,ht.typeIs,?_⟩;refine HT.getItem_tuple_cut ht hs pl pu (by rw[hlen];exact hw) ?_ (by rw[hlen];exact hz);rw[hlen];refine⟨.ref s.heap.objs.size,_,I.laid (t':=s.toks) (o:=.tup (uS xs lo hi)) (fun b ob q=>A3 _ q) (A8 _) ?_,rfl,q _ (I.hok.fresh (A8 _))⟩;exact⟨C9 (wL xs lo hi) hz,_,(r.drop (HT.sIx xs.length 0 lo)).take (HT.sIx xs.length xs.length hi-HT.sIx xs.length 0 lo),IsTup.new _ _⟩
noncomputable def VV(K:Fg):R2:=fun x y H Q=>∃a b xs ys,x=.ref a/\y=.ref b/\SqT K H a xs/\SqT K H b ys/\xs≠[]/\xs.length+ys.length<=sizeLine /\
 (ys=[]->Q (.ref a) H)/\(ys≠[]->∀p,H p=none->Q (.ref p) (upd H p (.tup (xs++ys))))
theorem bF.nil_iff{xs:List V}{us:List Value}(r:bF xs us):us=[]↔xs=[]:=by
 cases r with
 |nil=>simp
 |cons _ _=>simp
theorem aDR:OpR X (binaryOp .Add) (VV X.K):=by
 intro pins s σ H x y v u Q I rx ry h;obtain⟨a,b,xs,ys,rfl,rfl,ha,hb,hx,hz,q1,q2⟩:=h;cases rx;cases ry;obtain⟨its,r1,p1,_⟩:=I.tuple ha;obtain⟨its2,r2,p2,_⟩:=I.tuple hb;refine HT.cat_tup p1 p2 (fun z=>hx (r1.nil_iff.mp z)) (fun z=>⟨.ref a,H,I,rfl,q1 (r2.nil_iff.mp z)⟩) (fun z=>?_) (by rw[<- r1.length,<- r2.length];exact hz);refine⟨.ref s.heap.objs.size,_,I.laid (t':=s.toks) (o:=.tup (xs++ys)) (fun b ob q=>A3 _ q) (A8 _) ?_,rfl,q2 (fun w=>z (r2.nil_iff.mpr w)) _ (I.hok.fresh (A8 _))⟩;exact⟨by rw[C0];exact hz,_,r1.append r2,IsTup.new _ _⟩
end
noncomputable def ixN(n:Nat)(i:Int):Option Nat:=if 0<=i then(if i<n then some i.toNat else none)else if -(n:Int)<=i then some (i+n).toNat else none
noncomputable def atI{α:Type}(xs:List α)(i:Int):Option α:=(ixN xs.length i).bind fun j=>xs[j]?
theorem PF{n:Nat}{i:Int}{j:Nat}(h:ixN n i=some j):seqIndex? i n=some j/\j<n/\-(n:Int)<=i/\i<n:=by
 unfold ixN at h;by_cases h0:0<=i
 .rw[A4 h0]at h;by_cases h1:i<n
  .rw[A4 h1]at h;have e:i.toNat=j:=D3 h;exact⟨by rw[seqIndex_of h0 h1,e],by omega,by omega,h1⟩
  .rw[A5 h1]at h;cases h
 .rw[A5 h0]at h;by_cases h1:-(n:Int)<=i
  .rw[A4 h1]at h;have e:(i+n).toNat=j:=D3 h;exact⟨by rw[seqIndex_neg (by omega) h1,e],by omega,h1,by omega⟩
  .rw[A5 h1]at h;cases h
theorem FK{α:Type}{xs:List α}{i:Int}{v:α}(h:atI xs i=some v):∃j,seqIndex? i xs.length=some j/\xs[j]?=some v/\j<xs.length/\-(xs.length:Int)<=i/\i<xs.length:=by
 unfold atI at h;cases e:ixN xs.length i with
 |none=>rw[e]at h;cases h
 |some j=>
  rw[e]at h;obtain⟨h1,h2,h3,h4⟩:=PF e;exact⟨j,h1,h,h2,h3,h4⟩
theorem rB{α:Type}{xs:List α}{j:Nat}{v:α}(h:xs[j]?=some v):atI xs (j:Int)=some v:=by
 have hj:j<xs.length:=(List.getElem?_eq_some_iff.mp h).1
 have e:ixN xs.length (j:Int)=some j:=by
  unfold ixN;rw[A4 (by omega),A4 (by omega)];simp
 unfold atI;rw[e];exact h
noncomputable def OY(b:Expr):Prop:=∀o i,subscripted b false o i=operate [o,i] (getItem o i)
noncomputable def IxR(X:Cx)(r:R2):Prop:=
 ∀(value slice:Expr)(pins:List (Addr×Obj))(s:Shared)(σ:St)(H:Hp)(x y:V)(v u:Value)(Q:VK),Inv X pins σ H s->RelV x v->RelV y u->r x y H Q->
  subscripted slice false v u=operate [v,u] (getItem v u)->wpAny (model X.prog X.w) X.A (subscriptTail value slice v u) (EP X pins σ Q) X.xe s
noncomputable def MtR(X:Cx)(id:String)(r:V->List V->Hp->VK->Prop):Prop:=
 ∀(pins:List (Addr×Obj))(s:Shared)(σ:St)(H:Hp)(x:V)(xs:List V)(v:Value)(us:List Value)(Q:VK),Inv X pins σ H s->RelV x v->bF xs us->r x xs H Q->
  wpAny (model X.prog X.w) X.A (call (.builtin id) (v::us)) (EP X pins σ Q) X.xe s
section
variable{X:Cx}{a b:Expr}{ta tb:TE}{pos:Pos}
theorem IxR.or{r r':R2}(h:IxR X r)(h':IxR X r'):IxR X (fun x y H Q=>r x y H Q\/r' x y H Q):=by
 intro value slice pins s σ H x y v u Q I rx ry q hs;rcases q with q|q
 .exact h value slice pins s σ H x y v u Q I rx ry q hs
 .exact h' value slice pins s σ H x y v u Q I rx ry q hs
theorem aJh{r:R2}(hr:IxR X r)(ha:PE X a ta)(hb:PE X b tb)(hs:OY b):PE X (.Subscript a b pos) (tOp r ta tb):=by
 intro pins s σ H Q I h;exact Subscript_ (aGd ha hb I h fun v u s2 x y H2 I2 rx ry q=>hr a b pins s2 σ H2 x y v u Q I2 rx ry q (hs _ _))
noncomputable def aJp(K:Fg):R2:=fun x y H Q=>∃p xs i v,x=.ref p/\y=.int i/\SqL K H p xs/\atI xs i=some v/\Q v H
noncomputable def aII(K:Fg):R2:=fun x y H Q=>∃p xs i v,x=.ref p/\y=.int i/\SqT K H p xs/\atI xs i=some v/\Q v H
noncomputable def aGq:R2:=fun x y H Q=>∃z i c,x=.str z/\y=.int i/\z.length<=sizeLine/\atI z.cps.toList i=some c/\Q (.str ⟨#[c]⟩) H
theorem ix_list:IxR X (aJp X.K):=by
 intro value slice pins s σ H x y v u Q I rx ry h hs;obtain⟨p,xs,i,z,rfl,rfl,hq,he,q⟩:=h;cases rx;obtain⟨t,rfl⟩:=ry;obtain⟨its,r,pl,hz⟩:=I.list hq;obtain⟨j,h1,h2,h3,h4,h5⟩:=FK he;obtain⟨w,ew,rw'⟩:=r.get h2;have hl:=r.length;have hn:=sN;have fin:EP X pins σ Q w s:=⟨z,H,I,rw',q⟩;by_cases h0:0<=i
 .have hj:i.toNat=j:=by
   rw[seqIndex_of h0 h5]at h1;exact D3 h1
  exact item_listR pl.isList h0 (by omega) (by rw[hj];simpa using ew) fin hs
 .have hj:(i+(its.toArray.size:Int)).toNat=j:=by
   rw[seqIndex_neg (by omega) h4]at h1;rw[C2,<- hl];exact D3 h1
  exact subscriptTail_builtinR (x:=w) pl.isList.typeIs slot_list_getitem.lookup
   (wpAny_getItem_list_neg (Q:=fun r s'=>r=w/\EP X pins σ Q r s') pl.isList (by omega) (by rw[C2]<;>omega) (by omega) (by rw[hj];simpa using ew) ⟨rfl,fin⟩) hs
theorem ix_tup:IxR X (aII X.K):=by
 intro value slice pins s σ H x y v u Q I rx ry h hs;obtain⟨p,xs,i,z,rfl,rfl,hq,he,q⟩:=h;cases rx;obtain⟨t,rfl⟩:=ry;obtain⟨its,r,pl,hz⟩:=I.tuple hq;obtain⟨j,h1,h2,h3,h4,h5⟩:=FK he;obtain⟨w,ew,rw'⟩:=r.get h2;have hl:=r.length;have hn:=sN;have fin:EP X pins σ Q w s:=⟨z,H,I,rw',q⟩
 exact subscriptTail_builtinR (x:=w) pl.typeIs slot_tuple_getitem.lookup
  (getItem_tuple (j:=j) (Q:=fun r s'=>r=w/\EP X pins σ Q r s') pl (by omega) (by omega) (by rw[C2,<- hl];exact h1) (by simpa using ew) ⟨rfl,fin⟩) hs
theorem WJ:IxR X aGq:=by
 intro value slice pins s σ H x y v u Q I rx ry h hs;obtain⟨z,i,c,rfl,rfl,hz,he,q⟩:=h;obtain⟨t,rfl⟩:=rx;obtain⟨t',rfl⟩:=ry;obtain⟨j,h1,h2,h3,h4,h5⟩:=FK he;have hl:z.cps.toList.length=z.length:=by simp[Str.length]
 rw[hl]at h1 h4 h5;have hn:=sN
 exact tail_any (Z0 s z t) slot_str_getitem.lookup (getItem_str (c:=c) (by
  have e1:decide (i < -(2 ^ 63:Int))=false:=C7 (by omega);have e2:decide (i>=2 ^ 63)=false:=C7 (by omega);rw[e1,e2,Bool.or_false]) (by rw[h1];simpa using h2) ⟨.str ⟨#[c]⟩,H,I.tok _,⟨_,rfl⟩,q⟩) hs
noncomputable def rIx(K:Fg):R2:=fun x y H Q=>aJp K x y H Q\/aII K x y H Q\/aGq x y H Q
theorem aFF:IxR X (rIx X.K):=ix_list.or (ix_tup.or WJ)
theorem NS(its:List Value)(n j:Nat)(u:Value):Obj.mapSeq (·.setIfInBounds j u) { cls:=.type "list",data:=.seq its.toArray n }={ cls:=.type "list",data:=.seq (its.set j u).toArray n }:=by
 simp[Obj.mapSeq]
theorem Inv.lst{pins:List (Addr×Obj)}{p:Addr}{xs:List V}(I:Inv X pins σ H s)(h:H p=some (.lst xs)):
 ∃(its:List Value)(n:Nat),bF xs its/\s.heap.get? p=some { cls:=.type "list",data:=.seq its.toArray n }/\xs.length<=sizeLine:=by
 obtain⟨z,its,n,r,e⟩:=I.hok p _ h;exact⟨its,n,r,e,z⟩
theorem Inv.lstUpd{pins:List (Addr×Obj)}{p:Addr}{xs ys:List V}{its its':List Value}{n n':Nat}{f:Obj->Obj}(I:Inv X pins σ H s)(h:H p=some (.lst xs))
 (ho:s.heap.get? p=some { cls:=.type "list",data:=.seq its.toArray n }) (hf:f { cls:=.type "list",data:=.seq its.toArray n }={ cls:=.type "list",data:=.seq its'.toArray n' }) (r:bF ys its') (hz:ys.length<=sizeLine) (t:Nat):
 Inv X pins σ (upd H p (.lst ys)) { s with heap:=s.heap.update p f,toks:=t }:=by
 have e:(s.heap.update p f).get? p=some { cls:=.type "list",data:=.seq its'.toArray n' }:=by
  rw[E3 f ho (by rw[hf]<;>rfl),hf]
 refine I.write (x:=p) (e:=p) (by rw[h];trivial) (.inl rfl) (fun b u hb q=>(D6 _ _ (F7 hb)).trans q) ⟨_,e⟩ ?_;exact⟨hz,its',n',r,e⟩
noncomputable def aEJ:V->V->V->Hp->(Hp->Prop)->Prop:=fun o i v H Q=>∃p xs k j,o=.ref p/\i=.int k/\H p=some (.lst xs)/\ixN xs.length k=some j/\Q (upd H p (.lst (xs.set j v)))
theorem set_list:aGp X aEJ:=by
 intro pins s σ H o i v ov iv u Q I ro ri rv h;obtain⟨p,xs,k,j,rfl,rfl,hp,hj,q⟩:=h;cases ro;obtain⟨t,rfl⟩:=ri;obtain⟨its,n,r,ho,hz⟩:=I.lst hp;obtain⟨h1,h2,h3,h4⟩:=PF hj;have hl:=r.length;have hn:=sN
 have I':Inv X pins σ (upd H p (.lst (xs.set j v))) { s with heap:=s.heap.update p (Obj.mapSeq (·.setIfInBounds j u)) }:=
  I.lstUpd hp ho (NS its n j u) (r.set rv j) (by rw[O6];exact hz) s.toks
 by_cases h0:0<=k
 .have hk:k.toNat=j:=by
   rw[seqIndex_of h0 h4]at h1;exact D3 h1
  exact PySem.W.ki_setAt ho h0 (by omega) (by rw[C2,<- hl];exact h4) (by rw[hk];exact⟨_,I',q⟩)
 .have hk:(k+(its.toArray.size:Int)).toNat=j:=by
   rw[seqIndex_neg (by omega) h3]at h1;rw[C2,<- hl];exact D3 h1
  exact PySem.W.ki_setBack ho (by omega) (by rw[C2,<- hl];exact h3) (by omega) (by rw[hk];exact⟨_,I',q⟩)
theorem GV(lo hi:Option Int)(n:Nat):(sliceBounds lo hi none n).1=((HT.sIx n 0 lo:Nat):Int)/\(sliceBounds lo hi none n).2.1=((HT.sIx n n hi:Nat):Int)/\(sliceBounds lo hi none n).2.2=1:=by
 refine⟨?_,?_,rfl⟩
 .cases lo with
  |none=>simp[sliceBounds,HT.sIx]
  |some i=>
   simp only[sliceBounds,HT.sIx,Option.getD_none,show(1:Int) > 0 by decide,if_true];by_cases h:i<0
   .simp only[h,if_true]<;>omega
   .simp only[h,if_false]<;>omega
 .cases hi with
  |none=>simp[sliceBounds,HT.sIx]
  |some i=>
   simp only[sliceBounds,HT.sIx,Option.getD_none,show(1:Int) > 0 by decide,if_true];by_cases h:i<0
   .simp only[h,if_true]<;>omega
   .simp only[h,if_false]<;>omega
theorem CL(its:List Value)(lo hi:Option Int):slicePick its.toArray lo hi none=((its.drop (HT.sIx its.length 0 lo)).take (HT.sIx its.length its.length hi-HT.sIx its.length 0 lo)).toArray:=by
 obtain⟨h1,h2,h3⟩:=GV lo hi its.toArray.size;unfold slicePick;rw[h1,h2,h3];simp only[sliceRange_one,pick_run,List.size_toArray]<;>rfl
noncomputable def aJX(K:Fg):V->Option Int->Option Int->Hp->VK->Prop:=fun x lo hi H Q=>∃a xs,x=.ref a/\SqL K H a xs/\∀p,H p=none->Q (.ref p) (upd H p (.lst (uS xs lo hi)))
theorem sl_list:SlR X (aJX X.K):=by
 intro pins s σ H x v vl vu lo hi sl Q I rx hs pl pu h;obtain⟨a,xs,rfl,hx,q⟩:=h;cases rx;obtain⟨its,r,ht,hz⟩:=I.list hx;have hlen:=r.length;refine⟨"list",_,slot_list_getitem.lookup,ht.isList.typeIs,?_⟩;refine wpAny_getItem_list_slice ht.isList hs pl pu .none (by simp) ?_ (by rw[C2]<;>omega);rw[CL,<- hlen];refine⟨.ref s.heap.objs.size,_,I.laid (t':=s.toks) (o:=.lst (uS xs lo hi)) (fun b ob q=>A3 _ q) (A8 _) ?_,rfl,q _ (I.hok.fresh (A8 _))⟩;exact⟨C9 (wL xs lo hi) hz,_,0,(r.drop (HT.sIx xs.length 0 lo)).take (HT.sIx xs.length xs.length hi-HT.sIx xs.length 0 lo),B3 _ rfl⟩
theorem GA:eI X (.builtin "len") (fun xs H Q=>∃p ys,xs=[.ref p]/\(SqL X.K H p ys\/SqT X.K H p ys)/\Q (.int ys.length) H):=by
 intro pins s σ H xs us Q I r h;obtain⟨p,ys,rfl,hq,q⟩:=h;obtain⟨u,rfl,rx⟩:=vals1 r;cases rx;have hn:=sN;rcases hq with hq|hq
 .obtain⟨its,r',pl,hz⟩:=I.list hq;have hlen:=r'.length;exact Calls.call_len_list pl.isList (by simp only[List.size_toArray]<;>omega) ⟨.int ys.length,H,I.tok _,⟨s.toks+1,by rw[C2,hlen]⟩,q⟩
 .obtain⟨its,r',pl,hz⟩:=I.tuple hq;have hlen:=r'.length;exact len_tuple pl (by simp only[List.size_toArray]<;>omega) ⟨.int ys.length,H,I.tok _,⟨s.toks+1,by rw[C2,hlen]⟩,q⟩
theorem FJ:eI X (.type "list") (fun xs H Q=>∃p ys,xs=[.ref p]/\(SqL X.K H p ys\/SqT X.K H p ys)/\∀l,H l=none->Q (.ref l) (upd H l (.lst ys))):=by
 intro pins s σ H xs us Q I r h;obtain⟨p,ys,rfl,hq,q⟩:=h;obtain⟨u,rfl,rx⟩:=vals1 r;cases rx
 have fin:∀(its:List Value),bF ys its->ys.length<=sizeLine->∀(h':Heap)(c':Nat),(∀b o',s.heap.get? b=some o'->h'.get? b=some o')->
  h'.get? s.heap.objs.size=some { cls:=.type "list",dict:=none,data:=.seq its.toArray c',slots:=#[] }->EP X pins σ Q (.ref s.heap.objs.size) { s with heap:=h' }:=fun its r' hz h' c' kp e=>
  ⟨.ref s.heap.objs.size,_,I.laid (t':=s.toks) kp (A8 _) (show cF X.prog X.w _ h' _ (.lst ys)from⟨hz,its,c',r',e⟩),rfl,q _ (I.hok.fresh (A8 _))⟩
 rcases hq with hq|hq
 .obtain⟨its,r',pl,hz⟩:=I.list hq;have hlen:=r'.length;obtain⟨o,ho,hc,n,hd⟩:=pl.isList;exact call_list_seq p (.inl rfl) ho hc hd (fun h' c' kp e=>fin its r' hz h' c' kp e) (by simp only[List.size_toArray]<;>omega)
 .obtain⟨its,r',pl,hz⟩:=I.tuple hq;have hlen:=r'.length;obtain⟨o,ho,hc,n,hd⟩:=pl;exact call_list_seq p (.inr rfl) ho hc hd (fun h' c' kp e=>fin its r' hz h' c' kp e) (by simp only[List.size_toArray]<;>omega)
theorem CH:eI X (.type "tuple") (fun xs H Q=>∃p ys,xs=[.ref p]/\((SqL X.K H p ys/\∀l,H l=none->Q (.ref l) (upd H l (.tup ys)))\/(SqT X.K H p ys/\Q (.ref p) H))):=by
 intro pins s σ H xs us Q I r h;obtain⟨p,ys,rfl,h⟩:=h;obtain⟨u,rfl,rx⟩:=vals1 r;cases rx;rcases h with⟨hq,q⟩|⟨hq,q⟩
 .obtain⟨its,r',pl,hz⟩:=I.list hq;have hlen:=r'.length;refine call_tuple_list pl.isList (fun h' kp=>?_) (by simp only[List.size_toArray]<;>omega);have I1:Inv X pins σ H { s with heap:=h' }:=I.kept (t':=s.toks) kp
  have I2:Inv X pins σ (upd H h'.objs.size (.tup ys)) { s with heap:=h'.push { cls:=.type "tuple",data:=.seq its.toArray } }:=
   I1.laid (t':=s.toks) (fun b o e=>A3 _ e) (A8 _) (show cF X.prog X.w _ _ _ (.tup ys)from⟨hz,its,r',IsTup.new _ _⟩)
  exact⟨.ref h'.objs.size,_,I2,rfl,q _ (I1.hok.fresh (A8 _))⟩
 .obtain⟨its,r',pl,hz⟩:=I.tuple hq;exact call_tuple_same pl ⟨.ref p,H,I,rfl,q⟩
noncomputable def tyV(K:Fg)(T:String)(x:V)(H:Hp):Prop:=match x with
 |.str _=>T="str"
 |.int _=>T="int"
 |.ref p=>(T="list"/\∃xs,SqL K H p xs)\/(T="tuple"/\∃o,K.lookup p=some o/\o.cls=.type "tuple"/\o.dict=none) \/
  (T="dict"/\((∃kvs,H p=some (.dK kvs))\/∃kvs,H p=some (.dT kvs)))\/(T="set"/\∃S n,H p=some (.set S n))
 |_=>False
theorem aAj{pins:List (Addr×Obj)}{T:String}{x:V}{v:Value}(I:Inv X pins σ H s)(r:RelV x v)(ty:tyV X.K T x H):
 s.TypeIs v T/\∀a,v=.ref a->∃ob,s.heap.get? a=some ob/\ob.dict=none:=by
 cases x with
 |str z=>
  obtain⟨t,rfl⟩:=r;cases (show T="str" from ty);exact⟨Z0 s z t,fun _ e=>nomatch e⟩
 |int i=>
  obtain⟨t,rfl⟩:=r;cases (show T="int" from ty);exact⟨typeIs_int s i t,fun _ e=>nomatch e⟩
 |ref p=>
  cases r;rcases ty with⟨rfl,xs,hq⟩|⟨rfl,o,hk,hc,hd⟩|⟨rfl,hk⟩|⟨rfl,S,n,hk⟩
  .obtain⟨its,_,pl,_⟩:=I.list hq;refine⟨pl.isList.typeIs,fun a e=>?_⟩;cases e;obtain⟨o,n,e,c,hd,_⟩:=pl;exact⟨o,e,hd⟩
  .refine⟨⟨o,I.kIn p o hk,hc⟩,fun a e=>?_⟩;cases e;exact⟨o,I.kIn _ o hk,hd⟩
  .have z:∃o,s.heap.get? p=some o/\o.ExactDict:=by
    rcases hk with⟨kvs,hk⟩|⟨kvs,hk⟩
    .obtain⟨_,_,_,_,o,_,_,e,ex,_⟩:=I.hok p _ hk;exact⟨o,e,ex⟩
    .obtain⟨_,_,_,_,o,_,_,e,ex,_⟩:=I.hok p _ hk;exact⟨o,e,ex⟩
   obtain⟨o,e,ex⟩:=z;refine⟨⟨o,e,ex.1⟩,fun a e2=>?_⟩;cases e2;exact⟨o,e,ex.2.1⟩
  .obtain⟨o,_,_,_,e,ex,_⟩:=I.hok p _ hk;refine⟨⟨o,e,ex.1⟩,fun a e2=>?_⟩;cases e2;exact⟨o,e,ex.2.1⟩
 |_=>exact False.elim ty
noncomputable def aIq(K:Fg)(T:String)(r:V->List V->Hp->VK->Prop)(to:TE):TE:=fun σ H Q=>to σ H fun x H1=>tyV K T x H1/\r x [] H1 Q
noncomputable def tBM(K:Fg)(T:String)(r:V->List V->Hp->VK->Prop)(to:TE)(t:TA):TE:=fun σ H Q=>to σ H fun x H1=>tyV K T x H1/\t σ H1 fun xs H2=>r x xs H2 Q
variable{o e:Expr}{es:List Expr}{to:TE}{t:TA}{name:Str}{apos cpos:Pos}{T id:String}{r:V->List V->Hp->VK->Prop}
theorem YN(pa:PlainAttrs T)(slot:Slot T name id)(hty:typeOf (.builtin id)=pure (.type "method_descriptor"))(hm:MtR X id r)(ho:PE X o to)
 (hbase:attributeBase o name X.env (eval o X.env)=eval o X.env:=by rfl) (hline:(apos.endLine==cpos.line)=true:=by rfl):PE X (.Call (.Attribute o name apos) [] [] cpos) (aIq X.K T r to):=by
 intro pins s σ H Q I h;refine wpAny_Call_method0_late hbase hline (thn (ho pins s σ H _ I h) fun v s1 ⟨x,H1,I1,r1,ty,q1⟩=>?_);obtain⟨h1,h2⟩:=aAj I1 r1 ty;exact⟨T,id,pa,slot,hty,h1,h2,Calls.callWith_builtin rfl (PySem.evalArgs_none (hm pins s1 σ H1 x [] v [] Q I1 r1 .nil q1))⟩
theorem QH(pa:PlainAttrs T)(slot:Slot T name id)(hty:typeOf (.builtin id)=pure (.type "method_descriptor"))(hm:MtR X id r)(ho:PE X o to)(ha:PA X (e::es) t)
 (hbase:attributeBase o name X.env (eval o X.env)=eval o X.env:=by rfl)
 (hfew:((backTo cpos (starEach (e::es) X.env)).all (fun x=>!x.1)&&(backToKw cpos (keywordEach [] X.env)).all (fun x=>x.1.isSome)
  && decide ((e::es).length+([]:List Keyword).length+(if ([]:List Keyword).isEmpty then 0 else 1)<30))=true:=by rfl)
 (hline:(apos.endLine==cpos.line)=true:=by rfl) (hs:starEach (e::es) X.env=(false,eval e X.env)::starEach es X.env:=by rfl) (hplain:(backTo cpos (starEach es X.env)).any (·.1)=false:=by rfl):
 PE X (.Call (.Attribute o name apos) (e::es) [] cpos) (tBM X.K T r to t):=by
 intro pins s σ H Q I h;refine wpAny_Call_method_late hbase hfew hline rfl (thn (ho pins s σ H _ I h) fun v s1 ⟨x,H1,I1,r1,ty,q1⟩=>?_);obtain⟨h1,h2⟩:=aAj I1 r1 ty;refine⟨T,id,pa,slot,hty,h1,h2,?_⟩;have hA:=ha cpos pins s1 σ H1 _ I1 q1;rw[hs]at hA ⊢;refine Calls.callWith_builtin (by show(false || (backTo cpos (starEach es X.env)).any (·.1))=false;rw[hplain]<;>rfl) (Calls.evalArgs_plain ?_);exact thn hA fun us s2 ⟨vs,H2,I2,r2,q2⟩=>hm pins s2 σ H2 x vs v us Q I2 r1 r2 q2
end
noncomputable def MtM(X:Cx)(id:String)(r:V->List V->Hp->VK->Prop):Prop:=
 ∀(pins:List (Addr×Obj))(s:Shared)(σ:St)(H:Hp)(x:V)(xs:List V)(v:Value)(us:List Value)(Q:VK),Inv X pins σ H s->RelV x v->bF xs us->r x xs H Q->
  wpAny (model X.prog X.w) X.A (call (.builtin id) (v::us)) (EP X pins σ Q) X.xe s
theorem bF.one:∀{x:V}{us:List Value},bF [x] us->∃u,us=[u]/\RelV x u
 |_,_,.cons r .nil=>⟨_,rfl,r⟩
theorem bF.zero:∀{us:List Value},bF [] us->us=[]
 |_,.nil=>rfl
theorem bF.dropLast{xs:List V}{us:List Value}(h:bF xs us):bF xs.dropLast us.dropLast:=by
 induction h with
 |nil=>exact .nil
 |cons r t ih=>
  cases t with
  |nil=>exact .nil
  |cons q t'=>exact .cons r ih
theorem bF.reverse{xs:List V}{us:List Value}(h:bF xs us):bF xs.reverse us.reverse:=by
 induction h with
 |nil=>exact .nil
 |cons r t ih=>rw[List.reverse_cons,List.reverse_cons];exact bF.append ih (.cons r .nil)
theorem OM{α:Type}(l:List α):l.eraseIdx (l.length-1)=l.dropLast:=by
 induction l with
 |nil=>rfl
 |cons a r ih=>
  cases r with
  |nil=>rfl
  |cons b r=>
   have e:(a::b::r).length-1=((b::r).length-1)+1:=by
    have h1:(a::b::r).length=r.length+2:=rfl;have h2:(b::r).length=r.length+1:=rfl;omega
   rw[e,List.eraseIdx_cons_succ,ih]
   all_goals rfl
section
variable{X:Cx}{pins:List (Addr×Obj)}{σ:St}{H:Hp}{s:Shared}{l b:Addr}{xs ys zs:List V}
theorem Inv.lset{its its':List Value}{n:Nat}{f:Array Value->Array Value}{t':Nat}(I:Inv X pins σ H s)(hH:H l=some (.lst xs))
 (e:s.heap.get? l=some { cls:=.type "list",data:=.seq its.toArray n }) (hf:f its.toArray=its'.toArray) (hv:bF ys its') (hz:ys.length<=sizeLine):
 Inv X pins σ (upd H l (.lst ys)) { s with heap:=s.heap.update l (Obj.mapSeq f),toks:=t' }:=by
 have q:=PySem.IsL.update e f;rw[hf]at q;refine I.write (x:=l) (e:=l) (by rw[hH];exact trivial) (.inl rfl) (fun b' u hb hu=>(D6 s.heap (Obj.mapSeq f) (F7 hb)).trans hu) ⟨_,q⟩ ?_;exact⟨hz,its',_,hv,q⟩
theorem Inv.lnew{its:List Value}{t':Nat}(I:Inv X pins σ H s)(hv:bF ys its)(hz:ys.length<=sizeLine):
 Inv X pins σ (upd H s.heap.objs.size (.lst ys)) { s with heap:=s.heap.push { cls:=.type "list",data:=.seq its.toArray },toks:=t' }:=
 I.laid (fun _ _ q=>A3 _ q) (A8 _) ⟨hz,its,0,hv,B3 _ rfl⟩
theorem Inv.fresh(I:Inv X pins σ H s):H s.heap.objs.size=none:=I.hok.fresh (A8 _)
theorem Inv.lstM(I:Inv X pins σ H s)(hH:H l=some (.lst xs)):xs.length<=sizeLine/\∃(its:List Value)(n:Nat),bF xs its/\xs.length=its.length/\s.heap.get? l=some { cls:=.type "list",data:=.seq its.toArray n }:=by
 obtain⟨z,its,n,r,e⟩:=I.hok l _ hH;exact⟨z,its,n,r,r.length,e⟩
end
section
variable{X:Cx}
noncomputable def QT:V->List V->Hp->VK->Prop:=fun x vs H Q=>∃l xs y,x=.ref l/\vs=[y]/\H l=some (.lst xs)/\xs.length<sizeLine/\Q .non (upd H l (.lst (xs++[y])))
theorem TV:MtM X "list.append" QT:=by
 intro pins s σ H x vs v us Q I rx rv h;obtain⟨l,xs,y,rfl,rfl,hH,hz,q⟩:=h;cases rx;obtain⟨u,rfl,ru⟩:=rv.one;obtain⟨z,its,n,r,hl,e⟩:=I.lstM hH;refine Z1 F.slot_list_append ⟨_,e,rfl⟩ F.entry_list_append (F.args_list_append_2 _ _) (PySem.list_append l its.toArray n u (by rw[C2];omega)) ⟨e,?_⟩;refine⟨.non,_,I.lset (its':=its++[u]) hH e (by simp) (r.append (.cons ru .nil)) ?_,rfl,q⟩;rw[C0,E7];omega
noncomputable def aJm:V->List V->Hp->VK->Prop:=fun x vs H Q=>∃l xs y,x=.ref l/\vs=[]/\H l=some (.lst xs)/\xs[xs.length-1]?=some y/\Q y (upd H l (.lst xs.dropLast))
theorem aGN:MtM X "list.pop" aJm:=by
 intro pins s σ H x vs v us Q I rx rv h;obtain⟨l,xs,y,rfl,rfl,hH,hy,q⟩:=h;cases rx;have hus:=rv.zero;subst hus;obtain⟨z,its,n,r,hl,e⟩:=I.lstM hH;obtain⟨u,hu,ru⟩:=r.get hy
 have hy':its.toArray[its.toArray.size-1]?=some u:=by
  show its.toArray[its.length-1]?=some u;rw[<- J5,<- hl];exact hu
 refine Z1 F.slot_list_pop ⟨_,e,rfl⟩ F.entry_list_pop (F.args_list_pop_1 _) (MeetsSeq.list_pop_last l its.toArray n u hy' (by rw[C2];omega)) ⟨e,?_⟩;refine⟨y,_,I.lset (its':=its.dropLast) hH e ?_ r.dropLast ?_,ru,q⟩
 .show its.toArray.eraseIdxIfInBounds (its.toArray.size-1)=its.dropLast.toArray;rw[C2,List.eraseIdxIfInBounds_toArray,OM]
 .rw[List.length_dropLast];omega
noncomputable def IX:V->List V->Hp->VK->Prop:=fun x vs H Q=>∃l xs,x=.ref l/\vs=[]/\H l=some (.lst xs)/\Q .non (upd H l (.lst xs.reverse))
theorem NW:MtM X "list.reverse" IX:=by
 intro pins s σ H x vs v us Q I rx rv h;obtain⟨l,xs,rfl,rfl,hH,q⟩:=h;cases rx;have hus:=rv.zero;subst hus;obtain⟨z,its,n,r,hl,e⟩:=I.lstM hH;refine Z1 F.slot_list_reverse ⟨_,e,rfl⟩ F.entry_list_reverse (F.args_list_reverse_1 _) (AutoSeq1.list_reverse_list_0 l its.toArray n (by rw[C2];omega)) ⟨e,?_⟩;refine⟨.non,_,I.lset (its':=its.reverse) hH e (by simp) r.reverse ?_,rfl,q⟩;rw[List.length_reverse];omega
end
section
variable{κ:Type}[DecidableEq κ]
noncomputable def hX(kvs:List (κ×V))(k:κ):Option V:=(kvs.find? fun kv=>decide (kv.1=k)).map (·.2)
noncomputable def putK(kvs:List (κ×V))(k:κ)(v:V):List (κ×V):=
 if (kvs.any fun kv=>decide (kv.1=k))=true then kvs.map (fun kv=>if kv.1=k then(kv.1,v)else kv)else kvs++[(k,v)]
theorem zN{p:κ×V}{r:List (κ×V)}{k:κ}(e:p.1=k):hX (p::r) k=some p.2:=by simp[hX,List.find?_cons,e]
theorem BK{p:κ×V}{r:List (κ×V)}{k:κ}(e:¬p.1=k):hX (p::r) k=hX r k:=by simp[hX,List.find?_cons,e]
theorem LM(k:κ):∀kvs:List (κ×V),(kvs.any fun kv=>decide (kv.1=k))=(hX kvs k).isSome
 |[]=>rfl
 |p::r=>by
  rw[L6];by_cases e:p.1=k
  .simp only[zN e,decide_eq_true e,Bool.true_or,Option.isSome_some]
  .rw[BK e,C7 e,Bool.false_or];exact LM k r
theorem lZ(kvs:List (κ×V))(k:κ)(v:V):(putK kvs k v).length<=kvs.length+1:=by
 unfold putK;split
 .rw[A2];omega
 .rw[C0,B4,U7];omega
theorem vT.isSome_eq{o:Option V}{u:Option Value}(r:vT o u):o.isSome=u.isSome:=by
 cases o with
 |none=>cases u with
  |none=>rfl
  |some _=>exact(show False from r).elim
 |some _=>cases u with
  |none=>exact(show False from r).elim
  |some _=>rfl
theorem KV.val{kvs:List (κ×V)}{vs:List (κ×Value)}(r:KV kvs vs)(k:κ):vT (hX kvs k) (valueAt vs k):=by
 unfold KV at r
 induction r with
 |nil=>exact True.intro
 |@cons p q ps qs h t ih=>
  obtain⟨h1,h2⟩:=h;by_cases e:p.1=k
  .have e':q.1=k:=h1.symm.trans e;have b:valueAt (q::qs) k=some q.2:=by simp[valueAt,List.find?_cons,e']
   rw[zN e,b];exact h2
  .have e':¬q.1=k:=fun z=>e (h1.trans z);have b:valueAt (q::qs) k=valueAt qs k:=by simp[valueAt,List.find?_cons,e']
   rw[BK e,b];exact ih
theorem KV.any{kvs:List (κ×V)}{vs:List (κ×Value)}(r:KV kvs vs)(k:κ):(kvs.any fun kv=>decide (kv.1=k))=vs.any fun kv=>decide (kv.1=k):=by
 unfold KV at r
 induction r with
 |nil=>rfl
 |cons h t ih=>rw[L6,L6,ih,h.1]
theorem KV.repl{kvs:List (κ×V)}{vs:List (κ×Value)}(r:KV kvs vs)(k:κ){y:V}{u:Value}(ry:RelV y u):
 KV (kvs.map fun kv=>if kv.1=k then(kv.1,y)else kv) (vs.map fun kv=>if kv.1=k then(kv.1,u)else kv):=by
 unfold KV at r ⊢
 induction r with
 |nil=>exact .nil
 |@cons p q ps qs h t ih=>
  rw[B2,B2];refine .cons ?_ ih;obtain⟨h1,h2⟩:=h;by_cases e:p.1=k
  .rw[A4 e,A4 (h1.symm.trans e)];exact⟨h1,ry⟩
  .rw[A5 e,A5 (fun z=>e (h1.trans z))];exact⟨h1,h2⟩
theorem KV.put{kvs:List (κ×V)}{vs:List (κ×Value)}(r:KV kvs vs)(k:κ){y:V}{u:Value}(ry:RelV y u):KV (putK kvs k y) (stored vs k u):=by
 unfold putK stored;rw[r.any k];by_cases e:(vs.any fun kv=>decide (kv.1=k))=true
 .rw[A4 e,A4 e];exact r.repl k ry
 .rw[A5 e,A5 e];exact Paired.snoc r ⟨rfl,ry⟩
theorem KV.length{kvs:List (κ×V)}{vs:List (κ×Value)}(r:KV kvs vs):kvs.length=vs.length:=Y3 r
end
theorem QV{P:Program}{w:World}{k:Key}{u:Value}(r:RelV (kV k) u):(dY P w).is k u=true:=by
 cases k with
 |inl i=>obtain⟨t,e⟩:=(show ∃t,u=Value.int i t from r);subst e;exact JB P w i t
 |inr x=>obtain⟨t,e⟩:=(show ∃t,u=Value.str x t from r);subst e;exact KW P w x t
theorem uP{P:Program}{w:World}:∀{ks:List Key}{us:List Value},bF (ks.map kV) us->ItemsAre (dY P w) ks us
 |[],_=>fun r=>by rw[List.map_nil]at r;cases r;exact .nil
 |k::ks,_=>fun r=>by
  rw[B2]at r;cases r with
  |cons h t=>exact .cons (QV h) (uP t)
noncomputable abbrev KT(H:Hp):List (List Key×V)->List (List Key×Addr×Value)->Prop:=Paired fun p q=>p.1=q.1/\H q.2.1=some (.tup (p.1.map kV))/\RelV p.2 q.2.2
theorem KT.val{kvs:List (List Key×V)}{xs:List (List Key×Addr×Value)}(r:KT H kvs xs)(k:List Key):vT (hX kvs k) ((atKey xs k).map (·.2)):=by
 induction r with
 |nil=>exact True.intro
 |@cons p q ps qs h t ih=>
  obtain⟨h1,_,h2⟩:=h;by_cases e:p.1=k
  .have e':q.1=k:=h1.symm.trans e;have b:atKey (q::qs) k=some q.2:=by simp[atKey,List.find?_cons,e']
   rw[zN e,b];exact h2
  .have e':¬q.1=k:=fun z=>e (h1.trans z);have b:atKey (q::qs) k=atKey qs k:=by simp[atKey,List.find?_cons,e']
   rw[BK e,b];exact ih
theorem KT.repl{kvs:List (List Key×V)}{xs:List (List Key×Addr×Value)}(r:KT H kvs xs)(k:List Key){y:V}{u:Value}(ry:RelV y u):
 KT H (kvs.map fun kv=>if kv.1=k then(kv.1,y)else kv) (xs.map (putAt k u)):=by
 induction r with
 |nil=>exact .nil
 |@cons p q ps qs h t ih=>
  rw[B2,B2];refine .cons ?_ ih;obtain⟨h1,h2,h3⟩:=h;unfold putAt;by_cases e:p.1=k
  .rw[A4 e,A4 (h1.symm.trans e)];exact⟨h1,h2,ry⟩
  .rw[A5 e,A5 (fun z=>e (h1.trans z))];exact⟨h1,h2,h3⟩
theorem KT.put{kvs:List (List Key×V)}{xs:List (List Key×Addr×Value)}(r:KT H kvs xs)(k:List Key){b:Addr}{y:V}{u:Value}(hb:H b=some (.tup (k.map kV)))(ry:RelV y u):
 KT H (putK kvs k y) (storedH xs k b u):=by
 have e:(kvs.any fun kv=>decide (kv.1=k))=(atKey xs k).isSome:=by
  rw[LM,(r.val k).isSome_eq,Option.isSome_map]
 unfold putK storedH;rw[e];by_cases q:(atKey xs k).isSome=true
 .rw[A4 q,A4 q];exact r.repl k ry
 .rw[A5 q,A5 q];exact Paired.snoc r ⟨rfl,hb,ry⟩
theorem KT.keeps{H':Hp}{kvs:List (List Key×V)}{xs:List (List Key×Addr×Value)}(r:KT H kvs xs)(ht:∀b ys,H b=some (.tup ys)->H' b=some (.tup ys)):KT H' kvs xs:=
 Paired.mapP r fun _ _ z=>⟨z.1,ht _ _ z.2.1,z.2.2⟩
section
variable{P:Program}{w:World}{H:Hp}{h:Heap}{a:Addr}
theorem JU{u:HO}(ok:HOk P w H h)(e:Rd H a u):cF P w H h a u:=e.ok ok
theorem aEK{kvs:List (Key×V)}(ok:HOk P w H h)(e:Rd H a (.dK kvs)):kvs.length<=sizeLine/\(a==sysModules)=false/\∃vs,KV kvs vs/\h.DictOf (dY P w) a vs:=
 show cF P w H h a (.dK kvs)from JU ok e
theorem aEM{kvs:List (Key×V)}(ok:HOk P w H h)(e:H a=some (.dK kvs)):kvs.length<=sizeLine/\(a==sysModules)=false/\∃vs,KV kvs vs/\h.DictOf (dY P w) a vs:=aEK ok (.inl e)
theorem HF{ks:List Key}(ok:HOk P w H h)(e:H a=some (.tup (ks.map kV))):(tupleKind (dY P w)).is h ks a:=by
 obtain⟨_,its,r,o,h1,h2,n,h3⟩:=(show cF P w H h a (.tup (ks.map kV))from ok a _ e);exact⟨o,its.toArray,n,h1,h2,h3,by simpa using uP r⟩
theorem XD{kvs:List (List Key×V)}(ok:HOk P w H h)(e:Rd H a (.dT kvs)):kvs.length<=sizeLine/\(a==sysModules)=false /\
 ∃xs,KT H kvs xs/\h.DictOfH (tupleKind (dY P w)) a xs:=by
 obtain⟨z,y,xs,r,o,es,ep,h1,h2,h3,h4,h5⟩:=(show cF P w H h a (.dT kvs)from JU ok e);refine⟨z,y,xs,r,o,es,ep,h1,h2,h3,h4,fun x hx=>?_,h5⟩
 have all:∀{l:List (List Key×V)}{m:List (List Key×Addr×Value)},KT H l m->∀x∈m,(tupleKind (dY P w)).is h x.1 x.2.1:=by
  intro l m q
  induction q with
  |nil=>intro x hx;exact nomatch hx
  |@cons p q ps qs hq t ih=>
   intro x hx;rcases List.mem_cons.mp hx with e|hx
   .subst e;exact HF ok (by rw[<- hq.1];exact hq.2.1)
   .exact ih x hx
 exact all r x hx
theorem aET{kvs:List (List Key×V)}(ok:HOk P w H h)(e:H a=some (.dT kvs)):kvs.length<=sizeLine/\(a==sysModules)=false /\
 ∃xs,KT H kvs xs/\h.DictOfH (tupleKind (dY P w)) a xs:=XD ok (.inl e)
end
noncomputable def HD(H:Hp)(a:Addr)(y:V)(r:Option V):Prop:=
 (∃kvs k,Rd H a (.dK kvs)/\y=kV k/\r=hX kvs k)\/∃kvs k b,Rd H a (.dT kvs)/\y=.ref b/\H b=some (.tup (k.map kV))/\r=hX kvs k
noncomputable def zX(H:Hp)(a:Addr)(y v:V)(H':Hp):Prop:=
 (∃kvs k,H a=some (.dK kvs)/\y=kV k/\kvs.length<sizeLine/\H'=upd H a (.dK (putK kvs k v))) \/
 ∃kvs k b,H a=some (.dT kvs)/\y=.ref b/\H b=some (.tup (k.map kV))/\kvs.length<sizeLine/\H'=upd H a (.dT (putK kvs k v))
theorem HD.k{a:Addr}{kvs:List (Key×V)}{k:Key}(e:H a=some (.dK kvs)):HD H a (kV k) (hX kvs k):=.inl ⟨kvs,k,.inl e,rfl,rfl⟩
theorem HD.t{a b:Addr}{kvs:List (List Key×V)}{k:List Key}(e:H a=some (.dT kvs))(eb:H b=some (.tup (k.map kV))):HD H a (.ref b) (hX kvs k):=.inr ⟨kvs,k,b,.inl e,rfl,eb,rfl⟩
theorem zX.k{a:Addr}{kvs:List (Key×V)}{k:Key}{v:V}(e:H a=some (.dK kvs))(hl:kvs.length<sizeLine):zX H a (kV k) v (upd H a (.dK (putK kvs k v))):=.inl ⟨kvs,k,e,rfl,hl,rfl⟩
theorem zX.t{a b:Addr}{kvs:List (List Key×V)}{k:List Key}{v:V}(e:H a=some (.dT kvs))(eb:H b=some (.tup (k.map kV)))(hl:kvs.length<sizeLine):
 zX H a (.ref b) v (upd H a (.dT (putK kvs k v))):=.inr ⟨kvs,k,b,e,rfl,eb,hl,rfl⟩
section
variable{X:Cx}{pins:List (Addr×Obj)}{σ:St}{H:Hp}{s:Shared}{a:Addr}{y v:V}{u r:Value}{o:Option V}{A:Around}{E:Value->Shared->Prop}
theorem Inv.big(I:Inv X pins σ H s):sysModules<s.heap.objs.size:=by
 have h:mainGlobals<s.heap.objs.size:=(I.mod.glob.keeps I.bk).lt;exact O4 (by decide) h
theorem aKm{Q:Value->Shared->Prop}(hu:A.units+1<cLine)(I:Inv X pins σ H s)(g:HD H a y o)(ry:RelV y u)(h:∀s',Inv X pins σ H s'->Q (.bool o.isSome) s'):
 wpAny (model X.prog X.w) A (compareOp .In u (.ref a)) Q E s:=by
 rcases g with⟨kvs,k,e,ey,l⟩|⟨kvs,k,b,e,ey,eb,l⟩
 .subst ey;obtain⟨z,hd,vs,rel,dd⟩:=aEK I.hok e;refine wpAny_in_of (QV ry) hd dd.mapOf ?_;rw[<- (rel.val k).isSome_eq,<- l];exact h _ (I.tok _)
 .subst ey;cases (show u=Value.ref b from ry);obtain⟨z,hd,xs,rel,dd⟩:=XD I.hok e;refine wpAny_in_heap (tupleKind_room_in1 hu) (HF I.hok eb) hd dd ?_;have q:=(rel.val k).isSome_eq;rw[Option.isSome_map]at q;rw[<- q,<- l];exact h _ (I.tok _)
theorem yB{h':Heap}{t':Nat}{ob:HO}(I:Inv X pins σ H s)(mu:Mut (H a))(hs:Heap.SameBut a s.heap h')(he:∃q,h'.get? a=some q)(new:cF X.prog X.w (upd H a ob) h' a ob):
 Inv X pins σ (upd H a ob) { s with heap:=h',toks:=t' }:=
 I.write (x:=a) (e:=a) mu (.inl rfl) (fun b q hb z=>(hs.2 b hb).trans z) he new
theorem YC{P:Program}{w:World}{H':Hp}{h':Heap}{kvs:List (Key×V)}{vs:List (Key×Value)}(z:kvs.length<=sizeLine)(hd:(a==sysModules)=false)(rel:KV kvs vs)(dd:h'.DictOf (dY P w) a vs):
 cF P w H' h' a (.dK kvs):=⟨z,hd,vs,rel,dd⟩
theorem UK{H':Hp}{Q:Unit->Shared->Prop}(hu:A.units+1<cLine)(I:Inv X pins σ H s)(g:zX H a y v H')(ry:RelV y u)(rv:RelV v r)(h:∀s',Inv X pins σ H' s'->Q () s'):
 wpAny (model X.prog X.w) A (setItem (.ref a) u r) Q E s:=by
 rcases g with⟨kvs,k,e,ey,l,eH⟩|⟨kvs,k,b,e,ey,eb,l,eH⟩
 .subst ey eH;obtain⟨z,hd,vs,rel,dd⟩:=aEM I.hok e;have hz:vs.length<=sizeLine:=by rw[<- rel.length];exact z
  have hl:(putK kvs k v).length<=sizeLine:=by have:=lZ kvs k v;omega
  refine wpAny_setItem_pairs (hsz:=hz) (QV ry) dd fun h' dd' hs=>h _ ?_;have he:∃q,h'.get? a=some q:=let⟨q,_,_,hq,_⟩:=dd';⟨q,hq⟩;exact yB I (by rw[e];exact True.intro) hs he (YC hl hd (rel.put k rv) dd')
 .subst ey eH;cases (show u=Value.ref b from ry);obtain⟨z,hd,xs,rel,dd⟩:=aET I.hok e;have hz:xs.length<=sizeLine:=by rw[<- Y3 rel];exact z
  have hl:(putK kvs k v).length<=sizeLine:=by have:=lZ kvs k v;omega
  refine wpAny_setItem_heap (hsz:=hz) (tupleKind_room_in1 hu) (HF I.hok eb) dd fun h' dd' hs=>h _ ?_;obtain⟨q,es,ep,hq,h2,h3,h4,_,h5⟩:=dd';refine yB I (by rw[e];exact True.intro) hs ⟨q,hq⟩ ⟨hl,hd,_,(rel.put k eb rv).keeps fun c ys ec=>?_,q,es,ep,hq,h2,h3,h4,h5⟩;rw[aM (xE ec e (fun z=>nomatch z))];exact ec
end
noncomputable def aDZ(i:Expr):Prop:=∀ov iv,subscripted i false ov iv=operate [ov,iv] (getItem ov iv)
theorem aCo{prog:Program}{w:World}{A:Around}{E:Value->Shared->Prop}{s:Shared}{env:Env}{value slice:Expr}{pos:Pos}{T id:String}{Q:Value->Shared->Prop}
 (hl:typeLookup (.type T) "__getitem__"=pure (some (.builtin id))) (hs:aDZ slice)
 (h:wpAny (model prog w) A (eval value env) (fun o s₁=>wpAny (model prog w) A (eval slice env) (fun i s₂=>s₂.TypeIs o T/\wpAny (model prog w) A (getItem o i) Q E s₂) E s₁) E s):
 wpAny (model prog w) A (eval (.Subscript value slice pos) env) Q E s:=by
 refine Subscript_ (D5 h (fun o s₁ h₁=>D5 h₁ (fun i s₂ h₂=>?_) fun _ _ x=>x) fun _ _ x=>x);obtain⟨hT,h₂⟩:=h₂;unfold subscriptTail;refine A0 ?_;rw[getitemInPython_of_ne hT.not_modules];refine A0 (wpAny_specialOf hT hl ?_)
 have fin:wpAny (model prog w) A (subscripted slice false o i) (fun r s₃=>wpAny (model prog w) A (letTemporaryGo value o r >>= fun _=>pure r) Q E s₃) E s₂:=by
  rw[hs o i];exact wpAny_operating (D5 h₂ (fun r s₃ h₃=>A0 (wpAny_letTemporaryGo (A6 h₃))) fun _ _ x=>x)
 first
  |exact A6 (A0 fin)
  |exact A0 (A6 (A0 fin))
  |exact A0 fin
noncomputable def aJN(ty td:TE):TE:=fun σ H Q=>ty σ H fun y H1=>td σ H1 fun x H2=>∃a o,x=.ref a/\HD H2 a y o/\Q (.bl o.isSome) H2
noncomputable def aFd(td ty tv:TE):TS:=fun D σ H=>tv σ H fun v H1=>td σ H1 fun x H2=>ty σ H2 fun y H3=>∃a H4,x=.ref a/\zX H3 a y v H4/\D.nx σ H4
section
variable{X:Cx}{o i e value:Expr}{pos pos' tpos:Pos}{td ty tv:TE}
theorem aIg(hu:X.A.units+1<cLine)(hi:PE X i ty)(ho:PE X o td):PC X .In i o (aJN ty td):=by
 intro pins s σ H Q I h;refine thn (hi pins s σ H _ I h) fun iv s1 ⟨y,H1,I1,ry,q1⟩=>thn (ho pins s1 σ H1 _ I1 q1) fun u s2 ⟨x,H2,I2,rx,a,ov,ex,g,q2⟩=>?_;subst ex;obtain rfl:u=Value.ref a:=rx;exact aKm hu I2 g ry fun s3 I3=>⟨.bl ov.isSome,H2,I3,rfl,q2⟩
theorem aDy(hu:X.A.units+1<cLine)(ho:PE X o td)(hi:PE X i ty)(hv:PE X value tv)(hs:swapsWith value (some (.Subscript o i pos')) pos.line X.env=pure false):
 PS X (.Assign [.Subscript o i pos'] value pos) (aFd td ty tv):=by
 intro pins s σ H D I h;refine wpAny_Assign_Subscript (thn (hv pins s σ H _ I h) fun r s1 ⟨v,H1,I1,rv,q1⟩=>thn (ho pins s1 σ H1 _ I1 q1) fun u s2 ⟨x,H2,I2,rx,q2⟩=>thn (hi pins s2 σ H2 _ I2 q2) fun iv s3 ⟨y,H3,I3,ry,a,H4,ex,g,q3⟩=>?_) hs;subst ex;obtain rfl:u=Value.ref a:=rx;exact UK hu I3 g ry rv fun s4 I4=>⟨σ,H4,I4,q3⟩
end
theorem aBs{P:Program}{w:World}(h:Heap)(hb:sysModules<h.objs.size):cF P w H (h.push { cls:=.type "dict",data:=.dict #[] }) h.objs.size (.dK []):=
 ⟨F8 _,beq_eq_false_iff_ne.mpr (F7 (B5 hb)),[],.nil,Heap.DictOf.new h⟩
theorem KH{P:Program}{w:World}(h:Heap)(hb:sysModules<h.objs.size):cF P w H (h.push { cls:=.type "dict",data:=.dict #[] }) h.objs.size (.dT []):=
 ⟨F8 _,beq_eq_false_iff_ne.mpr (F7 (B5 hb)),[],.nil,_,#[],0,B3 _ rfl,⟨rfl,rfl,rfl⟩,rfl,rfl,List.nodup_nil⟩
noncomputable def XF:TE:=fun _ H Q=>∀p,H p=none->Q (.ref p) (upd H p (.dT []))
section
variable{X:Cx}{pos:Pos}
theorem XQ:PE X (.Dict [] [] pos) XF:=fun pins s σ H Q I h=>
 wpAny_Dict_empty ⟨.ref s.heap.objs.size,_,I.laid (a:=s.heap.objs.size) (o:=.dT []) (t':=s.toks) (fun _ _ q=>A3 _ q) (A8 _) (KH s.heap I.big),rfl,h _ (I.hok.fresh (A8 _))⟩
end
structure M1(X:Cx)(o:Expr)(m:Str)(apos:Pos)(e:Expr)(cpos:Pos):Prop where
 base:attributeBase o m X.env (eval o X.env)=eval o X.env
 few:((backTo cpos (starEach [e] X.env)).all (fun x=>!x.1)&&(backToKw cpos (keywordEach [] X.env)).all (fun x=>x.1.isSome)
  && decide (([e]:List Expr).length+([]:List Keyword).length+(if ([]:List Keyword).isEmpty then 0 else 1)<30))=true
 line:(apos.endLine==cpos.line)=true
 trees:backTo cpos (starEach [e] X.env)=[(false,eval e X.env)]
structure M2(X:Cx)(o:Expr)(m:Str)(apos:Pos)(e f:Expr)(cpos:Pos):Prop where
 base:attributeBase o m X.env (eval o X.env)=eval o X.env
 few:((backTo cpos (starEach [e,f] X.env)).all (fun x=>!x.1)&&(backToKw cpos (keywordEach [] X.env)).all (fun x=>x.1.isSome)
  && decide (([e,f]:List Expr).length+([]:List Keyword).length+(if ([]:List Keyword).isEmpty then 0 else 1)<30))=true
 line:(apos.endLine==cpos.line)=true
 trees:backTo cpos (starEach [e,f] X.env)=[(false,eval e X.env),(false,eval f X.env)]
end L2
namespace Att
open PySem PySem.W PySem.Calls PyProof.Rows
theorem xH{P:Params}{h:Heap}:∀(ns:List Int)(vs:List Value),WellAll P h vs (ns.map WData.int)->IntsAre vs ns:=by
 intro ns
 induction ns with
 |nil=>
  intro vs w;rw[List.map_nil]at w;cases w;exact .nil
 |cons n ns ih=>
  intro vs w;rw[B2]at w;cases w with
  |cons a b=>
   cases a;exact .cons _ _ (ih _ b)
theorem VH{l:OpenLaw}{n:Nat}(hn:l.most=some n){P:Params}{h:Heap}{args:List WData}{vals:List Value}
 (hpre:l.row.toRowW.claim.pre args=true) (hwl:WellAll P h vals args):
 ∃a vs ns,vals=[Value.ref a]/\args=[WData.list (ns.map WData.int)]/\h.get? a=some { cls:=.type "list",data:=.seq vs.toArray }/\IntsAre vs ns/\ns.length<=n:=by
 have hsh:WShape.hasAll [] args [.list .int]=true:=(pre_splitW hpre).1;have hc:l.pre.holds [] { args:=args }=true:=(pre_splitW hpre).2;obtain⟨d,r,rfl,h1,h2⟩:=hasAllW_cons hsh;obtain rfl:=hasAllW_nil h2;obtain⟨xs,rfl,h3⟩:=hasW_list h1;obtain⟨ns,rfl⟩:=items_int h3
 have hlen:ns.length<=n:=by
  unfold OpenLaw.pre at hc
  have h4:(WTm.not (.lt (.lit (.int (n:Int))) (.len (.arg 0)))).holds [] { args:=[.list (ns.map .int)] }=true:=by
   have h4:=(holds_andW hc).1;rw[hn]at h4;exact h4
  have h5:=condW_of h4 (w_not (w_lt w_lit (w_len_list (w_arg rfl))));rw[A2]at h5;refine Nat.le_of_not_lt fun q=>?_;have q':(n:Int)<((ns.length:Nat):Int):=by omega
  first
   |(rw[C5 q']at h5;exact absurd h5 (by decide))
   |(simp at h5;omega)
 cases hwl with
 |cons w1 w2=>
  cases w2;cases w1 with
  |list ho hall=>exact⟨_,_,ns,rfl,rfl,ho,xH ns _ hall,hlen⟩
theorem TJ(l:OpenLaw)(args:List WData):l.row.toRowW.claim.post args (.bool true) args=true:=
 postW_of (r:=l.row.toRowW) (X:=(true==true))
  (show WShape.has [] (.bool true) .bool=true by first|rfl|decide|simp[WShape.has,WShape.arms,WShape.armsAll])
  (show(WTm.eq .res (.lit (.bool true))).value [] { args:=args,res:=some (.bool true),after:=args }=some (.bool (true==true))from w_eq_bool (w_res rfl) w_lit) rfl
theorem attach_call{l:OpenLaw}{n:Nat}{q:Program}{loose:List Str}{XP:(Str->Option Value)->Heap->Prop}{YP:World->Heap->Prop}{d:DefRec}
 (hn:l.most=some n) (hdf:d.params.defaults=[])
 (call:∀(w:World)(s₀ s₁:Shared)(mg mb:Str->Option Value)(fa:Addr)(o:Obj)(pm cd doc:Value)(a:Addr)(vs:List Value)(ns:List Int),
  Ground q loose [] XP w s₀ mg mb s₁.heap->YP w s₁.heap->
  s₁.heap.get? fa=some o->o.data=.func (docDef d.name d.params d.body d.scope pm cd doc)->s₁.heap.CodeRec cd d.name->mg d.name=some (.ref fa)->
  s₁.heap.get? a=some { cls:=.type "list",data:=.seq vs.toArray }->IntsAre vs ns->ns.length<=n->s₁.gens=#[]->
  codeAny (model l.prog w) callerA (.call (.ref fa) ⟨[.ref a],[]⟩) (fun r s'=>r=.ok (.ret (.bool true))/\OldK s₁.heap s'.heap/\s'.os=s₁.os/\AllBare s'.gens) s₁):
 WalkO q loose XP YP l.row.toRowW d [] (fun f vs=>PySem.call f vs):=by
 intro w s₀ s₁ mg mb G Y fa o pm cd doc dV kV ho hd hcd hD hmg hg args vals as hpre hlay hrd hwl hlo;obtain rfl:dV=.none:=Dflts.none hD hdf;obtain rfl:kV=.none:=Dflts.noKw hD;obtain⟨a,vs,ns,rfl,rfl,hobj,hints,hlen⟩:=VH hn hpre hwl;refine enter_call (Y8 (call w s₀ s₁ mg mb fa o pm cd doc a vs ns G Y ho (fd_plain hd) hcd hmg hobj hints hlen hg) fun r s' hq=>?_);obtain⟨rfl,h2,h3,h4⟩:=hq;exact⟨.inl ⟨.bool true,.bool true,[],rfl,fun _=>rfl,.bool true,TJ l _,fun _=>⟨List.Pairwise.nil,fun _ hm=>(nomatch hm)⟩⟩,h2,h3,h4⟩
section
variable{prog:Program}{w:World}{A:Around}{E:Value->Shared->Prop}{s:Shared}{K:Frag}
end
end Att
namespace L2
open PySem PySem.Spec PyProof.Rows
theorem CZ:∀{vs:List Value}{ns:List Int},IntsAre vs ns->bF (ns.map V.int) vs
 |_,_,.nil=>.nil
 |_,_,.cons n t h=>.cons ⟨t,rfl⟩ (CZ h)
noncomputable def aGI(H:Hp):Prop:=∀b,H b=none\/∃o xs,H b=some (.frz o (.lst xs))
theorem VZ{P:Program}{w:World}{K:Fg}{mg mb:Str->Option Value}{CX:CXT}{k:Nat}{fa a:Addr}{fd:FuncData}{x:Str}{sp:Sp}{s₁:Shared}{vs:List Value}{ns:List Int}
 (KX:K.In s₁.heap) (hns:s₁.heap.Ns mainGlobals mg) (hb:s₁.heap.Ns builtinsNs mb) (hbb:∀x:Str,x≠"__name__"->mb x=bootBuiltins x) (hlim:s₁.heap.NoLimit) (hsm:∃mm,s₁.heap.Ns sysModules mm) (hg:s₁.gens=#[])
 (ha:s₁.heap.get? a=some { cls:=.type "list",data:=.seq vs.toArray }) (hi:IntsAre vs ns) (hl:ns.length<=sizeLine) (hr:cG k callerA)
 (F:∀base:Heap,K.In base->base.Ns mainGlobals mg->gY P w K mg base CX k fa fd [x] sp) (hbind:∀(s:Shared)(u:Value),BindsTo s fd ⟨[u],[]⟩ [(x,u)])
 (hsp:∀H:Hp,aGI H->SqL K H a (ns.map V.int)->sp [.ref a] H (fun v _=>v=.bl true) fun _ _ _=>False)
 (hCX:∀H e s',CX [] H s₁ (fun _ _ _=>False) e s'->False):
 codeAny (model P w) callerA (.call (.ref fa) ⟨[.ref a],[]⟩) (fun r s'=>r=.ok (.ret (.bool true))/\OldK s₁.heap s'.heap/\s'.os=s₁.os/\AllBare s'.gens) s₁:=by
 have rv:=CZ hi;have lenV:=hi.length
 have core:∀H:Hp,aGI H->SqL K H a (ns.map V.int)->HOk P w H s₁.heap->(∀b,H b≠none->b=a)->(H a≠none->K.lookup a=none)->
  codeAny (model P w) callerA (.call (.ref fa) ⟨[.ref a],[]⟩) (fun r s'=>r=.ok (.ret (.bool true))/\OldK s₁.heap s'.heap/\s'.os=s₁.os/\AllBare s'.gens) s₁:=by
  intro H hO hS hok hA hK;have base_of:∀{b:Addr}{o:Obj},s₁.heap.get? b=some o->H b=none->(GX s₁.heap H).get? b=some o:=fun e n=>XE e n
  have noA:∀{b:Addr}{o:Obj}{es:Array DictEntry}{ep:Nat},s₁.heap.get? b=some o->o.data=.dict es ep->H b=none:=fun{b o es ep} e d=>by
   cases q:H b with
   |none=>rfl
   |some u=>
    have e':b=a:=hA b (by rw[q];simp);subst e';rw[ha]at e;cases e;have d':Data.seq vs.toArray _=Data.dict es ep:=d;cases d'
  have nsK:∀{b:Addr}{m:Str->Option Value},s₁.heap.Ns b m->(GX s₁.heap H).Ns b m:=fun{b m} ⟨o,es,ep,e,d,r⟩=>⟨o,es,ep,base_of e (noA e d),d,r⟩
  have hKb:K.In (GX s₁.heap H):=fun b o e=>base_of (KX b o e) (by
   cases q:H b with
   |none=>rfl
   |some u=>
    have e':b=a:=hA b (by rw[q];simp);subst e';rw[hK (by rw[q];simp)]at e;cases e)
  have hM:Mod K mg (GX s₁.heap H):=⟨hKb,nsK hns,⟨mb,nsK hb,hbb⟩,(let⟨mc,h1,h2⟩:=hlim;⟨mc,nsK h1,h2⟩),(let⟨mm,hmm⟩:=hsm;let⟨o,es,ep,h1,h2,_⟩:=nsK hmm;⟨o,es,ep,h1,h2⟩)⟩;have e0:OR P w K mg (GX s₁.heap H) callerA [] s₁ H:=⟨rfl,hM,fun b o e=>aDS e,Nat.le_of_eq (UU _ _),trivial,fun b hb=>absurd (show b∈([]:List Addr)from hb) (by simp),hok,.of_eq hg⟩;refine Y8 ((F _ hKb (nsK hns)).run callerA [] s₁ H ⟨[.ref a],[]⟩ [.ref a] [.ref a] _ _ hr e0 (hbind s₁ (.ref a)) (.cons rfl .nil) (hsp H hO hS)) fun r s' h=>?_;cases r with
  |error e=>exact(hCX H e s' h).elim
  |ok fl=>
   cases fl with
   |next=>exact False.elim h
   |brk=>exact False.elim h
   |cont=>exact False.elim h
   |ret u=>
    obtain⟨v,H',os,bare,un,hok',r',q⟩:=h;have q':v=.bl true:=q;subst q';obtain rfl:u=Value.bool true:=r';refine⟨rfl,OldK.of_keep fun b o e=>?_,os,bare⟩;cases q:H b with
    |none=>exact un.keep b o e q (by intro z;exact absurd (show b∈([]:List Addr)from z) (by simp)) (by simp)
    |some u=>
     rcases hO b with z|⟨ob,xs,z⟩
     .rw[q]at z;cases z
     .have z2:=un.frzs b ob _ z;obtain⟨e1,_⟩:=hok b _ z;obtain⟨e2,_⟩:=hok' b _ z2;rw[e]at e1;cases e1;exact e2
 cases hk:K.lookup a with
 |some o=>
  have e:=KX a o hk;rw[ha]at e;cases e;refine core (fun _=>none) (fun _=>.inl rfl) (.inr ⟨_,vs.toArray,_,hk,rfl,rfl,rfl,by rw[C2,lenV];exact hl,by simpa using rv⟩) (fun b u z=>by have z':(none:Option HO)=some u:=z;cases z') (fun b z=>absurd rfl z) fun z=>absurd rfl z
 |none=>
  refine core (fun b=>if b=a then some (.frz { cls:=.type "list",data:=.seq vs.toArray } (.lst (ns.map V.int)))else none) (fun b=>?_) (.inl (.inr ⟨{ cls:=.type "list",data:=.seq vs.toArray },A4 rfl⟩)) (fun b u z=>?_) (fun b z=>?_) fun _=>hk
  .by_cases hb:b=a
   .exact .inr ⟨_,_,A4 hb⟩
   .exact .inl (A5 hb)
  .by_cases hb:b=a
   .have z':=(A4 hb).symm.trans z;cases z';subst hb;exact⟨ha,by rw[A2];exact hl,vs,_,rv,ha⟩
   .have z':=(A5 hb).symm.trans z;cases z'
  .by_cases hb:b=a
   .exact hb
   .exact absurd (A5 hb) z
noncomputable abbrev KOf{K:Fg}{h:Heap}(_:K.In h):Fg:=K
theorem walk_of{l:PySem.W.OpenLaw}{n k:Nat}{q:Program}(hq:PyProof.Rows.importsNone q=true){loose:List Str}{XP:(Str->Option Value)->Heap->Prop}{YP:World->Heap->Prop}{d:DefRec}{K:Params->Fg}{CX:World->CXT}{sp:World->Sp}{x:Str}
 (hn:l.most=some n) (hn2:n<=sizeLine) (hdf:d.params.defaults=[]) (hr:cG k callerA)
 (hY:∀(w:World)(h:Heap),YP w h->(K w.params).In h)
 (F:∀(w:World)(mg:Str->Option Value)(fa:Addr)(h:Heap),(K w.params).In h->h.Ns mainGlobals mg->mg d.name=some (.ref fa)->
  ∃fd:FuncData,(∀(s:Shared)(u:Value),BindsTo s fd ⟨[u],[]⟩ [(x,u)]) /\
   ∀base:Heap,(K w.params).In base->base.Ns mainGlobals mg->gY l.prog w (K w.params) mg base (CX w) k fa fd [x] (sp w))
 (hsp:∀(w:World)(H:Hp)(a:Addr)(ns:List Int),ns.length<=n->aGI H->SqL (K w.params) H a (ns.map V.int)->sp w [.ref a] H (fun v _=>v=.bl true) fun _ _ _=>False)
 (hCX:∀(w:World)(H:Hp)(s:Shared)(e:Value)(s':Shared),CX w [] H s (fun _ _ _=>False) e s'->False):
 PySem.W.WalkO q loose XP YP l.row.toRowW d [] (fun f vs=>PySem.call f vs):=by
 refine Att.attach_call hn hdf fun w s₀ s₁ mg mb fa o pm cd doc a vs ns G Y ho hd hcd hmg hobj hints hlen hg=>?_;have KX:=hY w _ Y;obtain⟨fd,hb,hF⟩:=F w mg fa _ KX G.T.g hmg;exact VZ KX G.T.g G.T.b G.T.builtins G.T.nolimit (let⟨mm,hmm,_⟩:=(G.T.seer hq).mods;⟨mm,hmm⟩) hg hobj hints (C9 hlen hn2) hr hF hb (fun H hO hS=>hsp w H a ns hlen hO hS) fun H e s'=>hCX w H s₁ e s'
end L2
namespace L2
variable{H H':Hp}{W:Wd}{M:Sto}{K:Fg}{γ:Ga}
open PySem PySem.Spec PyProof.Rows
noncomputable def inClass(s:Stmt)(j:Nat):Stmt:=match s with
 |.ClassDef _ _ _ body _ _ _ _ _ _ _=>body.getD j (.Pass ⟨0,0,0,0⟩)
 |_=>.Pass ⟨0,0,0,0⟩
noncomputable def dG(s:Stmt):Arguments:=match s with
 |.FunctionDef _ a _ _ _ _ _ _ _ _=>a
 |_=>{ posonlyargs:=[],args:=[],vararg:=none,kwonlyargs:=[],kw_defaults:=[],kwarg:=none,defaults:=[] }
noncomputable def bR(s:Stmt):List Stmt:=match s with
 |.FunctionDef _ _ b _ _ _ _ _ _ _=>b
 |_=>[]
noncomputable def aF(s:Stmt):Scope:=match s with
 |.FunctionDef _ _ _ _ _ _ sc _ _ _=>sc
 |_=>{ kind:=.function,names:=[],isGenerator:=false,isCoroutine:=false }
noncomputable abbrev CX0:CXT:=fun _ _ _ _ _ _=>False
noncomputable abbrev E0:XK:=fun _ _ _=>False
theorem aJy{X:Cx}:NC CX0 X E0:=fun _ _ _ _ _ _ _ h=>h.elim
structure Fun(K:Fg)(x qual:Str)(st:Stmt)(f:Addr)(fd:FuncData):Prop where
 ex:∃(oc:Value)(od:Option Addr)(kV doc pm:Value)(an:Option Addr)(cdv ct:Value)(osl:Array (Option Value)),
  fd=PySem.W.fnOf x qual (dG st) (bR st) (aF st) .none kV doc pm an cdv ct/\K.lookup f=some ⟨oc,od,.func fd,osl⟩/\PySem.W.codeIn K cdv qual=true
 kp:PySem.W.keepIn K (.ref f)=true
section
variable{P:Program}{w:World}{K:Fg}{mg:Str->Option Value}{base:Heap}
theorem Fun.ok{x qual:Str}{st:Stmt}{f:Addr}{fd:FuncData}{N ps:List Str}{k:Nat}{sp:Sp}{q:Bool}(F:Fun K x qual st f fd)(S:aS N ps (aF st))(len:∀vs H Q E,sp vs H Q E->vs.length=ps.length)
 (hbody:∀(cdv:Value)(A:Around)(outer:List Env)(s:Shared)(H:Hp)(vs:List V)(Q:VK)(E:XK),cG k (A.deeper (envOfC qual (aF st) s.heap.objs.size f cdv)) q->sp vs H Q E->
  ∃t,PSs (mE CX0 P w K mg base N qual (aF st) f cdv A outer s H E q).nox (bR st) t/\t { nx:=fun _ H'=>Q .non H',rt:=Q } (start N vs) H):gY P w K mg base CX0 (k+1) f fd ps sp q:=by
 obtain⟨oc,od,kV,doc,pm,an,cdv,ct,osl,rfl,lk,hcd⟩:=F.ex;refine aER lk hcd S len fun A outer s H vs Q E hr hsp=>?_;obtain⟨t,h,z⟩:=hbody cdv A outer s H vs Q E hr hsp;exact⟨t,h.nox,z⟩
theorem Fun.binds{x qual:Str}{st:Stmt}{f:Addr}{fd:FuncData}{ps:List Str}(F:Fun K x qual st f fd)
 (h:∀(kV doc pm:Value)(an:Option Addr)(cdv ct:Value)(us:List Value),us.length=ps.length->bindArgs (PySem.W.fnOf x qual (dG st) (bR st) (aF st) .none kV doc pm an cdv ct) ⟨us,[]⟩=pure (ps.zip us)):Binds K fd ps []:=by
 obtain⟨oc,od,kV,doc,pm,an,cdv,ct,osl,rfl,lk,hcd⟩:=F.ex;exact .all (h kV doc pm an cdv ct)
theorem aAT{x qual:Str}{st:Stmt}{f:Addr}{oc:Value}{od an:Option Addr}{osl:Array (Option Value)}{kV doc pm cdv ct:Value}(l:K.lookup f=some ⟨oc,od,.func (PySem.W.fnOf x qual (dG st) (bR st) (aF st) .none kV doc pm an cdv ct),osl⟩)
 (c:PySem.W.codeIn K cdv qual=true) (k:PySem.W.keepIn K (.ref f)=true):Fun K x qual st f (PySem.W.fnOf x qual (dG st) (bR st) (aF st) .none kV doc pm an cdv ct):=⟨⟨oc,od,kV,doc,pm,an,cdv,ct,osl,rfl,l,c⟩,k⟩
end
noncomputable def iR(H H':Hp):Prop:=∀b o,H b=some o->H' b=some o
theorem iR.refl(H:Hp):iR H H:=fun _ _ h=>h
theorem iR.trans{H1 H2:Hp}(a:iR H H1)(b:iR H1 H2):iR H H2:=fun c o h=>b c o (a c o h)
theorem iR.free(e:iR H H'){l:Addr}(h:H' l=Option.none):H l=Option.none:=by
 cases q:H l with
 |none=>rfl
 |some o=>
  rw[e l o q]at h;cases h
theorem iR.seq{a:Addr}{xs:List V}(e:iR H H')(h:SqL K H a xs):SqL K H' a xs:=by
 rcases h with(h|⟨o,h⟩)|h
 .exact .inl (.inl (e _ _ h))
 .exact .inl (.inr ⟨o,e _ _ h⟩)
 .exact .inr h
noncomputable def eG(env:Env):List (Str×NameKind)->List (Str×Addr)->List (Str×Addr)
 |[],cs=>cs
 |y::r,cs=>eG env r (if (y.2==NameKind.free)=true then(y.1,(env.cells.lookup y.1).getD 0)::cs else cs)
theorem sT{env:Env}:∀(l:List (Str×NameKind))(cs:List (Str×Addr)),(∀y∈l,y.2=.free->∃c,env.cells.lookup y.1=some c)->
 (forIn l cs fun(x:Str×NameKind)(r:List (Str×Addr))=>if (x.2==NameKind.free)=true then(do
  let a <- cellOf env x.1
  pure (ForInStep.yield ((x.1,a)::r)))else pure (ForInStep.yield r))=(pure (eG env l cs):Sem (List (Str×Addr)))
 |[]=>fun cs _=>rfl
 |y::l=>fun cs h=>by
  rw[List.forIn_cons];by_cases hk:(y.2==NameKind.free)=true
  .obtain⟨c,hc⟩:=h y B0 (by simpa using hk);have e1:cellOf env y.1=pure c:=by unfold cellOf;rw[hc]
   rw[A4 hk,e1];show(forIn l ((y.1,c)::cs) _:Sem _)=_;rw[sT l _ fun z hz=>h z (B1 _ hz)]
   conv=>rhs;unfold eG
   rw[A4 hk,hc];rfl
  .rw[A5 hk];show(forIn l cs _:Sem _)=_;rw[sT l _ fun z hz=>h z (B1 _ hz)]
   conv=>rhs;unfold eG
   rw[A5 hk]
theorem zQ{scope:Scope}{env:Env}(h:∀y∈scope.names,y.2=.free->∃c,env.cells.lookup y.1=some c):closureFor scope env=pure (eG env scope.names []):=by
 have e:=sT (env:=env) scope.names [] h;unfold closureFor
 show((forIn scope.names ([]:List (Str×Addr)) fun(x:Str×NameKind)(r:List (Str×Addr))=>if (x.2==NameKind.free)=true then(do
  let a <- cellOf env x.1
  pure (ForInStep.yield ((x.1,a)::r)))else pure (ForInStep.yield r)) >>= fun z=>pure z:Sem (List (Str×Addr)))=_
 rw[e];rfl
theorem DC{env:Env}:∀(l:List (Str×NameKind))(cs:List (Str×Addr)),(∀y∈l,y.2=.free->∃c,env.cells.lookup y.1=some c)->(∀x c,cs.lookup x=some c->env.cells.lookup x=some c)->
 ∀x c,(eG env l cs).lookup x=some c->env.cells.lookup x=some c
 |[]=>fun cs _ h x c e=>h x c e
 |y::l=>fun cs hf h x c e=>by
  unfold eG at e;refine DC l _ (fun z hz=>hf z (B1 _ hz)) ?_ x c e;intro z d ez;by_cases hk:(y.2==NameKind.free)=true
  .rw[A4 hk]at ez;obtain⟨c',hc'⟩:=hf y B0 (by simpa using hk);rw[hc']at ez;rw[D0]at ez;by_cases hz:(z==y.1)=true
   .rw[hz]at ez;have hz':z=y.1:=by simpa using hz
    rw[hz',hc'];exact ez
   .have hz':(z==y.1)=false:=by simpa using hz
    rw[hz']at ez;exact h z d ez
  .rw[A5 hk]at ez;exact h z d ez
theorem vG{env:Env}:∀(l:List (Str×NameKind))(cs:List (Str×Addr))(x:Str),((x,NameKind.free)∈l\/∃c,cs.lookup x=some c)->∃c,(eG env l cs).lookup x=some c
 |[]=>fun cs x h=>by
  rcases h with h|h
  .exact absurd h (by simp)
  .exact h
 |y::l=>fun cs x h=>by
  unfold eG;refine vG l _ x ?_;rcases h with h|⟨c,hc⟩
  .rcases List.mem_cons.mp h with e|e
   .subst e;refine .inr ?_;rw[A4 (by rfl)];exact⟨(env.cells.lookup x).getD 0,by rw[D0];simp⟩
   .exact .inl e
  .refine .inr ?_;by_cases hk:(y.2==NameKind.free)=true
   .rw[A4 hk,D0];by_cases hz:(x==y.1)=true
    .rw[hz];exact⟨_,rfl⟩
    .have hz':(x==y.1)=false:=by simpa using hz
     rw[hz'];exact⟨c,hc⟩
   .rw[A5 hk];exact⟨c,hc⟩
theorem tF{env:Env}:∀{names:List (Str×NameKind)}{x:Str}{k:NameKind},
 (names.map fun(y:Str×NameKind)=>if (y.2==NameKind.free&&env.scope.kind==.function&&env.kindOf y.1==some .cell)=true then(y.1,NameKind.cell)else(y.1,y.2)).lookup x=some k->
 (names.lookup x=some k)\/(names.lookup x=some .free/\k=.cell)
 |[],x,k=>fun h=>by simp at h
 |y::r,x,k=>fun h=>by
  rw[B2]at h;by_cases hx:(x==y.1)=true
  .by_cases hc:(y.2==NameKind.free&&env.scope.kind==.function&&env.kindOf y.1==some .cell)=true
   .rw[A4 hc,D0,hx]at h;rw[D0,hx];have:y.2=.free:=by simp at hc;exact hc.1.1
    refine .inr ⟨by rw[this],?_⟩;cases h;rfl
   .rw[A5 hc,D0,hx]at h;rw[D0,hx];exact .inl h
  .have hx':(x==y.1)=false:=by simpa using hx
   have h':(r.map fun(y:Str×NameKind)=>if (y.2==NameKind.free&&env.scope.kind==.function&&env.kindOf y.1==some .cell)=true then(y.1,NameKind.cell)else(y.1,y.2)).lookup x=some k:=by
    by_cases hc:(y.2==NameKind.free&&env.scope.kind==.function&&env.kindOf y.1==some .cell)=true
    .rw[A4 hc,D0,hx']at h;exact h
    .rw[A5 hc,D0,hx']at h;exact h
   rw[D0,hx'];exact tF h'
theorem zR{env:Env}:∀{names:List (Str×NameKind)}{x:Str},names.lookup x=some .free->
 (names.map fun(y:Str×NameKind)=>if (y.2==NameKind.free&&env.scope.kind==.function&&env.kindOf y.1==some .cell)=true then(y.1,NameKind.cell)else(y.1,y.2)).lookup x=some .cell \/
 (names.map fun(y:Str×NameKind)=>if (y.2==NameKind.free&&env.scope.kind==.function&&env.kindOf y.1==some .cell)=true then(y.1,NameKind.cell)else(y.1,y.2)).lookup x=some .free
 |[],x=>fun h=>by simp at h
 |y::r,x=>fun h=>by
  rw[B2];by_cases hx:(x==y.1)=true
  .rw[D0,hx]at h;have hy:y.2=.free:=D3 h;by_cases hc:(y.2==NameKind.free&&env.scope.kind==.function&&env.kindOf y.1==some .cell)=true
   .rw[A4 hc,D0,hx];exact .inl rfl
   .rw[A5 hc,D0,hx];exact .inr (by rw[hy])
  .have hx':(x==y.1)=false:=by simpa using hx
   rw[D0,hx']at h;have ih:=zR (env:=env) h;by_cases hc:(y.2==NameKind.free&&env.scope.kind==.function&&env.kindOf y.1==some .cell)=true
   .rw[A4 hc,D0,hx'];exact ih
   .rw[A5 hc,D0,hx'];exact ih
noncomputable def KP(X:Cx)(ifs:List Expr)(t:TT):Prop:=
 ∀(pins:List (Addr×Obj))(s:Shared)(σ:St)(H:Hp)(Q:Bool->Hp->Prop),Inv X pins σ H s->t σ H Q->
  wpAny (model X.prog X.w) X.A (forIn ifs true fun c r=>if r=true then(do
   let ok <- isTrue c X.env (eval c X.env)
   pure (ForInStep.yield ok))else pure (ForInStep.yield r)) (TP X pins σ Q) X.xe s
noncomputable def aJr:TT:=fun _ H Q=>Q true H
theorem aBl{X:Cx}:KP X [] aJr:=fun _ _ _ H _ I h=>wpAny_tests_nil ⟨H,I,h⟩
theorem XZ{X:Cx}{c:Expr}{t:TT}(h:PT X c t):KP X [c] t:=fun pins s σ H Q I hq=>wpAny_tests_one (h pins s σ H Q I hq)
section
variable{prog:Program}{w:World}{A:Around}{R:Result->Shared->Prop}{s:Shared}
theorem aBO{elt target iter:Expr}{ifs:List Expr}{scope:Scope}{pos:Pos}{it acc:Value}{env:Env}(I:Nat->Shared->Prop)
 (turn:∀n s,I n s->wpAny (model prog w) A (pyNext it) (fun r s1=>(r=none/\R (.ok .next) s1)\/∃v,r=some v /\
  wpAny (model prog w) A (letOwnedTupleGo target it v) (fun _ s2=>wpAny (model prog w) A (assign target env v) (fun _ s3=>
   wpAny (model prog w) A (forIn ifs true fun c r=>if r=true then(do
    let ok <- isTrue c env (eval c env)
    pure (ForInStep.yield ok))else pure (ForInStep.yield r)) (fun ok s4=>
     (ok=true/\wpAny (model prog w) A (eval elt env) (fun x s5=>wpAny (model prog w) A (call (.builtin "list.append") [acc,x]) (fun _ s6=>∃m,m<n/\I m s6) (fun _ _=>False) s5) (fun _ _=>False) s4) \/
     (ok=false/\∃m,m<n/\I m s4)) (fun _ _=>False) s3) (fun _ _=>False) s2) (fun _ _=>False) s1) (fun _ _=>False) s)
 (n:Nat) (h:I n s):codeAny (model prog w) A (.compLoop (.ListComp elt [⟨target,iter,ifs,0⟩] scope pos) 0 it acc env) R s:=by
 refine codeAny_loop rfl I (fun n s hI=>?_) n h
 show wpAny _ A ((compTurn (.ListComp elt [⟨target,iter,ifs,0⟩] scope pos) 0 it acc env).onRaise fun x=>do
  noteFrame x env
  theTreesLotGoes x) _ _ s
 refine wpAny_noted ?_;rw[compTurn_list];refine A0 (S3 (A0 (D5 (turn n s hI) (fun r s1 h1=>?_) fun _ _ f=>f.elim)));rcases h1 with⟨rfl,h1⟩|⟨v,rfl,h1⟩
 .exact A6 h1
 .refine A0 (D5 h1 (fun _ s2 h2=>?_) fun _ _ f=>f.elim);refine A0 (D5 h2 (fun _ s3 h3=>?_) fun _ _ f=>f.elim);refine A0 (D5 h3 (fun ok s4 h4=>?_) fun _ _ f=>f.elim);rcases h4 with⟨rfl,h4⟩|⟨rfl,h4⟩
  .refine A0 (A0 (D5 h4 (fun x s5 h5=>?_) fun _ _ f=>f.elim));exact A0 (D5 h5 (fun _ s6 h6=>A6 (A6 ⟨rfl,h6⟩)) fun _ _ f=>f.elim)
  .exact A6 ⟨rfl,h4⟩
end
noncomputable def eS(X:Cx)(N':List Str)(scope:Scope)(C:Addr)(s2:Shared)(H2:Hp)(fp:List Addr)(pn:List (Addr×Obj)):Cx:=
 { X with N:=N',s₀:=s2,H₀:=H2,env:=compEnvC scope (eG X.env scope.names []) C X.env,outer:=X.stack,stack:=X.stack,ex:=fp,fn:=fun _=>false,pn:=X.pn++pn,xe:=fun _ _=>False }
noncomputable def xK(cap:List (Option Nat))(σ:St):St:=cap.map fun o=>o.bind fun j=>(σ[j]?).join
structure oP(X:Cx)(N':List Str)(cap:List (Option Nat))(scope:Scope):Prop where
 nocell:∀y∈scope.names,y.2≠.cell
 kind:scope.kind=.function
 names:∀y∈scope.names,y.2=.local->scope.names.lookup y.1=some .local
 frees:∀y∈scope.names,y.2=.free->X.env.kindOf y.1=some .cell\/X.env.kindOf y.1=some .free
 len:cap.length=N'.length
 cap:∀(i j:Nat),cap[i]?=some (some j)->∃x,N'[i]?=some x/\X.N[j]?=some x/\scope.names.lookup x=some .free
section
variable{X:Cx}{N':List Str}{cap:List (Option Nat)}{scope:Scope}{pins:List (Addr×Obj)}{σ:St}{H:Hp}{s:Shared}
theorem oP.cells(S:oP X N' cap scope)(ok:X.Ok):∀y∈scope.names,y.2=.free->∃c,X.env.cells.lookup y.1=some c:=fun y hy hk=>ok.has y.1 (S.frees y hy hk)
theorem oP.sub(S:oP X N' cap scope)(ok:X.Ok):∀x c,(eG X.env scope.names []).lookup x=some c->X.env.cells.lookup x=some c:=
 DC scope.names [] (S.cells ok) fun x c e=>by simp at e
theorem oP.kinds(S:oP X N' cap scope){C:Addr}{cl:List (Str×Addr)}{x:Str}(h:(compEnvC scope cl C X.env).kindOf x=some .cell\/(compEnvC scope cl C X.env).kindOf x=some .free):scope.names.lookup x=some .free:=by
 rcases h with h|h
 .rcases tF (names:=scope.names) h with q|⟨q,_⟩
  .exact absurd rfl (S.nocell _ (E6 q))
  .exact q
 .rcases tF (names:=scope.names) h with q|⟨q,_⟩
  .exact q
  .exact q
theorem Inv.stkAll(I:Inv X pins σ H s){b:Addr}(h1:b≠X.env.locals)(h2:b∉X.fs):b∉frs X.stack:=fun hb=>(List.mem_cons.mp (I.stkSub b hb)).elim h1 h2
theorem JN(S:oP X N' cap scope)(I:Inv X pins σ H s){fp:List Addr}{h4:Heap}{C:Addr}{tk:Nat}(hf:∀b∈fp,rF X pins H b)(hlt:∀b∈fp,b<s.heap.objs.size)
 (hC:s.heap.objs.size<=C) (hn:h4.Ns C fun _=>none) (hk:∀b o,s.heap.get? b=some o->h4.get? b=some o):
 Inv (eS X N' scope C s H fp pins) [] (xK cap σ) H { s with heap:=h4,toks:=tk }:=by
 have cellLt:∀x c,X.env.cells.lookup x=some c->c<s.heap.objs.size:=fun x c e=>by
  obtain⟨v,q⟩:=I.cell x c e;exact q.lt
 have fresh:H C=none:=I.hok.fresh hC
 have ok:(eS X N' scope C s H fp pins).Ok:=by
  refine⟨I.ok.mod,S.kind,I.ok.glob,I.ok.blt,hC,fun x y c h1 h2=>?_,fun x hx=>?_,fun x c hx _=>?_,I.ok.hd,I.ok.frames,.inl rfl,fun b hb=>⟨?_,fun x c e=>?_⟩,I.bs,C9 I.ok.bsz I.sz,fun b o e hb=>?_,fun b hb=>?_,I.stack,I.stkFree⟩
  .exact I.ok.inj x y c (S.sub I.ok x c h1) (S.sub I.ok y c h2)
  .exact vG scope.names [] x (.inl (E6 (S.kinds hx)))
  .exact absurd hx (by show ¬(false=true);decide)
  .exact B5 (B7 (hlt b hb) hC)
  .exact(hf b hb).2.2.2.2.1 x c (S.sub I.ok x c e)
  .rcases (hf b hb).2.2.2.1 with z|z
   .exact I.ok.noex b o e z
   .exact absurd (B7 (A9 (I.ok.bs b o e).1) z) (J3 _)
  .exact I.stkAll (hf b hb).2.1 (hf b hb).2.2.1
 refine⟨ok,rfl,I.bare,Un.kept hk,⟨_,hn,fun i x v h1 h2 h3=>?_⟩,fun x c e=>?_,fresh,fun x c e=>I.freeC x c (S.sub I.ok x c e),fun p hp=>?_,I.hok.kept hk,?_⟩
 .-- a name that is caught
  have h2':(cap[i]?).map (fun o=>o.bind fun j=>(σ[j]?).join)=some (some v):=by
   have:(xK cap σ)[i]?=some (some v):=h2;unfold xK at this;rw[D2]at this;exact this
  cases e:cap[i]? with
  |none=>rw[e]at h2';simp at h2'
  |some o=>
   cases o with
   |none=>rw[e]at h2';simp at h2'
   |some j=>
    rw[e]at h2';obtain⟨x',a1,a2,a3⟩:=S.cap i j e
    have ex:x'=x:=by
     have:N'[i]?=some x:=h1;rw[a1]at this;exact D3 this
    subst ex
    have sv:σ[j]?=some (some v):=by
     have q:(σ[j]?).join=some v:=D3 h2';cases f:σ[j]? with
     |none=>rw[f]at q;simp at q
     |some o=>rw[f]at q;cases o with
      |none=>simp at q
      |some v'=>simp at q;rw[q]
    have hv:X.env.kindOf x'=some .cell\/X.env.kindOf x'=some .free:=S.frees _ (E6 a3) rfl;obtain⟨m,hm,hl⟩:=I.loc;obtain⟨u,r,l⟩:=hl j x' v a2 sv (hv.elim (fun z=>.inr (.inl z)) fun z=>.inr (.inr z));refine⟨u,r,.inr ⟨?_,?_⟩⟩
    .exact zR (env:=X.env) (names:=scope.names) a3
    .rcases l with⟨hk',_⟩|⟨_,c,hc,o,ho,hd⟩
     .rcases hv with z|z<;>rw[z]at hk'<;>cases hk'
     .obtain⟨c',hc'⟩:=vG (env:=X.env) scope.names [] x' (.inl (E6 a3));have:=S.sub I.ok x' c' hc';rw[hc]at this;cases this;exact⟨c,hc',o,hk c o ho,hd⟩
 .obtain⟨v,o,ho,hd⟩:=I.cell x c (S.sub I.ok x c e);exact⟨v,o,hk c o ho,hd⟩
 .have hp':p∈X.pn++pins:=by
   rcases List.mem_append.mp hp with z|z
   .exact z
   .exact absurd z (by simp)
  obtain⟨e,n,ne,nf,d⟩:=I.pin p hp';exact⟨hk _ _ e,n,B5 (B7 (A9 e) hC),I.stkAll ne nf,d⟩
 .show(xK cap σ).length=N'.length;unfold xK;rw[A2];exact S.len
end
noncomputable def tLc(cap:List (Option Nat))(wi:TI)(g:TG)(tc:TT)(te:TE):TE:=fun σ H Q=>wi σ H fun J H1=>∃W:Nat->Nat->List V->St->Hp->Prop,(∃m,W 0 m [] (xK cap σ) H1)/\∀i m acc σ' H',W i m acc σ' H'->
 (J.stop i H'/\∀p,H' p=none->Q (.ref p) (upd H' p (.lst acc))) \/
 (J.go i H'/\acc.length<sizeLine/\∃N:List V->St->Hp->Prop,(∀acc' σ2 H2,N acc' σ2 H2->∃m',m'<m/\W (i+1) m' acc' σ2 H2)/\∀x H2,J.yld i H' x H2->g x σ' H2 fun σ2 H3=>tc σ2 H3 fun b H4=>(b=true/\te σ2 H4 fun v H5=>N (acc++[v]) σ2 H5)\/(b=false/\N acc σ2 H4))
section
variable{X:Cx}{N':List Str}{cap:List (Option Nat)}{scope:Scope}
theorem YW{elt tg iter:Expr}{ifs:List Expr}{pos:Pos}{wi:TI}{g:TG}{tc:TT}{te:TE}(hc:X.calm=true)(S:oP X N' cap scope)(hi:PI X tg iter wi)
 (hg:∀C s H fp pn,PG (eS X N' scope C s H fp pn) tg g) (hif:∀C s H fp pn,KP (eS X N' scope C s H fp pn) ifs tc) (he:∀C s H fp pn,PE (eS X N' scope C s H fp pn) elt te)
 (hs:∀x,foldedSetIterable iter X.env x=pure x) {pins:List (Addr×Obj)} {s:Shared} {σ:St} {H:Hp} {Q:VK} (I:Inv X pins σ H s) (h:tLc cap wi g tc te σ H Q)
 {use:Option (Value->Sem Unit)} {QQ:Value->Shared->Prop}
 (post:∀(D C:Addr)(H':Hp)(acc:List V)(s':Shared),D≠C->(∃m,s'.heap.Ns C m)->(∀h',Heap.SameBut C s'.heap h'->Inv X pins σ (upd H' D (.lst acc)) { s' with heap:=h' })->rF X pins (upd H' D (.lst acc)) C->Q (.ref D) (upd H' D (.lst acc))->compPost (model X.prog X.w) X.A X.xe use QQ (.ref D) C (.ok .next) s'):
 wpAny (model X.prog X.w) X.A (comprehension (.ListComp elt [⟨tg,iter,ifs,0⟩] scope pos) scope X.env (firstIterPos [⟨tg,iter,ifs,0⟩] pos) (newList []) false (firstIter [⟨tg,iter,ifs,0⟩] X.env) use) QQ X.xe s:=by
 refine wpAny_comprehension_free (e:=.ListComp elt [⟨tg,iter,ifs,0⟩] scope pos) (g:=⟨tg,iter,ifs,0⟩) (gs:=[]) rfl hs (zQ (S.cells I.ok)) S.kind S.names ?_;refine thn (hi pins s σ H _ I h) fun v s1 h1=>thn h1 fun itv s2 h2=>?_;obtain⟨it,fp,tn,J,H2,e,I2,T,st2,f2,W,⟨m0,w0⟩,turn⟩:=h2;subst e
 have fplt:∀b∈fp,b<s2.heap.objs.size:=fun b hb=>by
  obtain⟨o,e,_⟩:=T.obj _ _ st2 b hb;exact A9 e
 refine D1 (wpAny_newFunctionEnv S.nocell (fun y hy=>by simp at hy) (fun h1' hns hsb=>?_) S.kind);dsimp only at hns hsb ⊢;generalize hP:s2.heap.push { cls:=.type "list",dict:=none,data:=.seq ([]:List Value).toArray }=P2 at hns hsb ⊢;have hsz:P2.objs.size=s2.heap.objs.size+1:=by rw[<- hP,O5]
 have hDC:s2.heap.objs.size≠P2.objs.size:=by rw[hsz];exact B5 (J2 _)
 have hC:s2.heap.objs.size<=P2.objs.size:=by rw[hsz];exact Nat.le_succ _
 have keepP:∀b o,P2.get? b=some o->b≠P2.objs.size->h1'.get? b=some o:=fun b o e hb=>hsb.extBut b o hb (A3 _ e);have old:∀b o,s2.heap.get? b=some o->h1'.get? b=some o:=fun b o e=>keepP b o (by rw[<- hP];exact A3 _ e) (B5 (B7 (A9 e) hC));have hD0:h1'.get? s2.heap.objs.size=some { cls:=.type "list",data:=.seq #[] 0 }:=keepP _ _ (by rw[<- hP];exact B3 _ rfl) hDC
 have I4:Inv (eS X N' scope P2.objs.size s2 H2 fp pins) [] (xK cap σ) H2 { s2 with heap:=h1',toks:=s2.toks+([]:List (Str×Value)).length }:=
  JN S I2 f2 fplt hC (by simpa using hns) old
 have loop:∀s4:Shared,s4={ s2 with heap:=h1',toks:=s2.toks+([]:List (Str×Value)).length }->
  codeAny (model X.prog X.w) X.A (.compLoop (.ListComp elt [⟨tg,iter,ifs,0⟩] scope pos) 0 (.ref it) (.ref s2.heap.objs.size) (compEnvC scope (eG X.env scope.names []) P2.objs.size X.env)) (compPost (model X.prog X.w) X.A X.xe use QQ (.ref s2.heap.objs.size) P2.objs.size) s4:=by
  rintro s4 rfl
  have hfrD:s2.heap.objs.size∉frs X.stack:=fun hb=>by
   obtain⟨_,o,ho,_⟩:=I2.stack.mem hb;exact absurd (A9 ho) (J3 _)
  have cne:∀x c,(eG X.env scope.names []).lookup x=some c->c<s2.heap.objs.size:=fun x c e=>by
   obtain⟨v,q⟩:=I2.cell x c (S.sub I2.ok x c e);exact q.lt
  have stat:∀{Hx:Hp}{ob:Obj},(∀b∈fp,Hx b=none)->∀b∈fp,rF (eS X N' scope P2.objs.size s2 H2 fp pins) [(s2.heap.objs.size,ob)] Hx b:=fun{Hx ob} hn b hb=>by
   refine⟨hn b hb,B5 (B7 (fplt b hb) hC),I2.stkAll (f2 b hb).2.1 (f2 b hb).2.2.1,.inl hb,fun x c e=>(f2 b hb).2.2.2.2.1 x c (S.sub I2.ok x c e),fun p hp=>?_⟩;rcases List.mem_append.mp hp with z|z
   .exact(f2 b hb).2.2.2.2.2 p z
   .rw[List.mem_singleton.mp z];exact F9 (fplt b hb)
  refine aBO (fun n s'=>∃(i:Nat)(σ':St)(H':Hp)(acc:List V)(its:List Value)(nn:Nat),Inv (eS X N' scope P2.objs.size s2 H2 fp pins) [] σ' H' s'/\tn i s'.heap/\(∀b∈fp,H' b=none)/\H' s2.heap.objs.size=none /\
   s'.heap.get? s2.heap.objs.size=some { cls:=.type "list",data:=.seq its.toArray nn }/\bF acc its/\acc.length<=sizeLine/\W i n acc σ' H') ?_ m0
   ⟨0,xK cap σ,H2,[],[],0,I4,T.keep _ _ _ st2 fun b _ o e=>old b o e,fun b hb=>(f2 b hb).1,I2.hok.fresh (A8 _),hD0,.nil,F8 _,w0⟩
  rintro n s5 ⟨i,σ',H',acc,its,nn,I5,t5,fr5,d5,g5,va,la,w5⟩
  have I5p:Inv (eS X N' scope P2.objs.size s2 H2 fp pins) [(s2.heap.objs.size,{ cls:=.type "list",data:=.seq its.toArray nn })] σ' H' s5:=I5.pins_of fun p hp=>by
   rw[List.mem_singleton.mp hp];exact⟨g5,d5,hDC,hfrD,fun v z=>by cases z⟩
  rcases turn i n acc σ' H' w5 with⟨stop,q⟩|⟨go,lt,N,hN,step⟩
  .refine thn (T.done (eS X N' scope P2.objs.size s2 H2 fp pins) rfl rfl rfl hc i _ s5 σ' H' _ I5p (stat fr5) t5 stop) fun r s6 ⟨hr,I6⟩=>.inl ⟨hr,?_⟩;have d6:=(I6.pin (s2.heap.objs.size,{ cls:=.type "list",data:=.seq its.toArray nn }) (by simp)).1;have nC:H' P2.objs.size=none:=I6.free;refine post _ _ H' acc s6 hDC (let⟨m,hn,_⟩:=I6.loc;⟨m,hn⟩) (fun h' hs'=>?_) (I2.fpOk hC (by rw[aM hDC.symm];exact nC)) (q _ d5);have up:∀b o,b≠P2.objs.size->s6.heap.get? b=some o->h'.get? b=some o:=fun b o hb e=>hs'.extBut b o hb e;have ltC:∀b o,s2.heap.get? b=some o->b≠P2.objs.size/\b≠s2.heap.objs.size:=fun b o e=>⟨B5 (B7 (A9 e) hC),B5 (A9 e)⟩;have u6:Un (frs X.stack) fp H2 H' s2.heap s6.heap:=I6.base
   have u7:Un (frs X.stack) fp H2 (upd H' s2.heap.objs.size (.lst acc)) s2.heap h':=by
    refine⟨fun b o e n hb hx=>up b o (ltC b o e).1 (u6.keep b o e n hb hx),fun b o e n hb hx=>?_,fun b o e n hx=>?_,fun b o e hx=>?_,fun b xs e=>?_,fun b o u e=>?_,fun b ps e=>?_⟩
    .obtain⟨sl,q⟩:=u6.slot b o e n hb hx;exact⟨sl,up b _ (ltC b o e).1 q⟩
    .rw[aM (ltC b o e).2];exact u6.free b o e n hx
    .obtain⟨o',q⟩:=u6.there b o e hx;exact⟨o',up b o' (ltC b o e).1 q⟩
    .have z:=u6.tups b xs e;rw[aM (aP z d5)];exact z
    .have z:=u6.frzs b o u e;rw[aM (aP z d5)];exact z
    .obtain⟨more,z⟩:=u6.tbls b ps e;exact⟨more,by rw[aM (aP z d5)];exact z⟩
   have ok7:HOk X.prog X.w (upd H' s2.heap.objs.size (.lst acc)) h':=fun b u e=>by
    by_cases hb:b=s2.heap.objs.size
    .subst hb;rw[aV]at e;cases e;exact⟨la,its,nn,va,up _ _ hDC d6⟩
    .rw[aM hb]at e;refine(I6.hok b u e).stay (fun c v hc' z=>up c v ?_ z) (fun c z=>by rw[aM (aP z d5)];exact z) fun c xs z=>by rw[aM (aP z d5)];exact z
     rcases hc' with rfl|z
     .exact aP e nC
     .exact aP z nC
   have os6:s6.os=s2.os:=I6.os;have ba6:=I6.bare;obtain⟨hh,gg,dd,tt,oo⟩:=s6;subst os6;have z7:=I2.call (s:=s2) (h':=h') (g':=gg) (d':=dd) (t':=tt) (ch:=fp) u7 ok7 ba6 fun b hb=>⟨(f2 b hb).2.2.2.1,(f2 b hb).2.1,(f2 b hb).2.2.2.2.1,(f2 b hb).2.2.2.2.2⟩;exact z7
  .refine thn (T.item (eS X N' scope P2.objs.size s2 H2 fp pins) rfl rfl rfl hc i _ s5 σ' H' _ I5p (stat fr5) t5 go) fun r s6 ⟨u,hr,h6⟩=>.inr ⟨u,hr,?_⟩;refine thn h6 fun _ s7 ⟨x,H7,I7,r7,y7,t7,fr7⟩=>?_;have I7':=I7.pinned (stat fr7) (T.obj _ _ t7)
   have back:∀{σx:St}{Hx:Hp}{sx:Shared},Inv (eS X N' scope P2.objs.size s2 H2 fp pins) ([(s2.heap.objs.size,{ cls:=.type "list",data:=.seq its.toArray nn })]++vC fp s7.heap) σx Hx sx->
    (∀b∈fp,∀o,s7.heap.get? b=some o->sx.heap.get? b=some o)/\(∀b∈fp,Hx b=none)/\sx.heap.get? s2.heap.objs.size=some { cls:=.type "list",data:=.seq its.toArray nn }/\Hx s2.heap.objs.size=none:=fun{σx Hx sx} Ix=>by
    refine⟨fun b hb o e=>(Ix.pin (b,o) (C8 _ (C8 _ (gU hb e)))).1,fun b hb=>?_,?_,?_⟩
    .obtain⟨o,e,_⟩:=T.obj _ _ t7 b hb;exact(Ix.pin (b,o) (C8 _ (C8 _ (gU hb e)))).2.1
    .exact(Ix.pin (s2.heap.objs.size,_) (C8 _ (E4 _ (List.mem_singleton.mpr rfl)))).1
    .exact(Ix.pin (s2.heap.objs.size,{ cls:=.type "list",data:=.seq its.toArray nn }) (C8 _ (E4 _ (List.mem_singleton.mpr rfl)))).2.1
   refine thn (hg _ _ _ _ _ _ s7 σ' H7 x u _ I7' r7 (step x H7 y7)) fun _ s8 ⟨σ8,H8,I8,q8⟩=>?_;refine thn (hif _ _ _ _ _ _ s8 σ8 H8 _ I8 q8) fun b s9 ⟨H9,I9,q9⟩=>?_;rcases q9 with⟨rfl,q9⟩|⟨rfl,n9⟩
   .refine .inl ⟨rfl,thn (he _ _ _ _ _ _ s9 σ8 H9 _ I9 q9) fun uv s10 ⟨v,H10,I10,rv,n10⟩=>?_⟩;obtain⟨m',hm,w10⟩:=hN _ _ _ n10;obtain⟨b1,b2,b3,b4⟩:=back I10;refine wpAny_list_append_plain ⟨nn,b3⟩ (fun h' hp hs'=>?_) (by rw[C2,<- va.length];exact la);obtain⟨n2,e2⟩:=hp;have up:∀b o,b≠s2.heap.objs.size->s10.heap.get? b=some o->h'.get? b=some o:=fun b o hb e=>hs'.extBut b o hb e;have I10':Inv (eS X N' scope P2.objs.size s2 H2 fp pins) [] σ8 H10 s10:=I10.pins_of fun p hp=>absurd hp (by simp);refine⟨m',hm,i+1,σ8,H10,acc++[v],its++[uv],n2,I10'.turned (t':=s10.toks) up b4 hDC (.inr (A8 _)) (fun x c e=>B5 (cne x c e)) (fun p hp=>?_),T.keep _ _ _ t7 fun b hb o e=>up b o (B5 (fplt b hb)) (b1 b hb o e),b2,b4,?_,va.append (.cons rv .nil),?_,w10⟩
    .have hp':p∈X.pn++pins:=by
      rcases List.mem_append.mp hp with z|z
      .exact z
      .exact absurd z (by simp)
     exact B5 (A9 (I2.pin p hp').1)
    .rw[e2];simp
    .rw[C0,E7];exact lt
   .obtain⟨m',hm,w9⟩:=hN _ _ _ n9;obtain⟨b1,b2,b3,b4⟩:=back I9;exact .inr ⟨rfl,m',hm,i+1,σ8,H9,acc,its,nn,I9.pins_of fun p hp=>absurd hp (by simp),T.keep _ _ _ t7 b1,b2,b4,b3,va,la,w9⟩
 exact codeAny_compStart_list (loop _ rfl) (T.self _ 0 _ _ _ (T.keep _ _ _ st2 fun b _ o e=>old b o e) (loop _ rfl))
theorem aIK{elt tg iter:Expr}{ifs:List Expr}{pos:Pos}{wi:TI}{g:TG}{tc:TT}{te:TE}(hc:X.calm=true)(S:oP X N' cap scope)(hi:PI X tg iter wi)
 (hg:∀C s H fp pn,PG (eS X N' scope C s H fp pn) tg g) (hif:∀C s H fp pn,KP (eS X N' scope C s H fp pn) ifs tc) (he:∀C s H fp pn,PE (eS X N' scope C s H fp pn) elt te)
 (hs:∀x,foldedSetIterable iter X.env x=pure x:=by intro _;rfl):PE X (.ListComp elt [⟨tg,iter,ifs,0⟩] scope pos) (tLc cap wi g tc te):=by
 intro pins s σ H Q I h;rw[eval_ListComp];refine YW (use:=none) (Q:=Q) hc S hi hg hif he hs I h fun D C H' acc s' hDC ⟨m,hn⟩ hI _ hq=>⟨m,hn,fun h' hs'=>?_⟩;exact⟨.ref D,_,hI h' hs',rfl,hq⟩
theorem aBG{i:Nat}{x:Str}{elt tg iter:Expr}{ifs:List Expr}{pos pos' pos'':Pos}{wi:TI}{g:TG}{tc:TT}{te:TE}(hN:X.N.Nodup)(hix:X.N[i]?=some x)(hc:X.calm=true)(S:oP X N' cap scope)(hi:PI X tg iter wi)
 (hg:∀C s H fp pn,PG (eS X N' scope C s H fp pn) tg g) (hif:∀C s H fp pn,KP (eS X N' scope C s H fp pn) ifs tc) (he:∀C s H fp pn,PE (eS X N' scope C s H fp pn) elt te)
 (hsw:swapsWith (.ListComp elt [⟨tg,iter,ifs,0⟩] scope pos) (some (.Name x pos')) pos''.line X.env=pure true:=by rfl) (hx:X.env.scope.names.lookup x=some .local:=by rfl)
 (hs:∀x,foldedSetIterable iter X.env x=pure x:=by intro _;rfl):PS X (.Assign [.Name x pos'] (.ListComp elt [⟨tg,iter,ifs,0⟩] scope pos) pos'') (aDL (tLc cap wi g tc te) (IF i)):=by
 intro pins s σ H D I h;rw[exec_Assign_Name_used _ _ _ _ hsw];refine A0 (S3 (A0 ?_));show wpAny _ _ (comprehension (.ListComp elt [⟨tg,iter,ifs,0⟩] scope pos) scope X.env _ (newList []) false (firstIter [⟨tg,iter,ifs,0⟩] X.env) (some (assign (.Name x pos') X.env)) >>= fun _=>pure ()) _ _ s;refine A0 (thn (YW (use:=some (assign (.Name x pos') X.env)) (QQ:=fun _ s'=>∃σ' H',Inv X pins σ' H' s'/\D.nx σ' H') (Q:=fun v H1=>IF i v σ H1 D.nx) hc S hi hg hif he hs I h fun E C H' acc s' hDC ⟨m,hn⟩ hI fC hq=>?_) fun _ s' hz=>A6 (A6 hz));have I1:Inv X pins σ (upd H' E (.lst acc)) s':=hI s'.heap (Heap.SameBut.refl ..);have I1:Inv X pins σ (upd H' E (.lst acc)) s':=I1;refine wpAny_assign_Name (DH (M:=model X.prog X.w) (A:=X.A) (E:=X.xe) I1 hN hix (.inl hx) (v:=.ref E) (u:=.ref E) rfl (fun s2 I2 hsb=>?_) (.inr hx));obtain⟨a,hs2,ha⟩:=hsb
 have hne:C≠a:=by
  rcases ha with z|z
  .rw[z];exact fC.2.1
  .exact fun w=>fC.2.2.2.2.1 x a z w.symm
 refine⟨m,hn.extBut hs2.extBut hne,fun h' hs'=>?_⟩;exact⟨_,_,I2.turned (t':=s2.toks) (fun b o hb e=>hs'.extBut b o hb e) fC.1 fC.2.1 fC.2.2.2.1 fC.2.2.2.2.1 fC.2.2.2.2.2,hq⟩
end
noncomputable def xG:Key->PyData
 |.inl i=>.int i
 |.inr x=>.str x
mutual
noncomputable def Rep(K:Fg)(H:Hp):PyData->V->Prop
 |.none,v=>v=.non
 |.bool b,v=>v=.bl b
 |.int i,v=>v=.int i
 |.str x,v=>v=.str x
 |.list xs,v=>∃a vs,v=.ref a/\SqL K H a vs/\aL K H xs vs
 |.tuple xs,v=>∃a vs,v=.ref a/\SqT K H a vs/\aL K H xs vs
 |.dict kvs,v=>∃a ks,v=.ref a/\H a=some (.dK ks)/\oR K H kvs ks
noncomputable def aL(K:Fg)(H:Hp):List PyData->List V->Prop
 |[],vs=>vs=[]
 |d::ds,vs=>∃v r,vs=v::r/\Rep K H d v/\aL K H ds r
noncomputable def oR(K:Fg)(H:Hp):List (PyData×PyData)->List (Key×V)->Prop
 |[],ks=>ks=[]
 |(k,d)::kvs,ks=>∃k' v r,ks=(k',v)::r/\k=xG k'/\Rep K H d v/\oR K H kvs r
end
theorem iR.seqT{a:Addr}{xs:List V}(e:iR H H')(h:SqT K H a xs):SqT K H' a xs:=by
 rcases h with h|h
 .refine .inl ?_;rcases h with h|⟨o,h⟩
  .exact .inl (e _ _ h)
  .exact .inr ⟨o,e _ _ h⟩
 .exact .inr h
mutual
theorem Rep.same{K:Fg}{H H':Hp}(e:iR H H'):∀(d:PyData)(v:V),Rep K H d v->Rep K H' d v
 |.none=>fun v h=>h
 |.bool b=>fun v h=>h
 |.int i=>fun v h=>h
 |.str x=>fun v h=>h
 |.list xs=>fun v h=>by
  obtain⟨a,vs,h1,h2,h3⟩:=h;exact⟨a,vs,h1,e.seq h2,aL.same e xs vs h3⟩
 |.tuple xs=>fun v h=>by
  obtain⟨a,vs,h1,h2,h3⟩:=h;exact⟨a,vs,h1,e.seqT h2,aL.same e xs vs h3⟩
 |.dict kvs=>fun v h=>by
  obtain⟨a,ks,h1,h2,h3⟩:=h;exact⟨a,ks,h1,e _ _ h2,oR.same e kvs ks h3⟩
theorem aL.same{K:Fg}{H H':Hp}(e:iR H H'):∀(ds:List PyData)(vs:List V),aL K H ds vs->aL K H' ds vs
 |[]=>fun vs h=>h
 |d::ds=>fun vs h=>by
  obtain⟨v,r,h1,h2,h3⟩:=h;exact⟨v,r,h1,Rep.same e d v h2,aL.same e ds r h3⟩
theorem oR.same{K:Fg}{H H':Hp}(e:iR H H'):∀(kvs:List (PyData×PyData))(ks:List (Key×V)),oR K H kvs ks->oR K H' kvs ks
 |[]=>fun ks h=>h
 |(k,d)::kvs=>fun ks h=>by
  obtain⟨k',v,r,h1,h2,h3,h4⟩:=h;exact⟨k',v,r,h1,h2,Rep.same e d v h3,oR.same e kvs r h4⟩
end
theorem aL.length{K:Fg}{H:Hp}:∀{ds:List PyData}{vs:List V},aL K H ds vs->ds.length=vs.length
 |[],vs=>fun h=>by rw[show vs=[]from h];rfl
 |d::ds,vs=>fun h=>by
  obtain⟨v,r,h1,_,h3⟩:=h;rw[h1,B4,B4,aL.length h3]
theorem aL.get{K:Fg}{H:Hp}:∀{ds:List PyData}{vs:List V}{i:Nat}{v:V},aL K H ds vs->vs[i]?=some v->∃d,ds[i]?=some d/\Rep K H d v
 |[],vs,i,v=>fun h e=>by rw[show vs=[]from h]at e;simp at e
 |d::ds,vs,0,v=>fun h e=>by
  obtain⟨w,r,h1,h2,h3⟩:=h;rw[h1]at e;simp at e;subst e;exact⟨d,rfl,h2⟩
 |d::ds,vs,i+1,v=>fun h e=>by
  obtain⟨w,r,h1,h2,h3⟩:=h;rw[h1]at e;exact aL.get (i:=i) h3 (by simpa using e)
theorem aL.app{K:Fg}{H:Hp}:∀{ds es:List PyData}{vs ws:List V},aL K H ds vs->aL K H es ws->aL K H (ds++es) (vs++ws)
 |[],es,vs,ws=>fun h k=>by rw[show vs=[]from h];exact k
 |d::ds,es,vs,ws=>fun h k=>by
  obtain⟨v,r,h1,h2,h3⟩:=h;exact⟨v,r++ws,by rw[h1];rfl,h2,aL.app h3 k⟩
section
variable{X:Cx}{pins:List (Addr×Obj)}{σ:St}{H:Hp}{s:Shared}
theorem Inv.sysN(I:Inv X pins σ H s):H sysModules=none:=by
 obtain⟨o,es,ep,h,_⟩:=I.mod.sysm;exact(I.bs _ _ h).2
theorem Inv.sysL(I:Inv X pins σ H s){a:Addr}{xs:List V}(h:SqL X.K H a xs):sysModules≠a:=by
 intro e;subst e;have hn:=I.sysN;rcases h with(h|⟨o,h⟩)|⟨o,its,n,hk,_,_,hd,_⟩
 .rw[hn]at h;cases h
 .rw[hn]at h;cases h
 .obtain⟨o',es,ep,h',hd'⟩:=I.mod.sysm;have:=I.mod.kin _ _ hk;rw[h']at this;cases this;rw[hd]at hd';cases hd'
mutual
theorem Rep.reads'(I:Inv X pins σ H s):∀(d:PyData)(v:V)(u:Value),Rep X.K H d v->RelV v u->∃as,Reads s.heap u d as/\sysModules∉as
 |.none=>fun v u r q=>by
  rw[show v=.non from r]at q;rw[show u=Value.none from q];exact⟨_,.none,by simp⟩
 |.bool b=>fun v u r q=>by
  rw[show v=.bl b from r]at q;rw[show u=Value.bool b from q];exact⟨_,.bool b,by simp⟩
 |.int i=>fun v u r q=>by
  rw[show v=.int i from r]at q;obtain⟨t,rfl⟩:=(show ∃t,u=Value.int i t from q);exact⟨_,.int i t,by simp⟩
 |.str x=>fun v u r q=>by
  rw[show v=.str x from r]at q;obtain⟨t,rfl⟩:=(show ∃t,u=Value.str x t from q);exact⟨_,.str x t,by simp⟩
 |.list xs=>fun v u r q=>by
  obtain⟨a,vs,rfl,h2,h3⟩:=r;rw[show u=Value.ref a from q];obtain⟨its,hv,⟨o,n,hg,hc,_,hd⟩,_⟩:=I.list h2;obtain⟨as,ha,hs⟩:=aL.reads' I xs vs its h3 hv;exact⟨_,.list hg hc hd (by simpa using ha),fun z=>(List.mem_cons.mp z).elim (I.sysL h2) hs⟩
 |.tuple xs=>fun v u r q=>by
  obtain⟨a,vs,rfl,h2,h3⟩:=r;rw[show u=Value.ref a from q];obtain⟨its,hv,⟨o,hg,hc,n,hd⟩,_⟩:=I.tuple h2;obtain⟨as,ha,hs⟩:=aL.reads' I xs vs its h3 hv;exact⟨_,.tuple hg hc hd (by simpa using ha),hs⟩
 |.dict kvs=>fun v u r q=>by
  obtain⟨a,ks,rfl,h2,h3⟩:=r;rw[show u=Value.ref a from q];obtain⟨_,hS,vs,hkv,o,es,ep,hg,hex,hd,_,hp,_⟩:=(show cF X.prog X.w H s.heap a (.dK ks)from I.hok a _ h2);obtain⟨as,bs,h4,h5,n1,n2⟩:=oR.reads' I kvs ks vs es.toList h3 hkv hp;refine⟨_,.dict hg hex.1 hd h4 h5,fun z=>?_⟩;rcases List.mem_append.mp z with z|z
  .rcases List.mem_cons.mp z with z|z
   .rw[z]at hS;simp at hS
   .exact n1 z
  .exact n2 z
theorem aL.reads'(I:Inv X pins σ H s):∀(ds:List PyData)(vs:List V)(us:List Value),aL X.K H ds vs->bF vs us->∃as,ReadsAll s.heap us ds as/\sysModules∉as
 |[]=>fun vs us r q=>by
  rw[show vs=[]from r]at q;cases q;exact⟨_,.nil,by simp⟩
 |d::ds=>fun vs us r q=>by
  obtain⟨v,t,rfl,h2,h3⟩:=r;cases q with
  |cons q1 q2=>
   obtain⟨as,ha,n1⟩:=Rep.reads' I d v _ h2 q1;obtain⟨bs,hb,n2⟩:=aL.reads' I ds t _ h3 q2;exact⟨_,.cons ha hb,fun z=>(List.mem_append.mp z).elim n1 n2⟩
theorem oR.reads'(I:Inv X pins σ H s):∀(kvs:List (PyData×PyData))(ks:List (Key×V))(vs:List (Key×Value))(es:List DictEntry),oR X.K H kvs ks->KV ks vs->Pairs (dY X.prog X.w) es vs->
 ∃as bs,ReadsAll s.heap (es.map (·.key)) (kvs.map (·.1)) as/\ReadsAll s.heap (es.map (·.val)) (kvs.map (·.2)) bs/\sysModules∉as/\sysModules∉bs
 |[]=>fun ks vs es r q p=>by
  rw[show ks=[]from r]at q;cases q;cases p;exact⟨_,_,.nil,.nil,by simp,by simp⟩
 |(k,d)::kvs=>fun ks vs es r q p=>by
  obtain⟨k',v,t,rfl,h1,h2,h3⟩:=r;cases q with
  |@cons _ kv _ vs' q1 q2=>
   cases p with
   |@cons e _ es' _ p1 p2 p3=>
    obtain⟨as,bs,ha,hb,n1,n2⟩:=oR.reads' I kvs t _ _ h3 q2 p3;obtain⟨cs,hc,n3⟩:=Rep.reads' I d v _ h2 q1.2
    have hkey:Reads s.heap e.key k []:=by
     rw[h1];have p1':AI kv.1 e.key=true:=p1;rw[<- show k'=kv.1 from q1.1]at p1';rcases cY p1' with⟨i,t',rfl,he⟩|⟨x,t',rfl,he⟩
     .rw[he];exact .int i t'
     .rw[he];exact .str x t'
    refine⟨_,_,.cons hkey ha,.cons (show Reads s.heap e.val d cs by rw[p2];exact hc) hb,by simpa using n1,fun z=>(List.mem_append.mp z).elim n3 n2⟩
end
theorem Rep.reads(I:Inv X pins σ H s)(d:PyData)(v:V)(u:Value)(r:Rep X.K H d v)(q:RelV v u):∃as,Reads s.heap u d as:=let⟨as,h,_⟩:=Rep.reads' I d v u r q;⟨as,h⟩
theorem aL.reads(I:Inv X pins σ H s)(ds:List PyData)(vs:List V)(us:List Value)(r:aL X.K H ds vs)(q:bF vs us):∃as,ReadsAll s.heap us ds as:=let⟨as,h,_⟩:=aL.reads' I ds vs us r q;⟨as,h⟩
end
section
variable{X:Cx}
noncomputable def MC(K:Fg)(neg:Bool):R2:=fun x y H Q=>∃dx dy,Rep K H dx x/\Rep K H dy y/\SeqAt.shaped dx=true/\SeqAt.shaped dy=true/\Q (.bl (if neg then !PyData.eqv dx dy else PyData.eqv dx dy)) H
theorem aAV(hu:X.A.units+64<cLine):OpR X (compareOp .Eq) (MC X.K false):=by
 intro pins s σ H x y v u Q I rx ry h;obtain⟨dx,dy,hx,hy,sx,sy,q⟩:=h;obtain⟨as,ha⟩:=Rep.reads I dx x v hx rx;obtain⟨bs,hb⟩:=Rep.reads I dy y u hy ry;exact eq_dataH ha hb sx sy hu ⟨.bl _,H,I,rfl,q⟩
theorem aFK(hu:X.A.units+64<cLine):OpR X (compareOp .NotEq) (MC X.K true):=by
 intro pins s σ H x y v u Q I rx ry h;obtain⟨dx,dy,hx,hy,sx,sy,q⟩:=h;obtain⟨as,ha⟩:=Rep.reads I dx x v hx rx;obtain⟨bs,hb⟩:=Rep.reads I dy y u hy ry;exact ne_dataH ha hb sx sy hu ⟨.bl _,H,I,rfl,q⟩
open Classical in
noncomputable def CC(h:Heap)(dv:PyData)(u:Value):Bool:=if ∃d as,Reads h u d as/\PyData.eqv d dv=true then true else false
theorem aDv{h:Heap}{dv d:PyData}{u:Value}{as:List Addr}(r:Reads h u d as)(hc:d.canLay0=true):CC h dv u=PyData.eqv d dv:=by
 unfold CC;by_cases e:PyData.eqv d dv=true
 .rw[A4 ⟨d,as,r,e⟩,e]
 .rw[A5,Bool.eq_false_iff.mpr e];rintro⟨d',as',r',e'⟩;have:=SeqAt.Reads.unique d d' u as as' hc r r';subst this;exact e e'
theorem zE{A:Around}{s:Shared}{v:Value}{dv:PyData}{av:List Addr}(hv:Reads s.heap v dv av)(sv:SeqAt.shaped dv=true)(hu:A.units+64<cLine):
 ∀(us:List Value)(ds:List PyData)(as:List Addr),ReadsAll s.heap us ds as->ds.all SeqAt.shaped=true->(∀y∈us,SeqAt.EqAt A s y v (CC s.heap dv y))/\us.any (CC s.heap dv)=ds.any fun d=>PyData.eqv d dv
 |[]=>fun ds as r _=>by
  cases r;exact⟨fun y hy=>absurd hy (by simp),rfl⟩
 |y::us=>fun ds as r hs=>by
  cases r with
  |@cons _ _ d ds' as1 bs1 r1 r2=>
   rw[List.all_cons,B8]at hs;obtain⟨h1,h2⟩:=zE hv sv hu us _ _ r2 hs.2;have e:=aDv (dv:=dv) r1 (O9 hs.1);have hy:SeqAt.EqAt A s y v (PyData.eqv d dv):=SeqAt.eqAt_reads d dv A s y v _ _ r1 hv (O9 hs.1) (O9 sv) (SeqAt.room_of_shaped hs.1 hu);refine⟨fun z hz=>?_,by rw[L6,L6,e,h2]⟩;rcases List.mem_cons.mp hz with q|q
   .rw[q,e];exact hy
   .exact h1 z q
noncomputable def aFX(K:Fg)(neg:Bool):R2:=fun x y H Q=>∃dx ds p vs,Rep K H dx x/\y=.ref p/\(SqL K H p vs\/SqT K H p vs)/\aL K H ds vs/\SeqAt.shaped dx=true/\ds.all SeqAt.shaped=true /\
 Q (.bl (if neg then !ds.any fun d=>PyData.eqv d dx else ds.any fun d=>PyData.eqv d dx)) H
theorem aFR(hu:X.A.in1.units+64<cLine):OpR X (compareOp .In) (aFX X.K false):=by
 intro pins s σ H x y v u Q I rx ry h;obtain⟨dx,ds,p,vs,hx,rfl,hp,hds,sx,sds,q⟩:=h;cases ry;obtain⟨as,ha⟩:=Rep.reads I dx x v hx rx;rcases hp with hp|hp
 .obtain⟨its,r,pl,hz⟩:=I.list hp;obtain⟨bs,hb⟩:=aL.reads I ds vs its hds r;obtain⟨h1,h2⟩:=zE (A:=X.A.in1) ha sx hu its ds bs hb sds;refine SeqAt.in_listAt (CC s.heap dx) pl.isList (fun w hw=>h1 w (by simpa using hw)) ⟨.bl _,H,I,rfl,?_⟩;rw[show its.toArray.any (CC s.heap dx)=its.any (CC s.heap dx)by simp,h2];exact q
 .obtain⟨its,r,pl,hz⟩:=I.tuple hp;obtain⟨bs,hb⟩:=aL.reads I ds vs its hds r;obtain⟨h1,h2⟩:=zE (A:=X.A.in1) ha sx hu its ds bs hb sds;refine SeqAt.in_tupleAt (CC s.heap dx) pl (fun w hw=>h1 w (by simpa using hw)) ⟨.bl _,H,I,rfl,?_⟩;rw[show its.toArray.any (CC s.heap dx)=its.any (CC s.heap dx)by simp,h2];exact q
theorem bF.types:∀{Ts:List String}{its:List Value},bF (Ts.map V.ty) its->its=Ts.map Value.type
 |[],_=>fun h=>by cases h;rfl
 |t::Ts,its=>fun h=>by
  cases h with
  |cons r1 r2=>rw[show _=Value.type t from r1,bF.types r2];rfl
theorem bF.bools:∀{bs:List Bool}{its:List Value},bF (bs.map V.bl) its->its=bs.map Value.bool
 |[],_=>fun h=>by cases h;rfl
 |b::bs,its=>fun h=>by
  cases h with
  |cons r1 r2=>rw[show _=Value.bool b from r1,bF.bools r2];rfl
theorem all_range(bs:List Bool):(List.range bs.length).all (fun i=>bs.getD i false)=bs.all id:=by
 rw[U1];simp only[List.all_eq_true,List.mem_range,id];constructor
 .intro h b hb;obtain⟨i,hi,rfl⟩:=List.mem_iff_getElem.mp hb;have:=h i hi;rw[C6,B9 hi]at this;exact this
 .intro h i hi;rw[C6,B9 hi];exact h _ (S4 hi)
theorem JP{prog:Program}{w:World}{A:Around}{bs:List Bool}:TruthOf prog w A (fun i v=>(bs.map Value.bool).toArray[i]?=some v) (fun i=>bs.getD i false):=by
 intro i v s Q E hP hQ;rw[List.getElem?_toArray,D2]at hP;cases e:bs[i]? with
 |none=>rw[e]at hP;cases hP
 |some b=>
  rw[e]at hP;cases hP;have hb:bs.getD i false=b:=by rw[C6,e];rfl
  have hQ':Q (bs.getD i false) s:=hQ;rw[hb]at hQ';exact I0 hQ'
noncomputable def wY:Nat:=2 ^ 8000
noncomputable def WI(i:Int):Prop:=i.natAbs<wY
theorem KD{j:Int}(h:WI j):j.natAbs.log2<9000:=by
 by_cases h0:j.natAbs=0
 .rw[h0];decide +kernel
 .exact O4 ((Nat.log2_lt h0).mpr h) (by decide)
noncomputable def aIB(i j:Int):Prop:=WI i/\WI j
theorem CY{j:Int}(h:WI j):Builtin.Int.intBits j<=2 ^ 20:=by
 unfold Builtin.Int.intBits;by_cases h0:(j==0)=true
 .rw[A4 h0];exact F8 _
 .rw[A5 h0];have:=KD h;omega
end
structure Callee(P:Program)(w:World)(K:Fg)(mg:Str->Option Value)(base:Heap)(k:Nat)(x:Str)(ps:List Str)(sp:Sp)(q:Bool:=true):Prop where
 ex:∃f fd,gY P w K mg base CX0 k f fd ps sp q/\mg x=some (.ref f)/\PySem.W.keepIn K (.ref f)=true/\Binds K fd ps []
structure Def(K:Fg)(mg:Str->Option Value)(x:Str)(st:Stmt):Prop where
 ex:∃f fd,Fun K x x st f fd/\mg x=some (.ref f)
section
variable{P:Program}{w:World}{K:Fg}{mg:Str->Option Value}{base:Heap}{X:Cx}
theorem Def.ok{x:Str}{st:Stmt}{N ps:List Str}{k:Nat}{sp:Sp}{q:Bool}(D:Def K mg x st)(S:aS N ps (aF st))
 (hb:∀(kV doc pm:Value)(an:Option Addr)(cdv ct:Value)(us:List Value),us.length=ps.length->bindArgs (PySem.W.fnOf x x (dG st) (bR st) (aF st) .none kV doc pm an cdv ct) ⟨us,[]⟩=pure (ps.zip us))
 (len:∀vs H Q E,sp vs H Q E->vs.length=ps.length)
 (hbody:∀(f:Addr)(cdv:Value)(A:Around)(outer:List Env)(s:Shared)(H:Hp)(vs:List V)(Q:VK)(E:XK),cG k (A.deeper (envOfC x (aF st) s.heap.objs.size f cdv)) q->sp vs H Q E->
  ∃t,PSs (mE CX0 P w K mg base N x (aF st) f cdv A outer s H E q).nox (bR st) t/\t { nx:=fun _ H'=>Q .non H',rt:=Q } (start N vs) H):Callee P w K mg base (k+1) x ps sp q:=by
 obtain⟨f,fd,F,m⟩:=D.ex;exact⟨f,fd,F.ok S len fun cdv A outer s H vs Q E hr h=>hbody f cdv A outer s H vs Q E hr h,m,F.kp,F.binds hb⟩
theorem Callee.mono{j k:Nat}{x:Str}{ps:List Str}{sp:Sp}(C:Callee P w K mg base j x ps sp)(h:j<=k):Callee P w K mg base k x ps sp:=by
 obtain⟨f,fd,F,r⟩:=C.ex;exact⟨f,fd,F.mono h,r⟩
theorem def_mk{x:Str}{st:Stmt}{h:Heap}{f:Addr}{oc:Value}{od an:Option Addr}{osl:Array (Option Value)}{kV doc pm cdv ct:Value}(X:K.In h)(G:h.Ns mainGlobals mg)(a:PySem.W.nsIn K mainGlobals x=some (some (.ref f)))
 (l:K.lookup f=some ⟨oc,od,.func (PySem.W.fnOf x x (dG st) (bR st) (aF st) .none kV doc pm an cdv ct),osl⟩) (c:PySem.W.codeIn K cdv x=true) (k:PySem.W.keepIn K (.ref f)=true):Def K mg x st:=
 ⟨f,_,aAT l c k,J8 X G a⟩
theorem aHi{k:Nat}{x:Str}{ps:List Str}{sp:Sp}{p pos:Pos}{e:Expr}{es:List Expr}{t:TA}{q:Bool}(C:Callee X.prog X.w X.K X.mg X.base k x ps sp q)(hr:cG k X.A q)(ha:PA X (e::es) t)(hg:Gl X x:=by rfl)
 (hdb:(x==("__debug__":Str))=false:=by decide) (he:starEach (e::es) X.env=(false,eval e X.env)::starEach es X.env:=by rfl) (hpl:(backTo pos (starEach es X.env)).any (·.1)=false:=by rfl):
 PE X (.Call (.Name x p) (e::es) [] pos) (aBw sp [] E0 t):=by
 obtain⟨f,fd,F,m,kp,b⟩:=C.ex;exact aEd F hr hg m kp b .nil aJy ha hdb he hpl
theorem cG.units1{k:Nat}{A:Around}(r:cG k A):A.in1.units+64<cLine:=by have:=r.un;show A.units+1+64<_;omega
noncomputable def UH(mg:Str->Option Value)(xs:List Str):Prop:=∀x∈xs,mg x=none
theorem UH.of{xs:List Str}(h:UH mg xs)(x:Str)(hx:x∈xs:=by decide +kernel):mg x=none:=h x hx
theorem aAo:UH mg []:=fun _ h=>absurd h (by simp)
theorem dA{x:Str}{xs:List Str}(h:mg x=none)(hr:UH mg xs):UH mg (x::xs):=fun y hy=>(List.mem_cons.mp hy).elim (fun e=>e▸h) (hr y)
noncomputable def KQ(i j:Int):Prop:=aIj i j\/aIB i j
theorem KQ.ok{i j:Int}(h:KQ i j):IntMulOk i j:=by
 rcases h with h|h
 .exact h.ok
 .exact IntMulOk.of_bits (CY h.1) (CY h.2)
theorem aDj:OpR X (binaryOp .Mult) (rI KQ fun i j=>.int (i*j)):=opI fun _ _ _ _ _ _ _ hc q=>mul_int q hc.ok
noncomputable def aEN(_ j:Int):Prop:=0<j/\WI j
theorem WN:OpR X (binaryOp .FloorDiv) (rI aEN fun i j=>.int (i / j)):=opI fun i j _ _ _ _ _ hc q=>by
 refine floordiv_int (Int.ne_of_gt hc.1) ?_ (.inl (PyProof.noPylong_of_log2 (KD hc.2)));rw[Int.fdiv_eq_ediv_of_nonneg _ (Int.le_of_lt hc.1)];exact q
end
noncomputable def aAn(sc0:Scope)(N N':List Str)(cap:List (Option Nat))(scope:Scope):Bool:=
 scope.names.all (fun y=>y.2 != .cell)&&(scope.kind==.function)&&scope.names.all (fun y=>y.2 != .local || scope.names.lookup y.1==some .local) &&
 scope.names.all (fun y=>y.2 != .free || (sc0.names.lookup y.1==some .cell || sc0.names.lookup y.1==some .free))&&(cap.length==N'.length) &&
 (List.range cap.length).all fun i=>match cap[i]? with
  |some (some j)=>(match N'[i]?,N[j]? with
   |some x,some y=>x==y&&scope.names.lookup x==some .free
   |_,_=>false)
  |_=>true
theorem cS{X:Cx}{sc0 scope:Scope}{N N':List Str}{cap:List (Option Nat)}(h1:X.env.scope=sc0)(h2:X.N=N)(h:aAn sc0 N N' cap scope=true):oP X N' cap scope:=by
 unfold aAn at h;simp only[Bool.and_eq_true,List.all_eq_true,beq_iff_eq,bne_iff_ne,ne_eq,Bool.or_eq_true,List.mem_range]at h;obtain⟨⟨⟨⟨⟨a,b⟩,c⟩,d⟩,e⟩,f⟩:=h;refine⟨a,b,fun y hy hk=>?_,fun y hy hk=>?_,e,fun i j hij=>?_⟩
 .rcases c y hy with z|z
  .exact absurd hk z
  .exact z
 .show X.env.scope.names.lookup y.1=_\/X.env.scope.names.lookup y.1=_;rw[h1];rcases d y hy with z|z
  .exact absurd hk z
  .exact z
 .have hi:i<cap.length:=(List.getElem?_eq_some_iff.mp hij).1;have g:=f i hi;rw[hij]at g;dsimp only at g;rw[h2];split at g
  .rename_i x y ex ey;rw[B8,beq_iff_eq,beq_iff_eq]at g;exact⟨x,ex,by rw[ey,g.1],g.2⟩
  .cases g
noncomputable def tyName:PyData->String
 |.none=>"NoneType"
 |.bool _=>"bool"
 |.int _=>"int"
 |.str _=>"str"
 |.list _=>"list"
 |.tuple _=>"tuple"
 |.dict _=>"dict"
noncomputable def asked:List String:=["int","bool","str","list","tuple","dict"]
noncomputable def isT(T S:String):Bool:=T==S || (T=="int"&&S=="bool")
noncomputable def BR(T:String)(d:PyData):Bool:=isT T (tyName d)
noncomputable def aJE(S T:String):Option Bool:=if (Value.type S==Value.type T)=true then some true else if PySem.W.kitMeta T=true then(PySem.fastBuiltinMro S).map (·.contains (Value.type T))else none
theorem aAB:(["NoneType","bool","int","str","list","tuple","dict"].all fun S=>asked.all fun T=>aJE S T==some (isT T S))=true:=by decide +kernel
theorem ZC{T:String}{d:PyData}(h:T∈asked):PySem.W.kitOne K (.type (tyName d)) (.type T)=some (BR T d):=by
 have e:PySem.W.kitOne K (.type (tyName d)) (.type T)=aJE (tyName d) T:=rfl;rw[e];have hk:=aAB;rw[List.all_eq_true]at hk;have h1:=hk (tyName d) (by cases d<;>simp[tyName]);rw[List.all_eq_true]at h1;exact eq_of_beq (h1 T h)
theorem RO{K:Fg}{d:PyData}:∀{Ts:List String},(∀T∈Ts,T∈asked)->PySem.W.kitAny K (.type (tyName d)) (Ts.map Value.type)=some (Ts.any fun T=>BR T d)
 |[]=>fun _=>rfl
 |T::Ts=>fun h=>by
  rw[B2];unfold PySem.W.kitAny;rw[ZC (h T B0),L6];cases BR T d with
  |true=>rfl
  |false=>rw[Bool.false_or];exact RO fun U hU=>h U (B1 _ hU)
section
variable{X:Cx}
theorem RF{pins:List (Addr×Obj)}{σ:St}{H:Hp}{s:Shared}(I:Inv X pins σ H s):∀{d:PyData}{v:V}{u:Value},Rep X.K H d v->RelV v u->∃Hc:Heap->Prop,PySem.W.KitX X.K u (.type (tyName d)) Hc/\Hc s.heap/\u≠.builtin "__main__.__loader__#opaque"
 |.none,v,u=>fun h r=>by
  rw[show v=.non from h]at r;cases (show u=Value.none from r);exact⟨_,PySem.W.kitx_none,True.intro,fun z=>nomatch z⟩
 |.bool b,v,u=>fun h r=>by
  rw[show v=.bl b from h]at r;cases (show u=Value.bool b from r);exact⟨_,PySem.W.kitx_bool,True.intro,fun z=>nomatch z⟩
 |.int i,v,u=>fun h r=>by
  rw[show v=.int i from h]at r;obtain⟨t,q⟩:=(show ∃t,u=Value.int i t from r);cases q;exact⟨_,PySem.W.kitx_int,True.intro,fun z=>nomatch z⟩
 |.str x,v,u=>fun h r=>by
  rw[show v=.str x from h]at r;obtain⟨t,q⟩:=(show ∃t,u=Value.str x t from r);cases q;exact⟨_,PySem.W.kitx_str,True.intro,fun z=>nomatch z⟩
 |.list xs,v,u=>fun h r=>by
  obtain⟨a,vs,rfl,h2,_⟩:=h;cases (show u=Value.ref a from r);obtain⟨its,hv,⟨o,n,hg,hc,_,hd⟩,_⟩:=I.list h2;exact⟨_,PySem.W.kitx_list,⟨o,hg,hc⟩,fun z=>nomatch z⟩
 |.tuple xs,v,u=>fun h r=>by
  obtain⟨a,vs,rfl,h2,_⟩:=h;cases (show u=Value.ref a from r);obtain⟨its,hv,⟨o,hg,hc,n,hd⟩,_⟩:=I.tuple h2;exact⟨_,PySem.W.kitx_tuple,⟨o,hg,hc⟩,fun z=>nomatch z⟩
 |.dict kvs,v,u=>fun h r=>by
  obtain⟨a,ks,rfl,h2,_⟩:=h;cases (show u=Value.ref a from r);obtain⟨_,_,vs,_,o,es,ep,h1,hx,_⟩:=(show cF X.prog X.w H s.heap a (.dK ks)from I.hok a _ h2);exact⟨_,PySem.W.kitx_dict,⟨o,h1,hx.1⟩,fun z=>nomatch z⟩
noncomputable def aHI(K:Fg):List V->Hp->VK->Prop:=fun xs H Q=>∃x T d,xs=[x,.ty T]/\T∈asked/\Rep K H d x/\Q (.bl (BR T d)) H
theorem UR:eI X (.builtin "isinstance") (aHI X.K):=by
 intro pins s σ H xs us Q I r h;obtain⟨x,T,d,rfl,hT,hd,q⟩:=h;obtain⟨u,u',rfl,ru,ru'⟩:=vals2 r;cases (show u'=Value.type T from ru');obtain⟨Hc,Z,hh,hne⟩:=RF I hd ru;exact F6 Z I.kIn hh (ZC hT) hne fun tk=>⟨.bl _,H,I.tok tk,rfl,q⟩
noncomputable def ZG(K:Fg):List V->Hp->VK->Prop:=fun xs H Q=>∃(x:V)(p:Addr)(Ts:List String)(d:PyData),xs=[x,.ref p]/\H p=some (.tup (Ts.map V.ty))/\(∀T∈Ts,T∈asked)/\Rep K H d x/\Q (.bl (Ts.any fun T=>BR T d)) H
theorem OU:eI X (.builtin "isinstance") (ZG X.K):=by
 intro pins s σ H xs us Q I r h;obtain⟨x,p,Ts,d,rfl,hp,hT,hd,q⟩:=h;obtain⟨u,u',rfl,ru,ru'⟩:=vals2 r;cases (show u'=Value.ref p from ru');obtain⟨_,its,rv,o,hg,hcl,n,hd'⟩:=(show cF X.prog X.w H s.heap p (.tup (Ts.map V.ty))from I.hok p _ hp);have hits:its=Ts.map Value.type:=bF.types rv;subst hits;obtain⟨oc,od,odt,osl⟩:=o;dsimp only at hcl hd';subst hcl hd';obtain⟨Hc,Z,hh,hne⟩:=RF I hd ru;exact PySem.W.kia_tup Z I.kIn hh hg (RO hT) hne fun tk=>⟨.bl _,H,I.tok tk,rfl,q⟩
end
theorem iR.upd{p:Addr}{o:HO}(h:H p=none):iR H (upd H p o):=fun b u e=>by rw[aM (aP e h)];exact e
noncomputable def bZ:PyData->Option (List PyData)
 |.list xs=>some xs
 |.tuple xs=>some xs
 |_=>none
theorem kX{K:Fg}{H:Hp}:∀{d:PyData}{v:V}{ds:List PyData},Rep K H d v->bZ d=some ds->∃a vs,v=.ref a/\(SqL K H a vs\/SqT K H a vs)/\aL K H ds vs
 |.list xs,v,ds=>fun h e=>by
  obtain⟨a,vs,h1,h2,h3⟩:=h;cases e;exact⟨a,vs,h1,.inl h2,h3⟩
 |.tuple xs,v,ds=>fun h e=>by
  obtain⟨a,vs,h1,h2,h3⟩:=h;cases e;exact⟨a,vs,h1,.inr h2,h3⟩
 |.none,_,_=>fun _ e=>by cases e
 |.bool _,_,_=>fun _ e=>by cases e
 |.int _,_,_=>fun _ e=>by cases e
 |.str _,_,_=>fun _ e=>by cases e
 |.dict _,_,_=>fun _ e=>by cases e
section
variable{X:Cx}{tg:Expr}
noncomputable def aHa(K:Fg)(tl:TE):TI:=fun σ H R=>tl σ H fun x H1=>∃a,x=.ref a/\((∃xs,SqL K H1 a xs/\R (Itl K a) H1)\/(∃xs,SqT K H1 a xs/\R (Itt K a) H1))
theorem aGs{l:Expr}{tl:TE}(hl:PE X l tl):PI X tg l (aHa X.K tl):=by
 intro pins s σ H R I h;refine thn (hl pins s σ H _ I h) fun v s1 hz=>?_;obtain⟨x,H1,I1,r1,a,e,q1⟩:=hz;subst e;cases r1
 have fp:∀b∈[s1.heap.objs.size],rF X pins H1 b:=fun b hb=>by
  have e:b=s1.heap.objs.size:=List.mem_singleton.mp hb;subst e;exact I1.fpOk (A8 _) (I1.hok.fresh (A8 _))
 rcases q1 with⟨xs,hq,q⟩|⟨xs,hq,q⟩
 .obtain⟨its,rv,p,hz⟩:=I1.list hq;refine wpAny_pyIter_list p.isList ?_;exact⟨s1.heap.objs.size,[s1.heap.objs.size],_,_,H1,rfl,I1.kept (t':=s1.toks) fun b o e=>A3 _ e,VP a _,⟨_,B3 _ rfl,rfl,rfl⟩,fp,q⟩
 .obtain⟨its,rv,p,hz⟩:=I1.tuple hq;refine Z2 (show s1.heap.IsTuple a its.toArray from p) ?_;exact⟨s1.heap.objs.size,[s1.heap.objs.size],_,_,H1,rfl,I1.kept (t':=s1.toks) fun b o e=>A3 _ e,OQ a _,⟨_,B3 _ rfl,rfl,rfl⟩,fp,q⟩
end
inductive CD where
 |d (x:PyData)
 |c (n:Nat)
 |t (xs:List (PyData ⊕ Nat))
 |f (kvs:List (List Key×PyData))
 |g (nm:Str)
inductive Cell where
 |lst (xs:List CD)
 |dk (kvs:List (Key×CD))
 |dt (kvs:List (List Key×CD))
 |obj (nm:Str) (fs:List (Str×CD))
 |exc (fr:Bool) (nm:Str) (fs:List (Str×CD))
 |dead
structure Wd where
 F:Hp
 α:Nat->Addr
 n:Nat
structure Wd.Ext(W W':Wd):Prop where
 ff:iR W.F W'.F
 ln:W.n<=W'.n
 al:∀i,i<W.n->W'.α i=W.α i
theorem Wd.Ext.refl(W:Wd):W.Ext W:=⟨iR.refl _,A8 _,fun _ _=>rfl⟩
theorem Wd.Ext.trans{W1 W2:Wd}(a:W.Ext W1)(b:W1.Ext W2):W.Ext W2:=⟨a.ff.trans b.ff,C9 a.ln b.ln,fun i h=>(b.al i (B7 h a.ln)).trans (a.al i h)⟩
noncomputable def SH(K:Fg)(W:Wd):PyData ⊕ Nat->V->Prop
 |.inl x,v=>Rep K W.F x v
 |.inr i,v=>i<W.n/\v=.ref (W.α i)
noncomputable def cdA:PyData ⊕ Nat->CD
 |.inl x=>.d x
 |.inr i=>.c i
noncomputable def bN(K:Fg)(nm:Str):Addr:=match PySem.W.nsIn K mainGlobals nm with
 |some (some (.ref C))=>C
 |_=>0
noncomputable def cD(K:Fg)(W:Wd):CD->V->Prop
 |.d x,v=>Rep K W.F x v
 |.c i,v=>i<W.n/\v=.ref (W.α i)
 |.t xs,v=>∃a vs,v=.ref a/\W.F a=some (.tup vs)/\Paired (SH K W) xs vs
 |.f kvs,v=>∃a o us,v=.ref a/\W.F a=some (.frz o (.dT us))/\Paired (fun p q=>p.1=q.1/\Rep K W.F p.2 q.2) kvs us
 |.g nm,v=>v=.ref (bN K nm)
noncomputable abbrev bY(K:Fg)(W:Wd):List CD->List V->Prop:=Paired (cD K W)
noncomputable def JK(K:Fg)(W:Wd):Option CD->Option V->Prop
 |none,none=>True
 |some x,some v=>cD K W x v
 |_,_=>False
noncomputable abbrev cL(K:Fg)(W:Wd):List (Option CD)->St->Prop:=Paired (JK K W)
noncomputable def rE(a:Addr)(c:Value)(dx:Option Addr)(fr:Bool)(h:Heap):Prop:=∃o vs,h.get? a=some o/\o.cls=c/\o.dict=dx/\o.data=.fields vs/\(fr=true->1<vs.size/\vs[1]?=some .none)
noncomputable def VQ(K:Fg)(W:Wd)(dx:Option Addr)(fs:List (Str×CD)):Prop:=match dx with
 |none=>fs=[]
 |some d=>fs≠[]/\∃us,W.F d=some (.xd us)/\Paired (fun p q=>p.1=q.1/\cD K W p.2 q.2) fs us
noncomputable def VM(K:Fg)(W:Wd)(a:Addr):Cell->HO->Prop
 |.lst xs,.lst vs=>bY K W xs vs
 |.dk kvs,.dK us=>Paired (fun p q=>p.1=q.1/\cD K W p.2 q.2) kvs us
 |.dt kvs,.dT us=>Paired (fun p q=>p.1=q.1/\cD K W p.2 q.2) kvs us
 |.obj nm fs,.ins C _ us=>C=bN K nm/\Paired (fun p q=>p.1=q.1/\cD K W p.2 q.2) fs us
 |.exc fr nm fs,.ext φ=>∃dx,φ=rE a (.ref (bN K nm)) dx fr/\VQ K W dx fs
 |_,_=>False
structure Good(K:Fg)(W:Wd)(M:List Cell)(H:Hp):Prop where
 fh:iR W.F H
 n:W.n=M.length
 cs:∀i c,M[i]?=some c->c≠.dead->W.F (W.α i)=none/\∃o,H (W.α i)=some o/\VM K W (W.α i) c o
 inj:∀i j c c',M[i]?=some c->M[j]?=some c'->c≠.dead->c'≠.dead->W.α i=W.α j->i=j
section
variable{K:Fg}{W W':Wd}{M M':List Cell}{H H':Hp}
theorem SH.up{x:PyData ⊕ Nat}{v:V}(h:SH K W x v)(e:W.Ext W'):SH K W' x v:=by
 cases x with
 |inl x=>exact Rep.same e.ff _ _ h
 |inr i=>exact⟨B7 h.1 e.ln,by rw[e.al i h.1];exact h.2⟩
theorem cD.up{x:CD}{v:V}(h:cD K W x v)(e:W.Ext W'):cD K W' x v:=by
 cases x with
 |d x=>exact Rep.same e.ff _ _ h
 |c i=>exact⟨B7 h.1 e.ln,by rw[e.al i h.1];exact h.2⟩
 |t xs=>
  obtain⟨a,vs,h1,h2,h3⟩:=h;exact⟨a,vs,h1,e.ff _ _ h2,Paired.mapP h3 fun _ _ r=>SH.up r e⟩
 |f kvs=>
  obtain⟨a,o,us,h1,h2,h3⟩:=h;exact⟨a,o,us,h1,e.ff _ _ h2,Paired.mapP h3 fun _ _ r=>⟨r.1,Rep.same e.ff _ _ r.2⟩⟩
 |g nm=>exact h
theorem bY.up{xs:List CD}{vs:List V}(h:bY K W xs vs)(e:W.Ext W'):bY K W' xs vs:=Paired.mapP h fun _ _ r=>cD.up r e
theorem cL.up{γ:List (Option CD)}{σ:St}(h:cL K W γ σ)(e:W.Ext W'):cL K W' γ σ:=Paired.mapP h fun a b r=>by
 cases a<;>cases b
 .exact True.intro
 .exact False.elim r
 .exact False.elim r
 .exact cD.up r e
theorem VQ.up{dx:Option Addr}{fs:List (Str×CD)}(h:VQ K W dx fs)(e:W.Ext W'):VQ K W' dx fs:=by
 cases dx with
 |none=>exact h
 |some d=>
  obtain⟨h0,us,h1,h2⟩:=h;exact⟨h0,us,e.ff _ _ h1,Paired.mapP h2 fun _ _ r=>⟨r.1,cD.up r.2 e⟩⟩
theorem VM.up{a:Addr}{c:Cell}{o:HO}(h:VM K W a c o)(e:W.Ext W'):VM K W' a c o:=by
 cases c<;>cases o<;>first|exact(let⟨dx,h1,h2⟩:=h;⟨dx,h1,h2.up e⟩)|exact False.elim h|exact bY.up h e|exact Paired.mapP h fun _ _ r=>⟨r.1,cD.up r.2 e⟩|exact⟨h.1,Paired.mapP h.2 fun _ _ r=>⟨r.1,cD.up r.2 e⟩⟩
theorem Good.lay(g:Good K W M H){p:Addr}{o:HO}(hp:H p=none):W.Ext { W with F:=upd W.F p o }/\Good K { W with F:=upd W.F p o } M (upd H p o):=by
 have fp:W.F p=none:=g.fh.free hp;have e:W.Ext { W with F:=upd W.F p o }:=⟨iR.upd fp,A8 _,fun _ _=>rfl⟩;refine⟨e,?_,g.n,fun i c hi hc=>?_,g.inj⟩
 .intro b u hb;have hb:upd W.F p o b=some u:=hb;by_cases q:b=p
  .subst q;rw[aV]at hb;rw[aV];exact hb
  .rw[aM q]at hb;rw[aM q];exact g.fh b u hb
 .obtain⟨h1,o',h2,h3⟩:=g.cs i c hi hc;have ne:W.α i≠p:=aP h2 hp;exact⟨by show upd W.F p o (W.α i)=none;rw[aM ne];exact h1,o',by rw[aM ne];exact h2,h3.up e⟩
noncomputable def Wd.more(W:Wd)(p:Addr):Wd:={ W with α:=fun i=>if i=W.n then p else W.α i,n:=W.n+1 }
theorem Wd.ext_more(W:Wd)(p:Addr):W.Ext (W.more p):=⟨iR.refl _,Nat.le_succ _,fun i h=>A5 (B5 h)⟩
theorem Good.new(g:Good K W M H){p:Addr}{c:Cell}{o:HO}(hp:H p=none)(r:VM K W p c o):Good K (W.more p) (M++[c]) (upd H p o):=by
 have e:=W.ext_more p
 have at_:∀i c',(M++[c])[i]?=some c'->(i<M.length/\M[i]?=some c')\/(i=M.length/\c'=c):=fun i c' h=>by
  by_cases q:i<M.length
  .rw[S6 q]at h;exact .inl ⟨q,h⟩
  .rw[E1 (Nat.le_of_not_lt q)]at h
   have h':i-M.length=0:=by
    cases k:i-M.length with
    |zero=>rfl
    |succ m=>rw[k]at h;simp at h
   rw[h']at h;refine .inr ⟨by omega,?_⟩;simpa using h.symm
 have al:∀i,i<M.length->(W.more p).α i=W.α i:=fun i h=>e.al i (by rw[g.n];exact h);have an:(W.more p).α M.length=p:=by show(if M.length=W.n then p else _)=p;rw[A4 g.n.symm]
 have nep:∀i c',M[i]?=some c'->c'≠.dead->W.α i≠p:=fun i c' h hc=>by
  obtain⟨_,o',h2,_⟩:=g.cs i c' h hc;exact aP h2 hp
 refine⟨?_,?_,fun i c' hi hc=>?_,fun i j c1 c2 hi hj d1 d2 he=>?_⟩
 .intro b u hb;have:=g.fh b u hb;rw[aM (aP this hp)];exact this
 .show W.n+1=_;rw[g.n,C0];rfl
 .rcases at_ i c' hi with⟨q,h⟩|⟨rfl,rfl⟩
  .obtain⟨h1,o',h2,h3⟩:=g.cs i c' h hc;rw[al i q];exact⟨h1,o',by rw[aM (nep i c' h hc)];exact h2,h3.up e⟩
  .rw[an];exact⟨g.fh.free hp,o,aV,r.up e⟩
 .rcases at_ i c1 hi with⟨q,h⟩|⟨rfl,rfl⟩
  .rcases at_ j c2 hj with⟨q',h'⟩|⟨rfl,rfl⟩
   .rw[al i q,al j q']at he;exact g.inj i j c1 c2 h h' d1 d2 he
   .rw[al i q,an]at he;exact absurd he (nep i c1 h d1)
  .rcases at_ j c2 hj with⟨q',h'⟩|⟨rfl,rfl⟩
   .rw[an,al j q']at he;exact absurd he.symm (nep j c2 h' d2)
   .rfl
theorem Good.set(g:Good K W M H){i:Nat}{c c':Cell}{o':HO}(hi:M[i]?=some c)(hc:c≠.dead)(r:VM K W (W.α i) c' o'):Good K W (M.set i c') (upd H (W.α i) o'):=by
 obtain⟨h1,o,h2,h3⟩:=g.cs i c hi hc;have lt:i<M.length:=(List.getElem?_eq_some_iff.mp hi).1
 have at_:∀j d,(M.set i c')[j]?=some d->(j=i/\d=c')\/(j≠i/\M[j]?=some d):=fun j d h=>by
  by_cases q:i=j
  .subst q;rw[D8 lt]at h;exact .inl ⟨rfl,(D3 h).symm⟩
  .rw[J1 q]at h;exact .inr ⟨fun z=>q z.symm,h⟩
 refine⟨?_,by rw[g.n,O6],fun j d hj hd=>?_,fun j k d1 d2 hj hk e1 e2 he=>?_⟩
 .intro b u hb;rw[aM (aP hb h1)];exact g.fh b u hb
 .rcases at_ j d hj with⟨rfl,rfl⟩|⟨q,h⟩
  .exact⟨h1,o',aV,r⟩
  .obtain⟨k1,u,k2,k3⟩:=g.cs j d h hd;have ne:W.α j≠W.α i:=fun z=>q (g.inj j i d c h hi hd hc z);exact⟨k1,u,by rw[aM ne];exact k2,k3⟩
 .rcases at_ j d1 hj with⟨rfl,rfl⟩|⟨q,h⟩<;>rcases at_ k d2 hk with⟨rfl,rfl⟩|⟨q',h'⟩
  .rfl
  .exact g.inj _ k c d2 hi h' hc e2 he
  .exact g.inj j _ d1 c h hi e1 hc he
  .exact g.inj j k d1 d2 h h' e1 e2 he
end
noncomputable abbrev Ga:=List (Option CD)
noncomputable abbrev Sto:=List Cell
noncomputable abbrev EF:=Ga->Sto->Option (CD×Sto)
noncomputable abbrev TF:=Ga->Sto->Option (Bool×Sto)
noncomputable abbrev AF:=Ga->Sto->Option (List CD×Sto)
inductive Out where
 |nx (γ:Ga)|bk (γ:Ga)|ct (γ:Ga)|rt (x:CD)
noncomputable abbrev SF:=Ga->Sto->Option (Out×Sto)
noncomputable abbrev GF:=CD->Ga->Sto->Option (Ga×Sto)
noncomputable abbrev GsF:=List CD->Ga->Sto->Option (Ga×Sto)
noncomputable abbrev F1:=CD->Sto->Option (CD×Sto)
noncomputable abbrev F2:=CD->CD->Sto->Option (CD×Sto)
noncomputable abbrev FN:=List CD->Sto->Option (CD×Sto)
section
variable(K:Fg)
noncomputable def SE(t:TE)(f:EF):Prop:=∀γ M x M',f γ M=some (x,M')->∀(W:Wd)(H:Hp)(σ:St)(Q:VK),Good K W M H->cL K W γ σ->(∀v W' H',W.Ext W'->Good K W' M' H'->cD K W' x v->Q v H')->t σ H Q
noncomputable def STt(t:TT)(f:TF):Prop:=∀γ M b M',f γ M=some (b,M')->∀(W:Wd)(H:Hp)(σ:St)(Q:Bool->Hp->Prop),Good K W M H->cL K W γ σ->(∀W' H',W.Ext W'->Good K W' M' H'->Q b H')->t σ H Q
noncomputable def SA(t:TA)(f:AF):Prop:=∀γ M xs M',f γ M=some (xs,M')->∀(W:Wd)(H:Hp)(σ:St)(Q:List V->Hp->Prop),Good K W M H->cL K W γ σ->(∀vs W' H',W.Ext W'->Good K W' M' H'->bY K W' xs vs->Q vs H')->t σ H Q
noncomputable def ZA(D:Ends)(W:Wd)(H:Hp):Out->Prop
 |.nx γ=>∀σ,cL K W γ σ->D.nx σ H
 |.bk γ=>∀σ,cL K W γ σ->D.bk σ H
 |.ct γ=>∀σ,cL K W γ σ->D.ct σ H
 |.rt x=>∀v,cD K W x v->D.rt v H
noncomputable def SS(t:TS)(f:SF):Prop:=∀γ M o M',f γ M=some (o,M')->∀(W:Wd)(H:Hp)(σ:St)(D:Ends),Good K W M H->cL K W γ σ->(∀W' H',W.Ext W'->Good K W' M' H'->ZA K D W' H' o)->t D σ H
noncomputable def SG(t:TG)(f:GF):Prop:=∀x γ M γ' M',f x γ M=some (γ',M')->∀(W:Wd)(H:Hp)(σ:St)(v:V)(Q:St->Hp->Prop),Good K W M H->cL K W γ σ->cD K W x v->(∀σ' W' H',W.Ext W'->Good K W' M' H'->cL K W' γ' σ'->Q σ' H')->t v σ H Q
noncomputable def SGs(t:TGs)(f:GsF):Prop:=∀xs γ M γ' M',f xs γ M=some (γ',M')->∀(W:Wd)(H:Hp)(σ:St)(vs:List V)(Q:St->Hp->Prop),Good K W M H->cL K W γ σ->bY K W xs vs->(∀σ' W' H',W.Ext W'->Good K W' M' H'->cL K W' γ' σ'->Q σ' H')->t vs σ H Q
noncomputable def P2(r:R2)(f:F2):Prop:=∀x y M z M',f x y M=some (z,M')->∀(W:Wd)(H:Hp)(v u:V)(Q:VK),Good K W M H->cD K W x v->cD K W y u->(∀w W' H',W.Ext W'->Good K W' M' H'->cD K W' z w->Q w H')->r v u H Q
noncomputable def P1(r:V->Hp->VK->Prop)(f:F1):Prop:=∀x M z M',f x M=some (z,M')->∀(W:Wd)(H:Hp)(v:V)(Q:VK),Good K W M H->cD K W x v->(∀w W' H',W.Ext W'->Good K W' M' H'->cD K W' z w->Q w H')->r v H Q
noncomputable def PN(r:List V->Hp->VK->Prop)(f:FN):Prop:=∀xs M z M',f xs M=some (z,M')->∀(W:Wd)(H:Hp)(vs:List V)(Q:VK),Good K W M H->bY K W xs vs->(∀w W' H',W.Ext W'->Good K W' M' H'->cD K W' z w->Q w H')->r vs H Q
noncomputable def spM(f:FN):Sp:=fun vs H Q _=>∃xs M W y M',Good K W M H/\bY K W xs vs/\f xs M=some (y,M')/\∀v W' H',W.Ext W'->Good K W' M' H'->cD K W' y v->Q v H'
end
noncomputable def aD(i:Nat):EF:=fun γ M=>match γ[i]? with
 |some (some x)=>some (x,M)
 |_=>none
noncomputable def fC(x:PyData):EF:=fun _ M=>some (.d x,M)
noncomputable def fOp(h:F2)(f g:EF):EF:=fun γ M=>(f γ M).bind fun r=>(g γ r.2).bind fun q=>h r.1 q.1 q.2
noncomputable def fUn(h:F1)(f:EF):EF:=fun γ M=>(f γ M).bind fun r=>h r.1 r.2
noncomputable def asB:CD->Option Bool
 |.d (.bool b)=>some b
 |_=>none
noncomputable def kT(f g:EF):EF:=fun γ M=>(f γ M).bind fun r=>(asB r.1).bind fun b=>if b=true then g γ r.2 else some (.d (.bool false),r.2)
noncomputable def fOr(f g:EF):EF:=fun γ M=>(f γ M).bind fun r=>(asB r.1).bind fun b=>if b=true then some (.d (.bool true),r.2)else g γ r.2
noncomputable def ZN(f:EF):EF:=fun γ M=>(f γ M).bind fun r=>(asB r.1).bind fun b=>some (.d (.bool (!b)),r.2)
noncomputable def fIf(t:TF)(f g:EF):EF:=fun γ M=>(t γ M).bind fun r=>if r.1=true then f γ r.2 else g γ r.2
noncomputable def vN(f g:TF):TF:=fun γ M=>(f γ M).bind fun r=>if r.1=true then g γ r.2 else some (false,r.2)
noncomputable def gOr(f g:TF):TF:=fun γ M=>(f γ M).bind fun r=>if r.1=true then some (true,r.2)else g γ r.2
noncomputable def gO(f:TF):TF:=fun γ M=>(f γ M).bind fun r=>some (!r.1,r.2)
noncomputable def gB(f:EF):TF:=fun γ M=>(f γ M).bind fun r=>(asB r.1).bind fun b=>some (b,r.2)
noncomputable def nH(h h':F2)(f g e:EF):EF:=fun γ M=>(f γ M).bind fun r=>(g γ r.2).bind fun q=>(h r.1 q.1 q.2).bind fun z=>(asB z.1).bind fun b=>if b=true then(e γ z.2).bind fun w=>h' q.1 w.1 w.2 else some (.d (.bool false),z.2)
noncomputable def aH:AF:=fun _ M=>some ([],M)
noncomputable def aB(f:EF)(g:AF):AF:=fun γ M=>(f γ M).bind fun r=>(g γ r.2).bind fun q=>some (r.1::q.1,q.2)
noncomputable def kU:List CD->Option (List PyData)
 |[]=>some []
 |.d x::r=>(kU r).map (x::·)
 |.c _::_=>none
 |.t _::_=>none
 |.f _::_=>none
 |.g _::_=>none
noncomputable def eV(f:AF):EF:=fun γ M=>(f γ M).bind fun r=>(kU r.1).bind fun ds=>if ds.length<=sizeLine then some (.d (.tuple ds),r.2)else none
noncomputable def dO(f:AF):EF:=fun γ M=>(f γ M).bind fun r=>(kU r.1).bind fun ds=>if ds.length<=sizeLine then some (.d (.list ds),r.2)else none
noncomputable def vL(f:AF):EF:=fun γ M=>(f γ M).bind fun r=>if r.1.length<=sizeLine then some (.c r.2.length,r.2++[.lst r.1])else none
noncomputable def aK(h:FN)(f:AF):EF:=fun γ M=>(f γ M).bind fun r=>h r.1 r.2
noncomputable def cP:SF:=fun γ M=>some (.nx γ,M)
noncomputable def bG(f g:SF):SF:=fun γ M=>(f γ M).bind fun r=>match r.1 with
 |.nx γ'=>g γ' r.2
 |o=>some (o,r.2)
noncomputable def rP(f:EF):SF:=fun γ M=>(f γ M).bind fun r=>some (.nx γ,r.2)
noncomputable def bO(f:EF):SF:=fun γ M=>(f γ M).bind fun r=>some (.rt r.1,r.2)
noncomputable def aIo:SF:=fun _ M=>some (.rt (.d .none),M)
noncomputable def sIf(c:TF)(f g:SF):SF:=fun γ M=>(c γ M).bind fun r=>if r.1=true then f γ r.2 else g γ r.2
noncomputable def bB(f:EF)(g:GF):SF:=fun γ M=>(f γ M).bind fun r=>(g r.1 γ r.2).bind fun q=>some (.nx q.1,q.2)
noncomputable def hName(i:Nat):GF:=fun x γ M=>some (γ.set i (some x),M)
noncomputable def gV:GsF:=fun xs γ M=>match xs with
 |[]=>some (γ,M)
 |_=>none
noncomputable def bI(f:GF)(g:GsF):GsF:=fun xs γ M=>match xs with
 |x::r=>(f x γ M).bind fun q=>g r q.1 q.2
 |[]=>none
noncomputable def gZ(n:Nat)(g:GsF):GF:=fun x γ M=>match x with
 |.d (.tuple ds)=>if ds.length=n then g (ds.map .d) γ M else none
 |.t xs=>if xs.length=n then g (xs.map cdA) γ M else none
 |_=>none
noncomputable abbrev F3:=CD->CD->CD->Sto->Option Sto
noncomputable def hSub(fo fi:EF)(s:F3):GF:=fun x γ M=>(fo γ M).bind fun r=>(fi γ r.2).bind fun q=>(s r.1 q.1 x q.2).bind fun M'=>some (γ,M')
noncomputable def CJ(i j:Nat)(f:AF):SF:=fun γ M=>(f γ M).bind fun r=>match r.1 with
 |[x,y]=>some (.nx ((γ.set i (some x)).set j (some y)),r.2)
 |_=>none
noncomputable def uJ(g:GF)(b:SF):List CD->Ga->Sto->Option (Out×Sto)
 |[],γ,M=>some (.nx γ,M)
 |x::xs,γ,M=>(g x γ M).bind fun r=>(b r.1 r.2).bind fun q=>match q.1 with
  |.nx γ'=>uJ g b xs γ' q.2
  |.ct γ'=>uJ g b xs γ' q.2
  |.bk γ'=>some (.nx γ',q.2)
  |.rt x=>some (.rt x,q.2)
noncomputable def AU(f:AF)(g:GF)(b:SF):SF:=fun γ M=>(f γ M).bind fun r=>uJ g b r.1 γ r.2
noncomputable def fA(c:TF)(b:SF):Nat->Ga->Sto->Option (Out×Sto)
 |0,_,_=>none
 |n+1,γ,M=>(c γ M).bind fun r=>if r.1=true then(b γ r.2).bind fun q=>match q.1 with
  |.nx γ'=>fA c b n γ' q.2
  |.ct γ'=>fA c b n γ' q.2
  |.bk γ'=>some (.nx γ',q.2)
  |.rt x=>some (.rt x,q.2)else some (.nx γ,r.2)
open Classical in
noncomputable def sV(c:TF)(b:SF):SF:=fun γ M=>if h:∃n,(fA c b n γ M).isSome=true then fA c b h.choose γ M else none
noncomputable def lcF(g:GF)(c:TF)(e:EF):List CD->Ga->Sto->Option (List CD×Sto)
 |[],γ,M=>some ([],M)
 |x::xs,γ,M=>(g x γ M).bind fun a=>(c a.1 a.2).bind fun b=>if b.1=true then(e a.1 b.2).bind fun r=>(lcF g c e xs a.1 r.2).bind fun q=>some (r.1::q.1,q.2)else lcF g c e xs a.1 b.2
noncomputable def jO(cap:List (Option Nat))(γ:Ga):Ga:=cap.map fun o=>o.bind fun j=>(γ[j]?).join
noncomputable def eM:TF:=fun _ M=>some (true,M)
noncomputable def LJ(cap:List (Option Nat))(f:AF)(g:GF)(c:TF)(e:EF):AF:=fun γ M=>(f γ M).bind fun r=>if r.1.length<=sizeLine then lcF g c e r.1 (jO cap γ) r.2 else none
noncomputable def fLc(cap:List (Option Nat))(f:AF)(g:GF)(c:TF)(e:EF):EF:=dO (LJ cap f g c e)
noncomputable def fnF(ps N:Nat)(b:SF):FN:=fun xs M=>if xs.length=ps then(b (xs.map some++List.replicate (N-xs.length) none) M).bind fun r=>match r.1 with
 |.rt x=>some (x,r.2)
 |.nx _=>some (.d .none,r.2)
 |_=>none else none
theorem aJ{α β:Type}{o:Option α}{k:α->Option β}{r:β}(h:o.bind k=some r):∃a,o=some a/\k a=some r:=by
 cases o with
 |none=>cases h
 |some a=>exact⟨a,rfl,h⟩
theorem Paired.get{α β:Type}{R:α->β->Prop}:∀{xs:List α}{ys:List β}{i:Nat}{x:α},Paired R xs ys->xs[i]?=some x->∃y,ys[i]?=some y/\R x y
 |_,_,_,_,.nil=>fun e=>by simp at e
 |_,_,0,_,.cons r _=>fun e=>by simp at e;subst e;exact⟨_,rfl,r⟩
 |_,_,i+1,x,.cons _ t=>fun e=>by
  obtain⟨u,h1,h2⟩:=Paired.get (i:=i) (x:=x) t (by simpa using e);exact⟨u,by simpa using h1,h2⟩
theorem Paired.set{α β:Type}{R:α->β->Prop}{x:α}{y:β}(r:R x y):∀{xs:List α}{ys:List β}(i:Nat),Paired R xs ys->Paired R (xs.set i x) (ys.set i y)
 |_,_,_,.nil=>.nil
 |_,_,0,.cons _ t=>.cons r t
 |_,_,i+1,.cons q t=>.cons q (Paired.set r i t)
theorem Paired.app{α β:Type}{R:α->β->Prop}:∀{xs xs':List α}{ys ys':List β},Paired R xs ys->Paired R xs' ys'->Paired R (xs++xs') (ys++ys')
 |_,_,_,_,.nil=>fun s=>s
 |_,_,_,_,.cons r t=>fun s=>.cons r (Paired.app t s)
theorem Paired.len{α β:Type}{R:α->β->Prop}{xs:List α}{ys:List β}(p:Paired R xs ys):xs.length=ys.length:=Y3 p
section
variable{K:Fg}
theorem eW{W:Wd}:∀{xs:List CD}{ds:List PyData}{vs:List V},kU xs=some ds->bY K W xs vs->aL K W.F ds vs
 |[],ds,vs=>fun e h=>by
  cases e;cases h;rfl
 |.c _::_,ds,vs=>fun e h=>by cases e
 |.t _::_,ds,vs=>fun e h=>by cases e
 |.f _::_,ds,vs=>fun e h=>by cases e
 |.g _::_,ds,vs=>fun e h=>by cases e
 |.d x::r,ds,vs=>fun e h=>by
  cases h with
  |@cons _ v _ vs' h1 h2=>
   unfold kU at e;cases q:kU r with
   |none=>rw[q]at e;cases e
   |some es=>
    rw[q]at e;cases e;exact⟨v,vs',rfl,h1,eW q h2⟩
theorem PY{xs:List (PyData ⊕ Nat)}{vs:List V}(h:Paired (SH K W) xs vs):bY K W (xs.map cdA) vs:=by
 induction h with
 |nil=>exact .nil
 |@cons x v _ _ r _ ih=>exact .cons (by cases x<;>exact r) ih
theorem kM{W:Wd}:∀{ds:List PyData}{vs:List V},aL K W.F ds vs->bY K W (ds.map .d) vs
 |[],vs=>fun h=>by rw[show vs=[]from h];exact .nil
 |d::ds,vs=>fun h=>by
  obtain⟨v,r,rfl,h1,h2⟩:=h;exact .cons h1 (kM h2)
theorem KI:∀{xs:List CD}{ds:List PyData},kU xs=some ds->ds.length=xs.length
 |[],ds=>fun e=>by cases e;rfl
 |.c _::_,ds=>fun e=>by cases e
 |.t _::_,ds=>fun e=>by cases e
 |.f _::_,ds=>fun e=>by cases e
 |.g _::_,ds=>fun e=>by cases e
 |.d x::r,ds=>fun e=>by
  unfold kU at e;cases q:kU r with
  |none=>rw[q]at e;cases e
  |some es=>
   rw[q]at e;cases e;rw[B4,B4,KI q]
theorem aGv{i:Nat}:SE K (aJn i) (aD i):=by
 intro γ M x M' h W H σ Q g r k;unfold aD at h;cases e:γ[i]? with
 |none=>rw[e]at h;cases h
 |some o=>
  cases o with
  |none=>rw[e]at h;cases h
  |some y=>
   rw[e]at h;cases h;obtain⟨v,hv,rv⟩:=Paired.get r e;cases v with
   |none=>exact False.elim rv
   |some v=>exact⟨v,hv,k v W H (.refl _) g rv⟩
theorem aAC{i:Int}:SE K (tC (.int i)) (fC (.int i)):=by
 intro γ M x M' h W H σ Q g r k;cases h;exact k _ W H (.refl _) g rfl
theorem aJt{b:Bool}:SE K (tC (.bl b)) (fC (.bool b)):=by
 intro γ M x M' h W H σ Q g r k;cases h;exact k _ W H (.refl _) g rfl
theorem aGh:SE K (tC .non) (fC .none):=by
 intro γ M x M' h W H σ Q g r k;cases h;exact k _ W H (.refl _) g rfl
theorem ZU{x:Str}:SE K (tC (.str x)) (fC (.str x)):=by
 intro γ M x M' h W H σ Q g r k;cases h;exact k _ W H (.refl _) g rfl
variable{ta tb tc:TE}{f g e:EF}{tt uu:TT}{ft gt:TF}{tA:TA}{fa:AF}
theorem QW{r:R2}{h:F2}(p:P2 K r h)(a:SE K ta f)(b:SE K tb g):SE K (tOp r ta tb) (fOp h f g):=by
 intro γ M x M' hh W H σ Q G R k;obtain⟨⟨y,M1⟩,h1,hh⟩:=aJ hh;obtain⟨⟨z,M2⟩,h2,hh⟩:=aJ hh;refine a _ _ _ _ h1 W H σ _ G R fun v W1 H1 e1 G1 r1=>?_;refine b _ _ _ _ h2 W1 H1 σ _ G1 (R.up e1) fun u W2 H2 e2 G2 r2=>?_;exact p _ _ _ _ _ hh W2 H2 v u Q G2 (r1.up e2) r2 fun w W3 H3 e3 G3 r3=>k w W3 H3 ((e1.trans e2).trans e3) G3 r3
theorem aIE{r:V->Hp->VK->Prop}{h:F1}(p:P1 K r h)(a:SE K ta f):SE K (tUn r ta) (fUn h f):=by
 intro γ M x M' hh W H σ Q G R k;obtain⟨⟨y,M1⟩,h1,hh⟩:=aJ hh;refine a _ _ _ _ h1 W H σ _ G R fun v W1 H1 e1 G1 r1=>?_;exact p _ _ _ _ hh W1 H1 v Q G1 r1 fun w W3 H3 e3 G3 r3=>k w W3 H3 (e1.trans e3) G3 r3
theorem EK{x:CD}{b:Bool}(h:asB x=some b):x=.d (.bool b):=by
 cases x with
 |c n=>cases h
 |t n=>cases h
 |f n=>cases h
 |g _=>cases h
 |d x=>cases x<;>first|cases h;rfl|cases h
theorem aGm(a:SE K ta f)(b:SE K tb g):SE K (aFc ta tb) (kT f g):=by
 intro γ M x M' hh W H σ Q G R k;obtain⟨⟨y,M1⟩,h1,hh⟩:=aJ hh;obtain⟨c,h2,hh⟩:=aJ hh;refine a _ _ _ _ h1 W H σ _ G R fun v W1 H1 e1 G1 r1=>?_;have hy:y=_:=EK h2;subst hy;refine⟨c,r1,?_⟩;cases c with
 |true=>rw[A4 rfl];rw[A4 rfl]at hh;exact b _ _ _ _ hh W1 H1 σ Q G1 (R.up e1) fun w W3 H3 e3 G3 r3=>k w W3 H3 (e1.trans e3) G3 r3
 |false=>
  rw[A5 A7];rw[A5 A7]at hh;cases hh;exact k _ W1 H1 e1 G1 rfl
theorem aGO(a:SE K ta f):SE K (aEY ta) (ZN f):=by
 intro γ M x M' hh W H σ Q G R k;obtain⟨⟨y,M1⟩,h1,hh⟩:=aJ hh;obtain⟨c,h2,hh⟩:=aJ hh;refine a _ _ _ _ h1 W H σ _ G R fun v W1 H1 e1 G1 r1=>?_;have hy:y=_:=EK h2;subst hy;cases hh;exact⟨c,r1,k _ W1 H1 e1 G1 rfl⟩
theorem aID(t:STt K tt ft)(a:SE K ta f)(b:SE K tb g):SE K (tIf tt ta tb) (fIf ft f g):=by
 intro γ M x M' hh W H σ Q G R k;obtain⟨⟨c,M1⟩,h1,hh⟩:=aJ hh;refine t _ _ _ _ h1 W H σ _ G R fun W1 H1 e1 G1=>?_;cases c with
 |true=>rw[A4 rfl];rw[A4 rfl]at hh;exact a _ _ _ _ hh W1 H1 σ Q G1 (R.up e1) fun w W3 H3 e3 G3 r3=>k w W3 H3 (e1.trans e3) G3 r3
 |false=>rw[A5 A7];rw[A5 A7]at hh;exact b _ _ _ _ hh W1 H1 σ Q G1 (R.up e1) fun w W3 H3 e3 G3 r3=>k w W3 H3 (e1.trans e3) G3 r3
theorem JZ{r r':R2}{h h':F2}(p:P2 K r h)(p':P2 K r' h')(a:SE K ta f)(b:SE K tb g)(c:SE K tc e):SE K (NO r r' ta tb tc) (nH h h' f g e):=by
 intro γ M x M' hh W H σ Q G R k;obtain⟨⟨y,M1⟩,h1,hh⟩:=aJ hh;obtain⟨⟨z,M2⟩,h2,hh⟩:=aJ hh;obtain⟨⟨w,M3⟩,h3,hh⟩:=aJ hh;obtain⟨q,h4,hh⟩:=aJ hh;refine a _ _ _ _ h1 W H σ _ G R fun v W1 H1 e1 G1 r1=>?_;refine b _ _ _ _ h2 W1 H1 σ _ G1 (R.up e1) fun u W2 H2 e2 G2 r2=>?_;refine p _ _ _ _ _ h3 W2 H2 v u _ G2 (r1.up e2) r2 fun t W3 H3 e3 G3 r3=>?_;have hy:w=_:=EK h4;subst hy;refine⟨q,r3,?_⟩;have e13:=(e1.trans e2).trans e3;cases q with
 |true=>
  rw[A4 rfl];rw[A4 rfl]at hh;obtain⟨⟨m,M4⟩,h5,hh⟩:=aJ hh;refine c _ _ _ _ h5 W3 H3 σ _ G3 (R.up e13) fun o W4 H4 e4 G4 r4=>?_;exact p' _ _ _ _ _ hh W4 H4 u o Q G4 (r2.up (e3.trans e4)) r4 fun w W5 H5 e5 G5 r5=>k w W5 H5 ((e13.trans e4).trans e5) G5 r5
 |false=>
  rw[A5 A7];rw[A5 A7]at hh;cases hh;exact k _ W3 H3 e13 G3 rfl
theorem aGb(a:STt K tt ft)(b:STt K uu gt):STt K (aJe tt uu) (vN ft gt):=by
 intro γ M x M' hh W H σ Q G R k;obtain⟨⟨c,M1⟩,h1,hh⟩:=aJ hh;refine a _ _ _ _ h1 W H σ _ G R fun W1 H1 e1 G1=>?_;cases c with
 |true=>rw[A4 rfl];rw[A4 rfl]at hh;exact b _ _ _ _ hh W1 H1 σ Q G1 (R.up e1) fun W3 H3 e3 G3=>k W3 H3 (e1.trans e3) G3
 |false=>rw[A5 A7];rw[A5 A7]at hh;cases hh;exact k W1 H1 e1 G1
theorem aJf(a:STt K tt ft)(b:STt K uu gt):STt K (tOr tt uu) (gOr ft gt):=by
 intro γ M x M' hh W H σ Q G R k;obtain⟨⟨c,M1⟩,h1,hh⟩:=aJ hh;refine a _ _ _ _ h1 W H σ _ G R fun W1 H1 e1 G1=>?_;cases c with
 |true=>rw[A4 rfl];rw[A4 rfl]at hh;cases hh;exact k W1 H1 e1 G1
 |false=>rw[A5 A7];rw[A5 A7]at hh;exact b _ _ _ _ hh W1 H1 σ Q G1 (R.up e1) fun W3 H3 e3 G3=>k W3 H3 (e1.trans e3) G3
theorem aIe(a:STt K tt ft):STt K (aJQ tt) (gO ft):=by
 intro γ M x M' hh W H σ Q G R k;obtain⟨⟨c,M1⟩,h1,hh⟩:=aJ hh;cases hh;exact a _ _ _ _ h1 W H σ _ G R fun W1 H1 e1 G1=>k W1 H1 e1 G1
theorem aFB(a:SE K ta f):STt K (tB ta) (gB f):=by
 intro γ M x M' hh W H σ Q G R k;obtain⟨⟨y,M1⟩,h1,hh⟩:=aJ hh;obtain⟨c,h2,hh⟩:=aJ hh;refine a _ _ _ _ h1 W H σ _ G R fun v W1 H1 e1 G1 r1=>?_;have hy:y=_:=EK h2;subst hy;cases hh;exact⟨_,r1,k W1 H1 e1 G1⟩
theorem OZ(a:SE K ta f):STt K (aBa ta) (gB f):=aFB a
theorem aGc:SA K TY aH:=by
 intro γ M x M' hh W H σ Q G R k;cases hh;exact k [] W H (.refl _) G .nil
theorem aCK(a:SE K ta f)(b:SA K tA fa):SA K (rO ta tA) (aB f fa):=by
 intro γ M x M' hh W H σ Q G R k;obtain⟨⟨y,M1⟩,h1,hh⟩:=aJ hh;obtain⟨⟨ys,M2⟩,h2,hh⟩:=aJ hh;cases hh;refine a _ _ _ _ h1 W H σ _ G R fun v W1 H1 e1 G1 r1=>?_;exact b _ _ _ _ h2 W1 H1 σ _ G1 (R.up e1) fun vs W2 H2 e2 G2 r2=>k _ W2 H2 (e1.trans e2) G2 (.cons (r1.up e2) r2)
theorem aFY(b:SA K tA fa):SE K (aDb tA) (eV fa):=by
 intro γ M x M' hh W H σ Q G R k;obtain⟨⟨ys,M1⟩,h1,hh⟩:=aJ hh;obtain⟨ds,h2,hh⟩:=aJ hh;by_cases hl:ds.length<=sizeLine
 .rw[A4 hl]at hh;cases hh;refine b _ _ _ _ h1 W H σ _ G R fun vs W1 H1 e1 G1 r1=>?_;have ra:=eW h2 r1;refine⟨by rw[<- ra.length];exact hl,fun p hp=>?_⟩;obtain⟨e2,G2⟩:=G1.lay (o:=.tup vs) hp;exact k _ _ _ (e1.trans e2) G2 ⟨p,vs,rfl,SqT.of aV,aL.same e2.ff _ _ ra⟩
 .rw[A5 hl]at hh;cases hh
theorem aFG(b:SA K tA fa):SE K (aGf tA) (dO fa):=by
 intro γ M x M' hh W H σ Q G R k;obtain⟨⟨ys,M1⟩,h1,hh⟩:=aJ hh;obtain⟨ds,h2,hh⟩:=aJ hh;by_cases hl:ds.length<=sizeLine
 .rw[A4 hl]at hh;cases hh;refine b _ _ _ _ h1 W H σ _ G R fun vs W1 H1 e1 G1 r1=>?_;have ra:=eW h2 r1;refine⟨by rw[<- ra.length];exact hl,fun p hp=>?_⟩;obtain⟨e2,G2⟩:=G1.lay (o:=.lst vs) hp;exact k _ _ _ (e1.trans e2) G2 ⟨p,vs,rfl,SqL.of aV,aL.same e2.ff _ _ ra⟩
 .rw[A5 hl]at hh;cases hh
theorem Good.newV(g:Good K W M H){p:Addr}:cD K (W.more p) (.c M.length) (.ref p):=by
 refine⟨?_,?_⟩
 .show M.length<W.n+1;rw[g.n];exact J2 _
 .show V.ref p=.ref (if M.length=W.n then p else W.α M.length);rw[A4 g.n.symm]
theorem aGK(b:SA K tA fa):SE K (aGf tA) (vL fa):=by
 intro γ M x M' hh W H σ Q G R k;obtain⟨⟨ys,M1⟩,h1,hh⟩:=aJ hh;by_cases hl:ys.length<=sizeLine
 .have hh:(if ys.length<=sizeLine then some (CD.c M1.length,M1++[Cell.lst ys])else none)=some (x,M'):=hh;rw[A4 hl]at hh;cases hh;refine b _ _ _ _ h1 W H σ _ G R fun vs W1 H1 e1 G1 r1=>?_;refine⟨by rw[<- Paired.len r1];exact hl,fun p hp=>?_⟩;exact k _ _ _ (e1.trans (W1.ext_more p)) (G1.new hp (c:=.lst ys) (o:=.lst vs) r1) G1.newV
 .have hh:(if ys.length<=sizeLine then some (CD.c M1.length,M1++[Cell.lst ys])else none)=some (x,M'):=hh;rw[A5 hl]at hh;cases hh
theorem aCM{h:FN}(b:SA K tA fa):SE K (aBw (spM K h) [] E0 tA) (aK h fa):=by
 intro γ M x M' hh W H σ Q G R k;obtain⟨⟨ys,M1⟩,h1,hh⟩:=aJ hh;refine b _ _ _ _ h1 W H σ _ G R fun vs W1 H1 e1 G1 r1=>?_;rw[C3];exact⟨ys,M1,W1,x,M',G1,r1,hh,fun v W2 H2 e2 G2 r2=>k v W2 H2 (e1.trans e2) G2 r2⟩
theorem aEt{r:List V->Hp->VK->Prop}{h:FN}(p:PN K r h)(b:SA K tA fa):SE K (tCB r tA) (aK h fa):=by
 intro γ M x M' hh W H σ Q G R k;obtain⟨⟨ys,M1⟩,h1,hh⟩:=aJ hh;refine b _ _ _ _ h1 W H σ _ G R fun vs W1 H1 e1 G1 r1=>?_;exact p _ _ _ _ hh W1 H1 vs Q G1 r1 fun v W2 H2 e2 G2 r2=>k v W2 H2 (e1.trans e2) G2 r2
end
section
variable{K:Fg}{ta tb tc:TE}{f g e:EF}{tt uu:TT}{ft gt:TF}{tA:TA}{fa:AF}{t u:TS}{p q:SF}{tg:TG}{hg:GF}{tgs:TGs}{hgs:GsF}
theorem aDw:SS K aEO cP:=by
 intro γ M o M' hh W H σ D G R k;cases hh;exact k W H (.refl _) G σ R
theorem aHv(a:SS K t p)(b:SS K u q):SS K (aFT t u) (bG p q):=by
 intro γ M o M' hh W H σ D G R k;obtain⟨⟨o1,M1⟩,h1,hh⟩:=aJ hh;refine a _ _ _ _ h1 W H σ _ G R fun W1 H1 e1 G1=>?_;cases o1 with
 |nx γ1=>
  intro σ1 R1;exact b _ _ _ _ hh W1 H1 σ1 D G1 R1 fun W2 H2 e2 G2=>k W2 H2 (e1.trans e2) G2
 |bk γ1=>cases hh;exact k W1 H1 e1 G1
 |ct γ1=>cases hh;exact k W1 H1 e1 G1
 |rt x=>cases hh;exact k W1 H1 e1 G1
theorem aEc(a:SE K ta f):SS K (aEu ta) (rP f):=by
 intro γ M o M' hh W H σ D G R k;obtain⟨⟨y,M1⟩,h1,hh⟩:=aJ hh;cases hh;exact a _ _ _ _ h1 W H σ _ G R fun v W1 H1 e1 G1 r1=>k W1 H1 e1 G1 σ (R.up e1)
theorem aHf(a:SE K ta f):SS K (aFj ta) (bO f):=by
 intro γ M o M' hh W H σ D G R k;obtain⟨⟨y,M1⟩,h1,hh⟩:=aJ hh;cases hh;exact a _ _ _ _ h1 W H σ _ G R fun v W1 H1 e1 G1 r1=>k W1 H1 e1 G1 v r1
theorem aIu(c:STt K tt ft)(a:SS K t p)(b:SS K u q):SS K (aFL tt t u) (sIf ft p q):=by
 intro γ M o M' hh W H σ D G R k;obtain⟨⟨c1,M1⟩,h1,hh⟩:=aJ hh;refine c _ _ _ _ h1 W H σ _ G R fun W1 H1 e1 G1=>?_;cases c1 with
 |true=>rw[A4 rfl];rw[A4 rfl]at hh;exact a _ _ _ _ hh W1 H1 σ D G1 (R.up e1) fun W3 H3 e3 G3=>k W3 H3 (e1.trans e3) G3
 |false=>rw[A5 A7];rw[A5 A7]at hh;exact b _ _ _ _ hh W1 H1 σ D G1 (R.up e1) fun W3 H3 e3 G3=>k W3 H3 (e1.trans e3) G3
theorem NI(a:SE K ta f)(b:SG K tg hg):SS K (aDL ta tg) (bB f hg):=by
 intro γ M o M' hh W H σ D G R k;obtain⟨⟨y,M1⟩,h1,hh⟩:=aJ hh;obtain⟨⟨γ1,M2⟩,h2,hh⟩:=aJ hh;cases hh;refine a _ _ _ _ h1 W H σ _ G R fun v W1 H1 e1 G1 r1=>?_;exact b _ _ _ _ _ h2 W1 H1 σ v _ G1 (R.up e1) r1 fun σ' W2 H2 e2 G2 R2=>k W2 H2 (e1.trans e2) G2 σ' R2
theorem cL.set{σ:St}{x:CD}{v:V}(R:cL K W γ σ)(i:Nat)(r:cD K W x v):cL K W (γ.set i (some x)) (σ.set i (some v)):=Paired.set (R:=JK K W) (show JK K W (some x) (some v)from r) i R
theorem EZ{i:Nat}:SG K (IF i) (hName i):=by
 intro x γ M γ' M' hh W H σ v Q G R r k;cases hh;exact k _ W H (.refl _) G (cL.set R i r)
theorem aDC:SGs K aJF gV:=by
 intro xs γ M γ' M' hh W H σ vs Q G R r k;cases r with
 |nil=>cases hh;exact⟨rfl,k σ W H (.refl _) G R⟩
 |cons _ _=>cases hh
theorem WD(a:SG K tg hg)(b:SGs K tgs hgs):SGs K (aEp tg tgs) (bI hg hgs):=by
 intro xs γ M γ' M' hh W H σ vs Q G R r k;cases r with
 |nil=>cases hh
 |@cons x v xs vs r1 r2=>
  obtain⟨⟨γ1,M1⟩,h1,hh⟩:=aJ (show(hg x γ M).bind _=_ from hh);refine⟨v,vs,rfl,a _ _ _ _ _ h1 W H σ v _ G R r1 fun σ1 W1 H1 e1 G1 R1=>?_⟩;exact b _ _ _ _ _ hh W1 H1 σ1 vs _ G1 R1 (bY.up r2 e1) fun σ2 W2 H2 e2 G2 R2=>k σ2 W2 H2 (e1.trans e2) G2 R2
theorem aGE{n:Nat}(b:SGs K tgs hgs):SG K (aHR K n tgs) (gZ n hgs):=by
 intro x γ M γ' M' hh W H σ v Q G R r k;cases x with
 |c _=>cases hh
 |f _=>cases hh
 |g _=>cases hh
 |t xs=>
  have hh:(if xs.length=n then hgs (xs.map cdA) γ M else none)=some (γ',M'):=hh;by_cases hl:xs.length=n
  .rw[A4 hl]at hh;obtain⟨a,vs,rfl,h2,h3⟩:=r;have hp:=PY h3;exact⟨a,vs,rfl,SqT.of (G.fh _ _ h2),by rw[<- hl];simpa using(Paired.len h3).symm,b _ _ _ _ _ hh W H σ vs Q G R hp k⟩
  .rw[A5 hl]at hh;cases hh
 |d x=>
  cases x with
  |tuple ds=>
   have hh:(if ds.length=n then hgs (ds.map .d) γ M else none)=some (γ',M'):=hh;by_cases hl:ds.length=n
   .rw[A4 hl]at hh;obtain⟨a,vs,rfl,h2,h3⟩:=(show ∃a vs,v=.ref a/\SqT K W.F a vs/\aL K W.F ds vs from r);exact⟨a,vs,rfl,G.fh.seqT h2,by rw[<- h3.length];exact hl,b _ _ _ _ _ hh W H σ vs Q G R (kM h3) k⟩
   .rw[A5 hl]at hh;cases hh
  |_=>cases hh
noncomputable def P3(K:Fg)(r:V->V->V->Hp->(Hp->Prop)->Prop)(f:F3):Prop:=∀x y z M M',f x y z M=some M'->∀(W:Wd)(H:Hp)(v u w:V)(Q:Hp->Prop),Good K W M H->cD K W x v->cD K W y u->cD K W z w->(∀W' H',W.Ext W'->Good K W' M' H'->Q H')->r v u w H Q
theorem aHy{r:aCF}{s:F3}(p:P3 K r s)(a:SE K ta f)(b:SE K tb g):SG K (aJA ta tb r) (hSub f g s):=by
 intro x γ M γ' M' hh W H σ v Q G R rv k;obtain⟨⟨o,M1⟩,h1,hh⟩:=aJ hh;obtain⟨⟨i,M2⟩,h2,hh⟩:=aJ hh;obtain⟨M3,h3,hh⟩:=aJ hh;cases hh;refine a _ _ _ _ h1 W H σ _ G R fun v1 W1 H1 e1 G1 r1=>?_;refine b _ _ _ _ h2 W1 H1 σ _ G1 (R.up e1) fun v2 W2 H2 e2 G2 r2=>?_;exact p _ _ _ _ _ h3 W2 H2 v1 v2 v _ G2 (r1.up e2) r2 (rv.up (e1.trans e2)) fun W3 H3 e3 G3=>k σ W3 H3 ((e1.trans e2).trans e3) G3 (R.up ((e1.trans e2).trans e3))
theorem aGn{i j:Nat}(b:SA K tA fa):SS K (aJg i j tA) (CJ i j fa):=by
 intro γ M o M' hh W H σ D G R k;obtain⟨⟨ys,M1⟩,h1,hh⟩:=aJ hh;refine b _ _ _ _ h1 W H σ _ G R fun vs W1 H1 e1 G1 r1=>?_;rcases r1 with _|⟨a1,_|⟨a2,_|_⟩⟩
 .cases hh
 .cases hh
 .cases hh;exact⟨_,_,rfl,k W1 H1 e1 G1 _ (cL.set (cL.set (R.up e1) i a1) j a2)⟩
 .cases hh
noncomputable def GW(K:Fg)(J:It)(xs:List CD)(W:Wd):Prop:=∀W' M' H',W.Ext W'->Good K W' M' H'->
 (∀i x,xs[i]?=some x->J.go i H'/\∀y H'',J.yld i H' y H''->∃W'',W'.Ext W''/\Good K W'' M' H''/\cD K W'' x y)/\J.stop xs.length H'
noncomputable def SI(K:Fg)(wi:TI)(f:AF):Prop:=∀γ M xs M',f γ M=some (xs,M')->∀(W:Wd)(H:Hp)(σ:St)(R:It->Hp->Prop),Good K W M H->cL K W γ σ->(∀J W' H',W.Ext W'->Good K W' M' H'->GW K J xs W'->R J H')->wi σ H R
noncomputable def aX(f:EF):AF:=fun γ M=>(f γ M).bind fun r=>match r.1 with
 |.d x=>(bZ x).bind fun ds=>some (ds.map .d,r.2)
 |_=>none
theorem aIc(a:SE K ta f):SI K (aHa K ta) (aX f):=by
 intro γ M xs M' hh W H σ R G Rs k;obtain⟨⟨y,M1⟩,h1,hh⟩:=aJ hh;cases y with
 |c _=>cases hh
 |t _=>cases hh
 |f _=>cases hh
 |g _=>cases hh
 |d y=>
  obtain⟨ds,h2,hh⟩:=aJ (show(bZ y).bind _=_ from hh);cases hh;refine a _ _ _ _ h1 W H σ _ G Rs fun v W1 H1 e1 G1 r1=>?_;obtain⟨p,vs,rfl,hs,hr⟩:=kX (show Rep K W1.F y v from r1) h2;refine⟨p,rfl,?_⟩
  have item:∀(i:Nat)(x:CD)(W2:Wd),W1.Ext W2->(ds.map CD.d)[i]?=some x->∃u,vs[i]?=some u/\cD K W2 x u:=fun i x W2 e2 hx=>by
   obtain⟨u,hu,ru⟩:=Paired.get (kM hr) hx;exact⟨u,hu,ru.up e2⟩
  have hlen:(ds.map CD.d).length=vs.length:=by rw[A2];exact hr.length
  rcases hs with hs|hs
  .refine .inl ⟨vs,G1.fh.seq hs,k _ W1 H1 e1 G1 fun W2 M2 H2 e2 G2=>?_⟩;have hs2:SqL K H2 p vs:=G2.fh.seq (e2.ff.seq hs);refine⟨fun i x hx=>?_,?_⟩
   .obtain⟨u,hu,ru⟩:=item i x W2 e2 hx;refine⟨⟨vs,u,hs2,hu⟩,fun y' H'' hy=>⟨W2,.refl _,by rw[hy.1];exact G2,?_⟩⟩;have:=hy.2 vs hs2;rw[hu]at this;cases this;exact ru
   .rw[hlen];exact⟨vs,hs2,A8 _⟩
  .refine .inr ⟨vs,G1.fh.seqT hs,k _ W1 H1 e1 G1 fun W2 M2 H2 e2 G2=>?_⟩;have hs2:SqT K H2 p vs:=G2.fh.seqT (e2.ff.seqT hs);refine⟨fun i x hx=>?_,?_⟩
   .obtain⟨u,hu,ru⟩:=item i x W2 e2 hx;refine⟨⟨vs,u,hs2,hu⟩,fun y' H'' hy=>⟨W2,.refl _,by rw[hy.1];exact G2,?_⟩⟩;have:=hy.2 vs hs2;rw[hu]at this;cases this;exact ru
   .rw[hlen];exact⟨vs,hs2,A8 _⟩
noncomputable def mF(lo:Int)(n:Nat):List CD:=(List.range n).map fun i=>.d (.int (lo+(i:Nat)))
theorem IU{lo:Int}{n i:Nat}{x:CD}(h:(mF lo n)[i]?=some x):i<n/\x=.d (.int (lo+i)):=by
 unfold mF at h;rw[D2]at h;by_cases hi:i<n
 .rw[List.getElem?_range hi]at h;exact⟨hi,(D3 h).symm⟩
 .rw[List.getElem?_eq_none_iff.mpr (by simpa using hi)]at h;cases h
noncomputable def jL(i:Int):Bool:=decide (-(2 ^ 62)<=i)&&decide (i<2 ^ 62)
noncomputable def gT(f:AF):AF:=fun γ M=>(f γ M).bind fun r=>match r.1 with
 |[.d (.int j)]=>if jL j=true then some (mF 0 j.toNat,r.2)else none
 |_=>none
theorem SQ{lo:Int}{n:Nat}:GW K (Itr lo n) (mF lo n) W:=fun W' M' H' e G=>
 ⟨fun i x hx=>⟨(IU hx).1,fun y H'' hy=>⟨W',.refl _,by rw[hy.1];exact G,by rw[(IU hx).2];exact hy.2⟩⟩,by show n<=_;simp[mF]⟩
theorem zB{i:Int}(h:jL i=true):-(2 ^ 62)<=i/\i<2 ^ 62:=by
 unfold jL at h;rw[B8]at h;exact⟨D4 h.1,D4 h.2⟩
theorem aCU(b:SA K tA fa):SI K (aEA tA) (gT fa):=by
 intro γ M xs M' hh W H σ R G Rs k;obtain⟨⟨ys,M1⟩,h1,hh⟩:=aJ hh;refine b _ _ _ _ h1 W H σ _ G Rs fun vs W1 H1 e1 G1 r1=>?_;revert hh;dsimp only;split
 .rename_i j;intro hh;by_cases hs:jL j=true
  .rw[A4 hs]at hh;cases hh;cases r1 with
   |cons r r'=>
    cases r';exact⟨j,by rw[show _=V.int j from r],(zB hs).1,(zB hs).2,k _ W1 H1 e1 G1 SQ⟩
  .rw[A5 hs]at hh;cases hh
 .intro hh;cases hh
theorem aHV{wi:TI}(i:SI K wi fa)(a:SG K tg hg)(b:SS K t p):SS K (aHA wi tg t) (AU fa hg p):=by
 intro γ M o M' hh W H σ D G R k;obtain⟨⟨xs,M1⟩,h1,hh⟩:=aJ hh;have hh:uJ hg p xs γ M1=some (o,M'):=hh;refine i _ _ _ _ h1 W H σ _ G R fun J W1 H1 e1 G1 gv=>?_;refine⟨fun j m σ' H'=>∃γ' M2 W2,j<=xs.length/\m=xs.length-j/\W1.Ext W2/\Good K W2 M2 H'/\cL K W2 γ' σ'/\uJ hg p (xs.drop j) γ' M2=some (o,M'),⟨_,γ,M1,W1,F8 _,rfl,.refl _,G1,R.up e1,hh⟩,?_⟩;rintro j m σ' H' ⟨γ',M2,W2,hj,rfl,e2,G2,R2,h2⟩;obtain⟨gv1,gv2⟩:=gv W2 M2 H' e2 G2;by_cases hlt:j<xs.length
 .obtain⟨go,yl⟩:=gv1 j xs[j] (B9 hlt);rw[S7 hlt]at h2;refine .inr ⟨go,fun σ3 H3=>∃γ3 M3 W3,W2.Ext W3/\Good K W3 M3 H3/\cL K W3 γ3 σ3/\uJ hg p (xs.drop (j+1)) γ3 M3=some (o,M'),?_,fun y H3 hy=>?_⟩
  .rintro σ3 H3 ⟨γ3,M3,W3,e3,G3,R3,h3⟩;exact⟨_,by omega,γ3,M3,W3,hlt,rfl,e2.trans e3,G3,R3,h3⟩
  .obtain⟨W8,e8,G8,ry⟩:=yl y H3 hy;obtain⟨⟨γ4,M4⟩,h4,h2⟩:=aJ (show(hg xs[j] γ' M2).bind _=_ from h2);obtain⟨⟨o5,M5⟩,h5,h2⟩:=aJ h2;refine a _ _ _ _ _ h4 W8 _ σ' y _ G8 (R2.up e8) ry fun σ4 W4 H4 e4 G4 R4=>?_;refine b _ _ _ _ h5 W4 H4 σ4 _ G4 R4 fun W5 H5 e5 G5=>?_;have e25:=(e8.trans e4).trans e5;cases o5 with
   |nx γ5=>exact fun σ5 R5=>⟨γ5,M5,W5,e25,G5,R5,h2⟩
   |ct γ5=>exact fun σ5 R5=>⟨γ5,M5,W5,e25,G5,R5,h2⟩
   |bk γ5=>cases h2;exact k W5 H5 ((e1.trans e2).trans e25) G5
   |rt x=>cases h2;exact k W5 H5 ((e1.trans e2).trans e25) G5
 .have e:j=xs.length:=by omega
  subst e;rw[List.drop_length]at h2;cases h2;exact .inl ⟨gv2,k W2 H' (e1.trans e2) G2 σ' R2⟩
theorem YX(c:STt K tt ft)(b:SS K t p):SS K (YY tt t) (sV ft p):=by
 intro γ M o M' hh W H σ D G R k;unfold sV at hh;by_cases hex:∃n,(fA ft p n γ M).isSome=true
 .rw[dif_pos hex]at hh;generalize hex.choose=n at hh;refine⟨fun m σ' H'=>∃γ' M2 W2,W.Ext W2/\Good K W2 M2 H'/\cL K W2 γ' σ'/\fA ft p m γ' M2=some (o,M'),⟨n,γ,M,W,.refl _,G,R,hh⟩,?_⟩;rintro m σ' H' ⟨γ',M2,W2,e2,G2,R2,h2⟩;cases m with
  |zero=>cases h2
  |succ m=>
   obtain⟨⟨c3,M3⟩,h3,h2⟩:=aJ (show(ft γ' M2).bind _=_ from h2);refine c _ _ _ _ h3 W2 H' σ' _ G2 R2 fun W3 H3 e3 G3=>?_;cases c3 with
   |true=>
    rw[A4 rfl];rw[A4 rfl]at h2;obtain⟨⟨o4,M4⟩,h4,h2⟩:=aJ h2;refine⟨fun σ4 H4=>∃γ4 M4 W4,W2.Ext W4/\Good K W4 M4 H4/\cL K W4 γ4 σ4/\fA ft p m γ4 M4=some (o,M'),?_,?_⟩
    .rintro σ4 H4 ⟨γ4,M4,W4,e4,G4,R4,h4⟩;exact⟨m,J2 _,γ4,M4,W4,e2.trans e4,G4,R4,h4⟩
    .refine b _ _ _ _ h4 W3 H3 σ' _ G3 (R2.up e3) fun W5 H5 e5 G5=>?_;have e25:=e3.trans e5;cases o4 with
     |nx γ5=>exact fun σ5 R5=>⟨γ5,M4,W5,e25,G5,R5,h2⟩
     |ct γ5=>exact fun σ5 R5=>⟨γ5,M4,W5,e25,G5,R5,h2⟩
     |bk γ5=>cases h2;exact k W5 H5 (e2.trans e25) G5
     |rt x=>cases h2;exact k W5 H5 (e2.trans e25) G5
   |false=>
    rw[A5 A7];rw[A5 A7]at h2;cases h2;exact k W3 H3 (e2.trans e3) G3 σ' (R2.up e3)
 .rw[dif_neg hex]at hh;cases hh
theorem lL{c:TF}{b:SF}:∀{n m:Nat}{γ:Ga}{M:Sto}{r:Out×Sto},fA c b n γ M=some r->n<=m->fA c b m γ M=some r
 |0,_,_,_,_=>fun h _=>by cases h
 |n+1,0,_,_,_=>fun _ h=>by omega
 |n+1,m+1,γ,M,r=>fun h hl=>by
  obtain⟨⟨b1,M1⟩,h1,h⟩:=aJ (show(c γ M).bind _=_ from h);show(c γ M).bind _=_;rw[h1];show(if b1=true then _ else _)=_;cases b1 with
  |false=>exact h
  |true=>
   rw[A4 rfl];rw[A4 rfl]at h;obtain⟨⟨o,M2⟩,h2,h⟩:=aJ h;rw[h2];cases o with
   |nx γ'=>exact lL (n:=n) (m:=m) h (by omega)
   |ct γ'=>exact lL (n:=n) (m:=m) h (by omega)
   |bk γ'=>exact h
   |rt x=>exact h
theorem IA{c:TF}{b:SF}{n:Nat}{r:Out×Sto}(h:fA c b n γ M=some r):sV c b γ M=some r:=by
 unfold sV;have hex:∃n,(fA c b n γ M).isSome=true:=⟨n,by rw[h];rfl⟩;rw[dif_pos hex];have hs:=hex.choose_spec;cases q:fA c b hex.choose γ M with
 |none=>rw[q]at hs;cases hs
 |some r'=>
  rcases Nat.le_total n hex.choose with z|z
  .rw[lL h z]at q;exact q.symm▸rfl
  .rw[lL q z]at h;exact h
theorem EW{W:Wd}{γ:Ga}{σ:St}(R:cL K W γ σ):∀cap:List (Option Nat),cL K W (jO cap γ) (xK cap σ)
 |[]=>.nil
 |none::r=>.cons True.intro (EW R r)
 |some j::r=>by
  refine .cons ?_ (EW R r);show JK K W ((γ[j]?).join) ((σ[j]?).join);cases e:γ[j]? with
  |none=>
   have:σ[j]?=none:=by
    have hl:=Paired.len R;exact List.getElem?_eq_none_iff.mpr (by have:=List.getElem?_eq_none_iff.mp e;omega)
   rw[this];exact True.intro
  |some x=>
   obtain⟨y,hy,r'⟩:=Paired.get R e;rw[hy];exact r'
theorem FF{wi:TI}{cap:List (Option Nat)}{te:TE}{fe:EF}(i:SI K wi fa)(a:SG K tg hg)(c:STt K tt ft)(b:SE K te fe){xs:List CD}{M':Sto}(hh:LJ cap fa hg ft fe γ M=some (xs,M'))
 {W:Wd} {H:Hp} {σ:St} {Q:VK} (G:Good K W M H) (R:cL K W γ σ) (k:∀vs W' H',W.Ext W'->Good K W' M' H'->bY K W' xs vs->∀p,H' p=none->Q (.ref p) (upd H' p (.lst vs))):tLc cap wi tg tt te σ H Q:=by
 obtain⟨⟨ys,M1⟩,h1,hh⟩:=aJ hh;have hh:(if ys.length<=sizeLine then lcF hg ft fe ys (jO cap γ) M1 else none)=some (xs,M'):=hh;by_cases hl:ys.length<=sizeLine
 .rw[A4 hl]at hh;refine i _ _ _ _ h1 W H σ _ G R fun J W1 H1 e1 G1 gv=>?_
  refine⟨fun j m acc σ' H'=>∃γ' M2 W2 pre suf,j<=ys.length/\m=ys.length-j/\acc.length<=j/\W1.Ext W2/\Good K W2 M2 H'/\cL K W2 γ' σ'/\bY K W2 pre acc/\pre++suf=xs/\lcF hg ft fe (ys.drop j) γ' M2=some (suf,M'),
   ⟨_,jO cap γ,M1,W1,[],xs,F8 _,rfl,F8 _,.refl _,G1,EW (R.up e1) cap,.nil,rfl,hh⟩,?_⟩
  rintro j m acc σ' H' ⟨γ',M2,W2,pre,suf,hj,rfl,hacc,e2,G2,R2,rp,hx,h2⟩;obtain⟨gv1,gv2⟩:=gv W2 M2 H' e2 G2;by_cases hlt:j<ys.length
  .obtain⟨go,yl⟩:=gv1 j ys[j] (B9 hlt);rw[S7 hlt]at h2;refine .inr ⟨go,by omega,fun acc3 σ3 H3=>∃γ3 M3 W3 pre3 suf3,acc3.length<=j+1/\W2.Ext W3/\Good K W3 M3 H3/\cL K W3 γ3 σ3/\bY K W3 pre3 acc3/\pre3++suf3=xs/\lcF hg ft fe (ys.drop (j+1)) γ3 M3=some (suf3,M'),?_,fun y H3 hy=>?_⟩
   .rintro acc3 σ3 H3 ⟨γ3,M3,W3,pre3,suf3,hl3,e3,G3,R3,rp3,hx3,h3⟩;exact⟨_,by omega,γ3,M3,W3,pre3,suf3,hlt,rfl,hl3,e2.trans e3,G3,R3,rp3,hx3,h3⟩
   .obtain⟨W8,e8,G8,ry⟩:=yl y H3 hy;obtain⟨⟨γ4,M4⟩,h4,h2⟩:=aJ (show(hg ys[j] γ' M2).bind _=_ from h2);obtain⟨⟨b5,M5⟩,h5,h2⟩:=aJ h2;refine a _ _ _ _ _ h4 W8 _ σ' y _ G8 (R2.up e8) ry fun σ4 W4 H4 e4 G4 R4=>?_;refine c _ _ _ _ h5 W4 H4 σ4 _ G4 R4 fun W5 H5 e5 G5=>?_;have e25:=(e8.trans e4).trans e5;cases b5 with
    |true=>
     rw[A4 rfl]at h2;obtain⟨⟨z,M6⟩,h6,h2⟩:=aJ h2;obtain⟨⟨zs,M7⟩,h7,h2⟩:=aJ h2;cases h2;refine .inl ⟨rfl,b _ _ _ _ h6 W5 H5 σ4 _ G5 (R4.up e5) fun v W6 H6 e6 G6 r6=>?_⟩;refine⟨γ4,M6,W6,pre++[z],zs,by rw[C0];simp only[List.length_singleton];omega,e25.trans e6,G6,R4.up (e5.trans e6),Paired.app (bY.up rp (e25.trans e6)) (.cons r6 .nil),by rw[<- hx,E8];rfl,h7⟩
    |false=>
     rw[A5 A7]at h2;exact .inr ⟨rfl,γ4,M5,W5,pre,suf,by omega,e25,G5,R4.up e5,bY.up rp e25,hx,h2⟩
  .have e:j=ys.length:=by omega
   subst e;rw[List.drop_length]at h2;cases h2;rw[C3]at hx;subst hx;exact .inl ⟨gv2,k acc W2 H' (e1.trans e2) G2 rp⟩
 .rw[A5 hl]at hh;cases hh
theorem aFe{wi:TI}{cap:List (Option Nat)}{te:TE}{fe:EF}(i:SI K wi fa)(a:SG K tg hg)(c:STt K tt ft)(b:SE K te fe):SE K (tLc cap wi tg tt te) (fLc cap fa hg ft fe):=by
 intro γ M x M' hh W H σ Q G R k;obtain⟨⟨ys,M1⟩,h1,hh⟩:=aJ hh;obtain⟨ds,h2,hh⟩:=aJ hh;by_cases hl:ds.length<=sizeLine
 .rw[A4 hl]at hh;cases hh;refine FF i a c b h1 G R fun vs W1 H1 e1 G1 r1 p hp=>?_;obtain⟨e2,G2⟩:=G1.lay (o:=.lst vs) hp;exact k _ _ _ (e1.trans e2) G2 ⟨p,vs,rfl,SqL.of aV,aL.same e2.ff _ _ (eW h2 r1)⟩
 .rw[A5 hl]at hh;cases hh
theorem aHU:STt K aJr eM:=by
 intro γ M x M' hh W H σ Q G R k;cases hh;exact k W H (.refl _) G
theorem bY.some{W:Wd}:∀{xs:List CD}{vs:List V},bY K W xs vs->cL K W (xs.map some) (vs.map some)
 |_,_,.nil=>.nil
 |_,_,.cons r t=>.cons r (bY.some t)
theorem qP{W:Wd}:∀n:Nat,cL K W (List.replicate n none) (List.replicate n none)
 |0=>.nil
 |n+1=>.cons True.intro (qP n)
theorem Def.okM{P:Program}{w:World}{mg:Str->Option Value}{base:Heap}{x:Str}{st:Stmt}{N ps:List Str}{k:Nat}{b:SF}{q:Bool}(D:Def K mg x st)(S:aS N ps (aF st))
 (hb:∀(kV doc pm:Value)(an:Option Addr)(cdv ct:Value)(us:List Value),us.length=ps.length->bindArgs (PySem.W.fnOf x x (dG st) (bR st) (aF st) .none kV doc pm an cdv ct) ⟨us,[]⟩=pure (ps.zip us))
 (hbody:∀(f:Addr)(cdv:Value)(A:Around)(outer:List Env)(s:Shared)(H:Hp)(E:XK),cG k (A.deeper (envOfC x (aF st) s.heap.objs.size f cdv)) q->
  ∃t,PSs (mE CX0 P w K mg base N x (aF st) f cdv A outer s H E q).nox (bR st) t/\SS K t b):Callee P w K mg base (k+1) x ps (spM K (fnF ps.length N.length b)) q:=by
 have len:∀vs H Q E,spM K (fnF ps.length N.length b) vs H Q E->vs.length=ps.length:=fun vs H Q E h=>by
  obtain⟨xs,M,W,y,M',G,R,hf,_⟩:=h;by_cases hl:xs.length=ps.length
  .rw[<- Paired.len R];exact hl
  .unfold fnF at hf;rw[A5 hl]at hf;cases hf
 refine D.ok S hb len fun f cdv A outer s H vs Q E hr h=>?_;obtain⟨t,hP,hS⟩:=hbody f cdv A outer s H E hr;refine⟨t,hP,?_⟩;obtain⟨xs,M,W,y,M',G,R,hf,k⟩:=h;by_cases hl:xs.length=ps.length
 .unfold fnF at hf;rw[A4 hl]at hf;obtain⟨⟨o,M1⟩,h1,hf⟩:=aJ hf
  have hR:cL K W (xs.map some++List.replicate (N.length-xs.length) none) (start N vs):=by
   unfold start;rw[<- Paired.len R];exact Paired.app (bY.some R) (qP _)
  refine hS _ _ _ _ h1 W H _ _ G hR fun W1 H1 e1 G1=>?_;cases o with
  |rt x=>cases hf;exact fun v r=>k v W1 H1 e1 G1 r
  |nx γ=>cases hf;exact fun σ r=>k .non W1 H1 e1 G1 rfl
  |bk γ=>cases hf
  |ct γ=>cases hf
 .unfold fnF at hf;rw[A5 hl]at hf;cases hf
end
noncomputable def zO(h h':F2):F2:=fun x y M=>match h x y M with
 |some r=>some r
 |none=>h' x y M
noncomputable def pI(g:Int->Int->Option PyData):F2:=fun x y M=>match x,y with
 |.d (.int i),.d (.int j)=>(g i j).bind fun z=>some (.d z,M)
 |_,_=>none
theorem aAl{g:Int->Int->Option PyData}{x y:CD}{z:CD}{M':Sto}(h:pI g x y M=some (z,M')):∃i j w,x=.d (.int i)/\y=.d (.int j)/\g i j=some w/\z=.d w/\M'=M:=by
 unfold pI at h;split at h
 .rename_i i j;obtain⟨w,h1,h⟩:=aJ h;cases h;exact⟨i,j,w,rfl,rfl,h1,rfl,rfl⟩
 .cases h
section
variable{X:Cx}{K:Fg}
theorem aEw{g:Int->Int->Int}:P2 K (rI0 fun i j=>.int (g i j)) (pI fun i j=>some (.int (g i j))):=by
 intro x y M z M' h W H v u Q G rx ry k;obtain⟨i,j,w,rfl,rfl,hw,rfl,rfl⟩:=aAl h;cases hw;exact⟨i,j,rx,ry,k _ W H (.refl _) G rfl⟩
theorem RI{g:Int->Int->Bool}:P2 K (rI0 fun i j=>.bl (g i j)) (pI fun i j=>some (.bool (g i j))):=by
 intro x y M z M' h W H v u Q G rx ry k;obtain⟨i,j,w,rfl,rfl,hw,rfl,rfl⟩:=aAl h;cases hw;exact⟨i,j,rx,ry,k _ W H (.refl _) G rfl⟩
noncomputable def ifS(c:Bool)(x:PyData):Option PyData:=if c=true then some x else none
theorem aFf{c:Bool}{x y:PyData}(h:ifS c x=some y):c=true/\y=x:=by
 unfold ifS at h;cases c with
 |true=>rw[A4 rfl]at h;cases h;exact⟨rfl,rfl⟩
 |false=>rw[A5 A7]at h;cases h
theorem aCJ{C:Int->Int->Prop}{c:Int->Int->Bool}{g:Int->Int->Int}(hc:∀i j,c i j=true->C i j):P2 K (rI C fun i j=>.int (g i j)) (pI fun i j=>ifS (c i j) (.int (g i j))):=by
 intro x y M z M' h W H v u Q G rx ry k;obtain⟨i,j,w,rfl,rfl,hw,rfl,rfl⟩:=aAl h;obtain⟨h1,rfl⟩:=aFf hw;exact⟨i,j,rx,ry,hc i j h1,k _ W H (.refl _) G rfl⟩
noncomputable def aGC:F2:=pI fun i j=>some (.int (i+j))
noncomputable def vS:F2:=pI fun i j=>some (.int (i-j))
noncomputable def mZ(i j:Int):Bool:=decide (i.natAbs<2 ^ 64) || decide (j.natAbs<2 ^ 64) || (decide (i.natAbs<wY)&&decide (j.natAbs<wY))
noncomputable def AY:F2:=pI fun i j=>ifS (mZ i j) (.int (i*j))
noncomputable def wI(_ j:Int):Bool:=decide (0<j)&&decide (j.natAbs<wY)
noncomputable def bS:F2:=pI fun i j=>ifS (wI i j) (.int (i / j))
noncomputable def qN(_ j:Int):Bool:=decide (0<j)
noncomputable def bC:F2:=pI fun i j=>ifS (qN i j) (.int (i % j))
noncomputable def aEF(i j:Int):Bool:=decide (0<=j)&&decide (j<=1000000)&&decide (i.natAbs<2 ^ 64)
noncomputable def uR:F2:=pI fun i j=>ifS (aEF i j) (.int (i ^ j.toNat))
theorem mulOk_of{i j:Int}(h:mZ i j=true):KQ i j:=by
 unfold mZ at h;simp only[Bool.or_eq_true,Bool.and_eq_true,decide_eq_true_eq]at h;rcases h with(h|h)|h
 .exact .inl (.inl ⟨by omega,by omega⟩)
 .exact .inl (.inr ⟨by omega,by omega⟩)
 .exact .inr h
noncomputable def ltI:F2:=pI fun i j=>some (.bool (decide (i<j)))
noncomputable def leI:F2:=pI fun i j=>some (.bool (decide (i<=j)))
noncomputable def gtI:F2:=pI fun i j=>some (.bool (decide (j<i)))
noncomputable def geI:F2:=pI fun i j=>some (.bool (decide (j<=i)))
noncomputable def eqD(neg:Bool):F2:=fun x y M=>match x,y with
 |.d a,.d b=>if (SeqAt.shaped a&&SeqAt.shaped b)=true then some (.d (.bool (if neg then !PyData.eqv a b else PyData.eqv a b)),M)else none
 |_,_=>none
theorem aEQ{neg:Bool}:P2 K (MC K neg) (eqD neg):=by
 intro x y M z M' h W H v u Q G rx ry k;unfold eqD at h;split at h
 .rename_i a b;by_cases hs:(SeqAt.shaped a&&SeqAt.shaped b)=true
  .rw[A4 hs]at h;cases h;rw[B8]at hs;exact⟨a,b,Rep.same G.fh _ _ rx,Rep.same G.fh _ _ ry,hs.1,hs.2,k _ W H (.refl _) G rfl⟩
  .rw[A5 hs]at h;cases h
 .cases h
noncomputable def inD(neg:Bool):F2:=fun x y M=>match x,y with
 |.d a,.d b=>(bZ b).bind fun ds=>if (SeqAt.shaped a&&ds.all SeqAt.shaped)=true then some (.d (.bool (if neg then !ds.any fun d=>PyData.eqv d a else ds.any fun d=>PyData.eqv d a)),M)else none
 |_,_=>none
theorem aIX{neg:Bool}:P2 K (aFX K neg) (inD neg):=by
 intro x y M z M' h W H v u Q G rx ry k;unfold inD at h;split at h
 .rename_i a b;obtain⟨ds,h1,h⟩:=aJ h;by_cases hs:(SeqAt.shaped a&&ds.all SeqAt.shaped)=true
  .rw[A4 hs]at h;cases h;rw[B8]at hs;obtain⟨p,vs,rfl,hq,hr⟩:=kX (Rep.same G.fh _ _ ry) h1;exact⟨a,ds,p,vs,Rep.same G.fh _ _ rx,rfl,hq,hr,hs.1,hs.2,k _ W H (.refl _) G rfl⟩
  .rw[A5 hs]at h;cases h
 .cases h
theorem aL.nth{ds:List PyData}{vs:List V}{i:Nat}{d:PyData}(h:aL K H ds vs)(e:ds[i]?=some d):∃v,vs[i]?=some v/\Rep K H d v:=by
 have hlt:i<vs.length:=by rw[<- h.length];exact(List.getElem?_eq_some_iff.mp e).1
 have hv:vs[i]?=some vs[i]:=B9 hlt;obtain⟨d',hd',r⟩:=h.get hv;rw[e]at hd';cases hd';exact⟨_,hv,r⟩
theorem NL{α:Type}{xs:List α}{i:Int}{x:α}(h:atI xs i=some x):∃j,ixN xs.length i=some j/\xs[j]?=some x:=by
 unfold atI at h;exact aJ h
theorem EM{α:Type}{xs:List α}{i:Int}{j:Nat}{x:α}(h:ixN xs.length i=some j)(e:xs[j]?=some x):atI xs i=some x:=by
 unfold atI;rw[h];exact e
noncomputable def ixF:F2:=fun x y M=>match x,y with
 |.d a,.d (.int n)=>(bZ a).bind fun ds=>(atI ds n).bind fun e=>some (.d e,M)
 |.c i,.d (.int n)=>match M[i]? with
  |some (.lst xs)=>(atI xs n).bind fun e=>some (e,M)
  |_=>none
 |.t xs,.d (.int n)=>(atI xs n).bind fun e=>some (cdA e,M)
 |_,_=>none
theorem Good.lstAt{i:Nat}{xs:List CD}(G:Good K W M H)(h:M[i]?=some (.lst xs)):∃vs,H (W.α i)=some (.lst vs)/\bY K W xs vs:=by
 obtain⟨_,o,h2,h3⟩:=G.cs i _ h (by intro z;cases z);cases o with
 |lst vs=>exact⟨vs,h2,h3⟩
 |_=>exact False.elim h3
theorem aJC:P2 K (rIx K) ixF:=by
 intro x y M z M' h W H v u Q G rx ry k;unfold ixF at h;split at h
 .rename_i a n;obtain⟨ds,h1,h⟩:=aJ h;obtain⟨e,h2,h⟩:=aJ h;cases h;obtain⟨p,vs,rfl,hq,hr⟩:=kX (Rep.same G.fh _ _ rx) h1;obtain⟨j,hj,he⟩:=NL h2;obtain⟨w,hw,rw'⟩:=hr.nth he;have hlen:=hr.length;have hat:atI vs n=some w:=EM (by rw[<- hlen];exact hj) hw;obtain⟨p',vs',e',hq',hr'⟩:=kX (show Rep K W.F a (.ref p)from rx) h1;cases e'
  have same:∀w',vs'[j]?=some w'->Rep K W.F e w':=fun w' hw'=>by
   obtain⟨w2,h3,h4⟩:=hr'.nth he;rw[hw']at h3;cases h3;exact h4
  obtain⟨w',hw',r'⟩:=hr'.nth he;have hat':atI vs' n=some w':=EM (by rw[<- hr'.length];exact hj) hw';rcases hq' with hq'|hq'
  .exact .inl ⟨p,vs',n,w',rfl,ry,G.fh.seq hq',hat',k _ W H (.refl _) G r'⟩
  .exact .inr (.inl ⟨p,vs',n,w',rfl,ry,G.fh.seqT hq',hat',k _ W H (.refl _) G r'⟩)
 .rename_i i n;split at h
  .rename_i xs hx;obtain⟨e,h2,h⟩:=aJ h;cases h;obtain⟨vs,hv,hr⟩:=G.lstAt hx;obtain⟨j,hj,he⟩:=NL h2;obtain⟨w,hw,r'⟩:=Paired.get hr he;have hat:atI vs n=some w:=EM (by rw[<- Paired.len hr];exact hj) hw;rw[show v=.ref (W.α i)from rx.2];exact .inl ⟨_,vs,n,w,rfl,ry,SqL.of hv,hat,k _ W H (.refl _) G r'⟩
  .cases h
 .rename_i xs n;obtain⟨e,h2,h⟩:=aJ h;cases h;obtain⟨a,vs,rfl,hv,hr⟩:=rx;obtain⟨j,hj,he⟩:=NL h2;obtain⟨w,hw,r'⟩:=Paired.get hr he;have hat:atI vs n=some w:=EM (by rw[<- Paired.len hr];exact hj) hw;exact .inr (.inl ⟨_,vs,n,w,rfl,ry,SqT.of (G.fh _ _ hv),hat,k _ W H (.refl _) G (by cases e<;>exact r')⟩)
 .cases h
noncomputable def iS:FN:=fun xs M=>match xs with
 |[.d a]=>(bZ a).bind fun ds=>some (.d (.int ds.length),M)
 |[.c i]=>match M[i]? with
  |some (.lst ys)=>some (.d (.int ys.length),M)
  |_=>none
 |[.t xs]=>some (.d (.int xs.length),M)
 |_=>none
theorem aGP:PN K (fun xs H Q=>∃p ys,xs=[.ref p]/\(SqL K H p ys\/SqT K H p ys)/\Q (.int ys.length) H) iS:=by
 intro xs M z M' h W H vs Q G r k;unfold iS at h;split at h
 .rename_i a;obtain⟨ds,h1,h⟩:=aJ h;cases h;rcases r with _|⟨r1,_|_⟩;obtain⟨p,us,rfl,hq,hr⟩:=kX (Rep.same G.fh _ _ r1) h1;refine⟨p,us,rfl,hq,?_⟩;rw[<- hr.length];exact k _ W H (.refl _) G rfl
 .rename_i i;split at h
  .rename_i ys hy;cases h;rcases r with _|⟨r1,_|_⟩;obtain⟨us,hv,hr⟩:=G.lstAt hy;rw[r1.2];refine⟨_,us,rfl,.inl (SqL.of hv),?_⟩;rw[<- Paired.len hr];exact k _ W H (.refl _) G rfl
  .cases h
 .rename_i xs;cases h;rcases r with _|⟨r1,_|_⟩;obtain⟨a,us,rfl,hv,hr⟩:=r1;refine⟨_,us,rfl,.inr (SqT.of (G.fh _ _ hv)),?_⟩;rw[<- Paired.len hr];exact k _ W H (.refl _) G rfl
 .cases h
noncomputable def zD:FN:=fun xs M=>match xs with
 |[.d a]=>(bZ a).bind fun ds=>some (.d (.list ds),M)
 |[.c i]=>match M[i]? with
  |some (.lst ys)=>(kU ys).bind fun ds=>some (.d (.list ds),M)
  |_=>none
 |_=>none
theorem aDG:PN K (fun xs H Q=>∃p ys,xs=[.ref p]/\(SqL K H p ys\/SqT K H p ys)/\∀l,H l=none->Q (.ref l) (upd H l (.lst ys))) zD:=by
 intro xs M z M' h W H vs Q G r k;unfold zD at h;split at h
 .rename_i a;obtain⟨ds,h1,h⟩:=aJ h;cases h;rcases r with _|⟨r1,_|_⟩;obtain⟨p,us,rfl,hq,hr⟩:=kX (show Rep K W.F a _ from r1) h1;refine⟨p,us,rfl,hq.imp (fun z=>G.fh.seq z) (fun z=>G.fh.seqT z),fun l hl=>?_⟩;obtain⟨e2,G2⟩:=G.lay (o:=.lst us) hl;exact k _ _ _ e2 G2 ⟨l,us,rfl,SqL.of aV,aL.same e2.ff _ _ hr⟩
 .rename_i i;split at h
  .rename_i ys hy;obtain⟨ds,h1,h⟩:=aJ h;cases h;rcases r with _|⟨r1,_|_⟩;obtain⟨us,hv,hr⟩:=G.lstAt hy;rw[r1.2];refine⟨_,us,rfl,.inl (SqL.of hv),fun l hl=>?_⟩;obtain⟨e2,G2⟩:=G.lay (o:=.lst us) hl;exact k _ _ _ e2 G2 ⟨l,us,rfl,SqL.of aV,aL.same e2.ff _ _ (eW h1 hr)⟩
  .cases h
 .cases h
noncomputable def eC:FN:=fun xs M=>match xs with
 |[.d (.list ds)]=>some (.d (.tuple ds),M)
 |[.d (.tuple ds)]=>some (.d (.tuple ds),M)
 |[.c i]=>match M[i]? with
  |some (.lst ys)=>(kU ys).bind fun ds=>some (.d (.tuple ds),M)
  |_=>none
 |_=>none
theorem WX:PN K (fun xs H Q=>∃p ys,xs=[.ref p]/\((SqL K H p ys/\∀l,H l=none->Q (.ref l) (upd H l (.tup ys)))\/(SqT K H p ys/\Q (.ref p) H))) eC:=by
 intro xs M z M' h W H vs Q G r k;unfold eC at h;split at h
 .rename_i ds;cases h;rcases r with _|⟨r1,_|_⟩;obtain⟨p,us,rfl,hq,hr⟩:=(show ∃a us,_=V.ref a/\SqL K W.F a us/\aL K W.F ds us from r1);refine⟨p,us,rfl,.inl ⟨G.fh.seq hq,fun l hl=>?_⟩⟩;obtain⟨e2,G2⟩:=G.lay (o:=.tup us) hl;exact k _ _ _ e2 G2 ⟨l,us,rfl,SqT.of aV,aL.same e2.ff _ _ hr⟩
 .rename_i ds;cases h;rcases r with _|⟨r1,_|_⟩;obtain⟨p,us,rfl,hq,hr⟩:=(show ∃a us,_=V.ref a/\SqT K W.F a us/\aL K W.F ds us from r1);exact⟨p,us,rfl,.inr ⟨G.fh.seqT hq,k _ W H (.refl _) G ⟨p,us,rfl,hq,hr⟩⟩⟩
 .rename_i i;split at h
  .rename_i ys hy;obtain⟨ds,h1,h⟩:=aJ h;cases h;rcases r with _|⟨r1,_|_⟩;obtain⟨us,hv,hr⟩:=G.lstAt hy;rw[r1.2];refine⟨_,us,rfl,.inl ⟨SqL.of hv,fun l hl=>?_⟩⟩;obtain⟨e2,G2⟩:=G.lay (o:=.tup us) hl;exact k _ _ _ e2 G2 ⟨l,us,rfl,SqT.of aV,aL.same e2.ff _ _ (eW h1 hr)⟩
  .cases h
 .cases h
noncomputable def sY(T:String)(f:EF):EF:=fun γ M=>(f γ M).bind fun r=>match r.1 with
 |.d a=>some (.d (.bool (BR T a)),r.2)
 |_=>none
theorem aGW{T:String}{ta:TE}{f:EF}(hT:T∈asked)(a:SE K ta f):SE K (tCB (aHI K) (rO ta (rO (tC (.ty T)) TY))) (sY T f):=by
 intro γ M x M' hh W H σ Q G R k;obtain⟨⟨y,M1⟩,h1,hh⟩:=aJ hh;cases y with
 |c _=>cases hh
 |t _=>cases hh
 |f _=>cases hh
 |g _=>cases hh
 |d y=>
  cases hh;refine a _ _ _ _ h1 W H σ _ G R fun v W1 H1 e1 G1 r1=>?_;exact⟨v,T,y,rfl,hT,Rep.same G1.fh _ _ r1,k _ W1 H1 e1 G1 rfl⟩
noncomputable def QC(T U:String)(f:EF):EF:=fun γ M=>(f γ M).bind fun r=>match r.1 with
 |.d a=>some (.d (.bool (BR T a || BR U a)),r.2)
 |_=>none
theorem aCB{T U:String}{ta:TE}{f:EF}(hT:T∈asked)(hU:U∈asked)(a:SE K ta f):SE K (tCB (ZG K) (rO ta (rO (aDb (rO (tC (.ty T)) (rO (tC (.ty U)) TY))) TY))) (QC T U f):=by
 intro γ M x M' hh W H σ Q G R k;obtain⟨⟨y,M1⟩,h1,hh⟩:=aJ hh;cases y with
 |c _=>cases hh
 |t _=>cases hh
 |f _=>cases hh
 |g _=>cases hh
 |d y=>
  cases hh;refine a _ _ _ _ h1 W H σ _ G R fun v W1 H1 e1 G1 r1=>?_;refine⟨by show 2<=sizeLine;decide,fun p hp=>?_⟩;obtain⟨e2,G2⟩:=G1.lay (o:=.tup [.ty T,.ty U]) hp;refine⟨v,p,[T,U],y,rfl,aV,fun S hS=>?_,Rep.same (e2.ff.trans G2.fh) _ _ r1,?_⟩
  .rcases List.mem_cons.mp hS with rfl|hS
   .exact hT
   .rw[List.mem_singleton.mp hS];exact hU
  .have e:([T,U].any fun T=>BR T y)=(BR T y || BR U y):=by simp
   rw[e];exact k _ _ _ (e1.trans e2) G2 rfl
noncomputable def aEb(M:Sto):CD->Option Bool
 |.d .none=>some false
 |.d (.bool b)=>some b
 |.d (.int i)=>some (i != 0)
 |.d (.list ds)=>some (!ds.isEmpty)
 |.d (.tuple ds)=>some (!ds.isEmpty)
 |.c i=>match M[i]? with
  |some (.lst xs)=>some (!xs.isEmpty)
  |some (.dk kvs)=>some (!kvs.isEmpty)
  |_=>none
 |_=>none
noncomputable def CB(f:EF):TF:=fun γ M=>(f γ M).bind fun r=>(aEb r.2 r.1).bind fun b=>some (b,r.2)
theorem lW{α β:Type}{xs:List α}{ys:List β}(h:xs.length=ys.length):xs.isEmpty=ys.isEmpty:=by
 cases xs<;>cases ys<;>simp at h ⊢
theorem aGF{ta:TE}{f:EF}(a:SE K ta f):STt K (fun σ H Q=>ta σ H fun x H'=>∃k,aAS K x H' k/\Q k H') (CB f):=by
 intro γ M b M' hh W H σ Q G R k;obtain⟨⟨y,M1⟩,h1,hh⟩:=aJ hh;obtain⟨b1,h2,hh⟩:=aJ hh;cases hh;refine a _ _ _ _ h1 W H σ _ G R fun v W1 H1 e1 G1 r1=>⟨_,?_,k W1 H1 e1 G1⟩;cases y with
 |d y=>
  cases y with
  |none=>cases h2;rw[show v=.non from r1];rfl
  |bool c=>cases h2;rw[show v=.bl _ from r1];rfl
  |int i=>cases h2;rw[show v=.int _ from r1];rfl
  |str x=>cases h2
  |list ds=>
   cases h2;obtain⟨p,us,rfl,hq,hr⟩:=(show ∃a us,_=V.ref a/\SqL K W1.F a us/\aL K W1.F ds us from r1);exact .inl ⟨us,G1.fh.seq hq,by rw[lW hr.length]⟩
  |tuple ds=>
   cases h2;obtain⟨p,us,rfl,hq,hr⟩:=(show ∃a us,_=V.ref a/\SqT K W1.F a us/\aL K W1.F ds us from r1);exact .inr (.inl ⟨us,G1.fh.seqT hq,by rw[lW hr.length]⟩)
  |dict kvs=>cases h2
 |t _=>cases h2
 |f _=>cases h2
 |g _=>cases h2
 |c i=>
  rw[r1.2];unfold aEb at h2;dsimp only at h2;split at h2
  .rename_i xs hx;cases h2;obtain⟨us,hv,hr⟩:=G1.lstAt hx;exact .inl ⟨us,SqL.of hv,by rw[lW (Paired.len hr)]⟩
  .rename_i kvs hx;cases h2;obtain⟨_,o,g2,g3⟩:=G1.cs i _ hx (by intro z;cases z);cases o with
   |dK us=>exact .inr (.inr ⟨us,g2,by rw[lW (Paired.len g3)]⟩)
   |_=>exact False.elim g3
  .cases h2
noncomputable def boolsOf:List PyData->Option (List Bool)
 |[]=>some []
 |.bool b::r=>(boolsOf r).bind fun bs=>some (b::bs)
 |_::_=>none
noncomputable def xM:FN:=fun xs M=>match xs with
 |[.d (.list ds)]=>(boolsOf ds).bind fun bs=>some (.d (.bool (bs.all id)),M)
 |_=>none
theorem DV{H:Hp}:∀{ds:List PyData}{bs:List Bool}{vs:List V},boolsOf ds=some bs->aL K H ds vs->vs=bs.map V.bl
 |[],bs,vs=>fun e h=>by cases e;exact h
 |.bool b::r,bs,vs=>fun e h=>by
  obtain⟨cs,h1,e⟩:=aJ (show(boolsOf r).bind _=_ from e);cases e;obtain⟨v,us,rfl,h2,h3⟩:=h;rw[show v=V.bl b from h2,DV h1 h3];rfl
 |.none::_,_,_=>fun e _=>by cases e
 |.int _::_,_,_=>fun e _=>by cases e
 |.str _::_,_,_=>fun e _=>by cases e
 |.list _::_,_,_=>fun e _=>by cases e
 |.tuple _::_,_,_=>fun e _=>by cases e
 |.dict _::_,_,_=>fun e _=>by cases e
theorem TK(hc:X.calm=true):eI X (.builtin "all") (fun xs H Q=>∃(p:Addr)(bs:List Bool),xs=[.ref p]/\SqL X.K H p (bs.map V.bl)/\Q (.bl (bs.all id)) H):=by
 intro pins s σ H xs us Q I r h;obtain⟨p,bs,rfl,hp,q⟩:=h;obtain⟨u,rfl,ru⟩:=vals1 r;cases (show u=Value.ref p from ru);obtain⟨its,rv,pl,hz⟩:=I.list hp;have hits:=bF.bools rv;subst hits;refine call_all_walk (wpAny_pyIter_list pl.isList ?_);have hlt:p<s.heap.objs.size:=pl.lt;refine⟨_,_,_,_,_,_,(fun i=>bs.getD i false),rfl,Walks.list (A:=X.A.in1) (I.ok.hd hc) s.heap.objs.size p (B5 hlt) (bs.map Value.bool).toArray,⟨⟨_,B3 _ rfl,rfl,rfl⟩,pl.isList.at fun o e=>A3 _ e⟩,JP,fun h' tk hk=>?_⟩;have e1:((bs.map Value.bool).toArray).size=bs.length:=by simp
 rw[e1,all_range];refine⟨.bl _,H,I.kept (h':=h') (t':=tk) fun b o e=>?_,rfl,q⟩;exact hk b o (fun z=>by rw[List.mem_singleton]at z;exact absurd (A9 e) (by rw[z];exact J3 _)) (A3 _ e)
theorem aFS:PN K (fun xs H Q=>∃(p:Addr)(bs:List Bool),xs=[.ref p]/\SqL K H p (bs.map V.bl)/\Q (.bl (bs.all id)) H) xM:=by
 intro xs M z M' h W H vs Q G r k;unfold xM at h;split at h
 .rename_i ds;obtain⟨bs,h1,h⟩:=aJ h;cases h;rcases r with _|⟨r1,_|_⟩;obtain⟨p,us,rfl,hq,hr⟩:=(show ∃a us,_=V.ref a/\SqL K W.F a us/\aL K W.F ds us from r1);have e:=DV h1 hr;subst e;exact⟨p,bs,rfl,G.fh.seq hq,k _ W H (.refl _) G rfl⟩
 .cases h
noncomputable def GY:F3:=fun x y z M=>match x,y with
 |.c i,.d (.int k)=>match M[i]? with
  |some (.lst xs)=>(ixN xs.length k).bind fun j=>some (M.set i (.lst (xs.set j z)))
  |_=>none
 |_,_=>none
theorem aFA:P3 K aEJ GY:=by
 intro x y z M M' h W H v u w Q G rx ry rz k;unfold GY at h;split at h
 .rename_i i n;split at h
  .rename_i xs hx;obtain⟨j,h1,h⟩:=aJ h;cases h;obtain⟨us,hv,hr⟩:=G.lstAt hx;refine⟨W.α i,us,n,j,rx.2,ry,hv,by rw[<- Paired.len hr];exact h1,?_⟩;exact k W _ (.refl _) (G.set hx (by intro q;cases q) (c':=.lst (xs.set j z)) (show bY K W _ _ from Paired.set (R:=cD K W) rz j hr))
  .cases h
 .cases h
end
section
variable{X:Cx}{K:Fg}
noncomputable def XW(K:Fg):R2:=fun x y H Q=>∃l b xs zs,x=.ref l/\y=.ref b/\SqL K H l xs/\SqL K H b zs/\xs.length+zs.length<=sizeLine/\∀p,H p=none->Q (.ref p) (upd H p (.lst (xs++zs)))
theorem op_catS:OpR X (binaryOp .Add) (XW X.K):=by
 intro pins s σ H x y v u Q I rx ry h;obtain⟨l,b,xs,zs,rfl,rfl,hH,hB,hz,q⟩:=h;cases rx;cases ry;obtain⟨its,r,⟨⟨cls,dd,data,sl⟩,n,ho,hc,hdd,hd⟩,_⟩:=I.list hH;obtain⟨its2,r2,⟨⟨cls2,dd2,data2,sl2⟩,n2,ho2,hc2,hdd2,hd2⟩,_⟩:=I.list hB;simp only at hc hd hc2 hd2;subst hc hd hc2 hd2;have e1:=r.length;have e2:=r2.length;refine concat_meets ⟨_,ho,rfl⟩ ⟨_,ho2,rfl⟩ noFill_list_add seq_list_add PySem.F.slot_list_add PySem.F.entry_list_add (PySem.F.args_list_add_2 _ _) (list_addW l b its.toArray its2.toArray n n2 dd dd2 sl sl2 (by rw[C2,C2];omega)) ⟨ho,ho2,?_⟩;have ea:its.toArray++its2.toArray=(its++its2).toArray:=by simp
 rw[ea];exact⟨.ref _,_,I.lnew (t':=s.toks) (r.append r2) (by rw[C0];omega),rfl,q _ I.fresh⟩
noncomputable def QF(M:Sto):CD->Option (List CD)
 |.d (.list ds)=>some (ds.map .d)
 |.c i=>match M[i]? with
  |some (.lst xs)=>some xs
  |_=>none
 |_=>none
theorem EG{x:CD}{xs:List CD}{v:V}(G:Good K W M H)(h:QF M x=some xs)(r:cD K W x v):∃p vs,v=.ref p/\SqL K H p vs/\bY K W xs vs:=by
 unfold QF at h;split at h
 .rename_i ds;cases h;obtain⟨p,us,rfl,hq,hr⟩:=(show ∃a us,_=V.ref a/\SqL K W.F a us/\aL K W.F ds us from r);exact⟨p,us,rfl,G.fh.seq hq,kM hr⟩
 .rename_i i;split at h
  .rename_i ys hy;cases h;obtain⟨us,hv,hr⟩:=G.lstAt hy;exact⟨_,us,r.2,SqL.of hv,hr⟩
  .cases h
 .cases h
noncomputable def aFH:F2:=fun x y M=>(QF M x).bind fun xs=>(QF M y).bind fun ys=>(kU (xs++ys)).bind fun ds=>if ds.length<=sizeLine then some (.d (.list ds),M)else none
theorem aCL:P2 K (XW K) aFH:=by
 intro x y M z M' h W H v u Q G rx ry k;obtain⟨xs,h1,h⟩:=aJ h;obtain⟨ys,h2,h⟩:=aJ h;obtain⟨ds,h3,h⟩:=aJ h;by_cases hl:ds.length<=sizeLine
 .rw[A4 hl]at h;cases h;obtain⟨p,vs,rfl,hp,hr⟩:=EG G h1 rx;obtain⟨q,us,rfl,hq,hs⟩:=EG G h2 ry;have el:=KI h3;rw[C0]at el;refine⟨p,q,vs,us,rfl,rfl,hp,hq,by rw[<- Paired.len hr,<- Paired.len hs];omega,fun l hl=>?_⟩;obtain⟨e2,G2⟩:=G.lay (o:=.lst (vs++us)) hl;exact k _ _ _ e2 G2 ⟨l,_,rfl,SqL.of aV,aL.same e2.ff _ _ (eW h3 (Paired.app hr hs))⟩
 .rw[A5 hl]at h;cases h
noncomputable def aGo:F2:=fun x y M=>match x,y with
 |.d (.tuple xs),.d (.tuple ys)=>if xs≠[]/\xs.length+ys.length<=sizeLine then some (.d (.tuple (xs++ys)),M)else none
 |_,_=>none
theorem aL.nil_iff{ds:List PyData}{vs:List V}(r:aL K H ds vs):vs=[]↔ds=[]:=by
 have:=r.length;constructor<;>intro h<;>subst h<;>simp at this
 .exact this
 .exact List.eq_nil_of_length_eq_zero this.symm
theorem aBR:P2 K (VV K) aGo:=by
 intro x y M z M' h W H v u Q G rx ry k;unfold aGo at h;split at h
 .rename_i xs ys;by_cases hc:xs≠[]/\xs.length+ys.length<=sizeLine
  .rw[A4 hc]at h;cases h;obtain⟨p,vs,rfl,hp,hr⟩:=(show ∃a us,v=V.ref a/\SqT K W.F a us/\aL K W.F xs us from rx);obtain⟨q,us,rfl,hq,hs⟩:=(show ∃a us,u=V.ref a/\SqT K W.F a us/\aL K W.F ys us from ry);refine⟨p,q,vs,us,rfl,rfl,G.fh.seqT hp,G.fh.seqT hq,fun z=>hc.1 (hr.nil_iff.mp z),by rw[<- hr.length,<- hs.length];exact hc.2,fun z=>?_,fun z l hl=>?_⟩
   .have:ys=[]:=hs.nil_iff.mp z;subst this;rw[C3]at k;exact k _ W H (.refl _) G ⟨p,vs,rfl,hp,hr⟩
   .obtain⟨e2,G2⟩:=G.lay (o:=.tup (vs++us)) hl;exact k _ _ _ e2 G2 ⟨l,_,rfl,SqT.of aV,aL.same e2.ff _ _ (aL.app hr hs)⟩
  .rw[A5 hc]at h;cases h
 .cases h
theorem P2.or{r r':R2}{h h':F2}(a:P2 K r h)(b:P2 K r' h'):P2 K (fun x y H Q=>r x y H Q\/r' x y H Q) (zO h h'):=by
 intro x y M z M' hh W H v u Q G rv ru k;unfold zO at hh;cases e:h x y M with
 |some q=>
  rw[e]at hh;cases hh;exact .inl (a _ _ _ _ _ e W H v u Q G rv ru k)
 |none=>
  rw[e]at hh;exact .inr (b _ _ _ _ _ hh W H v u Q G rv ru k)
noncomputable def NP(K:Fg):R2:=fun x y H Q=>∃a b ys,x=.ref a/\y=.ref b/\SqT K H a []/\SqT K H b ys/\Q (.ref b) H
theorem op_catT0:OpR X (binaryOp .Add) (NP X.K):=by
 intro pins s σ H x y v u Q I rx ry h;obtain⟨a,b,ys,rfl,rfl,ha,hb,q⟩:=h;cases rx;cases ry;obtain⟨its,r1,⟨⟨cls,dd,data,sl⟩,ho,hc,n,hd⟩,_⟩:=I.tuple ha;obtain⟨its2,r2,⟨⟨cls2,dd2,data2,sl2⟩,ho2,hc2,n2,hd2⟩,_⟩:=I.tuple hb;simp only at hc hd hc2 hd2;subst hc hd hc2 hd2;cases r1;exact concat_meets ⟨_,ho,rfl⟩ ⟨_,ho2,rfl⟩ noFill_tuple_add seq_tuple_add PySem.F.slot_tuple_add PySem.F.entry_tuple_add (PySem.F.args_tuple_add_2 _ _) (tuple_addW0 a b #[] its2.toArray n n2 dd dd2 sl sl2 rfl) ⟨ho,ho2,⟨.ref b,H,I,rfl,q⟩⟩
noncomputable def aBx:F2:=fun x y M=>match x,y with
 |.d (.tuple []),.d (.tuple ys)=>some (.d (.tuple ys),M)
 |_,_=>none
theorem aBg:P2 K (NP K) aBx:=by
 intro x y M z M' h W H v u Q G rx ry k;unfold aBx at h;split at h
 .rename_i ys;cases h;obtain⟨p,vs,rfl,hp,hr⟩:=(show ∃a us,v=V.ref a/\SqT K W.F a us/\aL K W.F [] us from rx);obtain⟨q,us,rfl,hq,hs⟩:=(show ∃a us,u=V.ref a/\SqT K W.F a us/\aL K W.F ys us from ry);rw[show vs=[]from hr]at hp;exact⟨p,q,us,rfl,rfl,G.fh.seqT hp,G.fh.seqT hq,k _ W H (.refl _) G ⟨q,us,rfl,hq,hs⟩⟩
 .cases h
noncomputable def dX:F2:=zO aGC (zO aFH (zO aBx aGo))
noncomputable def aAb(K:Fg):R2:=fun x y H Q=>(rI0 fun i j=>.int (i+j)) x y H Q\/XW K x y H Q\/NP K x y H Q\/VV K x y H Q
theorem aCy:OpR X (binaryOp .Add) (aAb X.K):=op_add.or (op_catS.or (op_catT0.or aDR))
theorem OW:P2 K (aAb K) dX:=P2.or aEw (P2.or aCL (P2.or aBg aBR))
noncomputable def eqS(neg:Bool):F2:=fun x y M=>match x,y with
 |.d (.str a),.d (.str b)=>some (.d (.bool (if neg then !(a==b)else a==b)),M)
 |_,_=>none
noncomputable def eqX(neg:Bool):F2:=zO (eqS neg) (eqD neg)
noncomputable def aGM(K:Fg):R2:=fun x y H Q=>rEq x y H Q\/MC K false x y H Q
noncomputable def aFi(K:Fg):R2:=fun x y H Q=>rNe x y H Q\/MC K true x y H Q
theorem ZF{a b:Str}:decide (V.str a=V.str b)=(a==b):=by
 by_cases e:a=b
 .subst e;simp
 .have h:¬V.str a=V.str b:=fun q=>e (V.str.inj q);rw[C7 h,beq_eq_false_iff_ne.mpr e]
theorem aGt:P2 K rEq (eqS false):=by
 intro x y M z M' h W H v u Q G rx ry k;unfold eqS at h;split at h
 .rename_i a b;cases h;rw[show v=.str a from rx,show u=.str b from ry];refine⟨rfl,?_⟩;rw[ZF];exact k _ W H (.refl _) G rfl
 .cases h
theorem aHO:P2 K rNe (eqS true):=by
 intro x y M z M' h W H v u Q G rx ry k;unfold eqS at h;split at h
 .rename_i a b;cases h;rw[show v=.str a from rx,show u=.str b from ry];refine⟨rfl,?_⟩;rw[ZF];exact k _ W H (.refl _) G rfl
 .cases h
theorem aBo:P2 K (aGM K) (eqX false):=P2.or aGt aEQ
theorem aIb:P2 K (aFi K) (eqX true):=P2.or aHO aEQ
theorem aHq(hu:X.A.units+64<cLine):OpR X (compareOp .Eq) (aGM X.K):=op_eq.or (aAV hu)
theorem aGr(hu:X.A.units+64<cLine):OpR X (compareOp .NotEq) (aFi X.K):=op_ne.or (aFK hu)
theorem aHj:P2 K (rI0 fun i j=>.int (i-j)) vS:=aEw
theorem aHS:P2 K (rI KQ fun i j=>.int (i*j)) AY:=aCJ fun _ _ h=>mulOk_of h
theorem aCu:P2 K (rI aEN fun i j=>.int (i / j)) bS:=aCJ fun i j h=>by
 unfold wI at h;rw[B8]at h;exact⟨D4 h.1,D4 (p:=j.natAbs<wY) h.2⟩
theorem aGy:P2 K (rI (fun _ j=>0<j) fun i j=>.int (i % j)) bC:=aCJ fun i j h=>D4 h
theorem aFN:P2 K (rI aIw fun i j=>.int (i ^ j.toNat)) uR:=aCJ fun i j h=>by
 unfold aEF at h;rw[B8,B8]at h;exact⟨D4 h.1.1,D4 h.1.2,D4 h.2⟩
theorem aIW:P2 K (rI0 fun i j=>.bl (decide (i<j))) ltI:=RI
theorem aJv:P2 K (rI0 fun i j=>.bl (decide (i<=j))) leI:=RI
theorem aJo:P2 K (rI0 fun i j=>.bl (decide (j<i))) gtI:=RI
theorem aJc:P2 K (rI0 fun i j=>.bl (decide (j<=i))) geI:=RI
noncomputable def ZH:F1:=fun x M=>match x with
 |.d (.int i)=>some (.d (.int (-i)),M)
 |_=>none
theorem aHD:P1 K (rU fun i=>.int (-i)) ZH:=by
 intro x M z M' h W H v Q G r k;unfold ZH at h;split at h
 .rename_i i;cases h;exact⟨i,r,k _ W H (.refl _) G rfl⟩
 .cases h
end
section
variable{X:Cx}{K:Fg}
theorem aKo(h:X.K=K):eI X (.builtin "isinstance") (aHI K):=by subst h;exact UR
theorem aIM(h:X.K=K):eI X (.builtin "isinstance") (ZG K):=by subst h;exact OU
noncomputable def aIx(K:Fg):R2:=rIx K
theorem kIx(h:X.K=K):IxR X (aIx K):=by subst h;exact aFF
theorem aGj:P2 K (aIx K) ixF:=aJC
noncomputable def aFa(K:Fg):List V->Hp->VK->Prop:=fun xs H Q=>∃p ys,xs=[.ref p]/\(SqL K H p ys\/SqT K H p ys)/\Q (.int ys.length) H
theorem aKe(h:X.K=K):eI X (.builtin "len") (aFa K):=by subst h;exact GA
theorem aCz:PN K (aFa K) iS:=aGP
noncomputable def LQ(K:Fg):List V->Hp->VK->Prop:=fun xs H Q=>∃p ys,xs=[.ref p]/\(SqL K H p ys\/SqT K H p ys)/\∀l,H l=none->Q (.ref l) (upd H l (.lst ys))
theorem aEr(h:X.K=K):eI X (.type "list") (LQ K):=by subst h;exact FJ
theorem ZY:PN K (LQ K) zD:=aDG
noncomputable def RD(K:Fg):List V->Hp->VK->Prop:=fun xs H Q=>∃p ys,xs=[.ref p]/\((SqL K H p ys/\∀l,H l=none->Q (.ref l) (upd H l (.tup ys)))\/(SqT K H p ys/\Q (.ref p) H))
theorem aFx(h:X.K=K):eI X (.type "tuple") (RD K):=by subst h;exact CH
theorem TH:PN K (RD K) eC:=WX
noncomputable def aEV(K:Fg):List V->Hp->VK->Prop:=fun xs H Q=>∃(p:Addr)(bs:List Bool),xs=[.ref p]/\SqL K H p (bs.map V.bl)/\Q (.bl (bs.all id)) H
theorem aKj(h:X.K=K)(hc:X.calm=true):eI X (.builtin "all") (aEV K):=by subst h;exact TK hc
theorem aCZ:PN K (aEV K) xM:=aFS
theorem kEq(h:X.K=K)(hu:X.A.units+64<cLine):OpR X (compareOp .Eq) (aGM K):=by subst h;exact aHq hu
theorem kNe(h:X.K=K)(hu:X.A.units+64<cLine):OpR X (compareOp .NotEq) (aFi K):=by subst h;exact aGr hu
theorem kIn(h:X.K=K)(hu:X.A.in1.units+64<cLine):OpR X (compareOp .In) (aFX K false):=by subst h;exact aFR hu
theorem aIn(h:X.K=K):OpR X (binaryOp .Add) (aAb K):=by subst h;exact aCy
theorem aDB{tg l:Expr}{tl:TE}(h:X.K=K)(hl:PE X l tl):PI X tg l (aHa K tl):=by subst h;exact aGs hl
theorem aDx{es:List Expr}{k:Nat}{t:TGs}{n:Nat}{pos:Pos}(hK:X.K=K)(hc:X.calm=true)(h:PGs X es t)
 (hn:(assignEach es X.env).length=n:=by rfl) (hst:(assignEach es X.env).findIdx? (·.1)=none:=by rfl):PG X (.Tuple es k pos) (aHR K n t):=by subst hK;exact aIh hc h hn hst
noncomputable def aJU(K:Fg)(ta:TE):TT:=fun σ H Q=>ta σ H fun x H'=>∃k,aAS K x H' k/\Q k H'
theorem PH{a:Expr}{ta:TE}(hK:X.K=K)(ha:PE X a ta)(he:∀whole,isTrue a X.env whole=(do let v <- whole;standAt a.pos;holding [v] (truthy v))):PT X a (aJU K ta):=by subst hK;exact YK ha he
theorem aDX{ta:TE}{f:EF}(a:SE K ta f):STt K (aJU K ta) (CB f):=aGF a
end
section
variable{es:List Expr}{env:Env}
theorem cR{a b}:starEach (.Name a b::es) env=(false,eval (.Name a b) env)::starEach es env:=rfl
theorem AM{a b c}:starEach (.Tuple a b c::es) env=(false,eval (.Tuple a b c) env)::starEach es env:=rfl
theorem BO{a b c}:starEach (.Attribute a b c::es) env=(false,eval (.Attribute a b c) env)::starEach es env:=rfl
theorem uU{pos:Pos}:(backTo pos (starEach [] env)).any (·.1)=false:=rfl
theorem nZ{pos:Pos}{e:Expr}(hs:starEach (e::es) env=(false,eval e env)::starEach es env)(h:(backTo pos (starEach es env)).any (·.1)=false):(backTo pos (starEach (e::es) env)).any (·.1)=false:=by
 rw[hs];have e1:backTo pos ((false,eval e env)::starEach es env)=(false,(do let v <- eval e env;standAt pos;pure v:Sem Value))::backTo pos (starEach es env)\/(backTo pos ((false,eval e env)::starEach es env)).any (·.1)=(backTo pos (starEach es env)).any (·.1):=.inr (by unfold backTo;simp);rcases e1 with q|q
 .rw[q,L6,h];rfl
 .rw[q];exact h
end
section
variable{P:Program}{w:World}{K:Fg}{mg:Str->Option Value}
theorem Fun.okM{base:Heap}{x:Str}{st:Stmt}{N ps:List Str}{k:Nat}{b:SF}{f:Addr}{fd:FuncData}(F:Fun K x x st f fd)(S:aS N ps (aF st))
 (hbody:∀(f:Addr)(cdv:Value)(A:Around)(outer:List Env)(s:Shared)(H:Hp)(E:XK),cG k (A.deeper (envOfC x (aF st) s.heap.objs.size f cdv))->
  ∃t,PSs (mE CX0 P w K mg base N x (aF st) f cdv A outer s H E).nox (bR st) t/\SS K t b):gY P w K mg base CX0 (k+1) f fd ps (spM K (fnF ps.length N.length b)):=by
 have len:∀vs H Q E,spM K (fnF ps.length N.length b) vs H Q E->vs.length=ps.length:=fun vs H Q E h=>by
  obtain⟨xs,M,W,y,M',G,R,hf,_⟩:=h;by_cases hl:xs.length=ps.length
  .rw[<- Paired.len R];exact hl
  .unfold fnF at hf;rw[A5 hl]at hf;cases hf
 refine F.ok S len fun cdv A outer s H vs Q E hr h=>?_;obtain⟨t,hP,hS⟩:=hbody f cdv A outer s H E hr;refine⟨t,hP,?_⟩;obtain⟨xs,M,W,y,M',G,R,hf,k⟩:=h;by_cases hl:xs.length=ps.length
 .unfold fnF at hf;rw[A4 hl]at hf;obtain⟨⟨o,M1⟩,h1,hf⟩:=aJ hf
  have hR:cL K W (xs.map some++List.replicate (N.length-xs.length) none) (start N vs):=by
   unfold start;rw[<- Paired.len R];exact Paired.app (bY.some R) (qP _)
  refine hS _ _ _ _ h1 W H _ _ G hR fun W1 H1 e1 G1=>?_;cases o with
  |rt x=>cases hf;exact fun v r=>k v W1 H1 e1 G1 r
  |nx γ=>cases hf;exact fun σ r=>k .non W1 H1 e1 G1 rfl
  |bk γ=>cases hf
  |ct γ=>cases hf
 .unfold fnF at hf;rw[A5 hl]at hf;cases hf
theorem Def.okL{x p:Str}{st:Stmt}{N:List Str}{k:Nat}{b:SF}{F:FN}(D:Def K mg x st)(S:aS N [p] (aF st))(hF:F=fnF 1 N.length b)
 (hb:∀(kV doc pm:Value)(an:Option Addr)(cdv ct:Value)(us:List Value),us.length=[p].length->bindArgs (PySem.W.fnOf x x (dG st) (bR st) (aF st) .none kV doc pm an cdv ct) ⟨us,[]⟩=pure ([p].zip us))
 (hbody:∀(base:Heap)(f:Addr)(cdv:Value)(A:Around)(outer:List Env)(s:Shared)(H:Hp)(E:XK),cG k (A.deeper (envOfC x (aF st) s.heap.objs.size f cdv))->
  ∃t,PSs (mE CX0 P w K mg base N x (aF st) f cdv A outer s H E).nox (bR st) t/\SS K t b):
 ∃f fd,mg x=some (.ref f)/\(∀(s:Shared)(u:Value),BindsTo s fd ⟨[u],[]⟩ [(p,u)])/\∀base,gY P w K mg base CX0 (k+1) f fd [p] (spM K F):=by
 subst hF;obtain⟨f,fd,Fu,m⟩:=D.ex;refine⟨f,fd,m,fun s u=>?_,fun base=>Fu.okM S (hbody base)⟩;obtain⟨oc,od,kV,doc,pm,an,cdv,ct,osl,rfl,lk,hcd⟩:=Fu.ex;exact .of_eq (hb kV doc pm an cdv ct [u] rfl)
theorem LN{H:Hp}:∀ns:List Int,aL K H (ns.map .int) (ns.map V.int)
 |[]=>rfl
 |n::ns=>⟨.int n,ns.map V.int,rfl,rfl,LN ns⟩
theorem aHX{F:FN}(hF:∀ns:List Int,ns.length<=63->∃M',F [.d (.list (ns.map .int))] []=some (.d (.bool true),M')){a:Addr}{ns:List Int}(hl:ns.length<=63)(hS:SqL K H a (ns.map V.int))(E:XK):
 spM K F [.ref a] H (fun v _=>v=.bl true) E:=by
 obtain⟨M',h⟩:=hF ns hl;refine⟨[.d (.list (ns.map .int))],[],⟨H,fun _=>0,0⟩,_,M',⟨iR.refl H,rfl,fun i c h=>by simp at h,fun i j c c' h=>by simp at h⟩,.cons (show ∃a' vs,V.ref a=.ref a'/\SqL K H a' vs/\aL K H (ns.map .int) vs from⟨a,ns.map V.int,rfl,hS,LN ns⟩) .nil,h,fun v W' H' _ _ r=>r⟩
theorem law_walk{l:PySem.W.OpenLaw}{q:Program}{loose:List Str}{XP:(Str->Option Value)->Heap->Prop}{YP:World->Heap->Prop}{d:DefRec}{K:Params->Fg}{F:FN}{k:Nat}{p:Str}(hq:PyProof.Rows.importsNone q=true)(hn:l.most=some 63)(hdf:d.params.defaults=[])(hr:cG k callerA)
 (hY:∀(w:World)(h:Heap),YP w h->(K w.params).In h)
 (hT:∀(w:World)(mg:Str->Option Value)(h:Heap),(K w.params).In h->h.Ns mainGlobals mg->∃f fd,mg d.name=some (.ref f)/\(∀(s:Shared)(u:Value),BindsTo s fd ⟨[u],[]⟩ [(p,u)])/\∀base,gY l.prog w (K w.params) mg base CX0 k f fd [p] (spM (K w.params) F))
 (hF:∀ns:List Int,ns.length<=63->∃M',F [.d (.list (ns.map .int))] []=some (.d (.bool true),M')):
 PySem.W.WalkO q loose XP YP l.row.toRowW d [] (fun f vs=>PySem.call f vs):=
 L2.walk_of hq (n:=63) (k:=k) (x:=p) (CX:=fun _=>CX0) (sp:=fun w=>spM (K w.params) F) hn (by decide) hdf hr hY
  (fun w mg fa h KX G hmg=>by
   obtain⟨f,fd,m,hb,hf⟩:=hT w mg h KX G;have e:(some (Value.ref f))=some (.ref fa):=m.symm.trans hmg;cases e;exact⟨fd,hb,fun base _ _=>hf base⟩)
  (fun w H a ns hl _ hS=>aHX hF hl hS _) fun _ _ _ _ _ z=>z
end
noncomputable def aAt(e:Expr)(es:List Expr):Prop:=∀env:Env,starEach (e::es) env=(false,eval e env)::starEach es env
noncomputable def KC:List Expr->Prop
 |[]=>True
 |e::es=>aAt e es/\KC es
theorem KC.plain:∀{es:List Expr},KC es->∀(env:Env)(pos:Pos),(backTo pos (starEach es env)).any (·.1)=false
 |[]=>fun _ _ _=>rfl
 |_::_=>fun h env pos=>nZ (h.1 env) (h.2.plain env pos)
section
variable{ι:Type}
structure ME(K:Fg)(X:ι->Cx)(e:Expr)(f:EF):Prop where
 ex:∃t,(∀i,PE (X i) e t)/\SE K t f
structure MT(K:Fg)(X:ι->Cx)(e:Expr)(f:TF):Prop where
 ex:∃t,(∀i,PT (X i) e t)/\STt K t f
structure MW(K:Fg)(X:ι->Cx)(e:Expr)(f:TF):Prop where
 ex:∃t,(∀i,PW (X i) e t)/\STt K t f
structure MA(K:Fg)(X:ι->Cx)(es:List Expr)(f:AF):Prop where
 ex:∃t,(∀i,PA (X i) es t)/\SA K t f
 st:KC es
structure MG(K:Fg)(X:ι->Cx)(e:Expr)(f:GF):Prop where
 ex:∃t,(∀i,PG (X i) e t)/\SG K t f
structure MGs(K:Fg)(X:ι->Cx)(es:List Expr)(f:GsF):Prop where
 ex:∃t,(∀i,PGs (X i) es t)/\SGs K t f
structure MI(K:Fg)(X:ι->Cx)(tg e:Expr)(f:AF):Prop where
 ex:∃t,(∀i,PI (X i) tg e t)/\SI K t f
structure MF(K:Fg)(X:ι->Cx)(es:List Expr)(f:TF):Prop where
 ex:∃t,(∀i,KP (X i) es t)/\STt K t f
structure MS(K:Fg)(X:ι->Cx)(st:Stmt)(f:SF):Prop where
 ex:∃t,(∀i,PS (X i) st t)/\SS K t f
structure ML(K:Fg)(X:ι->Cx)(st:List Stmt)(f:SF):Prop where
 ex:∃t,(∀i,PSs (X i) st t)/\SS K t f
structure Q2(K:Fg)(X:ι->Cx)(o:Value->Value->Sem Value)(h:F2):Prop where
 ex:∃r,(∀i,OpR (X i) o r)/\P2 K r h
structure Q1(K:Fg)(X:ι->Cx)(o:Value->Sem Value)(h:F1):Prop where
 ex:∃r,(∀i,UnR (X i) o r)/\P1 K r h
structure QN(K:Fg)(X:ι->Cx)(f:Value)(h:FN):Prop where
 ex:∃r,(∀i,eI (X i) f r)/\PN K r h
structure QI(K:Fg)(X:ι->Cx)(h:F2):Prop where
 ex:∃r,(∀i,IxR (X i) r)/\P2 K r h
structure QS(K:Fg)(X:ι->Cx)(h:F3):Prop where
 ex:∃r,(∀i,aGp (X i) r)/\P3 K r h
variable{K:Fg}{X:ι->Cx}{a b c e:Expr}{es:List Expr}{f g h:EF}{ft gt:TF}{fa:AF}{pos:Pos}
theorem aC(i:Nat){x:Str}(hN:∀j,(X j).N[i]?=some x:=by intro _;rfl)(hv:∀j,Vis (X j).env.scope x:=by intro _;first|exact Or.inl rfl|exact Or.inr (Or.inl rfl)|exact Or.inr (Or.inr rfl))(hd:(x==("__debug__":Str))=false:=by decide)(hcd:(x==("__classdict__":Str))=false:=by decide):
 ME K X (.Name x pos) (aD i):=⟨_,fun j=>aHL (hN j) (hv j) hd hcd,aGv⟩
theorem aE{i:Int}{j:Nat}:ME K X (.Constant (.int i) j pos) (fC (.int i)):=⟨_,fun _=>aFv,aAC⟩
theorem CO{i:Bool}{j:Nat}:ME K X (.Constant (.bool i) j pos) (fC (.bool i)):=⟨_,fun _=>aIL,aJt⟩
theorem fP{j:Nat}:ME K X (.Constant .none j pos) (fC .none):=⟨_,fun _=>aIf,aGh⟩
theorem bT{i:Str}{j:Nat}:ME K X (.Constant (.str i) j pos) (fC (.str i)):=⟨_,fun _=>aHw,ZU⟩
theorem kJ{x:Str}{n:Int}(hm:∀i,∃t:Tok,(X i).mg x=some (.int n t))(hg:∀i,Gl (X i) x:=by intro _;rfl)(hd:(x==("__debug__":Str))=false:=by decide):ME K X (.Name x pos) (fC (.int n)):=
 ⟨_,fun i=>HA (v:=.int n) (hg i) (hm i).choose_spec ⟨_,rfl⟩ hd,aAC⟩
theorem aR{op:Operator}{k:F2}(q:Q2 K X (binaryOp op) k)(x:ME K X a f)(y:ME K X b g):ME K X (.BinOp a op b pos) (fOp k f g):=by
 obtain⟨r,q1,q2⟩:=q.ex;obtain⟨t,x1,x2⟩:=x.ex;obtain⟨u,y1,y2⟩:=y.ex;exact⟨_,fun i=>aIT (q1 i) (x1 i) (y1 i),QW q2 x2 y2⟩
theorem aIA{op:UnaryOp}{k:F1}(q:Q1 K X (unaryOp op) k)(x:ME K X a f):ME K X (.UnaryOp op a pos) (fUn k f):=by
 obtain⟨r,q1,q2⟩:=q.ex;obtain⟨t,x1,x2⟩:=x.ex;exact⟨_,fun i=>aJP (q1 i) (x1 i),aIE q2 x2⟩
theorem eY{rest:List Expr}(x:ME K X a f)(y:ME K X (.BoolOp .And (b::rest) pos) g):ME K X (.BoolOp .And (a::b::rest) pos) (kT f g):=by
 obtain⟨t,x1,x2⟩:=x.ex;obtain⟨u,y1,y2⟩:=y.ex;exact⟨_,fun i=>aGQ (x1 i) (y1 i),aGm x2 y2⟩
theorem iY{op:BoolOp}(x:ME K X a f):ME K X (.BoolOp op [a] pos) f:=by
 obtain⟨t,x1,x2⟩:=x.ex;exact⟨_,fun i=>aGl (x1 i),x2⟩
theorem XB(x:ME K X a f):ME K X (.UnaryOp .Not a pos) (ZN f):=by
 obtain⟨t,x1,x2⟩:=x.ex;exact⟨_,fun i=>aGR (x1 i),aGO x2⟩
theorem iT{op:CmpOp}{k:F2}(q:Q2 K X (compareOp op) k)(x:ME K X a f)(y:ME K X b g)(hm:behindInMarks op b=false:=by rfl):ME K X (.Compare a [op] [b] pos) (fOp k f g):=by
 obtain⟨r,q1,q2⟩:=q.ex;obtain⟨t,x1,x2⟩:=x.ex;obtain⟨u,y1,y2⟩:=y.ex;exact⟨_,fun i=>aBI (q1 i) (x1 i) (y1 i) hm,QW q2 x2 y2⟩
theorem aAd{op op':CmpOp}{k k':F2}(q:Q2 K X (compareOp op) k)(q':Q2 K X (compareOp op') k')(x:ME K X a f)(y:ME K X b g)(z:ME K X c h)(hm:lastMarks [op,op'] [b,c]=false:=by with_unfolding_all rfl):ME K X (.Compare a [op,op'] [b,c] pos) (nH k k' f g h):=by
 obtain⟨r,q1,q2⟩:=q.ex;obtain⟨r',q1',q2'⟩:=q'.ex;obtain⟨t,x1,x2⟩:=x.ex;obtain⟨u,y1,y2⟩:=y.ex;obtain⟨v,z1,z2⟩:=z.ex;exact⟨_,fun i=>aBr (q1 i) (q1' i) (x1 i) (y1 i) (z1 i) hm,JZ q2 q2' x2 y2 z2⟩
theorem zL(x:MT K X c ft)(y:ME K X a f)(z:ME K X b g):ME K X (.IfExp c a b pos) (fIf ft f g):=by
 obtain⟨t,x1,x2⟩:=x.ex;obtain⟨u,y1,y2⟩:=y.ex;obtain⟨v,z1,z2⟩:=z.ex;exact⟨_,fun i=>YS (x1 i) (y1 i) (z1 i),aID x2 y2 z2⟩
theorem aG:MA K X [] aH:=⟨⟨_,fun _=>zM,aGc⟩,trivial⟩
theorem aA(x:ME K X e f)(y:MA K X es fa)(hs:aAt e es:=by intro _;rfl):MA K X (e::es) (aB f fa):=by
 obtain⟨t,x1,x2⟩:=x.ex;obtain⟨u,y1,y2⟩:=y.ex;exact⟨⟨_,fun i=>jH (x1 i) (y1 i) (hs _),aCK x2 y2⟩,hs,y.st⟩
theorem cT{k:Nat}(x:MA K X es fa):ME K X (.Tuple es k pos) (eV fa):=by
 obtain⟨t,x1,x2⟩:=x.ex;exact⟨_,fun i=>ND (x1 i),aFY x2⟩
theorem fO(x:MA K X es fa):ME K X (.List es pos) (dO fa):=by
 obtain⟨t,x1,x2⟩:=x.ex;exact⟨_,fun i=>aBv (x1 i),aFG x2⟩
theorem GJ(x:MA K X es fa):ME K X (.List es pos) (vL fa):=by
 obtain⟨t,x1,x2⟩:=x.ex;exact⟨_,fun i=>aBv (x1 i),aGK x2⟩
theorem bJ{k:F2}(q:QI K X k)(x:ME K X a f)(y:ME K X b g)(hs:OY b:=by intro _ _;rfl):ME K X (.Subscript a b pos) (fOp k f g):=by
 obtain⟨r,q1,q2⟩:=q.ex;obtain⟨t,x1,x2⟩:=x.ex;obtain⟨u,y1,y2⟩:=y.ex;exact⟨_,fun i=>aJh (q1 i) (x1 i) (y1 i) hs,QW q2 x2 y2⟩
theorem aO{k:Nat}{x:Str}{ps:List Str}{F:FN}{p:Pos}{q:Bool}(C:∀i,Callee (X i).prog (X i).w (X i).K (X i).mg (X i).base k x ps (spM K F) q)(hr:∀i,cG k (X i).A q)(y:MA K X (e::es) fa)(hg:∀i,Gl (X i) x:=by intro _;rfl)(hd:(x==("__debug__":Str))=false:=by decide):
 ME K X (.Call (.Name x p) (e::es) [] pos) (aK F fa):=by
 obtain⟨u,y1,y2⟩:=y.ex;exact⟨_,fun i=>aHi (C i) (hr i) (y1 i) (hg i) hd (y.st.1 _) (y.st.2.plain _ _),aCM y2⟩
theorem dZ{x:Str}{id:String}{F:FN}{p:Pos}(q:QN K X (.builtin id) F)(hm:∀i,(X i).mg x=none)(hv:bootBuiltins x=some (.builtin id))(y:MA K X (e::es) fa)(hg:∀i,Gl (X i) x:=by intro _;rfl)(hn:x≠"__name__":=by decide)(hd:(x==("__debug__":Str))=false:=by decide):
 ME K X (.Call (.Name x p) (e::es) [] pos) (aK F fa):=by
 obtain⟨r,q1,q2⟩:=q.ex;obtain⟨u,y1,y2⟩:=y.ex;exact⟨_,fun i=>uM (q1 i) (hg i) (hm i) hv (y1 i) hn hd (y.st.1 _) (y.st.2.plain _ _),aEt q2 y2⟩
theorem dB{x:Str}{id:String}{F:FN}{p:Pos}(q:QN K X (.type id) F)(hm:∀i,(X i).mg x=none)(hv:bootBuiltins x=some (.type id))(y:MA K X (e::es) fa)(hg:∀i,Gl (X i) x:=by intro _;rfl)(hn:x≠"__name__":=by decide)(hd:(x==("__debug__":Str))=false:=by decide):
 ME K X (.Call (.Name x p) (e::es) [] pos) (aK F fa):=by
 obtain⟨r,q1,q2⟩:=q.ex;obtain⟨u,y1,y2⟩:=y.ex;exact⟨_,fun i=>UJ (q1 i) (hg i) (hm i) hv (y1 i) hn hd (y.st.1 _) (y.st.2.plain _ _),aEt q2 y2⟩
theorem tD{T:String}{y:Str}{p p':Pos}(hK:∀i,(X i).K=K)(hT:T∈asked)(x:ME K X a f)(hs:aAt a [.Name y p'])(hm:∀i,(X i).mg "isinstance"=none)(hmy:∀i,(X i).mg y=none)(hb:bootBuiltins y=some (.type T))(hg:∀i,Gl (X i) "isinstance":=by intro _;rfl)(hgy:∀i,Gl (X i) y:=by intro _;rfl)
 (hn:y≠"__name__":=by decide) (hd:(y==("__debug__":Str))=false:=by decide):ME K X (.Call (.Name "isinstance" p) [a,.Name y p'] [] pos) (sY T f):=by
 obtain⟨t,x1,x2⟩:=x.ex;refine⟨_,fun i=>uM (aKo (hK i)) (hg i) (hm i) boot_isinstance (jH (x1 i) (jH (FH (v:=.ty T) (hgy i) (hmy i) hb rfl hn hd) zM cR) (hs _)) (by decide) (by decide) (hs _) (nZ cR uU),aGW hT x2⟩
theorem aCE{T U:String}{y z:Str}{p p' p'' p3:Pos}{k:Nat}(hK:∀i,(X i).K=K)(hT:T∈asked)(hU:U∈asked)(x:ME K X a f)(hs:aAt a [.Tuple [.Name y p',.Name z p''] k p3])(hm:∀i,(X i).mg "isinstance"=none)(hmy:∀i,(X i).mg y=none)(hmz:∀i,(X i).mg z=none)
 (hb:bootBuiltins y=some (.type T)) (hbz:bootBuiltins z=some (.type U)) (hg:∀i,Gl (X i) "isinstance":=by intro _;rfl) (hgy:∀i,Gl (X i) y:=by intro _;rfl) (hgz:∀i,Gl (X i) z:=by intro _;rfl)
 (hn:y≠"__name__":=by decide) (hd:(y==("__debug__":Str))=false:=by decide) (hn':z≠"__name__":=by decide) (hd':(z==("__debug__":Str))=false:=by decide):ME K X (.Call (.Name "isinstance" p) [a,.Tuple [.Name y p',.Name z p''] k p3] [] pos) (QC T U f):=by
 obtain⟨t,x1,x2⟩:=x.ex;refine⟨_,fun i=>uM (aIM (hK i)) (hg i) (hm i) boot_isinstance (jH (x1 i) (jH (ND (jH (FH (v:=.ty T) (hgy i) (hmy i) hb rfl hn hd) (jH (FH (v:=.ty U) (hgz i) (hmz i) hbz rfl hn' hd') zM cR) cR)) zM AM) (hs _)) (by decide) (by decide) (hs _) (nZ AM uU),aCB hT hU x2⟩
theorem gH(x:MT K X a ft):MT K X (.UnaryOp .Not a pos) (gO ft):=by
 obtain⟨t,x1,x2⟩:=x.ex;exact⟨_,fun i=>aHM (x1 i),aIe x2⟩
theorem NJ{rest:List Expr}(x:MT K X a ft)(y:MW K X (.BoolOp .And (b::rest) pos) gt):MW K X (.BoolOp .And (a::b::rest) pos) (vN ft gt):=by
 obtain⟨t,x1,x2⟩:=x.ex;obtain⟨u,y1,y2⟩:=y.ex;exact⟨_,fun i=>aGV (x1 i) (y1 i),aGb x2 y2⟩
theorem FL(x:MT K X a ft):MW K X (.BoolOp .And [a] pos) ft:=by
 obtain⟨t,x1,x2⟩:=x.ex;exact⟨_,fun i=>aDz (x1 i),x2⟩
theorem oW{rest:List Expr}(x:MT K X a ft)(y:MW K X (.BoolOp .Or (b::rest) pos) gt):MW K X (.BoolOp .Or (a::b::rest) pos) (gOr ft gt):=by
 obtain⟨t,x1,x2⟩:=x.ex;obtain⟨u,y1,y2⟩:=y.ex;exact⟨_,fun i=>aIQ (x1 i) (y1 i),aJf x2 y2⟩
theorem oX(x:MT K X a ft):MW K X (.BoolOp .Or [a] pos) ft:=by
 obtain⟨t,x1,x2⟩:=x.ex;exact⟨_,fun i=>aHn (x1 i),x2⟩
theorem BJ(x:MW K X a ft):MT K X a ft:=by
 obtain⟨t,x1,x2⟩:=x.ex;exact⟨_,fun i=>(x1 i).pt,x2⟩
theorem cX{op:CmpOp}{k:F2}(q:Q2 K X (compareOp op) k)(x:ME K X a f)(y:ME K X b g)(hm:behindInMarks op b=false:=by rfl):MT K X (.Compare a [op] [b] pos) (gB (fOp k f g)):=by
 obtain⟨r,q1,q2⟩:=q.ex;obtain⟨t,x1,x2⟩:=x.ex;obtain⟨u,y1,y2⟩:=y.ex;exact⟨_,fun i=>aDY (q1 i) (x1 i) (y1 i) hm,OZ (QW q2 x2 y2)⟩
theorem HK{op op':CmpOp}{k k':F2}(q:Q2 K X (compareOp op) k)(q':Q2 K X (compareOp op') k')(x:ME K X a f)(y:ME K X b g)(z:ME K X c h)(hm:lastMarks [op,op'] [b,c]=false:=by with_unfolding_all rfl):MT K X (.Compare a [op,op'] [b,c] pos) (gB (nH k k' f g h)):=by
 obtain⟨r,q1,q2⟩:=q.ex;obtain⟨r',q1',q2'⟩:=q'.ex;obtain⟨t,x1,x2⟩:=x.ex;obtain⟨u,y1,y2⟩:=y.ex;obtain⟨v,z1,z2⟩:=z.ex;exact⟨_,fun i=>YF (q1 i) (q1' i) (x1 i) (y1 i) (z1 i) hm,OZ (JZ q2 q2' x2 y2 z2)⟩
theorem fT(x:ME K X a f)(he:∀(env:Env)(whole:Sem Value),isTrue a env whole=(do let v <- whole;standAt a.pos;holding [v] (truthy v)):=by intro _ _;rfl):MT K X a (gB f):=by
 obtain⟨t,x1,x2⟩:=x.ex;exact⟨_,fun i=>aHJ (x1 i) (he _),aFB x2⟩
theorem NX(hK:∀i,(X i).K=K)(x:ME K X a f)(he:∀(env:Env)(whole:Sem Value),isTrue a env whole=(do let v <- whole;standAt a.pos;holding [v] (truthy v)):=by intro _ _;rfl):MT K X a (CB f):=by
 obtain⟨t,x1,x2⟩:=x.ex;exact⟨_,fun i=>PH (hK i) (x1 i) (he _),aDX x2⟩
theorem tM{tg:Expr}{p:Pos}(hm:∀i,(X i).mg "range"=none)(x:MA K X [a] fa)(hg:∀i,Gl (X i) "range":=by intro _;rfl):MI K X tg (.Call (.Name "range" p) [a] [] pos) (gT fa):=by
 obtain⟨t,x1,x2⟩:=x.ex;exact⟨_,fun i=>UA (hg i) (hm i) (x1 i) (x.st.1 _),aCU x2⟩
theorem dP{tg:Expr}(hK:∀i,(X i).K=K)(x:ME K X a f):MI K X tg a (aX f):=by
 obtain⟨t,x1,x2⟩:=x.ex;exact⟨_,fun i=>aDB (hK i) (x1 i),aIc x2⟩
theorem aY(i:Nat){x:Str}(hN:∀j,(X j).N.Nodup)(hi:∀j,(X j).N[i]?=some x:=by intro _;rfl)(hx:∀j,Loc (X j).env.scope x:=by intro _;first|exact Or.inl rfl|exact Or.inr rfl)(hf:∀j,(X j).fn x=true\/(X j).env.scope.names.lookup x=some .local:=by intro _;first|exact .inl rfl|exact .inr rfl):
 MG K X (.Name x pos) (hName i):=⟨_,fun j=>aEi (hN j) (hi j) (hx j) (hf j),EZ⟩
theorem fK:MGs K X [] gV:=⟨_,fun _=>aDV,aDC⟩
theorem bL{gf:GF}{gs:GsF}(x:MG K X e gf)(y:MGs K X es gs)(hs:∀env:Env,(assignEach (e::es) env).map (·.2)=assign e env::(assignEach es env).map (·.2):=by intro _;rfl):MGs K X (e::es) (bI gf gs):=by
 obtain⟨t,x1,x2⟩:=x.ex;obtain⟨u,y1,y2⟩:=y.ex;exact⟨_,fun i=>WS (x1 i) (y1 i) (hs _),WD x2 y2⟩
theorem iX{gs:GsF}{k n:Nat}(hK:∀i,(X i).K=K)(hc:∀i,(X i).calm=true)(x:MGs K X es gs)(hn:∀env:Env,(assignEach es env).length=n:=by intro _;rfl)(hst:∀env:Env,(assignEach es env).findIdx? (·.1)=none:=by intro _;rfl):MG K X (.Tuple es k pos) (gZ n gs):=by
 obtain⟨t,x1,x2⟩:=x.ex;exact⟨_,fun i=>aDx (hK i) (hc i) (x1 i) (hn _) (hst _),aGE x2⟩
theorem aAz{s:F3}(q:QS K X s)(x:ME K X a f)(y:ME K X b g) (hs:∀(env:Env)(v:Value),assign (.Subscript a b pos) env v=(do
 let ov <- holding [v] (eval a env);let iv <- holding [v,ov] (eval b env)
 standAt pos
 holding [v,ov,iv] (setItem ov iv v)
 release [v,ov,iv] []):=by intro _ _;rfl):MG K X (.Subscript a b pos) (hSub f g s):=by
 obtain⟨r,q1,q2⟩:=q.ex;obtain⟨t,x1,x2⟩:=x.ex;obtain⟨u,y1,y2⟩:=y.ex;exact⟨_,fun i=>aGx (x1 i) (y1 i) (q1 i) (hs _),aHy q2 x2 y2⟩
theorem eT:MF K X [] eM:=⟨_,fun _=>aBl,aHU⟩
theorem GZ(x:MT K X c ft):MF K X [c] ft:=by
 obtain⟨t,x1,x2⟩:=x.ex;exact⟨_,fun i=>XZ (x1 i),x2⟩
noncomputable abbrev LcI(ι:Type):Type:=ι×Addr×Shared×Hp×List Addr×List (Addr×Obj)
noncomputable def nD(X:ι->Cx)(N':List Str)(scope:Scope):LcI ι->Cx:=fun j=>eS (X j.1) N' scope j.2.1 j.2.2.1 j.2.2.2.1 j.2.2.2.2.1 j.2.2.2.2.2
variable{N':List Str}{cap:List (Option Nat)}{scope:Scope}{tg iter elt:Expr}{ifs:List Expr}{gf:GF}
theorem gQ(hc:∀i,(X i).calm=true)(S:∀i,oP (X i) N' cap scope)(x:MI K X tg iter fa)(y:MG K (nD X N' scope) tg gf)(z:MF K (nD X N' scope) ifs ft)(w:ME K (nD X N' scope) elt f)(hs:∀(env:Env)(x:Value),foldedSetIterable iter env x=pure x:=by intro _ _;rfl):
 ME K X (.ListComp elt [⟨tg,iter,ifs,0⟩] scope pos) (fLc cap fa gf ft f):=by
 obtain⟨t,x1,x2⟩:=x.ex;obtain⟨u,y1,y2⟩:=y.ex;obtain⟨v,z1,z2⟩:=z.ex;obtain⟨o,w1,w2⟩:=w.ex;exact⟨_,fun i=>aIK (hc i) (S i) (x1 i) (fun C s H fp pn=>y1 (i,C,s,H,fp,pn)) (fun C s H fp pn=>z1 (i,C,s,H,fp,pn)) (fun C s H fp pn=>w1 (i,C,s,H,fp,pn)) (hs _),aFe x2 y2 z2 w2⟩
theorem JM(i:Nat){x':Str}{pos' pos'':Pos}(hN:∀j,(X j).N.Nodup)(hc:∀i,(X i).calm=true)(S:∀i,oP (X i) N' cap scope)(x:MI K X tg iter fa)(y:MG K (nD X N' scope) tg gf)(z:MF K (nD X N' scope) ifs ft)(w:ME K (nD X N' scope) elt f)
 (hix:∀j,(X j).N[i]?=some x':=by intro _;rfl) (hsw:∀j,swapsWith (.ListComp elt [⟨tg,iter,ifs,0⟩] scope pos) (some (.Name x' pos')) pos''.line (X j).env=pure true:=by intro _;rfl) (hx:∀j,(X j).env.scope.names.lookup x'=some .local:=by intro _;rfl) (hs:∀(env:Env)(x:Value),foldedSetIterable iter env x=pure x:=by intro _ _;rfl):
 MS K X (.Assign [.Name x' pos'] (.ListComp elt [⟨tg,iter,ifs,0⟩] scope pos) pos'') (bB (fLc cap fa gf ft f) (hName i)):=by
 obtain⟨t,x1,x2⟩:=x.ex;obtain⟨u,y1,y2⟩:=y.ex;obtain⟨v,z1,z2⟩:=z.ex;obtain⟨o,w1,w2⟩:=w.ex;exact⟨_,fun j=>aBG (hN j) (hix j) (hc j) (S j) (x1 j) (fun C s H fp pn=>y1 (j,C,s,H,fp,pn)) (fun C s H fp pn=>z1 (j,C,s,H,fp,pn)) (fun C s H fp pn=>w1 (j,C,s,H,fp,pn)) (hsw j) (hx j) (hs _),NI (aFe x2 y2 z2 w2) EZ⟩
variable{st:Stmt}{sts:List Stmt}{sf sg:SF}
theorem dN:ML K X [] cP:=⟨_,fun _=>aCP,aDw⟩
theorem aT(x:MS K X st sf):ML K X [st] sf:=by
 obtain⟨t,x1,x2⟩:=x.ex;exact⟨_,fun i=>RM (x1 i),x2⟩
theorem aN(x:MS K X st sf)(y:ML K X sts sg):ML K X (st::sts) (bG sf sg):=by
 obtain⟨t,x1,x2⟩:=x.ex;obtain⟨u,y1,y2⟩:=y.ex;exact⟨_,fun i=>KJ (x1 i) (y1 i),aHv x2 y2⟩
theorem bD(x:ME K X e f):MS K X (.Return (some e) pos) (bO f):=by
 obtain⟨t,x1,x2⟩:=x.ex;exact⟨_,fun i=>aBc (x1 i),aHf x2⟩
noncomputable def sH:SF:=fun _ _=>none
theorem tT:MS K X st sH:=⟨WB,fun _=>YA,fun _ _ _ _ h=>by cases h⟩
theorem xZ(x:ME K X e f)(hs:∀i,swapsWith e none pos.line (X i).env=pure false:=by intro _;rfl):MS K X (.Expr e pos) (rP f):=by
 obtain⟨t,x1,x2⟩:=x.ex;exact⟨_,fun i=>aEh (x1 i) (hs i),aEc x2⟩
theorem gR{sts':List Stmt}(x:MT K X c ft)(y:ML K X sts sf)(z:ML K X sts' sg):MS K X (.If c sts sts' pos) (sIf ft sf sg):=by
 obtain⟨t,x1,x2⟩:=x.ex;obtain⟨u,y1,y2⟩:=y.ex;obtain⟨v,z1,z2⟩:=z.ex;exact⟨_,fun i=>aEs (x1 i) (y1 i) (z1 i),aIu x2 y2 z2⟩
theorem HX(hp:∀i,PassesOwn (model (X i).prog (X i).w) (X i).A (X i).env (X i).xe)(x:MT K X c ft)(y:ML K X sts sf):MS K X (.While c sts [] pos) (sV ft sf):=by
 obtain⟨t,x1,x2⟩:=x.ex;obtain⟨u,y1,y2⟩:=y.ex;exact⟨_,fun i=>aAH (hp i) (x1 i) (y1 i),YX x2 y2⟩
theorem vP(hp:∀i,PassesOwn (model (X i).prog (X i).w) (X i).A (X i).env (X i).xe)(hc:∀i,(X i).calm=true)(x:MI K X tg iter fa)(y:MG K X tg gf)(z:ML K X sts sf)(hs:∀(env:Env)(x:Value),foldedSetIterable iter env x=pure x:=by intro _ _;rfl):MS K X (.For tg iter sts [] pos) (AU fa gf sf):=by
 obtain⟨t,x1,x2⟩:=x.ex;obtain⟨u,y1,y2⟩:=y.ex;obtain⟨v,z1,z2⟩:=z.ex;exact⟨_,fun i=>WK (hp i) (hc i) (x1 i) (y1 i) (z1 i) (hs _),aHV x2 y2 z2⟩
theorem bH(i:Nat){x':Str}{pos':Pos}(hN:∀j,(X j).N.Nodup)(x:ME K X e f)(hi:∀j,(X j).N[i]?=some x':=by intro _;rfl)(hx:∀j,Loc (X j).env.scope x':=by intro _;first|exact Or.inl rfl|exact Or.inr rfl)(hs:∀j,swapsWith e (some (.Name x' pos')) pos.line (X j).env=pure false:=by intro _;rfl)
 (hf:∀j,(X j).fn x'=true\/(X j).env.scope.names.lookup x'=some .local:=by intro _;first|exact .inl rfl|exact .inr rfl):MS K X (.Assign [.Name x' pos'] e pos) (bB f (hName i)):=by
 obtain⟨t,x1,x2⟩:=x.ex;exact⟨_,fun j=>aFt (hN j) (hi j) (hx j) (x1 j) (hs j) (hf j),NI x2 EZ⟩
theorem LV(i j:Nat){x' y':Str}{px py pt pt2:Pos}{kt k2:Nat}(hc:∀j,(X j).calm=true)(hN:∀j,(X j).N.Nodup)(x:MA K X [a,b] fa)(hij:i≠j:=by decide)(hi:∀k,(X k).N[i]?=some x':=by intro _;rfl)(hj:∀k,(X k).N[j]?=some y':=by intro _;rfl)(hx:∀k,(X k).env.scope.names.lookup x'=some .local:=by intro _;rfl)(hy:∀k,(X k).env.scope.names.lookup y'=some .local:=by intro _;rfl)
 (h1:∀k,swappedStores [.Tuple [.Name x' px,.Name y' py] kt pt] (.Tuple [a,b] k2 pt2) (X k).env=pure (some [x',y']):=by intro _;rfl) (h2:∀k,swapsWithSole [.Tuple [.Name x' px,.Name y' py] kt pt] (.Tuple [a,b] k2 pt2) pos.line (X k).env=pure false:=by intro _;rfl):
 MS K X (.Assign [.Tuple [.Name x' px,.Name y' py] kt pt] (.Tuple [a,b] k2 pt2) pos) (CJ i j fa):=by
 obtain⟨t,x1,x2⟩:=x.ex;exact⟨_,fun k=>aHx (hc k) (hN k) (hi k) (hj k) hij (hx k) (hy k) (x1 k) (h1 k) (h2 k),aGn x2⟩
theorem NZ(x:ME K X e f)(y:MG K X tg gf)(h1:∀k,swapsWithSole [tg] e pos.line (X k).env=pure false:=by intro _;rfl)(h2:∀k,swappedStores [tg] e (X k).env=pure none:=by intro _;rfl)(h3:∀env:Env,(assignEach [tg] env).map (·.2)=[assign tg env]:=by intro _;rfl):MS K X (.Assign [tg] e pos) (bB f gf):=by
 obtain⟨t,x1,x2⟩:=x.ex;obtain⟨u,y1,y2⟩:=y.ex;exact⟨_,fun k=>aHb (x1 k) (y1 k) (h1 k) (h2 k) (h3 _),NI x2 y2⟩
theorem lV(hK:∀i,(X i).K=K:=by intro _;rfl):Q2 K X (binaryOp .Add) dX:=⟨_,fun i=>aIn (hK i),OW⟩
theorem JW:Q2 K X (binaryOp .Sub) vS:=⟨_,fun _=>aGw,aHj⟩
theorem CT:Q2 K X (binaryOp .Mult) AY:=⟨_,fun _=>aDj,aHS⟩
theorem eD:Q2 K X (binaryOp .FloorDiv) bS:=⟨_,fun _=>WN,aCu⟩
theorem cA:Q2 K X (binaryOp .Mod) bC:=⟨_,fun _=>aGA,aGy⟩
theorem IZ:Q2 K X (binaryOp .Pow) uR:=⟨_,fun _=>aHk,aFN⟩
theorem aJR:Q1 K X (unaryOp .USub) ZH:=⟨_,fun _=>aFs,aHD⟩
theorem aAN:Q2 K X (compareOp .Lt) ltI:=⟨_,fun _=>aJj,aIW⟩
theorem YI:Q2 K X (compareOp .LtE) leI:=⟨_,fun _=>aJD,aJv⟩
theorem aHg:Q2 K X (compareOp .Gt) gtI:=⟨_,fun _=>aIY,aJo⟩
theorem aIO:Q2 K X (compareOp .GtE) geI:=⟨_,fun _=>aIs,aJc⟩
theorem xN(hK:∀i,(X i).K=K)(hu:∀i,(X i).A.units+64<cLine):Q2 K X (compareOp .Eq) (eqX false):=⟨_,fun i=>kEq (hK i) (hu i),aBo⟩
theorem IE(hK:∀i,(X i).K=K)(hu:∀i,(X i).A.units+64<cLine):Q2 K X (compareOp .NotEq) (eqX true):=⟨_,fun i=>kNe (hK i) (hu i),aIb⟩
theorem aIH(hK:∀i,(X i).K=K)(hu:∀i,(X i).A.in1.units+64<cLine):Q2 K X (compareOp .In) (inD false):=⟨_,fun i=>kIn (hK i) (hu i),aIX⟩
theorem cM(hK:∀i,(X i).K=K:=by intro _;rfl):QI K X ixF:=⟨_,fun i=>kIx (hK i),aGj⟩
theorem DJ(hK:∀i,(X i).K=K:=by intro _;rfl):QN K X (.builtin "len") iS:=⟨_,fun i=>aKe (hK i),aCz⟩
theorem aFw(hK:∀i,(X i).K=K):QN K X (.type "list") zD:=⟨_,fun i=>aEr (hK i),ZY⟩
theorem tX(hK:∀i,(X i).K=K):QN K X (.type "tuple") eC:=⟨_,fun i=>aFx (hK i),TH⟩
theorem aEH(hK:∀i,(X i).K=K)(hc:∀i,(X i).calm=true):QN K X (.builtin "all") xM:=⟨_,fun i=>aKj (hK i) (hc i),aCZ⟩
theorem aEq:QS K X GY:=⟨_,fun _=>set_list,aFA⟩
end
section
variable{P:Program}{w:World}{K:Fg}{mg:Str->Option Value}
theorem Def.okG{base:Heap}{x:Str}{st:Stmt}{N ps:List Str}{k:Nat}{b:SF}{q:Bool}(D:Def K mg x st)(S:aS N ps (aF st))
 (hb:∀(kV doc pm:Value)(an:Option Addr)(cdv ct:Value)(us:List Value),us.length=ps.length->bindArgs (PySem.W.fnOf x x (dG st) (bR st) (aF st) .none kV doc pm an cdv ct) ⟨us,[]⟩=pure (ps.zip us))
 (hbody:∀(f:Addr)(cdv:Value)(A:Around)(outer:List Env)(s:Shared)(H:Hp)(E:XK),cG k (A.deeper (envOfC x (aF st) s.heap.objs.size f cdv)) q->
  ML K (fun _:Unit=>(mE CX0 P w K mg base N x (aF st) f cdv A outer s H E q).nox) (bR st) b):Callee P w K mg base (k+1) x ps (spM K (fnF ps.length N.length b)) q:=
 D.okM S hb fun f cdv A outer s H E hr=>by
  obtain⟨t,h1,h2⟩:=(hbody f cdv A outer s H E hr).ex;exact⟨t,h1 (),h2⟩
theorem Def.okLG{x p:Str}{st:Stmt}{N:List Str}{k:Nat}{b:SF}{F:FN}(D:Def K mg x st)(S:aS N [p] (aF st))(hF:F=fnF 1 N.length b)
 (hb:∀(kV doc pm:Value)(an:Option Addr)(cdv ct:Value)(us:List Value),us.length=[p].length->bindArgs (PySem.W.fnOf x x (dG st) (bR st) (aF st) .none kV doc pm an cdv ct) ⟨us,[]⟩=pure ([p].zip us))
 (hbody:∀(base:Heap)(f:Addr)(cdv:Value)(A:Around)(outer:List Env)(s:Shared)(H:Hp)(E:XK),cG k (A.deeper (envOfC x (aF st) s.heap.objs.size f cdv))->
  ML K (fun _:Unit=>(mE CX0 P w K mg base N x (aF st) f cdv A outer s H E).nox) (bR st) b):
 ∃f fd,mg x=some (.ref f)/\(∀(s:Shared)(u:Value),BindsTo s fd ⟨[u],[]⟩ [(p,u)])/\∀base,gY P w K mg base CX0 (k+1) f fd [p] (spM K F):=
 D.okL S hF hb fun base f cdv A outer s H E hr=>by
  obtain⟨t,h1,h2⟩:=(hbody base f cdv A outer s H E hr).ex;exact⟨t,h1 (),h2⟩
end
end L2
namespace HT
open PySem PyProof.Rows PySem.Spec
section
variable{prog:Program}{w:World}{A:Around}{E:Value->Shared->Prop}{s:Shared}
theorem getItem_tuple_whole{t sl:Addr}{items:Array Value}{vl vu:Value}{lo hi:Option Int}{Q:Value->Shared->Prop}(ht:IsTup s.heap t items)(hs:s.heap.IsSliceOf sl vl vu .none)(pl:IsPart vl lo)(pu:IsPart vu hi)
 (hw:sIx items.size 0 lo=0/\sIx items.size items.size hi=items.size) (h:Q (.ref t) s):wpAny (model prog w) A (getItem (.ref t) (.ref sl)) Q E s:=by
 obtain⟨os,hos,hcs,hds⟩:=id hs;have hTs:s.TypeIs (.ref sl) "slice":=⟨os,hos,hcs⟩;unfold getItem
 try with_reducible refine E9 ?_
 first|refine A0 (A6 ?_)|skip
 refine A0 (wpAny_sequenceKey ht.typeIs (by decide) ?_)
 refine A0 (J7 (name:=Str.ofString "__getitem__") ht.typeIs L7
  (J4 L7 ht.typeIs entry_tuple_getitem ?_ (args_tuple_getitem _ _)))
 show wpAny _ _ (Builtin.Tuple.tupleItemsOf (.ref t) >>= _) _ _ s;refine A0 (tupleItemsOf_ ht ?_);refine A0 (wpAny_typeOf hTs ?_);rw[A4 (by decide)];refine A0 (nB hs pl pu ?_)
 have hyes:(((sIx items.size 0 lo:Nat):Int)==0&&(1:Int)==1&&(sIx items.size items.size hi-sIx items.size 0 lo)==items.size)=true:=by
  rw[hw.1,hw.2];simp
 show wpAny _ _ (if (((sIx items.size 0 lo:Nat):Int)==0&&(1:Int)==1&&(sIx items.size items.size hi-sIx items.size 0 lo)==items.size)=true then _ else _) _ _ s;rw[A4 hyes];refine A0 (m:=Builtin.Tuple.tupleIsExact (.ref t)) ?_;unfold Builtin.Tuple.tupleIsExact;refine A0 (wpAny_typeOf ht.typeIs (A6 ?_));rw[A4 (by decide)];exact A0 (wpAny_rule (A6 ⟨_,rfl,A6 h⟩))
end
end HT
namespace L2
variable{W:Wd}{H:Hp}{M:Sto}{apos cpos:Pos}
open PySem PySem.Spec PyProof.Rows
noncomputable def aJY(K:Fg):V->Option Int->Option Int->Hp->VK->Prop:=fun x lo hi H Q=>∃a xs,x=.ref a/\SqT K H a xs/\(HT.sIx xs.length 0 lo=0/\HT.sIx xs.length xs.length hi=xs.length)/\Q (.ref a) H
theorem XU{X:Cx}:SlR X (aJY X.K):=by
 intro pins s σ H x v vl vu lo hi sl Q I rx hs pl pu h;obtain⟨a,xs,rfl,hx,hw,q⟩:=h;cases rx;obtain⟨its,r,ht,hz⟩:=I.tuple hx;have hlen:its.toArray.size=xs.length:=by rw[C2];exact r.length.symm
 refine⟨"tuple",_,PyProof.Rows.slot_tuple_getitem.lookup,ht.typeIs,?_⟩;exact HT.getItem_tuple_whole ht hs pl pu (by rw[hlen];exact hw) ⟨.ref a,H,I,rfl,q⟩
noncomputable def mY{α:Type}(xs:List α)(lo hi:Option Int):List α:=(xs.drop (HT.sIx xs.length 0 lo)).take (HT.sIx xs.length xs.length hi-HT.sIx xs.length 0 lo)
noncomputable abbrev OF:=Ga->Sto->Option (Option Int×Sto)
noncomputable def dM:OF:=fun _ M=>some (none,M)
noncomputable def asI:CD->Option Int
 |.d (.int i)=>some i
 |_=>none
noncomputable def gL(f:EF):OF:=fun γ M=>(f γ M).bind fun r=>(asI r.1).bind fun i=>some (some i,r.2)
noncomputable def slF(x:CD)(lo hi:Option Int)(M:Sto):Option (CD×Sto):=match x with
 |.d (.list ds)=>some (.d (.list (mY ds lo hi)),M)
 |.d (.tuple ds)=>some (.d (.tuple (mY ds lo hi)),M)
 |.c i=>match M[i]? with
  |some (.lst xs)=>(kU (mY xs lo hi)).bind fun ds=>some (.d (.list ds),M)
  |_=>none
 |_=>none
noncomputable def fSl(f:EF)(l u:OF):EF:=fun γ M=>(f γ M).bind fun r=>(l γ r.2).bind fun p=>(u γ p.2).bind fun q=>slF r.1 p.1 q.1 q.2
noncomputable def aHZ(K:Fg):V->Option Int->Option Int->Hp->VK->Prop:=fun x lo hi H Q=>aJX K x lo hi H Q\/aJV K x lo hi H Q\/aJY K x lo hi H Q
theorem kSl{X:Cx}{K:Fg}(h:X.K=K):SlR X (aHZ K):=by subst h;exact sl_list.or (sl_tup.or XU)
section
variable{K:Fg}
noncomputable def SO(K:Fg)(t:TO)(f:OF):Prop:=∀γ M b M',f γ M=some (b,M')->∀(W:Wd)(H:Hp)(σ:St)(Q:Option Int->Hp->Prop),Good K W M H->cL K W γ σ->(∀W' H',W.Ext W'->Good K W' M' H'->Q b H')->t σ H Q
theorem aBV:SO K QU dM:=by
 intro γ M x M' hh W H σ Q G R k;cases hh;exact k W H (.refl _) G
theorem aGX{x:CD}{i:Int}(h:asI x=some i):x=.d (.int i):=by
 cases x with
 |c n=>cases h
 |t n=>cases h
 |f n=>cases h
 |g _=>cases h
 |d x=>cases x<;>first|cases h;rfl|cases h
theorem aBQ{ta:TE}{f:EF}(a:SE K ta f):SO K (aEv ta) (gL f):=by
 intro γ M x M' hh W H σ Q G R k;obtain⟨⟨y,M1⟩,h1,hh⟩:=aJ hh;obtain⟨i,h2,hh⟩:=aJ hh;cases hh;refine a _ _ _ _ h1 W H σ _ G R fun v W1 H1 e1 G1 r1=>?_;have hy:y=_:=aGX h2;subst hy;exact⟨i,r1,k W1 H1 e1 G1⟩
theorem aL.drop{H:Hp}:∀{ds:List PyData}{vs:List V}(n:Nat),aL K H ds vs->aL K H (ds.drop n) (vs.drop n)
 |_,_,0=>fun h=>h
 |[],vs,n+1=>fun h=>by rw[show vs=[]from h];rfl
 |d::ds,vs,n+1=>fun h=>by
  obtain⟨v,r,rfl,_,h3⟩:=h;exact aL.drop n h3
theorem aL.take{H:Hp}:∀{ds:List PyData}{vs:List V}(n:Nat),aL K H ds vs->aL K H (ds.take n) (vs.take n)
 |_,_,0=>fun h=>rfl
 |[],vs,n+1=>fun h=>by rw[show vs=[]from h];rfl
 |d::ds,vs,n+1=>fun h=>by
  obtain⟨v,r,rfl,h2,h3⟩:=h;exact⟨v,r.take n,rfl,h2,aL.take n h3⟩
theorem aL.cut{ds:List PyData}{vs:List V}(h:aL K H ds vs)(lo hi:Option Int):aL K H (mY ds lo hi) (uS vs lo hi):=by
 unfold mY uS;rw[h.length];exact(h.drop _).take _
theorem AS{α β:Type}{R:α->β->Prop}:∀{xs:List α}{ys:List β}(n:Nat),Paired R xs ys->Paired R (xs.drop n) (ys.drop n)
 |_,_,0,h=>h
 |_,_,_+1,.nil=>.nil
 |_,_,n+1,.cons _ t=>AS n t
theorem sL{α β:Type}{R:α->β->Prop}:∀{xs:List α}{ys:List β}(n:Nat),Paired R xs ys->Paired R (xs.take n) (ys.take n)
 |_,_,0,h=>.nil
 |_,_,_+1,.nil=>.nil
 |_,_,n+1,.cons r t=>.cons r (sL n t)
theorem TQ{xs:List CD}{vs:List V}(h:bY K W xs vs)(lo hi:Option Int):bY K W (mY xs lo hi) (uS vs lo hi):=by
 unfold mY uS;rw[Paired.len h];exact sL _ (AS _ h)
theorem YR{x:CD}{lo hi:Option Int}{z:CD}{M':Sto}(h:slF x lo hi M=some (z,M')){v:V}{Q:VK}(G:Good K W M H)(rx:cD K W x v)(k:∀w W' H',W.Ext W'->Good K W' M' H'->cD K W' z w->Q w H'):aHZ K v lo hi H Q:=by
 unfold slF at h;split at h
 .rename_i ds;cases h;obtain⟨p,us,rfl,hq,hr⟩:=(show ∃a us,_=V.ref a/\SqL K W.F a us/\aL K W.F ds us from rx);refine .inl ⟨p,us,rfl,G.fh.seq hq,fun l hl=>?_⟩;obtain⟨e2,G2⟩:=G.lay (o:=.lst (uS us lo hi)) hl;exact k _ _ _ e2 G2 ⟨l,_,rfl,SqL.of aV,aL.same e2.ff _ _ (hr.cut lo hi)⟩
 .rename_i ds;cases h;obtain⟨p,us,rfl,hq,hr⟩:=(show ∃a us,_=V.ref a/\SqT K W.F a us/\aL K W.F ds us from rx);by_cases hw:HT.sIx us.length 0 lo=0/\HT.sIx us.length us.length hi=us.length
  .refine .inr (.inr ⟨p,us,rfl,G.fh.seqT hq,hw,?_⟩)
   have e:mY ds lo hi=ds:=by
    unfold mY;rw[hr.length,hw.1,hw.2,<- hr.length];simp
   rw[e]at k;exact k _ W H (.refl _) G ⟨p,us,rfl,hq,hr⟩
  .refine .inr (.inl ⟨p,us,rfl,G.fh.seqT hq,hw,fun l hl=>?_⟩);obtain⟨e2,G2⟩:=G.lay (o:=.tup (uS us lo hi)) hl;exact k _ _ _ e2 G2 ⟨l,_,rfl,SqT.of aV,aL.same e2.ff _ _ (hr.cut lo hi)⟩
 .rename_i i;split at h
  .rename_i xs hx;obtain⟨ds,h1,h⟩:=aJ h;cases h;obtain⟨us,hv,hr⟩:=G.lstAt hx;rw[rx.2];refine .inl ⟨_,us,rfl,SqL.of hv,fun l hl=>?_⟩;obtain⟨e2,G2⟩:=G.lay (o:=.lst (uS us lo hi)) hl;exact k _ _ _ e2 G2 ⟨l,_,rfl,SqL.of aV,aL.same e2.ff _ _ (eW h1 (TQ hr lo hi))⟩
  .cases h
 .cases h
theorem aIp{ta:TE}{f:EF}{tl th:TO}{l u:OF}(a:SE K ta f)(b:SO K tl l)(c:SO K th u):SE K (tSl (aHZ K) ta tl th) (fSl f l u):=by
 intro γ M x M' hh W H σ Q G R k;obtain⟨⟨y,M1⟩,h1,hh⟩:=aJ hh;obtain⟨⟨p,M2⟩,h2,hh⟩:=aJ hh;obtain⟨⟨q,M3⟩,h3,hh⟩:=aJ hh;refine a _ _ _ _ h1 W H σ _ G R fun v W1 H1 e1 G1 r1=>?_;refine b _ _ _ _ h2 W1 H1 σ _ G1 (R.up e1) fun W2 H2 e2 G2=>?_;refine c _ _ _ _ h3 W2 H2 σ _ G2 (R.up (e1.trans e2)) fun W3 H3 e3 G3=>?_;exact YR hh G3 (r1.up (e2.trans e3)) fun w W4 H4 e4 G4 r4=>k w W4 H4 (((e1.trans e2).trans e3).trans e4) G4 r4
noncomputable def intF:FN:=fun xs M=>match xs with
 |[.d (.int i)]=>some (.d (.int i),M)
 |[.d (.bool b)]=>some (.d (.int (if b then 1 else 0)),M)
 |_=>none
noncomputable def tyB(T:String)(M:Sto):CD->Bool
 |.d (.list _)=>T=="list"
 |.d (.str _)=>T=="str"
 |.c i=>match M[i]? with
  |some (.lst _)=>T=="list"
  |some (.dk _)=>T=="dict"
  |some (.dt _)=>T=="dict"
  |_=>false
 |_=>false
theorem YU{T:String}{x:CD}{v:V}(h:tyB T M x=true)(G:Good K W M H)(r:cD K W x v):tyV K T v H:=by
 unfold tyB at h;split at h
 .rename_i ds;obtain⟨p,us,rfl,hq,hr⟩:=(show ∃a us,_=V.ref a/\SqL K W.F a us/\aL K W.F ds us from r);exact .inl ⟨eq_of_beq h,us,G.fh.seq hq⟩
 .rename_i x;rw[show v=.str x from r];exact eq_of_beq h
 .rename_i i;rw[r.2];split at h
  .rename_i xs hx;obtain⟨us,hv,hr⟩:=G.lstAt hx;exact .inl ⟨eq_of_beq h,us,SqL.of hv⟩
  .rename_i kvs hx;obtain⟨_,o,g2,g3⟩:=G.cs i _ hx (by intro z;cases z);cases o with
   |dK us=>exact .inr (.inr (.inl ⟨eq_of_beq h,.inl ⟨us,g2⟩⟩))
   |_=>exact False.elim g3
  .rename_i kvs hx;obtain⟨_,o,g2,g3⟩:=G.cs i _ hx (by intro z;cases z);cases o with
   |dT us=>exact .inr (.inr (.inl ⟨eq_of_beq h,.inr ⟨us,g2⟩⟩))
   |_=>exact False.elim g3
  .cases h
 .cases h
noncomputable abbrev FM:=CD->List CD->Sto->Option (CD×Sto)
noncomputable def aZ(T:String)(h:FM)(f:EF)(fa:AF):EF:=fun γ M=>(f γ M).bind fun r=>if tyB T r.2 r.1=true then(fa γ r.2).bind fun q=>h r.1 q.1 q.2 else none
noncomputable def PM(K:Fg)(r:V->List V->Hp->VK->Prop)(f:FM):Prop:=∀x xs M z M',f x xs M=some (z,M')->∀(W:Wd)(H:Hp)(v:V)(vs:List V)(Q:VK),Good K W M H->cD K W x v->bY K W xs vs->(∀w W' H',W.Ext W'->Good K W' M' H'->cD K W' z w->Q w H')->r v vs H Q
theorem yG{T:String}{r:V->List V->Hp->VK->Prop}{h:FM}{ta:TE}{f:EF}{tA:TA}{fa:AF}(p:PM K r h)(a:SE K ta f)(b:SA K tA fa):SE K (tBM K T r ta tA) (aZ T h f fa):=by
 intro γ M x M' hh W H σ Q G R k;obtain⟨⟨y,M1⟩,h1,hh⟩:=aJ hh;by_cases hT:tyB T M1 y=true
 .have hh:(if tyB T M1 y=true then(fa γ M1).bind fun q=>h y q.1 q.2 else none)=some (x,M'):=hh;rw[A4 hT]at hh;obtain⟨⟨ys,M2⟩,h2,hh⟩:=aJ hh;refine a _ _ _ _ h1 W H σ _ G R fun v W1 H1 e1 G1 r1=>⟨YU hT G1 r1,?_⟩;refine b _ _ _ _ h2 W1 H1 σ _ G1 (R.up e1) fun vs W2 H2 e2 G2 r2=>?_;exact p _ _ _ _ _ hh W2 H2 v vs Q G2 (r1.up e2) r2 fun w W3 H3 e3 G3 r3=>k w W3 H3 ((e1.trans e2).trans e3) G3 r3
 .have hh:(if tyB T M1 y=true then(fa γ M1).bind fun q=>h y q.1 q.2 else none)=some (x,M'):=hh;rw[A5 hT]at hh;cases hh
theorem IC{T:String}{r:V->List V->Hp->VK->Prop}{h:FM}{ta:TE}{f:EF}(p:PM K r h)(a:SE K ta f):SE K (aIq K T r ta) (aZ T h f aH):=by
 intro γ M x M' hh W H σ Q G R k;obtain⟨⟨y,M1⟩,h1,hh⟩:=aJ hh;have hh:(if tyB T M1 y=true then h y [] M1 else none)=some (x,M'):=hh;by_cases hT:tyB T M1 y=true
 .rw[A4 hT]at hh;refine a _ _ _ _ h1 W H σ _ G R fun v W1 H1 e1 G1 r1=>⟨YU hT G1 r1,?_⟩;exact p _ _ _ _ _ hh W1 H1 v [] Q G1 r1 .nil fun w W3 H3 e3 G3 r3=>k w W3 H3 (e1.trans e3) G3 r3
 .rw[A5 hT]at hh;cases hh
noncomputable def iJ:FM:=fun x ys M=>match x,ys with
 |.c i,[y]=>match M[i]? with
  |some (.lst xs)=>if xs.length<sizeLine then some (.d .none,M.set i (.lst (xs++[y])))else none
  |_=>none
 |_,_=>none
theorem UW:PM K QT iJ:=by
 intro x ys M z M' h W H v vs Q G rx rs k;unfold iJ at h;split at h
 .rename_i i y;split at h
  .rename_i xs hx;by_cases hl:xs.length<sizeLine
   .rw[A4 hl]at h;cases h;obtain⟨us,hv,hr⟩:=G.lstAt hx;rcases rs with _|⟨r1,_|_⟩;refine⟨W.α i,us,_,rx.2,rfl,hv,by rw[<- Paired.len hr];exact hl,?_⟩;exact k _ W _ (.refl _) (G.set hx (by intro q;cases q) (c':=.lst (xs++[y])) (show bY K W _ _ from Paired.app hr (.cons r1 .nil))) rfl
   .rw[A5 hl]at h;cases h
  .cases h
 .cases h
noncomputable def eE:FM:=fun x ys M=>match x,ys with
 |.c i,[]=>match M[i]? with
  |some (.lst xs)=>(xs[xs.length-1]?).bind fun y=>some (y,M.set i (.lst xs.dropLast))
  |_=>none
 |_,_=>none
theorem zC{α β:Type}{R:α->β->Prop}{xs:List α}{ys:List β}(h:Paired R xs ys):Paired R xs.dropLast ys.dropLast:=by
 rw[List.dropLast_eq_take,List.dropLast_eq_take,Paired.len h];exact sL _ h
theorem aHW:PM K aJm eE:=by
 intro x ys M z M' h W H v vs Q G rx rs k;unfold eE at h;split at h
 .rename_i i;split at h
  .rename_i xs hx;obtain⟨y,h1,h⟩:=aJ h;cases h;obtain⟨us,hv,hr⟩:=G.lstAt hx;obtain⟨u,hu,ru⟩:=Paired.get hr h1;cases rs;refine⟨W.α i,us,u,rx.2,rfl,hv,by rw[<- Paired.len hr];exact hu,?_⟩;exact k _ W _ (.refl _) (G.set hx (by intro q;cases q) (c':=.lst xs.dropLast) (show bY K W _ _ from zC hr)) ru
  .cases h
 .cases h
end
section
variable{ι:Type}{K:Fg}{X:ι->Cx}{a b c e o:Expr}{es:List Expr}{f g h:EF}{fa:AF}{pos:Pos}
structure MO(K:Fg)(X:ι->Cx)(e:Option Expr)(f:OF):Prop where
 ex:∃t,(∀i,PO (X i) e t)/\SO K t f
theorem uE:MO K X none dM:=⟨_,fun _=>aDp,aBV⟩
theorem uB(x:ME K X e f):MO K X (some e) (gL f):=by
 obtain⟨t,x1,x2⟩:=x.ex;exact⟨_,fun i=>aDi (x1 i),aBQ x2⟩
theorem QM{lo hi:Option Expr}{l u:OF}{p2:Pos}(hK:∀i,(X i).K=K)(x:ME K X a f)(y:MO K X lo l)(z:MO K X hi u):ME K X (.Subscript a (.Slice lo hi none p2) pos) (fSl f l u):=by
 obtain⟨t,x1,x2⟩:=x.ex;obtain⟨t',y1,y2⟩:=y.ex;obtain⟨t'',z1,z2⟩:=z.ex;exact⟨_,fun i=>HM (kSl (hK i)) (x1 i) (y1 i) (z1 i),aIp x2 y2 z2⟩
theorem uX(hK:∀i,(X i).K=K)(x:ME K X o f)(y:MA K X [e] fa)(hb:∀env:Env,attributeBase o "append" env (eval o env)=eval o env:=by intro _;rfl)(hl:(apos.endLine==cpos.line)=true:=by rfl):
 ME K X (.Call (.Attribute o "append" apos) [e] [] cpos) (aZ "list" iJ f fa):=by
 obtain⟨t,x1,x2⟩:=x.ex;obtain⟨u,y1,y2⟩:=y.ex;refine⟨_,fun i=>?_,yG UW x2 y2⟩;have:=QH PySem.F.plainAttrs_list PySem.F.slot_list_append PySem.F.type_list_append TV (x1 i) (y1 i) (apos:=apos) (cpos:=cpos) (hb _) (by rw[y.st.1];rfl) hl (y.st.1 _) (y.st.2.plain _ _);rw[hK i]at this;exact this
theorem gA(hK:∀i,(X i).K=K)(x:ME K X o f)(hb:∀env:Env,attributeBase o "pop" env (eval o env)=eval o env:=by intro _;rfl)(hl:(apos.endLine==cpos.line)=true:=by rfl):
 ME K X (.Call (.Attribute o "pop" apos) [] [] cpos) (aZ "list" eE f aH):=by
 obtain⟨t,x1,x2⟩:=x.ex;refine⟨_,fun i=>?_,IC aHW x2⟩;have:=YN PySem.F.plainAttrs_list PySem.F.slot_list_pop PySem.F.type_list_pop aGN (x1 i) (apos:=apos) (cpos:=cpos) (hb _) hl;rw[hK i]at this;exact this
end
theorem Def.okNone{P:Program}{w:World}{K:Fg}{mg:Str->Option Value}{base:Heap}{x:Str}{st:Stmt}{N ps:List Str}{k:Nat}(D:Def K mg x st)(S:aS N ps (aF st))
 (hb:∀(kV doc pm:Value)(an:Option Addr)(cdv ct:Value)(us:List Value),us.length=ps.length->bindArgs (PySem.W.fnOf x x (dG st) (bR st) (aF st) .none kV doc pm an cdv ct) ⟨us,[]⟩=pure (ps.zip us)):
 Callee P w K mg base (k+1) x ps (spM K fun _ _=>none):=by
 refine D.ok S hb (fun vs H Q E h=>?_) fun f cdv A outer s H vs Q E hr h=>?_
 .obtain⟨xs,M,W,y,M',G,R,hf,_⟩:=h;cases hf
 .obtain⟨xs,M,W,y,M',G,R,hf,_⟩:=h;cases hf
noncomputable def keyOf:CD->Option Key
 |.d (.int i)=>some (.inl i)
 |.d (.str x)=>some (.inr x)
 |_=>none
section
variable{K:Fg}
theorem UT{x:CD}{k:Key}{v:V}(h:keyOf x=some k)(r:cD K W x v):v=kV k:=by
 unfold keyOf at h;split at h
 .cases h;exact r
 .cases h;exact r
 .cases h
end
mutual
noncomputable def wt:PyData->Nat
 |.none=>4
 |.bool _=>5
 |.int _=>2000
 |.str x=>(reprText x).length
 |.list xs=>WZ xs+3
 |.tuple xs=>WZ xs+3
 |.dict kvs=>aJi kvs+3
noncomputable def WZ:List PyData->Nat
 |[]=>0
 |x::xs=>wt x+2+WZ xs
noncomputable def aJi:List (PyData×PyData)->Nat
 |[]=>0
 |(k,v)::r=>wt k+wt v+4+aJi r
end
theorem PV{i:Int}(h:i.natAbs<2 ^ 1900):i.natAbs.log2<1900:=by
 by_cases h0:i.natAbs=0
 .rw[h0];decide +kernel
 .exact(Nat.log2_lt h0).mpr h
theorem aBW{i:Int}(h:i.natAbs<2 ^ 1900):((toString i:String):Str).length<=2000:=by
 have h1:=int_text_length_le (k:=1900) (by decide) (PV h);show(Str.ofString (toString i)).length<=2000;rw[PySem.ofString_length];omega
noncomputable def vB(f:Str)(v:CD):List (Str×CD)->List (Str×CD)
 |[]=>[(f,v)]
 |(g,x)::r=>if g=f then(g,v)::r else(g,x)::vB f v r
section
variable{K:Fg}
theorem AK{W:Wd}{f:Str}{x:CD}{v:V}(r:cD K W x v):∀{fs:List (Str×CD)}{us:List (Str×V)},Paired (fun p q=>p.1=q.1/\cD K W p.2 q.2) fs us->Paired (fun p q=>p.1=q.1/\cD K W p.2 q.2) (vB f x fs) (mX f v us)
 |_,_,.nil=>.cons ⟨rfl,r⟩ .nil
 |(g,y)::fs,(g',u)::us,.cons h t=>by
  obtain⟨h1,h2⟩:=h;have h1:g=g':=h1;subst h1;unfold vB mX;by_cases e:g=f
  .rw[A4 e,A4 e];exact .cons ⟨rfl,r⟩ t
  .rw[A5 e,A5 e];exact .cons ⟨rfl,h2⟩ (AK r t)
theorem DE{W:Wd}{f:Str}{x:CD}:∀{fs:List (Str×CD)}{us:List (Str×V)},Paired (fun p q=>p.1=q.1/\cD K W p.2 q.2) fs us->fs.lookup f=some x->∃v,us.lookup f=some v/\cD K W x v
 |_,_,.nil=>fun h=>by cases h
 |(g,y)::fs,(g',u)::us,.cons h t=>fun e=>by
  obtain⟨h1,h2⟩:=h;have h1:g=g':=h1;subst h1;rw[D0]at e ⊢;by_cases q:(f==g)=true
  .rw[q]at e ⊢;cases e;exact⟨u,rfl,h2⟩
  .have q':(f==g)=false:=by simpa using q
   rw[q']at e ⊢;exact DE t e
theorem Good.objAt{i:Nat}{nm:Str}{fs:List (Str×CD)}(G:Good K W M H)(h:M[i]?=some (.obj nm fs)):∃dx us,H (W.α i)=some (.ins (bN K nm) dx us)/\Paired (fun p q=>p.1=q.1/\cD K W p.2 q.2) fs us:=by
 obtain⟨_,o,h2,h3⟩:=G.cs i _ h (by intro z;cases z);cases o with
 |ins C dx us=>
  obtain⟨e,p⟩:=h3;subst e;exact⟨dx,us,h2,p⟩
 |_=>exact False.elim h3
theorem Good.extra(g:Good K W M H){p:Addr}{o:HO}(hp:H p=none):Good K W M (upd H p o):=by
 refine⟨fun b u hb=>?_,g.n,fun i c hi hc=>?_,g.inj⟩
 .have:=g.fh b u hb;rw[aM (aP this hp)];exact this
 .obtain⟨h1,o',h2,h3⟩:=g.cs i c hi hc;exact⟨h1,o',by rw[aM (aP h2 hp)];exact h2,h3⟩
noncomputable def objOf(nm:Str)(M:Sto):CD->Option (Nat×List (Str×CD))
 |.c i=>match M[i]? with
  |some (.obj nm' fs)=>if nm'=nm then some (i,fs)else none
  |_=>none
 |_=>none
theorem tQ{nm:Str}{x:CD}{i:Nat}{fs:List (Str×CD)}(h:objOf nm M x=some (i,fs)):x=.c i/\M[i]?=some (.obj nm fs):=by
 unfold objOf at h;split at h
 .rename_i j;split at h
  .rename_i nm' fs' hj;by_cases e:nm'=nm
   .rw[A4 e]at h;cases h;subst e;exact⟨rfl,hj⟩
   .rw[A5 e]at h;cases h
  .cases h
 .cases h
noncomputable def rH(nm f:Str)(e:EF):EF:=fun γ M=>(e γ M).bind fun r=>(objOf nm r.2 r.1).bind fun p=>(p.2.lookup f).bind fun v=>some (v,r.2)
theorem aFn{nm f:Str}{ta:TE}{e:EF}(c:Cls K (bN K nm))(n:fS K (bN K nm) f)(a:SE K ta e):SE K (aJx K ta f) (rH nm f e):=by
 intro γ M x M' hh W H σ Q G R k;obtain⟨⟨y,M1⟩,h1,hh⟩:=aJ hh;obtain⟨⟨i,fs⟩,h2,hh⟩:=aJ hh;obtain⟨v,h3,hh⟩:=aJ hh;cases hh;refine a _ _ _ _ h1 W H σ _ G R fun u W1 H1 e1 G1 r1=>?_;obtain⟨rfl,hM⟩:=tQ h2;obtain⟨dx,us,hH,hp⟩:=G1.objAt hM;obtain⟨w,hw,rw'⟩:=DE hp h3;exact⟨W1.α i,_,dx,us,w,r1.2,hH,c,n,hw,k w W1 H1 e1 G1 rw'⟩
noncomputable def IK(nm f:Str)(eo ev:EF):SF:=fun γ M=>(ev γ M).bind fun v=>(eo γ v.2).bind fun o=>(objOf nm o.2 o.1).bind fun p=>if p.2.length<1000 then some (.nx γ,o.2.set p.1 (.obj nm (vB f v.1 p.2)))else none
theorem aGG{nm f:Str}{ta tv:TE}{eo ev:EF}(c:Cls K (bN K nm))(n:fS K (bN K nm) f)(a:SE K ta eo)(b:SE K tv ev):SS K (aDk K ta tv f) (IK nm f eo ev):=by
 intro γ M o M' hh W H σ D G R k;obtain⟨⟨y,M1⟩,h1,hh⟩:=aJ hh;obtain⟨⟨z,M2⟩,h2,hh⟩:=aJ hh;obtain⟨⟨i,fs⟩,h3,hh⟩:=aJ hh;by_cases hl:fs.length<1000
 .have hh:(if fs.length<1000 then some (Out.nx γ,M2.set i (.obj nm (vB f y fs)))else none)=some (o,M'):=hh;rw[A4 hl]at hh;cases hh;refine b _ _ _ _ h1 W H σ _ G R fun v W1 H1 e1 G1 r1=>?_;refine a _ _ _ _ h2 W1 H1 σ _ G1 (R.up e1) fun u W2 H2 e2 G2 r2=>?_;obtain⟨rfl,hM⟩:=tQ h3;obtain⟨dx,us,hH,hp⟩:=G2.objAt hM;refine⟨W2.α i,_,dx,us,r2.2,hH,c,n,by rw[<- Paired.len hp];exact hl,?_⟩;exact k W2 _ (e1.trans e2) (G2.set hM (by intro q;cases q) (c':=.obj nm (vB f y fs)) (o':=.ins (bN K nm) dx (mX f v us)) ⟨rfl,AK (r1.up e2) hp⟩) σ (R.up (e1.trans e2))
 .have hh:(if fs.length<1000 then some (Out.nx γ,M2.set i (.obj nm (vB f y fs)))else none)=some (o,M'):=hh;rw[A5 hl]at hh;cases hh
noncomputable def nF:CD->Bool
 |.d .none=>true
 |_=>false
theorem JE{x:CD}(h:nF x=true):x=.d .none:=by
 cases x with
 |c n=>cases h
 |t n=>cases h
 |f n=>cases h
 |g _=>cases h
 |d x=>cases x<;>first|rfl|cases h
end
section
variable{ι:Type}{K:Fg}{X:ι->Cx}{a b c e o:Expr}{es:List Expr}{f g h:EF}{fa:AF}{pos:Pos}
theorem GO{nm fl:Str}(hK:∀i,(X i).K=K)(hc:Cls K (bN K nm))(hn:fS K (bN K nm) fl)(x:ME K X o f)(hb:∀env:Env,attributeBase o fl env (eval o env)=eval o env:=by intro _;rfl):ME K X (.Attribute o fl pos) (rH nm fl f):=by
 obtain⟨t,x1,x2⟩:=x.ex;refine⟨_,fun i=>?_,aFn hc hn x2⟩;have:=aHe (x1 i) (hb _) (pos:=pos);rw[hK i]at this;exact this
theorem aAR{nm fl:Str}{pos':Pos}(hK:∀i,(X i).K=K)(hc:Cls K (bN K nm))(hn:fS K (bN K nm) fl)(x:ME K X o f)(y:ME K X e g)(hs:∀i,swapsWith e (some (.Attribute o fl pos')) pos.line (X i).env=pure false:=by intro _;rfl):MS K X (.Assign [.Attribute o fl pos'] e pos) (IK nm fl f g):=by
 obtain⟨t,x1,x2⟩:=x.ex;obtain⟨u,y1,y2⟩:=y.ex;refine⟨_,fun i=>?_,aGG hc hn x2 y2⟩;have:=aAg (x1 i) (y1 i) (hs i);rw[hK i]at this;exact this
end
structure NY(K:Fg)(nm m qual:Str)(st:Stmt):Prop where
 ex:∃f fd,Fun K m qual st f fd/\PySem.W.findIn K (.ref (bN K nm)) m=some (some (.ref f))/\PySem.W.isFn K (.ref f)=true
section
variable{P:Program}{w:World}{K:Fg}{mg:Str->Option Value}{base:Heap}
theorem Fun.okQ{x qual:Str}{st:Stmt}{N ps:List Str}{k:Nat}{b:SF}{f:Addr}{fd:FuncData}(F:Fun K x qual st f fd)(S:aS N ps (aF st))
 (hbody:∀(f:Addr)(cdv:Value)(A:Around)(outer:List Env)(s:Shared)(H:Hp)(E:XK),cG k (A.deeper (envOfC qual (aF st) s.heap.objs.size f cdv))->
  ML K (fun _:Unit=>(mE CX0 P w K mg base N qual (aF st) f cdv A outer s H E).nox) (bR st) b):gY P w K mg base CX0 (k+1) f fd ps (spM K (fnF ps.length N.length b)):=by
 have len:∀vs H Q E,spM K (fnF ps.length N.length b) vs H Q E->vs.length=ps.length:=fun vs H Q E h=>by
  obtain⟨xs,M,W,y,M',G,R,hf,_⟩:=h;by_cases hl:xs.length=ps.length
  .rw[<- Paired.len R];exact hl
  .unfold fnF at hf;rw[A5 hl]at hf;cases hf
 refine F.ok S len fun cdv A outer s H vs Q E hr h=>?_;obtain⟨t,hP,hS⟩:=(hbody f cdv A outer s H E hr).ex;refine⟨t,hP (),?_⟩;obtain⟨xs,M,W,y,M',G,R,hf,k⟩:=h;by_cases hl:xs.length=ps.length
 .unfold fnF at hf;rw[A4 hl]at hf;obtain⟨⟨o,M1⟩,h1,hf⟩:=aJ hf
  have hR:cL K W (xs.map some++List.replicate (N.length-xs.length) none) (start N vs):=by
   unfold start;rw[<- Paired.len R];exact Paired.app (bY.some R) (qP _)
  refine hS _ _ _ _ h1 W H _ _ G hR fun W1 H1 e1 G1=>?_;cases o with
  |rt x=>cases hf;exact fun v r=>k v W1 H1 e1 G1 r
  |nx γ=>cases hf;exact fun σ r=>k .non W1 H1 e1 G1 rfl
  |bk γ=>cases hf
  |ct γ=>cases hf
 .unfold fnF at hf;rw[A5 hl]at hf;cases hf
end
section
variable{K:Fg}
theorem DI{α β:Type}{R:α->β->Prop}:∀{xs:List α}{ys:List β},Paired R xs ys->Paired R xs.reverse ys.reverse
 |_,_,.nil=>.nil
 |_,_,.cons h t=>by
  rw[List.reverse_cons,List.reverse_cons];exact Paired.app (DI t) (.cons h .nil)
noncomputable def kF:FM:=fun x ys M=>match x,ys with
 |.c i,[]=>match M[i]? with
  |some (.lst xs)=>some (.d .none,M.set i (.lst xs.reverse))
  |_=>none
 |_,_=>none
theorem OE:PM K IX kF:=by
 intro x ys M z M' h W H v vs Q G rx rs k;unfold kF at h;split at h
 .rename_i i;split at h
  .rename_i xs hx;cases h;obtain⟨us,hv,hr⟩:=G.lstAt hx;cases rs;refine⟨W.α i,us,rx.2,rfl,hv,?_⟩;exact k _ W _ (.refl _) (G.set hx (by intro q;cases q) (c':=.lst xs.reverse) (show bY K W _ _ from DI hr)) rfl
  .cases h
 .cases h
noncomputable def aJb:List V->Hp->VK->Prop:=fun xs H Q=>∃i j,xs=[.int i,.int j]/\Q (.int (if j > i then j else i)) H
noncomputable def aJL:List V->Hp->VK->Prop:=fun xs H Q=>∃i j,xs=[.int i,.int j]/\Q (.int (if j<i then j else i)) H
noncomputable def DR:FN:=fun xs M=>match xs with
 |[.d (.int i),.d (.int j)]=>some (.d (.int (if j > i then j else i)),M)
 |_=>none
noncomputable def CN:FN:=fun xs M=>match xs with
 |[.d (.int i),.d (.int j)]=>some (.d (.int (if j<i then j else i)),M)
 |_=>none
theorem aBM:PN K aJb DR:=by
 intro xs M z M' h W H vs Q G r k;unfold DR at h;split at h
 .rename_i i j;cases h;rcases r with _|⟨r1,_|⟨r2,_|_⟩⟩;exact⟨i,j,by rw[show _=V.int i from r1,show _=V.int j from r2],k _ W H (.refl _) G rfl⟩
 .cases h
theorem aEa:PN K aJL CN:=by
 intro xs M z M' h W H vs Q G r k;unfold CN at h;split at h
 .rename_i i j;cases h;rcases r with _|⟨r1,_|⟨r2,_|_⟩⟩;exact⟨i,j,by rw[show _=V.int i from r1,show _=V.int j from r2],k _ W H (.refl _) G rfl⟩
 .cases h
end
section
variable{ι:Type}{K:Fg}{X:ι->Cx}{a b c e o:Expr}{es:List Expr}{f g h:EF}{fa:AF}{pos:Pos}
theorem aGB(hc:∀i,(X i).calm=true):QN K X (.builtin "max") DR:=⟨_,fun i=>VJ (hc i),aBM⟩
theorem aIi(hc:∀i,(X i).calm=true):QN K X (.builtin "min") CN:=⟨_,fun i=>UQ (hc i),aEa⟩
theorem LU(hK:∀i,(X i).K=K)(x:ME K X o f)(hb:∀env:Env,attributeBase o "reverse" env (eval o env)=eval o env:=by intro _;rfl)(hl:(apos.endLine==cpos.line)=true:=by rfl):
 ME K X (.Call (.Attribute o "reverse" apos) [] [] cpos) (aZ "list" kF f aH):=by
 obtain⟨t,x1,x2⟩:=x.ex;refine⟨_,fun i=>?_,IC OE x2⟩;have:=YN PySem.F.plainAttrs_list PySem.F.slot_list_reverse PySem.F.type_list_reverse NW (x1 i) (apos:=apos) (cpos:=cpos) (hb _) hl;rw[hK i]at this;exact this
end
open PySem PySem.W PyProof.Rows
noncomputable def KS{α:Type}(lt:Nat->Nat->Bool)(n:Nat):KasT α->(α->Prop)->Prop
 |.ret a,Q=>Q a
 |.ask i j k,Q=>i<n/\j<n/\KS lt n (k (lt i j)) Q
theorem KS.bind{α β:Type}{lt:Nat->Nat->Bool}{n:Nat}{f:α->KasT β}{Q:β->Prop}:∀{t:KasT α},KS lt n t (fun a=>KS lt n (f a) Q)->KS lt n (t.bind f) Q
 |.ret _=>fun h=>h
 |.ask _ _ _=>fun h=>⟨h.1,h.2.1,KS.bind h.2.2⟩
theorem KS.mono{α:Type}{lt:Nat->Nat->Bool}{n:Nat}{Q R:α->Prop}(m:∀a,Q a->R a):∀{t:KasT α},KS lt n t Q->KS lt n t R
 |.ret _=>fun h=>m _ h
 |.ask _ _ _=>fun h=>⟨h.1,h.2.1,KS.mono m h.2.2⟩
theorem KS.wp{α:Type}{lt:Nat->Nat->Bool}{n:Nat}{Q:α->Prop}{R:α->Shared->Prop}{s:Shared}{cmp:Nat->Nat->(Bool->Shared->Prop)->Shared->Prop}
 (hc:∀i j C,i<n->j<n->C (lt i j) s->cmp i j C s) (m:∀a,Q a->R a s):∀{t:KasT α},KS lt n t Q->KasT.kasWp cmp t R s
 |.ret _=>fun h=>m _ h
 |.ask _ _ _=>fun h=>hc _ _ _ h.1 h.2.1 (KS.wp hc m h.2.2)
section
variable{lt:Nat->Nat->Bool}{n:Nat}
structure uC(lt:Nat->Nat->Bool):Prop where
 as:∀a b,lt a b=true->lt b a=false
 tr:∀a b c,lt b a=false->lt c b=false->lt c a=false
theorem uC.up(o:uC lt){a b c:Nat}(h:lt c a=true)(h':lt b a=false):lt c b=true:=by
 cases e:lt c b with
 |true=>rfl
 |false=>rw[o.tr _ _ _ h' e]at h;cases h
noncomputable def Inv2(n:Nat)(p:Array Nat):Prop:=p.Perm (List.range n).toArray
theorem Inv2.sz{p:Array Nat}(h:Inv2 n p):p.size=n:=by
 have:=(Array.perm_iff_toList_perm.mp h).length_eq;simpa using this
theorem Inv2.ent{p:Array Nat}(h:Inv2 n p)(h0:0<n)(k:Nat):p.getD k 0<n:=by
 rw[D9];cases e:p[k]? with
 |none=>exact h0
 |some x=>
  have hm:x∈p:=Array.mem_of_getElem? e;have:=(h.mem_iff (a:=x)).mp hm;simpa using this
noncomputable def gN(lt:Nat->Nat->Bool)(p:Array Nat)(n:Nat):Prop:=∀i j,i<j->j<n->lt (p.getD j 0) (p.getD i 0)=false
noncomputable def uN(lt:Nat->Nat->Bool)(p:Array Nat)(n:Nat):Prop:=∀i j,i<j->j<n->lt (p.getD i 0) (p.getD j 0)=false
noncomputable def YL(lt:Nat->Nat->Bool)(p:Array Nat)(n q:Nat):Prop:=∀i j,n<=i+q+1->i<j->j<n->lt (p.getD j 0) (p.getD i 0)=false
theorem gN.ext(o:uC lt){p:Array Nat}{m:Nat}(h:gN lt p m)(h1:1<=m)(h2:lt (p.getD m 0) (p.getD (m-1) 0)=false):gN lt p (m+1):=by
 intro i j hij hj;by_cases e:j=m
 .subst e;by_cases e':i=j-1
  .subst e';exact h2
  .exact o.tr _ _ _ (h i (j-1) (by omega) (by omega)) h2
 .exact h i j hij (by omega)
theorem uN.ext(o:uC lt){p:Array Nat}{m:Nat}(h:uN lt p m)(h1:1<=m)(h2:lt (p.getD (m-1) 0) (p.getD m 0)=false):uN lt p (m+1):=by
 intro i j hij hj;by_cases e:j=m
 .subst e;by_cases e':i=j-1
  .subst e';exact h2
  .exact o.tr _ _ _ h2 (h i (j-1) (by omega) (by omega))
 .exact h i j hij (by omega)
theorem NN(o:uC lt){p:Array Nat}(hp:Inv2 n p)(h0:0<n){Q:Nat->Prop}:∀(f m:Nat),1<=m->gN lt p m->(∀r,m<=r->r<=m+f->gN lt p r->(r<m+f->lt (p.getD r 0) (p.getD (r-1) 0)=true)->Q r)->KS lt n (kas_asc p f m) Q
 |0=>fun m h1 hs k=>by
  rw[kas_asc.eq_def];exact k m (A8 _) (A8 _) hs (fun h=>absurd h (J3 _))
 |f+1=>fun m h1 hs k=>by
  rw[kas_asc.eq_def];refine⟨hp.ent h0 _,hp.ent h0 _,?_⟩;cases e:lt (p.getD m 0) (p.getD (m-1) 0)with
  |true=>exact k m (A8 _) (by omega) hs (fun _=>e)
  |false=>exact NN o hp h0 f (m+1) (by omega) (hs.ext o h1 e) fun r a b c d=>k r (by omega) (by omega) c (fun z=>d (by omega))
theorem fF{p:Array Nat}(hp:Inv2 n p)(i j:Nat):Inv2 n (kas_rev p i j):=(mirror_perm p i j _).trans hp
theorem qX{p:Array Nat}{i j:Nat}(hj:j<=p.size)(k:Nat):(kas_rev p i j).getD k 0=if i<=k/\k<j then p.getD (i+j-1-k) 0 else p.getD k 0:=by
 rw[D9,show(kas_rev p i j)[k]?=_ from getElem?_mirror_all hj k];by_cases e:i<=k/\k<j
 .rw[A4 e,A4 e,D9]
 .rw[A5 e,A5 e,D9]
theorem JL(o:uC lt){p:Array Nat}{lo hi m:Nat}(hm:m<=p.size)(hh:hi<=m)(d:uN lt p m)(e:∀i j,lo<=i->i<j->j<hi->lt (p.getD j 0) (p.getD i 0)=false):uN lt (kas_rev p lo hi) m:=by
 intro i j hij hj;rw[qX (by omega),qX (by omega)];by_cases a:lo<=i/\i<hi
 .rw[A4 a];by_cases b:lo<=j/\j<hi
  .rw[A4 b];exact e _ _ (by omega) (by omega) (by omega)
  .rw[A5 b];exact d _ _ (by omega) hj
 .rw[A5 a];by_cases b:lo<=j/\j<hi
  .rw[A4 b];exact d _ _ (by omega) (by omega)
  .rw[A5 b];exact d _ _ hij hj
theorem yD(o:uC lt)(h0:0<n){Q:Array Nat×Nat×Nat->Prop}:∀(f:Nat)(p:Array Nat)(m q:Nat),Inv2 n p->1<=m->m+f<=n->uN lt p m->YL lt p m q->q+1<=m->
 (∀p' m' q',Inv2 n p'->m<=m'->m'<=m+f->uN lt p' m'->YL lt p' m' q'->q'+1<=m'->Q (p',m',q'))->KS lt n (kas_desc f p m q) Q
 |0=>fun p m q hp h1 h2 hd he hq k=>by
  rw[kas_desc.eq_def];exact k p m q hp (A8 _) (A8 _) hd he hq
 |f+1=>fun p m q hp h1 h2 hd he hq k=>by
  rw[kas_desc.eq_def];refine⟨hp.ent h0 _,hp.ent h0 _,?_⟩;have hsz:=hp.sz;have e0:∀p':Array Nat,YL lt p' (m+1) 0:=fun p' i j a b c=>by omega
  cases c:lt (p.getD m 0) (p.getD (m-1) 0)with
  |true=>
   have hd1:=hd.ext o h1 (o.as _ _ c);dsimp only;rw[A4 rfl];by_cases hq0:q > 0
   .rw[A4 hq0];exact yD o h0 f _ (m+1) 0 (fF hp _ _) (by omega) (by omega) (JL o (by omega) (by omega) hd1 (fun i j a b d=>he i j (by omega) b (by omega))) (e0 _) (by omega) fun p' m' q' a b c' d e g=>k p' m' q' a (by omega) (by omega) d e g
   .rw[A5 hq0];exact yD o h0 f _ (m+1) 0 hp (by omega) (by omega) hd1 (e0 _) (by omega) fun p' m' q' a b c' d e g=>k p' m' q' a (by omega) (by omega) d e g
  |false=>
   dsimp only;rw[A5 A7];refine⟨hp.ent h0 _,hp.ent h0 _,?_⟩;cases d:lt (p.getD (m-1) 0) (p.getD m 0)with
   |true=>
    dsimp only;rw[A4 rfl];exact k p m q hp (A8 _) (by omega) hd he hq
   |false=>
    dsimp only;rw[A5 A7];refine yD o h0 f p (m+1) (q+1) hp (by omega) (by omega) (hd.ext o h1 d) ?_ (by omega) fun p' m' q' a b c' d e g=>k p' m' q' a (by omega) (by omega) d e g;intro i j a b e;by_cases ej:j=m
    .subst ej;by_cases ei:i=j-1
     .subst ei;exact c
     .exact o.tr _ _ _ (he i (j-1) (by omega) (by omega) (by omega)) c
    .exact he i j (by omega) b (by omega)
noncomputable def Part(lt:Nat->Nat->Bool)(n:Nat)(r:Nat×Array Nat):Prop:=Inv2 n r.2/\1<=r.1/\r.1<=n/\gN lt r.2 r.1
theorem LO(o:uC lt)(h0:0<n){p:Array Nat}{m:Nat}(hp:Inv2 n p)(h1:1<=m)(h2:m<=n)(hd:uN lt p m):KS lt n (kas_tail3 m n p) (Part lt n):=by
 have hsz:=hp.sz;rw[kas_tail3.eq_def];refine KS.bind (NN o (fF hp 0 m) h0 _ _ h1 ?_ fun r a b c _=>⟨fF hp 0 m,by omega,by omega,c⟩);intro i j hij hj;rw[qX (by omega),qX (by omega),A4 (by omega),A4 (by omega)];exact hd _ _ (by omega) (by omega)
theorem wW(o:uC lt)(h0:0<n){p:Array Nat}{m:Nat}(hp:Inv2 n p)(h2:m+1<=n)(hd:uN lt p (m+1)):KS lt n (kas_descPart m n p) (Part lt n):=by
 rw[kas_descPart.eq_def];refine KS.bind (yD o h0 _ _ _ _ hp (by omega) (by omega) hd (fun i j a b c=>by omega) (by omega) fun p' m' q' a b c d e g=>?_);have hsz:=a.sz;show KS lt n (if q' > 0 then kas_tail3 m' n (kas_rev p' (m'-(q'+1)) m')else kas_tail3 m' n p') _;by_cases hq:q' > 0
 .rw[A4 hq];exact LO o h0 (fF a _ _) (by omega) (by omega) (JL o (by omega) (A8 _) d fun i j x y z=>e i j (by omega) y z)
 .rw[A5 hq];exact LO o h0 a (by omega) (by omega) d
theorem aBF(o:uC lt)(h0:0<n){p:Array Nat}(hp:Inv2 n p):KS lt n (kas_count n p) (Part lt n):=by
 have hsz:=hp.sz;rw[kas_count.eq_def];refine KS.bind (NN o hp h0 _ _ (A8 _) (fun i j a b=>by omega) fun r a b c d=>?_);by_cases e:(r==n)=true
 .rw[A4 e];exact⟨hp,a,by omega,c⟩
 .rw[A5 e];have e':r≠n:=by simpa using e
  have hl:=d (by omega);by_cases g:r > 1
  .rw[A4 g];refine⟨hp.ent h0 _,hp.ent h0 _,?_⟩;cases l:lt (p.getD 0 0) (p.getD (r-1) 0)with
   |true=>dsimp only;rw[A4 rfl];exact⟨hp,a,by omega,c⟩
   |false=>
    dsimp only;rw[A5 A7];have le:∀i j,i<=j->j<r->i<j\/i=j:=fun i j x y=>by omega
    have irr:∀x,lt x x=false:=fun x=>by
     cases q:lt x x with
     |false=>rfl
     |true=>rw[o.as _ _ q]at q;cases q
    have up:∀i,i<r->lt (p.getD i 0) (p.getD (r-1) 0)=false:=fun i hi=>by
     have x1:lt (p.getD i 0) (p.getD 0 0)=false:=by
      by_cases z:i=0
      .subst z;exact irr _
      .exact c 0 i (by omega) hi
     exact o.tr _ _ _ l x1
    have dn:∀i,i<r->lt (p.getD (r-1) 0) (p.getD i 0)=false:=fun i hi=>by
     by_cases z:i=r-1
     .subst z;exact irr _
     .exact c i (r-1) (by omega) (by omega)
    have al:∀i j,i<r->j<r->lt (p.getD i 0) (p.getD j 0)=false:=fun i j hi hj=>o.tr _ _ _ (dn j hj) (up i hi);refine wW o h0 (fF hp _ _) (by omega) ?_;intro i j hij hj;rw[qX (by omega),qX (by omega),A4 (by omega)];by_cases z:j<r
    .rw[A4 (by omega)];exact al _ _ (by omega) (by omega)
    .rw[A5 (by omega)];have:j=r:=by omega
     subst this;exact o.tr _ _ _ (o.as _ _ hl) (up _ (by omega))
  .rw[A5 g];have:r=1:=by omega
   subst this;refine wW o h0 hp (by omega) ?_;intro i j hij hj;have:i=0:=by omega
   have:j=1:=by omega
   subst i;subst j;exact o.as _ _ hl
theorem BS(o:uC lt)(h0:0<n){p:Array Nat}(hp:Inv2 n p){k:Nat}(hs:gN lt p k){Q:Nat->Prop}(q:∀l,l<=k->(∀i,i<l->lt (p.getD k 0) (p.getD i 0)=false)->(∀i,l<=i->i<k->lt (p.getD k 0) (p.getD i 0)=true)->Q l):
 ∀(f l r:Nat),l<=r->r<=k->r-l<=f->(∀i,i<l->lt (p.getD k 0) (p.getD i 0)=false)->(∀i,r<=i->i<k->lt (p.getD k 0) (p.getD i 0)=true)->KS lt n (kas_place p k f l r) Q
 |0=>fun l r h1 h2 h3 a b=>by
  rw[kas_place.eq_def];have:l=r:=by omega
  subst this;exact q l h2 a b
 |f+1=>fun l r h1 h2 h3 a b=>by
  rw[kas_place.eq_def];show KS lt n (if l>=r then _ else _) Q;by_cases g:l>=r
  .rw[A4 g];have:l=r:=by omega
   subst this;exact q l h2 a b
  .rw[A5 g];refine⟨hp.ent h0 _,hp.ent h0 _,?_⟩;cases c:lt (p.getD k 0) (p.getD ((l+r) / 2) 0)with
   |true=>
    dsimp only;rw[A4 rfl];refine BS o h0 hp hs q f _ _ (by omega) (by omega) (by omega) a fun i x y=>?_;by_cases z:i=(l+r) / 2
    .subst z;exact c
    .exact o.up c (hs _ _ (by omega) y)
   |false=>
    dsimp only;rw[A5 A7];refine BS o h0 hp hs q f _ _ (by omega) (by omega) (by omega) (fun i x=>?_) b;by_cases z:i=(l+r) / 2
    .subst z;exact c
    .exact o.tr _ _ _ (hs i ((l+r) / 2) (by omega) (by omega)) c
theorem RG{p:Array Nat}{src d:Nat}(h:src<p.size)(hd:d<=src)(k:Nat):(bubble p src d).getD k 0=if k=src-d then p.getD src 0 else if src-d<k/\k<=src then p.getD (k-1) 0 else p.getD k 0:=by
 rw[D9,getElem?_bubble h d hd k];by_cases e:k=src-d
 .rw[A4 e,A4 e,D9]
 .rw[A5 e,A5 e];by_cases e2:src-d<k/\k<=src
  .rw[A4 e2,A4 e2,D9]
  .rw[A5 e2,A5 e2,D9]
theorem aAr(o:uC lt)(h0:0<n){Q:Array Nat->Prop}(q:∀p,Inv2 n p->gN lt p n->Q p):∀(f:Nat)(p:Array Nat)(k:Nat),Inv2 n p->k+f=n->gN lt p k->KS lt n (kas_bin f p k) Q
 |0=>fun p k hp hk hs=>by
  rw[kas_bin.eq_def];have:k=n:=by omega
  subst this;exact q p hp hs
 |f+1=>fun p k hp hk hs=>by
  rw[kas_bin.eq_def];have hsz:=hp.sz;refine KS.bind (BS o h0 hp hs (fun l hl a b=>?_) k 0 k (by omega) (by omega) (by omega) (fun i x=>by omega) (fun i x y=>by omega));refine aAr o h0 q f _ (k+1) ((bubble_perm p k (k-l)).trans hp) (by omega) ?_;intro i j hij hj;rw[RG (by omega) (by omega),RG (by omega) (by omega)];have hkl:k-(k-l)=l:=by omega
  rw[hkl];by_cases j1:j=l
  .rw[A4 j1,A5 (by omega),A5 (by omega)];exact a i (by omega)
  .rw[A5 j1];by_cases j2:l<j/\j<=k
   .rw[A4 j2];by_cases i1:i=l
    .rw[A4 i1];exact o.as _ _ (b _ (by omega) (by omega))
    .rw[A5 i1];by_cases i2:l<i/\i<=k
     .rw[A4 i2];exact hs _ _ (by omega) (by omega)
     .rw[A5 i2];exact hs _ _ (by omega) (by omega)
   .rw[A5 j2,A5 (by omega),A5 (by omega)];exact hs _ _ hij (by omega)
theorem aBX(o:uC lt)(h0:0<n):KS lt n (kas_sort n) (fun p=>Inv2 n p/\gN lt p n):=by
 unfold kas_sort;refine KS.bind (KS.mono (fun r h=>?_) (aBF o h0 (p:=(List.range n).toArray) (Array.Perm.refl _)));obtain⟨a,b,c,d⟩:=h;by_cases e:r.fst<n
 .rw[A4 e];have hm:max r.fst 1=r.fst:=by omega
  rw[hm];exact aAr o h0 (fun p x y=>⟨x,y⟩) _ _ _ a (by omega) d
 .rw[A5 e];have:r.fst=n:=by omega
  exact⟨a,this▸d⟩
end
end L2
namespace L2
open PySem PySem.Spec PyProof.Rows
noncomputable def kH:List PyData->Option (List Int)
 |[]=>some []
 |.int n::r=>(kH r).bind fun ns=>some (n::ns)
 |_=>none
theorem uQ{h:Heap}:∀{ds:List PyData}{us:List Value}{as:List Addr}{ns:List Int},ReadsAll h us ds as->kH ds=some ns->IntsAre us ns
 |[],_,_,_=>fun r e=>by cases r;cases e;exact .nil
 |d::ds,_,_,_=>fun r e=>by
  cases r with
  |cons r1 r2=>
   cases d with
   |int n=>
    have e:(kH ds).bind (fun ns=>some (n::ns))=some _:=e;obtain⟨ms,h1,h2⟩:=Option.bind_eq_some_iff.mp e;cases h2;cases r1;exact .cons _ _ (uQ r2 h1)
   |_=>cases e
noncomputable def eZ:PyData->PyData->Option Bool
 |.int a,.int b=>some (decide (a<b))
 |.tuple xs,.tuple ys=>(kH xs).bind fun ns=>(kH ys).bind fun ms=>some (HT.lexLt ns ms)
 |_,_=>none
noncomputable def dH:List PyData->List PyData->Option Bool
 |[],ys=>some (decide (0<ys.length))
 |_::_,[]=>some false
 |x::xs,y::ys=>if PyData.eqv x y=true then dH xs ys else eZ x y
noncomputable def isI:PyData->Bool
 |.int _=>true
 |_=>false
section
variable{prog:Program}{w:World}{A:Around}{E:Value->Shared->Prop}{s:Shared}
theorem aDm{p q:Value}{x y:PyData}{as bs:List Addr}{c fl:Bool}{Q:Bool->Shared->Prop}(hu:A.units<cLine)(r1:Reads s.heap p x as)(r2:Reads s.heap q y bs)(h:eZ x y=some c)(hf:fl=true->isI x=true/\isI y=true)(k:Q c s):
 wpAny (model prog w) A (oneLt' fl p q) Q E s:=by
 unfold eZ at h;split at h
 .rename_i a b;cases r1;cases r2;cases h;cases fl with
  |true=>exact oneLt_int k
  |false=>exact PySem.W.kat_one _ _ (lt_int k)
 .rename_i xs ys;obtain⟨ns,h1,h⟩:=Option.bind_eq_some_iff.mp h;obtain⟨ms,h2,h⟩:=Option.bind_eq_some_iff.mp h;cases h;cases fl with
  |true=>exact absurd (hf rfl).1 (by intro z;cases z)
  |false=>
   cases r1 with
   |tuple g1 g2 g3 g4=>
    cases r2 with
    |tuple k1 k2 k3 k4=>
     exact PySem.W.kat_one _ _ (HT.lt_tupInts ⟨_,g1,g2,_,g3⟩ ⟨_,k1,k2,_,k3⟩ (uQ g4 h1) (uQ k4 h2) hu k)
 .cases h
theorem PZ{b fin c:Bool}{Q:Bool->Shared->Prop}(hu:A.units+64<cLine)(k:Q c s):∀(xs ys:List PyData)(us ws:List Value)(as bs:List Addr)(i:Nat),ReadsAll s.heap us xs as->ReadsAll s.heap ws ys bs->xs.all SeqAt.shaped=true->ys.all SeqAt.shaped=true->
 dH xs ys=some c->fin=decide (us.length<ws.length)->((b&&i==0)=true->xs.head?.all isI=true/\ys.head?.all isI=true)->PySem.W.KatLex prog w A b fin Q (us.zip ws) i s
 |[],ys=>fun us ws as bs i r1 r2 s1 s2 h hf hb=>by
  cases r1
  have hl:ws.length=ys.length:=by
   clear k h hf hb s2
   induction r2 using ReadsAll.rec (motive_1:=fun _ _ _ _=>True)with
   |nil=>rfl
   |cons _ _ _ ih=>simp[ih]
   |_=>trivial
  rw[List.zip_nil_left];refine PySem.W.kat_nil ?_;have h:some (decide (0<ys.length))=some c:=h;cases h;rw[hf,hl];exact k
 |x::xs,[]=>fun us ws as bs i r1 r2 s1 s2 h hf hb=>by
  cases r2;rw[List.zip_nil_right];refine PySem.W.kat_nil ?_;cases h;rw[hf];simpa using k
 |x::xs,y::ys=>fun us ws as bs i r1 r2 s1 s2 h hf hb=>by
  cases r1 with
  |cons a1 a2=>
   cases r2 with
   |cons b1 b2=>
    rw[List.all_cons,B8]at s1 s2;rw[List.zip_cons_cons];refine PySem.W.kat_cons ?_;refine SeqAt.eqAt_reads x y A s _ _ _ _ a1 b1 (O9 s1.1) (O9 s2.1) (SeqAt.room_of_shaped s1.1 hu) _ _ _ _ ?_;have h:(if PyData.eqv x y=true then dH xs ys else eZ x y)=some c:=h;cases e:PyData.eqv x y with
    |true=>
     rw[e,A4 rfl]at h;refine PySem.W.kat_yes (PZ hu k xs ys _ _ _ _ (i+1) a2 b2 s1.2 s2.2 h ?_ (fun z=>?_))
     .rw[hf];simp
     .simp at z
    |false=>
     rw[e,A5 A7]at h;refine PySem.W.kat_no (aDm (by omega) a1 b1 h (fun z=>?_) k);have:=hb z;simpa using this
end
open PySem PySem.W PyProof.Rows
noncomputable def US{α:Type}(lt:Nat->Nat->Bool):KasT α->α
 |.ret a=>a
 |.ask i j k=>US lt (k (lt i j))
noncomputable def KA{α:Type}(n:Nat):KasT α->(α->Prop)->Prop
 |.ret a,Q=>Q a
 |.ask i j k,Q=>i<n/\j<n/\∀b,KA n (k b) Q
section
variable{n:Nat}
theorem KA.bind{α β:Type}{f:α->KasT β}{Q:β->Prop}:∀{t:KasT α},KA n t (fun a=>KA n (f a) Q)->KA n (t.bind f) Q
 |.ret _=>fun h=>h
 |.ask _ _ _=>fun h=>⟨h.1,h.2.1,fun b=>KA.bind (h.2.2 b)⟩
theorem KA.ks{α:Type}{lt:Nat->Nat->Bool}{Q:α->Prop}:∀{t:KasT α},KA n t Q->KS lt n t (fun a=>a=US lt t/\Q a)
 |.ret _=>fun h=>⟨rfl,h⟩
 |.ask i j _=>fun h=>⟨h.1,h.2.1,KA.ks (h.2.2 (lt i j))⟩
theorem KS.run{α:Type}{lt:Nat->Nat->Bool}{Q:α->Prop}:∀{t:KasT α},KS lt n t Q->Q (US lt t)
 |.ret _=>fun h=>h
 |.ask i j k=>fun h=>KS.run (t:=k (lt i j)) h.2.2
theorem MB{p:Array Nat}(hp:Inv2 n p)(h0:0<n){Q:Nat->Prop}(q:∀r,Q r):∀(f m:Nat),KA n (kas_asc p f m) Q
 |0=>fun m=>by rw[kas_asc.eq_def];exact q m
 |f+1=>fun m=>by
  rw[kas_asc.eq_def];refine⟨hp.ent h0 _,hp.ent h0 _,fun b=>?_⟩;cases b with
  |true=>exact q m
  |false=>exact MB hp h0 q f (m+1)
theorem xR(h0:0<n){Q:Array Nat×Nat×Nat->Prop}(k:∀p m q,Inv2 n p->Q (p,m,q)):∀(f:Nat)(p:Array Nat)(m q:Nat),Inv2 n p->KA n (kas_desc f p m q) Q
 |0=>fun p m q hp=>by rw[kas_desc.eq_def];exact k p m q hp
 |f+1=>fun p m q hp=>by
  rw[kas_desc.eq_def];refine⟨hp.ent h0 _,hp.ent h0 _,fun b=>?_⟩;cases b with
  |true=>
   dsimp only;rw[A4 rfl];by_cases hq:q > 0
   .rw[A4 hq];exact xR h0 k f _ _ _ (fF hp _ _)
   .rw[A5 hq];exact xR h0 k f _ _ _ hp
  |false=>
   dsimp only;rw[A5 A7];refine⟨hp.ent h0 _,hp.ent h0 _,fun b=>?_⟩;cases b with
   |true=>exact k p m q hp
   |false=>exact xR h0 k f _ _ _ hp
theorem LI(h0:0<n){p:Array Nat}{m:Nat}(hp:Inv2 n p):KA n (kas_tail3 m n p) (fun r=>Inv2 n r.2):=by
 rw[kas_tail3.eq_def];exact KA.bind (MB (fF hp 0 m) h0 (fun r=>fF hp 0 m) _ _)
theorem wV(h0:0<n){p:Array Nat}{m:Nat}(hp:Inv2 n p):KA n (kas_descPart m n p) (fun r=>Inv2 n r.2):=by
 rw[kas_descPart.eq_def];refine KA.bind (xR h0 (fun p' m' q' a=>?_) _ _ _ _ hp);show KA n (if q' > 0 then kas_tail3 m' n (kas_rev p' (m'-(q'+1)) m')else kas_tail3 m' n p') _;by_cases hq:q' > 0
 .rw[A4 hq];exact LI h0 (fF a _ _)
 .rw[A5 hq];exact LI h0 a
theorem aBj(h0:0<n){p:Array Nat}(hp:Inv2 n p):KA n (kas_count n p) (fun r=>Inv2 n r.2):=by
 rw[kas_count.eq_def];refine KA.bind (MB hp h0 (fun r=>?_) _ _);by_cases e:(r==n)=true
 .rw[A4 e];exact hp
 .rw[A5 e];by_cases g:r > 1
  .rw[A4 g];refine⟨hp.ent h0 _,hp.ent h0 _,fun b=>?_⟩;cases b with
   |true=>exact hp
   |false=>exact wV h0 (fF hp _ _)
  .rw[A5 g];exact wV h0 hp
theorem yH(h0:0<n){p:Array Nat}(hp:Inv2 n p){k:Nat}{Q:Nat->Prop}(q:∀l,Q l):∀(f l r:Nat),KA n (kas_place p k f l r) Q
 |0=>fun l r=>by rw[kas_place.eq_def];exact q l
 |f+1=>fun l r=>by
  rw[kas_place.eq_def];show KA n (if l>=r then _ else _) Q;by_cases g:l>=r
  .rw[A4 g];exact q l
  .rw[A5 g];refine⟨hp.ent h0 _,hp.ent h0 _,fun b=>?_⟩;cases b with
   |true=>exact yH h0 hp q f _ _
   |false=>exact yH h0 hp q f _ _
theorem aBz(h0:0<n):∀(f:Nat)(p:Array Nat)(k:Nat),Inv2 n p->KA n (kas_bin f p k) (Inv2 n)
 |0=>fun p k hp=>by rw[kas_bin.eq_def];exact hp
 |f+1=>fun p k hp=>by
  rw[kas_bin.eq_def];exact KA.bind (yH h0 hp (fun l=>aBz h0 f _ (k+1) ((bubble_perm p k (k-l)).trans hp)) k 0 k)
theorem RR(h0:0<n):KA n (kas_sort n) (Inv2 n):=by
 unfold kas_sort;have:=aBj h0 (p:=(List.range n).toArray) (Array.Perm.refl _);refine KA.bind ?_
 have mono:∀{α:Type}{Q R:α->Prop}(m:∀a,Q a->R a)(t:KasT α),KA n t Q->KA n t R:=by
  intro α Q R m t
  induction t with
  |ret a=>exact m a
  |ask i j k ih=>exact fun h=>⟨h.1,h.2.1,fun b=>ih b (h.2.2 b)⟩
 refine mono (fun r a=>?_) _ this;by_cases e:r.fst<n
 .rw[A4 e];exact aBz h0 _ _ _ a
 .rw[A5 e];exact a
noncomputable def dW(lt:Nat->Nat->Bool)(n:Nat):List Nat:=(US lt (kas_sort n)).toList
theorem qU(lt:Nat->Nat->Bool)(h0:0<n):(dW lt n).Perm (List.range n):=by
 have:=KS.run (KA.ks (lt:=lt) (RR h0));simpa[dW]using Array.perm_iff_toList_perm.mp this.2
end
end L2
namespace L2
variable{H:Hp}{W:Wd}
open PySem PySem.Spec PyProof.Rows
mutual
noncomputable def dQ:PyData->Bool
 |.int _=>true
 |.tuple xs=>dC xs
 |_=>false
noncomputable def dC:List PyData->Bool
 |[]=>true
 |x::r=>dQ x&&dC r
end
mutual
theorem rk{h h':Heap}(k:∀b o vs n,h.get? b=some o->o.data=.seq vs n->h'.get? b=some o):∀(d:PyData)(v:Value)(as:List Addr),dQ d=true->Reads h v d as->Reads h' v d as
 |.int n=>fun _ _ _ r=>by cases r;exact .int _ _
 |.tuple xs=>fun _ _ e r=>by
  cases r with
  |tuple a b c d=>exact .tuple (k _ _ _ _ a c) b c (ZS k xs _ _ (by unfold dQ at e;exact e) d)
 |.none=>fun _ _ e _=>by unfold dQ at e;cases e
 |.bool _=>fun _ _ e _=>by unfold dQ at e;cases e
 |.str _=>fun _ _ e _=>by unfold dQ at e;cases e
 |.list _=>fun _ _ e _=>by unfold dQ at e;cases e
 |.dict _=>fun _ _ e _=>by unfold dQ at e;cases e
theorem ZS{h h':Heap}(k:∀b o vs n,h.get? b=some o->o.data=.seq vs n->h'.get? b=some o):∀(ds:List PyData)(vs:List Value)(as:List Addr),dC ds=true->ReadsAll h vs ds as->ReadsAll h' vs ds as
 |[]=>fun _ _ _ r=>by cases r;exact .nil
 |d::ds=>fun _ _ e r=>by
  cases r with
  |cons a b=>
   unfold dC at e;rw[B8]at e;exact .cons (rk k d _ _ e.1 a) (ZS k ds _ _ e.2 b)
end
theorem ReadsAll.at{h:Heap}:∀{ds:List PyData}{vs:List Value}{as:List Addr}(i:Nat),ReadsAll h vs ds as->i<ds.length->∃bs,Reads h (vs.getD i .none) (ds.getD i .none) bs
 |[],_,_,i=>fun _ hi=>absurd hi (Nat.not_lt_zero _)
 |d::ds,_,_,0=>fun r _=>by cases r with|cons a b=>exact⟨_,a⟩
 |d::ds,_,_,i+1=>fun r hi=>by
  cases r with
  |cons a b=>
   obtain⟨bs,x⟩:=ReadsAll.at i b (Nat.lt_of_succ_lt_succ hi);exact⟨bs,x⟩
theorem ReadsAll.len{h:Heap}:∀{ds:List PyData}{vs:List Value}{as:List Addr},ReadsAll h vs ds as->vs.length=ds.length
 |[],_,_=>fun r=>by cases r;rfl
 |d::ds,_,_=>fun r=>by
  cases r with
  |cons a b=>simp[ReadsAll.len b]
section
variable{prog:Program}{w:World}{A:Around}{E:Value->Shared->Prop}{s:Shared}
theorem aFg{b c:Bool}{p q:Value}{xs ys:List PyData}{as bs:List Addr}{Q:Bool->Shared->Prop}(hu:A.units+64<cLine)(r1:Reads s.heap p (.tuple xs) as)(r2:Reads s.heap q (.tuple ys) bs)
 (s1:xs.all SeqAt.shaped=true) (s2:ys.all SeqAt.shaped=true) (h:dH xs ys=some c) (hb:b=true->xs.head?.all isI=true/\ys.head?.all isI=true) (k:Q c s):wpAny (model prog w) A (keyLt' (tuples' b) p q) Q E s:=by
 cases r1 with
 |tuple a1 a2 a3 a4=>
  cases r2 with
  |tuple b1 b2 b3 b4=>
   refine PySem.W.kat_lt a1 a3 b1 b3 (PZ hu k xs ys _ _ _ _ 0 a4 b4 s1 s2 h (by simp) (fun z=>hb ?_));simpa using z
noncomputable def lX(rows:List (List PyData)):Bool:=rows.all fun r=>match r with
 |.int _::_=>true
 |_=>false
noncomputable def pZ(rows:List (List PyData)):Bool:=rows.all fun r=>match r with
 |.tuple _::_=>true
 |_=>false
theorem aHB{M:Model}{h:Heap}(n:Int)(t:Tok):PySem.W.Looks M h (typeOf (.int n t)) (.type "int"):=fun A Q E s _ q=>by
 show wpAny M A (pure _) Q E s;exact A6 q
theorem firstsI{h:Heap}:∀{rows:List (List PyData)}{vs:List Value}{as:List Addr},ReadsAll h vs (rows.map .tuple) as->lX rows=true->∃fs,PySem.W.KatTups h vs fs/\fs.length=rows.length/\∀v∈fs,∃n t,v=.int n t
 |[],_,_=>fun r _=>by cases r;exact⟨[],.nil,rfl,fun v hv=>nomatch hv⟩
 |x::rows,_,_=>fun r e=>by
  unfold lX at e;rw[List.all_cons,B8]at e;cases r with
  |cons a b=>
   obtain⟨fs,h1,h2,h3⟩:=firstsI b (by unfold lX;exact e.2);cases x with
   |nil=>exact absurd e.1 (by decide)
   |cons d ds=>
    cases d with
    |int n=>
     cases a with
     |tuple g1 g2 g3 g4=>
      rename_i o vs n' ;generalize hv:vs.toList=l at g4;cases g4 with
      |cons q1 q2=>
       cases q1 with
       |int _ t=>
        refine⟨.int n t::fs,.cons g1 g2 g3 (f:=.int n t) ?_ h1,by simp[h2],?_⟩
        .rw[<- J5,hv];rfl
        .intro v hv';rcases List.mem_cons.mp hv' with z|z
         .exact⟨_,_,z⟩
         .exact h3 v z
    |_=>exact absurd e.1 (by intro z;cases z)
end
section
variable{prog:Program}{w:World}{A:Around}{E:Value->Shared->Prop}{s:Shared}
theorem aHK{M:Model}{h:Heap}{a:Addr}{o:Obj}(g:h.get? a=some o)(c:o.cls=.type "tuple"):PySem.W.Looks M h (typeOf (.ref a)) (.type "tuple"):=fun A Q E s k q=>wpAny_typeOf (show s.TypeIs (.ref a) "tuple" from⟨o,k _ _ g,c⟩) q
theorem OX{h:Heap}:∀{rows:List (List PyData)}{vs:List Value}{as:List Addr},ReadsAll h vs (rows.map .tuple) as->pZ rows=true->∃fs,PySem.W.KatTups h vs fs/\fs.length=rows.length/\∀v∈fs,∃a o,v=.ref a/\h.get? a=some o/\o.cls=.type "tuple"
 |[],_,_=>fun r _=>by cases r;exact⟨[],.nil,rfl,fun v hv=>nomatch hv⟩
 |x::rows,_,_=>fun r e=>by
  unfold pZ at e;rw[List.all_cons,B8]at e;cases r with
  |cons a b=>
   obtain⟨fs,h1,h2,h3⟩:=OX b (by unfold pZ;exact e.2);cases x with
   |nil=>exact absurd e.1 (by decide)
   |cons d ds=>
    cases d with
    |tuple ys=>
     cases a with
     |tuple g1 g2 g3 g4=>
      rename_i o vs n';generalize hv:vs.toList=l at g4;cases g4 with
      |cons q1 q2=>
       cases q1 with
       |@tuple a' _ _ _ _ _ k1 k2 k3 k4=>
        refine⟨.ref a'::fs,.cons g1 g2 g3 (f:=.ref a') ?_ h1,by simp[h2],?_⟩
        .rw[<- J5,hv];rfl
        .intro v hv';rcases List.mem_cons.mp hv' with z|z
         .exact⟨_,_,z,k1,k2⟩
         .exact h3 v z
    |_=>exact absurd e.1 (by intro z;cases z)
theorem TB{M:Model}{rows:List (List PyData)}{vs:List Value}{as:List Addr}{Q:SortKind->Shared->Prop}(r:ReadsAll s.heap vs (rows.map .tuple) as)(h0:0<rows.length)(hk:lX rows=true\/pZ rows=true)(q:Q (tuples' (lX rows)) s):wpAny M A (keyKind' vs.toArray) Q E s:=by
 rcases hk with hk|hk
 .obtain⟨fs,h1,h2,h3⟩:=firstsI r hk;rw[hk]at q;refine PySem.W.kat_kind (T:=.type "int") h1 (by omega) (fun v hv=>?_) (by decide) q;obtain⟨n,t,rfl⟩:=h3 v hv;exact aHB n t
 .obtain⟨fs,h1,h2,h3⟩:=OX r hk
  have e:lX rows=false:=by
   cases rows with
   |nil=>cases h0
   |cons x r=>
    unfold pZ at hk;rw[List.all_cons,B8]at hk;cases x with
    |nil=>rfl
    |cons d ds=>cases d<;>first|rfl|exact absurd hk.1 (by intro z;cases z)
  rw[e]at q;refine PySem.W.kat_kind (T:=.type "tuple") h1 (by omega) (fun v hv=>?_) (by decide) q;obtain⟨a,o,rfl,g,c⟩:=h3 v hv;exact aHK g c
end
section
variable{X:Cx}{pins:List (Addr×Obj)}{σ:St}{H:Hp}{s:Shared}{h':Heap}
theorem cF.there{P:Program}{w:World}{h:Heap}{a:Addr}{o:HO}(x:cF P w H h a o):∃u,h.get? a=some u:=by
 induction o with
 |lst xs=>obtain⟨_,_,_,_,e⟩:=x;exact⟨_,e⟩
 |tup xs=>obtain⟨_,_,_,_,e,_⟩:=x;exact⟨_,e⟩
 |dK kvs=>obtain⟨_,_,_,_,o,_,_,e,_⟩:=x;exact⟨_,e⟩
 |dT kvs=>obtain⟨_,_,_,_,o,_,_,e,_⟩:=x;exact⟨_,e⟩
 |set S n=>obtain⟨o,_,_,_,e,_⟩:=x;exact⟨_,e⟩
 |ins C dx fs=>obtain⟨_,_,_,e,_⟩:=x;exact⟨_,e⟩
 |own y=>exact x
 |xd fs=>obtain⟨_,⟨_,_,_,e,_⟩,_⟩:=x;exact⟨_,e⟩
 |rng lo hi=>obtain⟨_,_,_,e⟩:=x;exact⟨_,e⟩
 |frz o u=>exact⟨_,x.1⟩
 |tbl ps=>exact⟨_,x⟩
 |met f x'=>exact⟨_,x⟩
 |ext φ=>exact x.2.1
theorem HOk.none{P:Program}{w:World}{h:Heap}{a:Addr}(x:HOk P w H h)(e:h.get? a=none):H a=none:=by
 cases q:H a with
 |none=>rfl
 |some o=>
  obtain⟨u,z⟩:=(x a o q).there;rw[e]at z;cases z
theorem Inv.laidL{a:Addr}{o:HO}(I:Inv X pins σ H s)(k:∀b u,b≠X.env.locals->s.heap.get? b=some u->h'.get? b=some u)(ns:∀m,s.heap.Ns X.env.locals m->h'.Ns X.env.locals m)(hp:s.heap.get? a=none)(new:cF X.prog X.w (upd H a o) h' a o):
 Inv X pins σ (upd H a o) { s with heap:=h' }:=by
 have hn:=I.hok.none hp;have nt:∀b u,H b=some u->b≠X.env.locals:=fun b u e z=>by rw[z,I.free]at e;cases e
 refine I.step (g':=s.gens) (t':=s.toks) (d':=s.drawn) (ch:=[]) (fun _ z=>nomatch z) (fun b o h1 _ _ e _=>k b o h1 e) (fun b o h1 _ _ e _=>⟨o.slots,k b o h1 e⟩) (fun b o _ e n=>?_) (fun b o _ e=>?_) (fun b xs e=>?_) (fun b o u e=>?_) (fun b ps e=>⟨#[],?_⟩) ns ?_ I.bare
 .rw[aM (fun z=>by subst z;rw[hp]at e;cases e)];exact n
 .by_cases z:b=X.env.locals
  .subst z;obtain⟨m,hm,_⟩:=I.loc;obtain⟨o',_,_,q,_⟩:=ns m hm;exact⟨o',q⟩
  .exact⟨o,k b o z e⟩
 .rw[aM (aP e hn)];exact e
 .rw[aM (aP e hn)];exact e
 .rw[aM (aP e hn)];simpa using e
 .intro b u e;by_cases hb:b=a
  .subst hb;rw[aV]at e;cases e;exact new
  .rw[aM hb]at e;refine(I.hok b u e).stay (fun c v hc q=>k c v ?_ q) (fun c q=>by rw[aM (aP q hn)];exact q) fun c xs q=>by rw[aM (aP q hn)];exact q
   rcases hc with z|z
   .rw[z];exact nt b _ e
   .exact nt c _ z
theorem aCW{h:Heap}{L:Addr}{m m':Str->Option Value}(a:h.Ns L m)(b:h.Ns L m'):m=m':=by
 obtain⟨o,es,ep,h1,h2,_,h3⟩:=a;obtain⟨o',es',ep',k1,k2,_,k3⟩:=b;rw[h1]at k1;cases k1;rw[h2]at k2;cases k2;funext x;rw[<- h3 x,k3 x]
noncomputable def fV(rows:List (List PyData))(i j:Nat):Bool:=(dH (rows.getD i []) (rows.getD j [])).getD false
theorem CP{vs:List V}{us:List Value}(r:bF vs us):∀ps:List Nat,bF (ps.map fun i=>vs.getD i .non) (ps.map fun i=>us.getD i .none)
 |[]=>.nil
 |p::ps=>by
  refine .cons ?_ (CP r ps)
  have go:∀{vs:List V}{us:List Value}(i:Nat),bF vs us->RelV (vs.getD i .non) (us.getD i .none):=by
   intro vs us i r
   induction r generalizing i with
   |nil=>exact rfl
   |cons a b ih=>cases i with
    |zero=>exact a
    |succ i=>exact ih i
  exact go p r
end
noncomputable def sortable(rows:List (List PyData)):Bool:=decide (2<=rows.length)&&decide (rows.length<64)&&rows.all (fun r=>r.all SeqAt.shaped&&dC r)&&(lX rows || pZ rows)&&(List.range rows.length).all fun i=>(List.range rows.length).all fun j=>(dH (rows.getD i []) (rows.getD j [])).isSome
noncomputable def PL(rows:List (List PyData)):List PyData:=(dW (fV rows) rows.length).map fun i=>.tuple (rows.getD i [])
theorem lK{rows:List (List PyData)}(h:sortable rows=true):2<=rows.length/\rows.length<64/\(∀r∈rows,r.all SeqAt.shaped=true/\dC r=true)/\(lX rows=true\/pZ rows=true)/\(∀i j,i<rows.length->j<rows.length->(dH (rows.getD i []) (rows.getD j [])).isSome=true):=by
 unfold sortable at h;rw[B8,B8,B8,B8,Bool.or_eq_true]at h;obtain⟨⟨⟨⟨h1,h2⟩,h3⟩,h4⟩,h5⟩:=h;refine⟨D4 h1,D4 h2,fun r hr=>?_,h4,fun i j hi hj=>?_⟩
 .have:=List.all_eq_true.mp h3 r hr
  rwa [B8]at this
 .exact List.all_eq_true.mp (List.all_eq_true.mp h5 i (List.mem_range.mpr hi)) j (List.mem_range.mpr hj)
section
variable{K:Fg}
theorem aL.len{H:Hp}:∀{ds:List PyData}{vs:List V},aL K H ds vs->vs.length=ds.length
 |[],_=>fun h=>by
  have h:_=[]:=h;rw[h];rfl
 |d::ds,_=>fun h=>by
  obtain⟨v,r,rfl,_,h2⟩:=(show ∃v r,_=v::r/\Rep K H d v/\aL K H ds r from h);simp[aL.len h2]
theorem zU{H:Hp}{rows:List (List PyData)}{us:List V}(r:aL K H (rows.map .tuple) us):∀ps:List Nat,(∀i∈ps,i<rows.length)->aL K H (ps.map fun i=>.tuple (rows.getD i [])) (ps.map fun i=>us.getD i .non)
 |[]=>fun _=>rfl
 |p::ps=>fun hp=>by
  refine⟨_,_,rfl,?_,zU r ps fun i hi=>hp i (B1 _ hi)⟩;have hi:=hp p B0;have hl:=aL.len r;rw[A2]at hl
  have hu:us[p]?=some (us.getD p .non):=by
   rw[C6,B9 (by omega)];rfl
  obtain⟨d,h1,h2⟩:=aL.get r hu;rw[D2,B9 hi]at h1;cases h1;have e:rows.getD p []=rows[p]:=by rw[C6,B9 hi];rfl
  show Rep K H (.tuple (rows.getD p [])) (us.getD p .non);rw[e];exact h2
theorem aEZ{lt:Nat->Nat->Bool}{n:Nat}(h0:0<n):∀i∈dW lt n,i<n:=fun i hi=>List.mem_range.mp ((qU lt h0).mem_iff.mp hi)
end
theorem cG.units2{k:Nat}{A:Around}(r:cG k A):A.in1.in1.units+64<cLine:=by have:=r.un;show A.units+1+1+64<_;omega
section
variable{prog:Program}{w:World}{A:Around}{E:Value->Shared->Prop}{s:Shared}
theorem xO{a:Addr}{vs:List Value}{n:Nat}{P:PySem.Fin->Shared->Prop}(g:s.heap.get? a=some (seqObj "list" vs.toArray n))(h2:vs.length<2)
 (k:P (.done (.ret .none)) { s with heap:=sortedHeap s.heap a vs vs.toArray }):wpAny (model prog w) A (Builtin.«list.sort» ⟨[.ref a],[]⟩) P E s:=by
 rw[list_sort_plain];have hz:vs.toArray.size<=sizeLine:=by rw[C2,F0];omega
 refine A0 (listItems_at g rfl ?_);refine A0 (listUpdate_at g rfl ?_ hz (by simp));have g1:=get?_update_seq g (fun _=>#[]);have hlt:=A9 g1;refine A0 (seqEpoch_at g1 rfl ?_);refine A0 (wpAny_newTuple ?_ (by simpa using hz));refine A0 (wpAny_newList ?_);refine E9 ?_;have hs:vs.toArray.size<2:=by simpa using h2
 dsimp only;rw[A4 hs,A4 hs];refine A0 (A6 ?_);refine A0 ?_;show wpAny (model prog w) A (pure ((),SortSt.mk' general' (vs.toArray.zip vs.toArray) #[] 7 none)) _ E _;refine A6 ?_;dsimp only;have g2:=A3 { cls:=.type "tuple",data:=.seq vs.toArray.toList.toArray } g1;have g3:=A3 { cls:=.type "list",data:=.seq ([]:List Value).toArray } g2;refine A0 (seqEpoch_at g3 rfl ?_)
 have hm:Array.map (fun x=>x.snd) (arrOf (SortSt.mk' general' (vs.toArray.zip vs.toArray) #[] 7 none))=vs.toArray:=by
  show Array.map (fun x=>x.snd) (vs.toArray.zip vs.toArray)=vs.toArray
  apply Array.ext
  .simp
  .intro i h1 h2;simp
 rw[hm];refine A0 (listUpdate_at g3 rfl ?_ (by simp) (by omega));rw[A5 (by simp)];exact A6 k
end
mutual
theorem GU:∀(x y:PyData),dQ x=true->dQ y=true->(PyData.eqv x y=true↔x=y)
 |.int a,.int b=>fun _ _=>by rw[PyData.eqv.eq_def];simp
 |.int a,.tuple b=>fun _ _=>by rw[PyData.eqv.eq_def];simp
 |.tuple a,.int b=>fun _ _=>by rw[PyData.eqv.eq_def];simp
 |.tuple xs,.tuple ys=>fun h k=>by
  unfold dQ at h k;rw[PyData.eqv.eq_def];have:=aEG xs ys h k;simpa using this
 |.none,_=>fun h _=>by unfold dQ at h;cases h
 |.bool _,_=>fun h _=>by unfold dQ at h;cases h
 |.str _,_=>fun h _=>by unfold dQ at h;cases h
 |.list _,_=>fun h _=>by unfold dQ at h;cases h
 |.dict _,_=>fun h _=>by unfold dQ at h;cases h
 |.int _,.none=>fun _ h=>by unfold dQ at h;cases h
 |.int _,.bool _=>fun _ h=>by unfold dQ at h;cases h
 |.int _,.str _=>fun _ h=>by unfold dQ at h;cases h
 |.int _,.list _=>fun _ h=>by unfold dQ at h;cases h
 |.int _,.dict _=>fun _ h=>by unfold dQ at h;cases h
 |.tuple _,.none=>fun _ h=>by unfold dQ at h;cases h
 |.tuple _,.bool _=>fun _ h=>by unfold dQ at h;cases h
 |.tuple _,.str _=>fun _ h=>by unfold dQ at h;cases h
 |.tuple _,.list _=>fun _ h=>by unfold dQ at h;cases h
 |.tuple _,.dict _=>fun _ h=>by unfold dQ at h;cases h
theorem aEG:∀(xs ys:List PyData),dC xs=true->dC ys=true->(PyData.eqvAll xs ys=true↔xs=ys)
 |[],[]=>fun _ _=>by rw[Y5];simp
 |[],_::_=>fun _ _=>by rw[Y5];simp
 |_::_,[]=>fun _ _=>by rw[Y5];simp
 |x::xs,y::ys=>fun h k=>by
  unfold dC at h k;rw[B8]at h k;rw[Y5];show(PyData.eqv x y&&PyData.eqvAll xs ys)=true↔_;rw[B8,GU x y h.1 k.1,aEG xs ys h.2 k.2,List.cons.injEq]
end
theorem ZX:∀a b:List Int,HT.lexLt a b=true->HT.lexLt b a=false
 |[],[]=>fun h=>by cases h
 |[],_::_=>fun _=>rfl
 |_::_,[]=>fun h=>by cases h
 |x::xs,y::ys=>fun h=>by
  rw[HT.lexLt_cons]at h ⊢;by_cases e:x=y
  .rw[A4 e]at h;rw[A4 e.symm];exact ZX xs ys h
  .rw[A5 e]at h;rw[A5 (F7 e)];have:=D4 h;exact C7 (by omega)
theorem aAh:∀a b c:List Int,HT.lexLt b a=false->HT.lexLt c b=false->HT.lexLt c a=false
 |[],_,[]=>fun _ _=>rfl
 |[],_,_::_=>fun _ _=>rfl
 |x::xs,[],_=>fun h _=>by cases h
 |x::xs,y::ys,[]=>fun _ h=>by cases h
 |x::xs,y::ys,z::zs=>fun h k=>by
  rw[HT.lexLt_cons]at h k ⊢;by_cases e:y=x
  .rw[A4 e]at h;by_cases e':z=y
   .rw[A4 e']at k;rw[A4 (e'.trans e)];exact aAh xs ys zs h k
   .rw[A5 e']at k;subst e;rw[A5 e'];exact k
  .rw[A5 e]at h;have h:=F5 h;by_cases e':z=y
   .subst e';rw[A5 e];exact C7 h
   .rw[A5 e']at k;have k:=F5 k;rw[A5 (by omega)];exact C7 (by omega)
theorem YD:∀a b:List Int,HT.lexLt a b=false->HT.lexLt b a=false->a=b
 |[],[]=>fun _ _=>rfl
 |[],_::_=>fun h _=>by cases h
 |_::_,[]=>fun _ h=>by cases h
 |x::xs,y::ys=>fun h k=>by
  rw[HT.lexLt_cons]at h k;by_cases e:x=y
  .rw[A4 e]at h;rw[A4 e.symm]at k;rw[e,YD xs ys h k]
  .rw[A5 e]at h;rw[A5 (F7 e)]at k;have h:=F5 h;have k:=F5 k;omega
theorem VE:∀{xs ys:List PyData}{ns:List Int},kH xs=some ns->kH ys=some ns->xs=ys:=by
 have go:∀{xs:List PyData}{ns:List Int},kH xs=some ns->xs=ns.map .int:=by
  intro xs
  induction xs with
  |nil=>intro ns h;cases h;rfl
  |cons d ds ih=>
   intro ns h;cases d with
   |int n=>
    have h:(kH ds).bind (fun ns=>some (n::ns))=some ns:=h;obtain⟨ms,h1,h2⟩:=Option.bind_eq_some_iff.mp h;cases h2;rw[ih h1];rfl
   |_=>cases h
 intro xs ys ns h k;rw[go h,go k]
theorem rA{x y:PyData}{c:Bool}(h:eZ x y=some c):(∃a b,x=.int a/\y=.int b/\c=decide (a<b))\/∃xs ys ns ms,x=.tuple xs/\y=.tuple ys/\kH xs=some ns/\kH ys=some ms/\c=HT.lexLt ns ms:=by
 unfold eZ at h;split at h
 .cases h;exact .inl ⟨_,_,rfl,rfl,rfl⟩
 .obtain⟨ns,h1,h⟩:=Option.bind_eq_some_iff.mp h;obtain⟨ms,h2,h⟩:=Option.bind_eq_some_iff.mp h;cases h;exact .inr ⟨_,_,_,_,rfl,rfl,h1,h2,rfl⟩
 .cases h
theorem IL{x y:PyData}{c:Bool}(h:eZ x y=some c):∃d,eZ y x=some d/\(c=true->d=false)/\(c=false->d=false->x=y):=by
 rcases rA h with⟨a,b,rfl,rfl,rfl⟩|⟨xs,ys,ns,ms,rfl,rfl,h1,h2,rfl⟩
 .refine⟨decide (b<a),rfl,fun z=>C7 (by have:=D4 z;omega),fun z z'=>?_⟩;have z:=F5 z;have z':=F5 z';rw[show a=b by omega]
 .refine⟨HT.lexLt ms ns,?_,fun z=>ZX _ _ z,fun z z'=>?_⟩
  .show(kH ys).bind _=_;rw[h2];show(kH xs).bind _=_;rw[h1];rfl
  .have:=YD _ _ z z';subst this;rw[VE h1 h2]
theorem aBP{x y z:PyData}(h:eZ y x=some false)(k:eZ z y=some false):eZ z x=some false:=by
 rcases rA h with⟨a,b,rfl,rfl,hh⟩|⟨xs,ys,ns,ms,rfl,rfl,h1,h2,hh⟩
 .rcases rA k with⟨c,d,rfl,e,kk⟩|⟨_,_,_,_,_,e,_⟩
  .cases e;have hh:=F5 hh.symm;have kk:=F5 kk.symm;show some (decide (c<b))=some false;rw[C7 (by omega)]
  .cases e
 .rcases rA k with⟨c,d,rfl,e,kk⟩|⟨zs,ys',ns',ms',rfl,e,k1,k2,kk⟩
  .cases e
  .cases e;rw[h1]at k2;cases k2;have:=aAh _ _ _ hh.symm kk.symm;show(kH zs).bind _=_;rw[k1];show(kH ys).bind _=_;rw[h2];show some _=some false;rw[this]
theorem ZP:∀a b:List PyData,dC a=true->dC b=true->dH a b=some true->dH b a=some false
 |[],[]=>fun _ _ h=>by cases h
 |[],_::_=>fun _ _ _=>rfl
 |_::_,[]=>fun _ _ h=>by cases h
 |x::xs,y::ys=>fun p q h=>by
  unfold dC at p q;rw[B8]at p q;have h:(if PyData.eqv x y=true then dH xs ys else eZ x y)=some true:=h;show(if PyData.eqv y x=true then dH ys xs else eZ y x)=some false;by_cases e:PyData.eqv x y=true
  .rw[A4 e]at h;have e':=(GU x y p.1 q.1).mp e;rw[A4 ((GU y x q.1 p.1).mpr e'.symm)];exact ZP xs ys p.2 q.2 h
  .rw[A5 e]at h;rw[A5 fun z=>e ((GU x y p.1 q.1).mpr ((GU y x q.1 p.1).mp z).symm)];obtain⟨d,h1,h2,_⟩:=IL h;rw[h1,h2 rfl]
theorem YT:∀a b c:List PyData,dC a=true->dC b=true->dC c=true->dH b a=some false->dH c b=some false->dH c a=some false
 |[],_,[]=>fun _ _ _ _ _=>rfl
 |[],_,_::_=>fun _ _ _ _ _=>rfl
 |x::xs,[],_=>fun _ _ _ h _=>by cases h
 |x::xs,y::ys,[]=>fun _ _ _ _ h=>by cases h
 |x::xs,y::ys,z::zs=>fun p q r h k=>by
  unfold dC at p q r;rw[B8]at p q r;have hA:(if PyData.eqv y x=true then dH ys xs else eZ y x)=some false:=h;clear h;have kA:(if PyData.eqv z y=true then dH zs ys else eZ z y)=some false:=k;clear k;show(if PyData.eqv z x=true then dH zs xs else eZ z x)=some false;by_cases e:PyData.eqv y x=true
  .rw[A4 e]at hA;have e1:=(GU y x q.1 p.1).mp e;subst e1;by_cases e':PyData.eqv z y=true
   .rw[A4 e']at kA ⊢;exact YT xs ys zs p.2 q.2 r.2 hA kA
   .rw[A5 e']at kA ⊢;exact kA
  .rw[A5 e]at hA;by_cases e':PyData.eqv z y=true
   .have e1:=(GU z y r.1 q.1).mp e';subst e1;rw[A5 e];exact hA
   .rw[A5 e']at kA
    have ez:¬PyData.eqv z x=true:=fun w=>by
     have w:=(GU z x r.1 p.1).mp w;subst w;obtain⟨d,h1,_,h3⟩:=IL hA;rw[h1]at kA;cases kA;exact e ((GU y z q.1 p.1).mpr (h3 rfl rfl))
    rw[A5 ez];exact aBP hA kA
theorem aBp{rows:List (List PyData)}(h:sortable rows=true):uC (fV rows):=by
 obtain⟨a1,a2,a3,a4,a5⟩:=lK h
 have onl:∀i,dC (rows.getD i [])=true:=fun i=>by
  rw[C6];cases e:rows[i]? with
  |none=>rfl
  |some r=>exact(a3 r (S2 e)).2
 have out:∀i,¬i<rows.length->rows.getD i []=[]:=fun i hi=>by
  rw[C6,U6 (by omega)];rfl
 have ans:∀i j,∃c,dH (rows.getD i []) (rows.getD j [])=some c:=fun i j=>by
  by_cases hi:i<rows.length
  .by_cases hj:j<rows.length
   .exact Option.isSome_iff_exists.mp (a5 i j hi hj)
   .rw[out j hj];cases rows.getD i []with
    |nil=>exact⟨_,rfl⟩
    |cons _ _=>exact⟨_,rfl⟩
  .rw[out i hi];exact⟨_,rfl⟩
 have is:∀i j c,fV rows i j=c->dH (rows.getD i []) (rows.getD j [])=some c:=fun i j c e=>by
  obtain⟨d,hd⟩:=ans i j;unfold fV at e;rw[hd]at e ⊢;exact O1 some e
 have un:∀i j c,dH (rows.getD i []) (rows.getD j [])=some c->fV rows i j=c:=fun i j c e=>by
  unfold fV;rw[e];rfl
 exact⟨fun a b e=>un _ _ _ (ZP _ _ (onl a) (onl b) (is _ _ _ e)),fun a b c e e'=>un _ _ _ (YT _ _ _ (onl a) (onl b) (onl c) (is _ _ _ e) (is _ _ _ e'))⟩
theorem CG{rows:List (List PyData)}(h:sortable rows=true):gN (fV rows) (US (fV rows) (PySem.W.kas_sort rows.length)) rows.length:=
 (KS.run (aBX (aBp h) (by have:=(lK h).1;omega))).2
noncomputable def TrS(h B:Heap)(e:Addr)(vs:Array Value):Option Value->Prop
 |none=>vs[1]?=some .none
 |some fl=>∃T oT ts,vs[1]?=some (.ref T)/\B.get? T=none/\T≠e/\h.get? T=some oT/\oT.data=.fields ts/\ts[3]?=some fl
noncomputable def Tr(h B:Heap)(e:Addr)(c:Value)(dx:Option Addr)(st:Option Value):Prop:=
 ∃oe vs,h.get? e=some oe/\(oe.cls=c/\oe.dict=dx)/\oe.data=.fields vs/\1<vs.size/\TrS h B e vs st
structure Fly(B:Heap)(l:List Env)(e:Addr)(c:Value)(dx:Option Addr)(st:Option Value)(h:Heap):Prop where
 stays:B.StaysIn h
 new:B.get? e=none
 frames:h.FunFrames B l
 tr:Tr h B e c dx st
theorem Fly.obj{B h:Heap}{l:List Env}{e:Addr}{c:Value}{dx:Option Addr}{st:Option Value}(F:Fly B l e c dx st h):∃oe vs,h.get? e=some oe/\oe.cls=c/\oe.dict=dx/\oe.data=.fields vs:=by
 obtain⟨oe,vs,h1,h2,h3,_⟩:=F.tr;exact⟨oe,vs,h1,h2.1,h2.2,h3⟩
theorem aDJ(o:Obj)(f:Array Value->Array Value):(o.mapFields f).dict=o.dict:=by
 obtain⟨c,d,dt,sl⟩:=o;cases dt<;>rfl
section
variable{M:Model}{A:Around}{E:Value->Shared->Prop}{s:Shared}{B:Heap}{env:Env}{outer l:List Env}{L e:Addr}{c:Value}{dx:Option Addr}{st:Option Value}{Q:Unit->Shared->Prop}
theorem kN{h:Heap}{a b:Addr}{o oa:Obj}{vs:Array Value}(ha:h.get? a=some oa)(hd:oa.data=.fields vs)(hb:h.get? b=some o)(hn:∀ws,o.data≠.fields ws):b≠a:=fun q=>by
 subst q;rw[ha]at hb;cases hb;exact hn vs hd
theorem JH{oe:Obj}{vs:Array Value}{hd:Value}{nx:Bool}(hfr:A.frames=some (env::outer))(hf:env.frame=some L)(stays:B.StaysIn s.heap)(new:B.get? e=none)(fr:s.heap.FunFrames B (env::outer))
 (he:s.heap.get? e=some oe) (hk:oe.cls=c/\oe.dict=dx) (hv:oe.data=.fields vs) (hz:1<vs.size)
 (q:∀h',Fly B (env::outer) e c dx (some (rawInt L)) h'->s.heap.UpToSlots h'->Q () { s with heap:=h' }):
 wpAny M A (do let a <- frameOf env;let pl <- entryPlaceOf L nx;let b <- EntryCells.newEntry hd a .none (rawInt L) .none pl;setField (.ref e) 1 b) Q E s:=by
 have notF:e∉(env::outer).filterMap (·.frame):=fun hm=>by
  obtain⟨_,o,ho,hnf⟩:=fr.mem hm;exact kN he hv ho hnf rfl
 refine A0 (wpAny_frameOf_fun hfr fr hf fun g1 so=>A0 (wpAny_entryPlaceOf fun pl hpl=>?_));unfold EntryCells.newEntry newFields;refine A0 (D1 ?_ (hpl.sizeOk5 _ _ _ _ _));generalize hnw:({ cls:=.type "traceback",dict:=none,data:=.fields ([hd,Value.ref L,.none,rawInt L,.none]++(if pl.isEmpty then List.replicate 6 Value.none else pl)).toArray }:Obj)=nw;have nwd:nw.data=.fields ([hd,Value.ref L,.none,rawInt L,.none]++(if pl.isEmpty then List.replicate 6 Value.none else pl)).toArray:=by rw[<- hnw]
 have e1:g1.get? e=some oe:=(so.2.1 e notF).trans he;have st1:B.StaysIn g1:=fun b o hb=>(so.2.1 b fun hm=>by rw[(fr.mem hm).1]at hb;cases hb).trans (stays b o hb);have e2:(g1.push nw).get? e=some oe:=A3 nw e1;refine O7 e2 hv hz (q _ ?_ ?_)
 all_goals
  have nTe:g1.objs.size≠e:=F9 (A9 e1);have e3:=E3 (Obj.mapFields (·.setIfInBounds 1 (Value.ref g1.objs.size))) e2 (U9 (J6 hv _))
  have kp:∀b o,b≠e->g1.get? b=some o->((g1.push nw).update e (Obj.mapFields (·.setIfInBounds 1 (Value.ref g1.objs.size)))).get? b=some o:=fun b o hbe hb=>by
   rw[D6 _ _ (F7 hbe)];exact A3 _ hb
 .refine⟨fun b o hb=>kp b o (fun z=>by rw[z,new]at hb;cases hb) (st1 b o hb),new,fr.of_keeps fun b o hb hnf=>?_,?_⟩
  .obtain⟨sl,hs⟩:=so.2.2 b o hb;exact⟨_,kp b _ (kN he hv hb hnf) hs,rfl⟩
  .refine⟨_,_,e3,⟨(Obj.cls_mapFields _ _).trans hk.1,(aDJ _ _).trans hk.2⟩,J6 hv _,by simpa using hz,g1.objs.size,nw,_,by simp[hz],st1.fresh,nTe,?_,nwd,by simp⟩;rw[D6 _ _ (F7 nTe)];exact B3 g1 (by rw[<- hnw];rfl)
 .intro b o hb hnf;obtain⟨sl,hs⟩:=so.2.2 b o hb;exact⟨sl,kp b _ (kN he hv hb hnf) hs⟩
theorem HJ(hfr:A.frames=some (env::outer))(hf:env.frame=some L)(F:Fly B (env::outer) e c dx st s.heap)(hst:st=none\/st=some .none\/st=some (rawInt L))
 (q:∀h',Fly B (env::outer) e c dx (some (rawInt L)) h'->s.heap.UpToSlots h'->Q () { s with heap:=h' }):wpAny M A (noteFrame (.ref e) env) Q E s:=by
 obtain⟨oe,vs,he,hk,hv,hz,ht⟩:=id F.tr;unfold noteFrame;simp only[hf];rcases hst with rfl|rfl|rfl
 .refine A0 (E2 he hv (show vs[1]?=some .none from ht) ?_);rw[A5 (by decide)];exact JH hfr hf F.stays F.new F.frames he hk hv hz q
 .obtain⟨T,oT,ts,t1,t2,t3,t4,t5,t6⟩:=ht;refine A0 (E2 he hv t1 ?_);rw[A4 (show(Value.ref T != Value.none)=true from by simp)];refine A0 (E2 t4 t5 t6 ?_);rw[A5 (show ¬((Value.none==rawInt L)=true)from by simp[rawInt])];refine A0 (O7 t4 t5 (Array.getElem?_eq_some_iff.mp t6).1 ?_);have oth:∀b,b≠T->(s.heap.update T (Obj.mapFields (·.setIfInBounds 3 Value.none))).get? b=s.heap.get? b:=fun b hb=>D6 _ _ (F7 hb)
  refine JH (s:={ s with heap:=s.heap.update T (Obj.mapFields (·.setIfInBounds 3 Value.none)) }) hfr hf (fun b o hb=>(oth b fun z=>by rw[z,t2]at hb;cases hb).trans (F.stays b o hb)) F.new
   (F.frames.of_keeps fun b o hb hnf=>⟨o,(oth b (kN t4 t5 hb hnf)).trans hb,rfl⟩) ((oth e (F7 t3)).trans he) hk hv hz fun h' F' u=>q h' F' fun b o hb hnf=>u b o ((oth b (kN t4 t5 hb hnf)).trans hb) hnf
 .obtain⟨T,oT,ts,t1,t2,t3,t4,t5,t6⟩:=ht;refine A0 (E2 he hv t1 ?_);rw[A4 (show(Value.ref T != Value.none)=true from by simp)];refine A0 (E2 t4 t5 t6 ?_);rw[A4 (show(rawInt L==rawInt L)=true from by simp)];exact A6 (q _ F (.refl _))
theorem xV{fl:Value}{fo:Option Addr}(F:Fly B l e c dx (some fl) s.heap)
 (q:∀h',Fly B l e c dx (some (fo.elim .none fun f=>rawInt f)) h'->s.heap.UpToSlots h'->Q () { s with heap:=h' }):wpAny M A (setFlight (.ref e) fo) Q E s:=by
 obtain⟨oe,vs,he,hk,hv,hz,T,oT,ts,t1,t2,t3,t4,t5,t6⟩:=id F.tr;have z3:3<ts.size:=(Array.getElem?_eq_some_iff.mp t6).1;unfold setFlight;refine A0 (E2 he hv t1 ?_);rw[A4 (show(Value.ref T != Value.none)=true from by simp)];have oth:∀b,b≠T->(s.heap.update T (Obj.mapFields (·.setIfInBounds 3 (fo.elim .none fun f=>rawInt f)))).get? b=s.heap.get? b:=fun b hb=>D6 _ _ (F7 hb)
 refine O7 t4 t5 z3 (q _ ⟨fun b o hb=>(oth b fun z=>by rw[z,t2]at hb;cases hb).trans (F.stays b o hb),F.new,F.frames.of_keeps fun b o hb hnf=>⟨o,(oth b (kN t4 t5 hb hnf)).trans hb,rfl⟩,
  oe,vs,(oth e (F7 t3)).trans he,hk,hv,hz,T,_,_,t1,t2,t3,E3 _ t4 (U9 (J6 t5 _)),J6 t5 _,by simp[z3]⟩
  fun b o hb hnf=>⟨o.slots,(oth b (kN t4 t5 hb hnf)).trans hb⟩)
theorem WA(hfr:A.frames=some (env::outer))(hf:env.frame=some L)(F:Fly B (env::outer) e c dx st s.heap)(hst:st=none\/st=some .none\/st=some (rawInt L))
 (q:∀h',Fly B outer e c dx (some .none) h'->s.heap.UpToSlots h'->Q () { s with heap:=h' }):wpAny M A (leaving env (.ref e)) Q E s:=by
 unfold leaving;refine A0 (HJ hfr hf F hst fun h1 F1 u1=>xV (fo:=none) F1 fun h2 F2 u2=>?_);obtain⟨a,b,⟨_,_,c'⟩,d⟩:=F2;exact q h2 ⟨a,b,c',d⟩ (u1.trans u2)
theorem aCx{X:Value->Shared->Prop}(hfr:A.frames=some (env::outer))(hf:env.frame=some L)(F:Fly B (env::outer) e c dx st s.heap)(hst:st=none\/st=some .none\/st=some (rawInt L))
 (q:∀h',Fly B (env::outer) e c dx (some (rawInt L)) h'->s.heap.UpToSlots h'->X (.ref e) { s with heap:=h' }):notedBy M A env (cameBackBy M A env X) (.ref e) s:=by
 unfold notedBy;refine HJ hfr hf F hst fun h1 F1 u1=>?_;unfold cameBackBy;obtain⟨oe,vs,he,hk,hv,hz,T,oT,ts,t1,t2,t3,t4,t5,t6⟩:=id F1.tr;refine A0 (E2 he hv t1 ?_);rw[A5 (show ¬((Value.ref T==Value.none)=true)from by simp),hf];exact xV (s:={ s with heap:=h1 }) (fo:=some L) F1 fun h2 F2 u2=>q h2 F2 (u1.trans u2)
end
structure Body(X:Cx):Prop where
 stk:X.stack=X.env::X.outer
 fr:X.env.frame=some X.env.locals
 ex:X.ex=[]
structure Kp(X:Cx)(H:Hp)(B h:Heap):Prop where
 trk:∀b u o,H b=some u->h.get? b=some o->B.get? b=some o
 ent:∀b o,X.s₀.heap.get? b=some o->b∉X.fs->(∃o',B.get? b=some o')/\(X.H₀ b=none->B.get? b=some o)
 pin:∀p∈X.pn,B.get? p.1=some p.2
section
variable{X:Cx}{pins:List (Addr×Obj)}{σ:St}{H:Hp}{s:Shared}{B h':Heap}
theorem Inv.up(I:Inv X [] σ H s)(b:Body X)(k:Kp X H B s.heap)(stays:B.StaysIn h')(u:s.heap.UpToSlots h'):Inv X [] σ H { s with heap:=h' }/\Kp X H B h':=by
 have tr:∀a v o,H a=some v->s.heap.get? a=some o->h'.get? a=some o:=fun a v o e q=>stays a o (k.trk a v o e q)
 have cell:∀c v,s.heap.IsCell c v->h'.IsCell c v:=fun c v ⟨o,ho,hd⟩=>by
  obtain⟨sl,q⟩:=u c o ho fun vs z=>by rw[hd]at z;cases z
  exact⟨_,q,hd⟩
 have frm:∀a∈X.fs,∀o,s.heap.get? a=some o->∃sl,h'.get? a=some { o with slots:=sl }:=fun a ha o e=>by
  obtain⟨_,o1,h1,hn⟩:=I.funs.mem ha;rw[e]at h1;cases h1;exact u a o e hn
 refine⟨⟨I.ok,I.os,I.bare,⟨fun a o e n ha hx=>?_,fun a o e n ha hx=>?_,I.base.free,fun a o e hx=>?_,I.base.tups,I.base.frzs,I.base.tbls⟩,?_,fun x c e=>?_,I.free,I.freeC,fun p hp=>?_,fun a v e=>?_,I.len⟩,⟨fun a v o e q=>?_,k.ent,k.pin⟩⟩
 .exact stays a o ((k.ent a o e ha).2 n)
 .obtain⟨sl,e1⟩:=I.base.slot a o e n ha hx;obtain⟨sl',e2⟩:=frm a ha _ e1;exact⟨sl',e2⟩
 .by_cases ha:a∈X.fs
  .obtain⟨o1,e1⟩:=I.base.there a o e hx;obtain⟨sl,e2⟩:=frm a ha o1 e1;exact⟨_,e2⟩
  .obtain⟨⟨o',q⟩,_⟩:=k.ent a o e ha;exact⟨o',stays a o' q⟩
 .obtain⟨m,hn,hl⟩:=I.loc;refine⟨m,u.ns hn,fun i x v e1 e2 e3=>?_⟩;obtain⟨uu,r,l⟩:=hl i x v e1 e2 e3;refine⟨uu,r,?_⟩;rcases l with l|⟨kk,c,e,z⟩
  .exact .inl l
  .exact .inr ⟨kk,c,e,cell c _ z⟩
 .obtain⟨v,z⟩:=I.cell x c e;exact⟨v,cell c v z⟩
 .rw[C3]at hp;obtain⟨_,n,ne,nf,d⟩:=I.pin p (E4 _ hp);exact⟨stays _ _ (k.pin p hp),n,ne,nf,d⟩
 .exact(I.hok a v e).stay (fun c w hc q=>by
   rcases hc with rfl|hc
   .exact tr c v w e q
   .exact tr c _ w hc q) (fun _ q=>q) fun _ _ q=>q
 .obtain⟨o1,q1⟩:=(I.hok a v e).there;have:=tr a v o1 e q1;rw[q]at this;cases this;exact k.trk a v o e q1
noncomputable def XS(X:Cx)(EE:St->XK)(ev:Value)(s:Shared):Prop:=
 ∃e c dx st σ H B,ev=.ref e/\Inv X [] σ H s/\Kp X H B s.heap/\Fly B X.stack e c dx st s.heap/\(st=none\/st=some .none\/st=some (rawInt X.env.locals))/\EE σ c dx H
theorem XS.unwish{EE:St->XK}{E:Value->Shared->Prop}{ev:Value}(h:XS (X.wish E) EE ev s):XS X EE ev s:=by
 obtain⟨e,c,dx,st,σ,H,B,h1,I,k,F,hst,q⟩:=h;exact⟨e,c,dx,st,σ,H,B,h1,I.unwish,⟨k.trk,k.ent,k.pin⟩,F,hst,q⟩
noncomputable def CX1(P:Program)(w:World):CXT:=fun outer H s E ev s'=>∃e c dx H' B,ev=.ref e/\s'.os=s.os/\AllBare s'.gens/\Un (frs outer) [] H H' s.heap s'.heap/\HOk P w H' s'.heap/\Fly B outer e c dx (some .none) s'.heap /\
 (∀b u o,H' b=some u->s'.heap.get? b=some o->B.get? b=some o)/\(∀b o,s.heap.get? b=some o->b∉frs outer->(∃o',B.get? b=some o')/\(H b=none->B.get? b=some o))/\E c dx H'
theorem Inv.entry(I:Inv X pins σ H s)(bd:Body X){b:Addr}{o:Obj}(e:X.s₀.heap.get? b=some o)(hb:b∉X.fs):b∉frs X.stack/\(∃o1,s.heap.get? b=some o1)/\(X.H₀ b=none->s.heap.get? b=some o/\H b=none):=by
 have nx:b∉X.ex:=by rw[bd.ex];simp
 refine⟨fun z=>?_,I.base.there b o e nx,fun n=>⟨I.base.keep b o e n hb nx,I.base.free b o e n nx⟩⟩;rcases List.mem_cons.mp (I.stkSub b z)with q|q
 .exact absurd (q▸B7 (A9 e) I.ok.above) (J3 _)
 .exact hb q
theorem aBd{EE:St->XK}{ev:Value}{s':Shared}(bd:Body X)(I:Inv X pins σ H s)(h:CX1 X.prog X.w X.stack H s (EE σ) ev s'):XS X EE ev s':=by
 obtain⟨e,c,dx,H',B,rfl,os,bare,un,hok,F,trk,ent,q⟩:=h;have I':Inv X pins σ H' s':=I.call' os un hok bare fun b z=>absurd z (by simp);refine⟨e,c,dx,some .none,σ,H',B,rfl,I'.pins_of fun p hp=>absurd hp (by simp),⟨trk,fun b o e hb=>?_,fun p hp=>?_⟩,F,.inr (.inl rfl),q⟩
 .obtain⟨h1,⟨o1,h2⟩,h3⟩:=I.entry bd e hb;exact⟨(ent b o1 h2 h1).1,fun n=>(ent b o (h3 n).1 h1).2 (h3 n).2⟩
 .obtain⟨h1,n,ne,nf,_⟩:=I.pin p (E4 _ hp);exact(ent p.1 p.2 h1 fun z=>(List.mem_cons.mp (I.stkSub p.1 z)).elim ne nf).2 n
theorem ZT{EE:St->XK}{e:Addr}{oe:Obj}{vs:Array Value}(bd:Body X)(I:Inv X pins σ H s)(he:s.heap.get? e=some oe)(hn:H e=none)(h0:X.s₀.heap.get? e=none)(hp:∀p∈X.pn,p.1≠e)(hv:oe.data=.fields vs)(hz:1<vs.size)(h1:vs[1]?=some .none)
 (q:EE σ oe.cls oe.dict H):XS X EE (.ref e) s:=by
 have nf:e∉frs X.stack:=fun hm=>by
  obtain⟨_,o,ho,hnf⟩:=I.stack.mem hm;exact kN he hv ho hnf rfl
 have get:∀b o,b≠e->b∉frs X.stack->s.heap.get? b=some o->(PySem.W.hideAll s.heap (e::frs X.stack)).get? b=some o:=fun b o h1 h2 h3=>PySem.W.hideAll_get _ h3 fun hm=>(List.mem_cons.mp hm).elim h1 h2;refine⟨e,oe.cls,oe.dict,none,σ,H,PySem.W.hideAll s.heap (e::frs X.stack),rfl,I.pins_of fun p hp=>absurd hp (by simp),⟨fun b u o h1 h2=>?_,fun b o h1 h2=>?_,fun p h1=>?_⟩,⟨fun b o h1=>PySem.W.of_hideAll _ h1,PySem.W.hideAll_none _ B0,?_,oe,vs,he,⟨rfl,rfl⟩,hv,hz,h1⟩,.inl rfl,q⟩
 .exact get b o (aP h1 hn) (fun z=>by rw[I.stkFree b z]at h1;cases h1) h2
 .obtain⟨k1,⟨o1,k2⟩,k3⟩:=I.entry bd h1 h2;have ne:b≠e:=fun z=>by rw[z,h0]at h1;cases h1
  exact⟨⟨o1,get b o1 ne k1 k2⟩,fun n=>get b o ne k1 (k3 n).1⟩
 .obtain⟨q1,n,ne,nf,_⟩:=I.pin p (E4 _ h1);exact get p.1 p.2 (hp p h1) (fun z=>(List.mem_cons.mp (I.stkSub p.1 z)).elim ne nf) q1
 .exact PySem.W.funFrames_hide I.stack fun env hm a ha=>B1 _ (List.mem_filterMap.mpr ⟨env,hm,ha⟩)
theorem YG{EE:St->XK}(bd:Body X):PassesOwn (model X.prog X.w) X.A X.env (XS X EE):=by
 rintro ev s ⟨e,c,dx,st,σ,H,B,rfl,I,k,F,hst,q⟩;have hf:=I.ok.frames;rw[bd.stk]at hf F;refine aCx hf bd.fr F hst fun h' F' u=>?_;obtain⟨I',k'⟩:=I.up bd k F'.stays u;exact⟨e,c,dx,_,σ,H,B,rfl,I',k',by rw[bd.stk];exact F',.inr (.inr rfl),q⟩
end
section
variable{P:Program}{w:World}{K:Fg}{mg:Str->Option Value}{base:Heap}{N:List Str}{qual:Str}{scope:Scope}{f:Addr}{cd:Value}{A:Around}{outer:List Env}{s:Shared}{H:Hp}{E:XK}{CX:CXT}
theorem RP:Body (mE CX P w K mg base N qual scope f cd A outer s H E):=⟨rfl,rfl,rfl⟩
theorem Body.wish{X:Cx}(b:Body X)(E:Value->Shared->Prop):Body (X.wish E):=⟨b.stk,b.fr,b.ex⟩
theorem aBC{ev:Value}{s':Shared}(h:XS (mE (CX1 P w) P w K mg base N qual scope f cd A outer s H E) (fun _=>E) ev s'):(mE (CX1 P w) P w K mg base N qual scope f cd A outer s H E).xe ev s':=by
 obtain⟨e,c,dx,st,σ,H',B,rfl,I,k,F,hst,q⟩:=h;refine WA (c:=c) (dx:=dx) (st:=st) (B:=B) (outer:=outer) (L:=s.heap.objs.size) I.ok.frames rfl F hst fun h' F' u=>?_;obtain⟨I',k'⟩:=I.up RP k F'.stays u;exact⟨e,c,dx,H',B,rfl,I'.os,I'.bare,I'.base,I'.hok,F',k'.trk,k'.ent,q⟩
theorem aHQ{k:Nat}{name:Str}{params:Arguments}{body:List Stmt}{dV kV doc pm cdv ct oc:Value}{an od:Option Addr}
 {osl:Array (Option Value)} {ps:List Str} {sp:Sp} (lk:K.lookup f=some ⟨oc,od,.func (PySem.W.fnOf name qual params body scope dV kV doc pm an cdv ct),osl⟩) (hcd:PySem.W.codeIn K cdv qual=true) (S:aS N ps scope)
 (len:∀vs H Q E,sp vs H Q E->vs.length=ps.length)
 (hbody:∀(A:Around)(outer:List Env)(s:Shared)(H:Hp)(vs:List V)(Q:VK)(E:XK),cG k (A.deeper (envOfC qual scope s.heap.objs.size f cdv))->sp vs H Q E->
  ∃t,PSs ((mE (CX1 P w) P w K mg base N qual scope f cdv A outer s H E).wish (XS (mE (CX1 P w) P w K mg base N qual scope f cdv A outer s H E) fun _=>E)) body t/\t { nx:=fun _ H'=>Q .non H',rt:=Q } (start N vs) H):
 gY P w K mg base (CX1 P w) (k+1) f (PySem.W.fnOf name qual params body scope dV kV doc pm an cdv ct) ps sp:=
 aER lk hcd S len fun A outer s H vs Q E hr h=>by
  obtain⟨t,ht,hq⟩:=hbody A outer s H vs Q E hr h;exact⟨t,fun pins s' σ H' D I hw=>D5 (ht pins s' σ H' D (I.wish _) hw) (fun _ _ q=>q.unwish) fun _ _ z=>aBC z,hq⟩
end
structure aKi(K:Fg)(C:Addr):Prop where
 ga:PySem.W.findIn K (.ref C) "__getattribute__"=some (some (.builtin "BaseException.__getattribute__"))
 gh:PySem.W.findIn K (.ref C) "__getattr__"=some none
 be:PySem.W.subIn K (.ref C) (.type "BaseException")=some true
 cl:(PySem.W.clsIn K C).isSome=true
section
variable{X:Cx}{pins:List (Addr×Obj)}{σ:St}{H:Hp}{s:Shared}
noncomputable def aAL(sp:Sp)(EE:St->XK)(t:TA):TE:=fun σ H Q=>t σ H fun vs H1=>sp vs H1 Q (EE σ)
structure xW(P:Program)(w:World)(K:Fg)(mg:Str->Option Value)(base:Heap)(k:Nat)(x:Str)(ps:List Str)(sp:Sp):Prop where
 ex:∃f fd,gY P w K mg base (CX1 P w) k f fd ps sp/\mg x=some (.ref f)/\PySem.W.keepIn K (.ref f)=true/\Binds K fd ps []
structure XOk(X:Cx)(EE:St->XK):Prop where
 bd:Body X
 pass:∀ev s,XS X EE ev s->X.xe ev s
 own:PassesOwn (model X.prog X.w) X.A X.env X.xe
theorem XOk.of{X:Cx}(bd:Body X)(EE:St->XK):XOk (X.wish (XS X EE)) EE:=⟨bd.wish _,fun _ _ h=>h.unwish,YG bd⟩
theorem aCs{EE:St->XK}{k:Nat}{f:Addr}{fd:FuncData}{ps:List Str}{sp:Sp}{Q:VK}{us:List Value}{vs:List V}(ok:XOk X EE)(F:gY X.prog X.w X.K X.mg X.base (CX1 X.prog X.w) k f fd ps sp)(hr:cG k X.A)(hb:Binds X.K fd ps [])
 (I:Inv X pins σ H s) (r:bF vs us) (h:sp vs H Q (EE σ)):wpAny (model X.prog X.w) X.A (call (.ref f) us) (EP X pins σ Q) X.xe s:=by
 have hl:us.length=ps.length:=by rw[<- r.length];exact F.len _ _ _ _ h
 have b:=hb s us I.kIn (by rw[C3];exact hl);rw[C3]at b;refine wpAny_call (Y8 (F.run X.A X.stack s H ⟨us,[]⟩ us vs Q (EE σ) hr I.env0 b r h) fun r s' hq=>?_);cases r with
 |error e=>exact ok.pass _ _ (aBd ok.bd I hq)
 |ok fl=>
  cases fl with
  |ret u=>exact I.after hq
  |next=>exact False.elim hq
  |brk=>exact False.elim hq
  |cont=>exact False.elim hq
theorem aCG{EE:St->XK}{k:Nat}{x:Str}{ps:List Str}{sp:Sp}{p pos:Pos}{e:Expr}{es:List Expr}{t:TA}(ok:XOk X EE)(C:xW X.prog X.w X.K X.mg X.base k x ps sp)(hr:cG k X.A)(ha:PA X (e::es) t)(hg:Gl X x)
 (hdb:(x==("__debug__":Str))=false) (he:starEach (e::es) X.env=(false,eval e X.env)::starEach es X.env) (hpl:(backTo pos (starEach es X.env)).any (·.1)=false):
 PE X (.Call (.Name x p) (e::es) [] pos) (aAL sp EE t):=by
 intro pins s σ H Q I h;obtain⟨f,fd,F,m,kp,b⟩:=C.ex;refine L5 (oI I hg m ?_ hdb);exact Y4 (h₀:=X.base) I.ok.mod.kin kp (thn (ha pos pins s σ H _ I h) fun us s1 ⟨vs,H1,I1,r,q⟩=>⟨I1.kIn,aCs ok F hr b I1 r q⟩) he hpl
noncomputable abbrev bmV:List Value:=[.type "ValueError",.type "Exception",.type "BaseException",.type "object"]
theorem aCb{K:Fg}{h:Heap}{C:Addr}{bmB:List Value}{nid:String}(X:K.In h)(q:PySem.W.excIn K C bmB nid=true):
 ∃bm N nm qn bs hd sn sub ab col dd k0 k1 k2 k3 k5 mN,h.get? C=some (excClassObj nm qn C N bs bm hd sn sub ab col dd k0 k1 k2 k3 k5 nid)/\h.Ns N mN/\mN "__init__"=none/\OwnTail h bmB bm:=by
 unfold PySem.W.excIn at q;split at q
 case h_2=>cases q
 case h_1 dd cd sl lk=>
  split at q
  case h_2=>cases q
  case h_1 C' bm k0 k1 k2 k3 n k5 hm hs=>
   simp only[Bool.and_eq_true,beq_iff_eq,Bool.not_eq_true']at q;obtain⟨⟨⟨⟨⟨q1,q2⟩,q3⟩,q4⟩,q5⟩,q6⟩:=q;subst q1 q2;cases cd with
   |mk nm bs mro ns qn hd sn sub ab col del=>
    cases hm;cases q3
    have es:sl=#[k0,k1,k2,k3,some (.builtin n),k5]:=by
     cases sl with
     |mk l=>exact O1 Array.mk hs
    cases es;exact⟨bm,ns,nm,qn,bs,hd,sn,sub,ab,col,dd,k0,k1,k2,k3,k5,_,X _ _ lk,.of_isNs (PySem.W.isNs_of_in X q5),PySem.W.nsMap_none_of_in X q5 q6,PySem.W.tail_of_in X q4⟩
noncomputable def GP(EE:St->XK)(C:Addr):TS:=fun _ σ H=>EE σ (.ref C) none H
theorem SD{EE:St->XK}{C:Addr}{x:Str}{np cpos pos:Pos}(ok:XOk X EE)(hc:X.calm=true)(hm:X.mg x=some (.ref C))(q:PySem.W.excIn X.K C bmV "ValueError.__new__"=true)(hg:Gl X x)
 (hdb:(x==("__debug__":Str))=false):PS X (.Raise (some (.Call (.Name x np) [] [] cpos)) none pos) (GP EE C):=by
 intro pins s σ H D I h;obtain⟨bm,N,nm,qn,bs,hd,sn,sub,ab,col,dd,k0,k1,k2,k3,k5,mN,oC,oN,oi,ot⟩:=aCb I.kIn q
 refine wpAny_Raise_call_subT (C:=C) (nm:=nm) (q:=qn) (N:=N) (bs:=bs) (bm:=bm) (hdct:=hd) (sn:=sn) (sub:=sub) (ab:=ab) (col:=col) (dd:=dd) (k0:=k0) (k1:=k1) (k2:=k2) (k3:=k3) (k5:=k5) (mN:=mN)
  F.excBase_ValueError (ot.hasType F.excBase_ValueError.hasBase) (I.ok.hd hc) rfl oi (oI I hg hm ⟨rfl,evalArgs_empty ⟨rfl,F8 _,oC,oN,ot,fun h' e mk=>ok.pass _ _ ?_⟩⟩ hdb)
 obtain⟨t,he,_,_⟩:=mk.there;have I':Inv X pins σ H { s with heap:=h' }:=I.kept mk.keeps
 have hn:H e=none:=by
  cases z:H e with
  |none=>rfl
  |some u=>
   obtain⟨o,z'⟩:=(I.hok e u z).there;rw[mk.new]at z';cases z'
 refine ZT ok.bd I' he hn ?_ (fun p hp z=>?_) rfl (show 1<6 by decide) rfl h
 .cases z:X.s₀.heap.get? e with
  |none=>rfl
  |some o=>
   obtain⟨o1,z1⟩:=I.base.there e o z (by rw[ok.bd.ex];simp);rw[mk.new]at z1;cases z1
 .have:=(I.pin p (E4 _ hp)).1;rw[z,mk.new]at this;cases this
end
noncomputable def hCx(X:Cx)(e:Addr):Cx:={ X with A:=X.A.mark (some (.ref e)),calm:=false,xe:=fun _ _=>False }
noncomputable def xF(X:Cx)(pins:List (Addr×Obj)):Cx:={ X with pn:=X.pn++pins }
section
variable{X:Cx}{pins:List (Addr×Obj)}{σ:St}{H:Hp}{s:Shared}
theorem Inv.toH(I:Inv X pins σ H s)(e:Addr):Inv (hCx X e) pins σ H s:=
 ⟨⟨I.ok.mod,I.ok.kind,I.ok.glob,I.ok.blt,I.ok.above,I.ok.inj,I.ok.has,I.ok.cab,fun z=>(by cases z),I.ok.frames,I.ok.stk,I.ok.exf,I.ok.bs,I.ok.bsz,I.ok.noex,I.ok.exfs,I.ok.funs,I.ok.frf⟩,I.os,I.bare,I.base,I.loc,I.cell,I.free,I.freeC,I.pin,I.hok,I.len⟩
theorem Inv.ofH{e:Addr}(I:Inv (hCx X e) pins σ H s)(ok:X.Ok):Inv X pins σ H s:=⟨ok,I.os,I.bare,I.base,I.loc,I.cell,I.free,I.freeC,I.pin,I.hok,I.len⟩
theorem Inv.toP(I:Inv X pins σ H s):Inv (xF X pins) [] σ H s:=
 ⟨⟨I.ok.mod,I.ok.kind,I.ok.glob,I.ok.blt,I.ok.above,I.ok.inj,I.ok.has,I.ok.cab,I.ok.hd,I.ok.frames,I.ok.stk,I.ok.exf,I.ok.bs,I.ok.bsz,I.ok.noex,I.ok.exfs,I.ok.funs,I.ok.frf⟩,I.os,I.bare,I.base,I.loc,I.cell,I.free,I.freeC,fun p hp=>I.pin p (by rw[C3]at hp;exact hp),I.hok,I.len⟩
theorem Inv.ofP(I:Inv (xF X pins) [] σ H s)(ok:X.Ok):Inv X pins σ H s:=⟨ok,I.os,I.bare,I.base,I.loc,I.cell,I.free,I.freeC,fun p hp=>I.pin p (by rw[C3];exact hp),I.hok,I.len⟩
theorem Inv.track{e:Addr}{oe:Obj}{vs:Array Value}(I:Inv X pins σ H s)(he:s.heap.get? e=some oe)(hv:oe.data=.fields vs)(hn:H e=none)(h0:X.s₀.heap.get? e=none)(hp:∀p∈X.pn++pins,p.1≠e):
 Inv X pins σ (upd H e (.ext (rE e oe.cls oe.dict false))) s:=by
 have ne:∀b u,H b=some u->b≠e:=fun b u z=>aP z hn;refine⟨I.ok,I.os,I.bare,⟨I.base.keep,I.base.slot,fun b o q n hx=>?_,I.base.there,fun b xs q=>?_,fun b o u q=>?_,fun b ps q=>?_⟩,I.loc,I.cell,?_,fun x c q=>?_,fun p h=>?_,fun b u q=>?_,I.len⟩
 .rw[aM (fun z=>by rw[z,h0]at q;cases q)];exact I.base.free b o q n hx
 .have:=I.base.tups b xs q;rw[aM (ne _ _ this)];exact this
 .have:=I.base.frzs b o u q;rw[aM (ne _ _ this)];exact this
 .obtain⟨more,this⟩:=I.base.tbls b ps q;exact⟨more,by rw[aM (ne _ _ this)];exact this⟩
 .obtain⟨m,⟨o,es,ep,ho,hd,_⟩,_⟩:=I.loc;rw[aM (kN he hv ho fun ws z=>by rw[hd]at z;cases z)];exact I.free
 .obtain⟨v,o,ho,hd⟩:=I.cell x c q;rw[aM (kN he hv ho fun ws z=>by rw[hd]at z;cases z)];exact I.freeC x c q
 .obtain⟨q1,q2,q3⟩:=I.pin p h;exact⟨q1,by rw[aM (hp p h)];exact q2,q3⟩
 .by_cases hb:b=e
  .subst hb;rw[aV]at q;cases q;exact⟨⟨oe,vs,he,rfl,rfl,hv,fun z=>by cases z⟩,⟨oe,he⟩,fun h1 h2 ⟨o,ws,z1,z2⟩ k=>⟨o,ws,k o z1,z2⟩⟩
  .rw[aM hb]at q;exact(I.hok b u q).stay (fun _ _ _ z=>z) (fun c z=>by rw[aM (ne _ _ z)];exact z) fun c xs z=>by rw[aM (ne _ _ z)];exact z
theorem qW{M:Model}{A:Around}{E:Value->Shared->Prop}{i:Nat}{x:Str}{pos:Pos}{Q:Unit->Shared->Prop}(I:Inv X pins σ H s)(hN:X.N.Nodup)(hi:X.N[i]?=some x)(hk:X.env.scope.names.lookup x=some .local)
 (h:∀s',Inv X pins (σ.set i none) H s'->Q () s'):wpAny M A (do bindName X.env x .none;unbindBehindTheSuite X.env x pos) Q E s:=by
 obtain⟨m,hn,hl⟩:=id I.loc;have hcls:(X.env.scope.kind==.class || (X.env.scope.kind==.module&&X.env.locals != X.env.globals))=false:=by rw[I.ok.kind];rfl
 have hiσ:i<σ.length:=by rw[I.len];exact(List.getElem?_eq_some_iff.mp hi).1
 obtain⟨oL,_,_,hoL,_⟩:=id hn;refine wpAny_nameGoes_keeps hk hn hcls fun h' v hn' hs=>h _ ?_;have ltL:∀b o,X.s₀.heap.get? b=some o->b≠X.env.locals:=fun b o q=>B5 (B7 (A9 q) I.ok.above);refine⟨I.ok,I.os,I.bare,⟨fun b o q n hb hx=>(hs.2 b (ltL b o q)).trans (I.base.keep b o q n hb hx),fun b o q n hb hx=>?_,I.base.free,fun b o q hx=>?_,I.base.tups,I.base.frzs,I.base.tbls⟩,⟨_,hn',fun j y v' e1 e2 e3=>?_⟩,fun y c q=>?_,I.free,I.freeC,fun p hp=>?_,fun b u q=>?_,by simpa using I.len⟩
 .obtain⟨sl,e1⟩:=I.base.slot b o q n hb hx;exact⟨sl,(hs.2 b (ltL b o q)).trans e1⟩
 .obtain⟨o',e1⟩:=I.base.there b o q hx;exact⟨o',(hs.2 b (ltL b o q)).trans e1⟩
 .have hj:j≠i:=fun z=>by
   subst z;rw[D8 hiσ]at e2;cases e2
  rw[J1 (F7 hj)]at e2;obtain⟨u',r',z⟩:=hl j y v' e1 e2 e3;refine⟨u',r',?_⟩;rcases z with⟨k,e⟩|⟨k,c,e,z⟩
  .have:y≠x:=fun e=>hj (zV hN e1 (e▸hi));exact .inl ⟨k,by simp[this,e]⟩
  .exact .inr ⟨k,c,e,z.sameBut hs (I.cne y c e)⟩
 .obtain⟨w',z⟩:=I.cell y c q;exact⟨w',z.sameBut hs (I.cne y c q)⟩
 .obtain⟨e,n,ne,nf,d⟩:=I.pin p hp;exact⟨(hs.2 p.1 ne).trans e,n,ne,nf,d⟩
 .refine(I.hok b u q).stay (fun c w' hc z=>(hs.2 c ?_).trans z) (fun _ z=>z) fun _ _ z=>z;rintro rfl;rcases hc with rfl|hc
  .rw[I.free]at q;cases q
  .rw[I.free]at hc;cases hc
structure HR where
 c:Value
 n:Option Nat
 t:TS
noncomputable def unbN:Option Nat->St->St
 |none,σ=>σ
 |some i,σ=>σ.set i none
noncomputable def setN:Option Nat->St->V->St
 |none,σ,_=>σ
 |some i,σ,v=>σ.set i (some v)
noncomputable def WO(D:Ends)(n:Option Nat):Ends:={ nx:=fun σ H=>D.nx (unbN n σ) H,rt:=D.rt,bk:=fun σ H=>D.bk (unbN n σ) H,ct:=fun σ H=>D.ct (unbN n σ) H }
noncomputable def tHs(K:Fg)(D:Ends):List HR->St->XK
 |[],_,_,_,_=>False
 |h::r,σ,c,dx,H=>∃b,PySem.W.exmOne K c h.c=some b/\(if b=true then ∀e,H e=none->h.t (WO D h.n) (setN h.n σ (.ref e)) (upd H e (.ext (rE e c dx false)))else tHs K D r σ c dx H)
noncomputable def ZZ(X:Cx)(hs:List ExceptHandler)(rs:List HR):Prop:=∀(pins:List (Addr×Obj))(D:Ends)(e:Addr)(c:Value)(dx:Option Addr)(σ:St)(H:Hp)(s:Shared)(B:Heap)(E:Value->Shared->Prop),X.Ok->Inv (xF X pins) [] σ H s->Kp (xF X pins) H B s.heap->
 Fly B X.stack e c dx (some .none) s.heap->tHs X.K D rs σ c dx H->wpAny (model X.prog X.w) X.A (handleBy (.ref e) X.env hs) (SP X pins D) E s
theorem aGa:ZZ X [] []:=fun _ _ _ _ _ _ _ _ _ _ _ _ _ _ h=>h.elim
noncomputable def WY(X:Cx)(x:Str)(c:Value):Prop:=X.mg x=some c\/(X.mg x=none/\bootBuiltins x=some c/\x≠"__name__")
theorem aHF{x:Str}{c:Value}{pos:Pos}{E:Value->Shared->Prop}{Q:Value->Shared->Prop}(n:WY X x c)(I:Inv X pins σ H s)(hg:Gl X x)(hd:(x==("__debug__":Str))=false)(h:Q c s):
 wpAny (model X.prog X.w) X.A (eval (.Name x pos) X.env) Q E s:=by
 rcases n with m|⟨m,b,z⟩
 .exact oI I hg m h hd
 .exact sX I hg m b h z hd
theorem Fly.fresh{B h:Heap}{e:Addr}{c:Value}{dx st:_}(bd:Body X)(I:Inv X pins σ H s)(k:Kp X H B s.heap)(F:Fly B X.stack e c dx st s.heap):H e=none/\X.s₀.heap.get? e=none/\∀p∈X.pn,p.1≠e:=by
 obtain⟨oe,vs,he,_,_,hv⟩:=F.obj;refine⟨?_,?_,fun p hp z=>?_⟩
 .cases z:H e with
  |none=>rfl
  |some u=>
   have:=k.trk e u oe z he;rw[F.new]at this;cases this
 .cases z:X.s₀.heap.get? e with
  |none=>rfl
  |some o=>
   by_cases hf:e∈X.fs
   .obtain⟨_,o1,z1,hn⟩:=I.funs.mem hf;exact absurd rfl (kN he hv z1 hn)
   .obtain⟨⟨o',q⟩,_⟩:=k.ent e o z hf;rw[F.new]at q;cases q
 .have:=k.pin p hp;rw[z,F.new]at this;cases this
noncomputable def aJz(X:Cx):Option Str->Option Nat->Prop
 |none,none=>True
 |some n,some i=>X.N.Nodup/\X.N[i]?=some n/\X.env.scope.names.lookup n=some .local
 |_,_=>False
theorem aCA{x:Str}{np pos:Pos}{nm:Option Str}{b₀:Stmt}{suite:List Stmt}{hs:List ExceptHandler}{h:HR}{rs:List HR}(bd:Body X)(hc:WY X x h.c)(hg:Gl X x)(hd:(x==("__debug__":Str))=false)
 (hn:aJz X nm h.n)
 (hS:∀e,PSs (hCx X e) (b₀::suite) h.t) (hR:ZZ X hs rs):ZZ X (.ExceptHandler (some (.Name x np)) nm (b₀::suite) pos::hs) (h::rs):=by
 intro pins D e c dx σ H s B E ok I k F hq;obtain⟨b,hb,hq⟩:=hq;have bp:Body (xF X pins):=⟨bd.stk,bd.fr,bd.ex⟩;obtain⟨oe,vs,he,hoc,_,hv⟩:=F.obj;have LT:PySem.W.Looks (model X.prog X.w) s.heap (typeOf (.ref e)) c:=hoc▸(PySem.W.Looks.ld he).andThen .now;have IH:=(I.ofP ok).toH e;have hA:(hCx X e).A=X.A.mark (some (.ref e)):=rfl;refine wpAny_handleBy_cons (codeAny_handlers_test (aHF (X:=hCx X e) hc IH hg hd ?_)) (by intro z;cases z);refine(PySem.W.exm_one IH.kIn LT hb).here ?_;cases b with
 |false=>exact hR pins D e c dx σ H s B E ok I k F hq
 |true=>
  rw[A4 rfl]at hq;have F':Fly B (xF X pins).stack e c dx (some .none) s.heap:=F
  have go:∀(P:Shared->Prop),(∀s',Inv X pins σ (upd H e (.ext (rE e c dx false))) s'->P s')->wpAny (model X.prog X.w) (X.A.mark (some (.ref e))) (setFlight (.ref e) none) (fun _ s1=>P s1) (notedBy (model X.prog X.w) (X.A.mark (some (.ref e))) X.env fun x s'=>cameBackBy (model X.prog X.w) X.A X.env E x s') s:=fun P hP=>by
   refine xV (fo:=none) F' fun h1 F1 u1=>hP _ ?_;obtain⟨I1,k1⟩:=I.up bp k F1.stays u1;obtain⟨n1,n2,n3⟩:=Fly.fresh (s:={ s with heap:=h1 }) (h:=h1) bp I1 k1 F1;obtain⟨oe1,vs1,he1,hc1,hd1,hv1⟩:=F1.obj;have I2:=Inv.track I1 he1 hv1 n1 n2 fun p hp=>n3 p (by rw[C3]at hp;exact hp);rw[hc1,hd1]at I2;exact I2.ofP ok
  have hne:H e=none:=(Fly.fresh (h:=s.heap) bp I k F').1;have q0:=hq e hne;cases nm with
  |none=>
   cases hni:h.n with
   |some i=>rw[hni]at hn;exact False.elim hn
   |none=>
    rw[hni]at q0;refine codeAny_handlers_suite (go _ fun s1 I1=>?_);refine D5 (hS e pins s1 σ _ (WO D none) (I1.toH e) q0) (fun f s2 z=>?_) fun _ _ z=>z.elim;cases f with
    |next=>obtain⟨σ',H',I',q⟩:=z;exact⟨σ',H',I'.ofH ok,q⟩
    |brk=>obtain⟨σ',H',I',q⟩:=z;exact⟨σ',H',I'.ofH ok,q⟩
    |cont=>obtain⟨σ',H',I',q⟩:=z;exact⟨σ',H',I'.ofH ok,q⟩
    |ret u=>obtain⟨v,σ',H',I',r,q⟩:=z;exact⟨v,σ',H',I'.ofH ok,r,q⟩
  |some n=>
   cases hni:h.n with
   |none=>rw[hni]at hn;exact False.elim hn
   |some i=>
    rw[hni]at hn q0;obtain⟨nd,hi,lo⟩:=hn;refine codeAny_handlers_suite_as (go _ fun s1 I1=>?_);refine qC (X:=X) I1 nd hi (.inl lo) (v:=.ref e) rfl (fun s2 I2=>?_) (.inr lo);refine D5 (hS e pins s2 _ _ (WO D (some i)) (I2.toH e) q0) (fun f s3 z=>?_) fun _ _ z=>z.elim;show wpAny _ _ _ (fun _ s₃=>SP X pins D f s₃) E s3;cases f with
    |next=>obtain⟨σ',H',I',q⟩:=z;exact qW (I'.ofH ok) nd hi lo fun s4 I4=>⟨_,H',I4,q⟩
    |brk=>obtain⟨σ',H',I',q⟩:=z;exact qW (I'.ofH ok) nd hi lo fun s4 I4=>⟨_,H',I4,q⟩
    |cont=>obtain⟨σ',H',I',q⟩:=z;exact qW (I'.ofH ok) nd hi lo fun s4 I4=>⟨_,H',I4,q⟩
    |ret u=>obtain⟨v,σ',H',I',r,q⟩:=z;exact qW (I'.ofH ok) nd hi lo fun s4 I4=>⟨v,_,H',I4,r,q⟩
noncomputable def aGZ(K:Fg)(tb:(St->XK)->TS)(rs:List HR):TS:=fun D σ H=>tb (tHs K D rs) D σ H
theorem aHd{body:List Stmt}{h₀:ExceptHandler}{hs:List ExceptHandler}{pos:Pos}{tb:(St->XK)->TS}{rs:List HR}(bd:Body X)
 (hb:∀pins EE,PSs ((xF X pins).wish (XS (xF X pins) EE)) body (tb EE)) (hh:ZZ X (h₀::hs) rs):PS X (.Try body (h₀::hs) [] [] pos) (aGZ X.K tb rs):=by
 intro pins s σ H D I h;have bp:Body (xF X pins):=⟨bd.stk,bd.fr,bd.ex⟩;refine wpAny_Try_except (D5 (hb pins (tHs X.K D rs) [] s σ H D (I.toP.wish _) h) (fun f s1 z=>?_) fun ev s1 z=>?_)
 .cases f with
  |next=>obtain⟨σ',H',I',q⟩:=z;exact Y7 ⟨σ',H',I'.unwish.ofP I.ok,q⟩
  |brk=>obtain⟨σ',H',I',q⟩:=z;exact⟨σ',H',I'.unwish.ofP I.ok,q⟩
  |cont=>obtain⟨σ',H',I',q⟩:=z;exact⟨σ',H',I'.unwish.ofP I.ok,q⟩
  |ret u=>obtain⟨v,σ',H',I',r,q⟩:=z;exact⟨v,σ',H',I'.unwish.ofP I.ok,r,q⟩
 .obtain⟨e,c,dx,st,σ1,H1,B,rfl,I1,k1,F1,hst,q⟩:=z;have hf:=I1.ok.frames;have F1':=F1;rw[bp.stk]at F1' hf;refine HJ hf bp.fr F1' hst fun h2 F2 u2=>xV (s:={ s1 with heap:=h2 }) (fo:=none) F2 fun h3 F3 u3=>?_;obtain⟨I2,k2⟩:=I1.up bp k1 F2.stays u2;obtain⟨I3,k3⟩:=I2.up bp k2 F3.stays u3;exact hh pins D e c dx σ1 H1 _ B _ I.ok I3 k3 (by rw[bd.stk];exact F3) q
end
structure Exc where
 nm:Str
 fs:List (Str×CD)
inductive Rs where
 |v (x:CD)|x (e:Exc)
inductive VU where
 |o (o:Out)|xc (γ:Ga) (e:Exc)
noncomputable abbrev EX:=Ga->Sto->Option (Rs×Sto)
noncomputable abbrev AX:=Ga->Sto->Option ((List CD ⊕ Exc)×Sto)
noncomputable abbrev SFX:=Ga->Sto->Option (VU×Sto)
noncomputable abbrev FX:=List CD->Sto->Option (Rs×Sto)
section
variable(K:Fg)
noncomputable def ExR(W:Wd)(ex:Exc)(c:Value)(dx:Option Addr):Prop:=c=.ref (bN K ex.nm)/\VQ K W dx ex.fs
noncomputable def aEC(E:XK)(Q:VK)(W:Wd)(H:Hp):Rs->Prop
 |.v x=>∀v,cD K W x v->Q v H
 |.x ex=>∀c dx,ExR K W ex c dx->E c dx H
noncomputable def SEX(EE:St->XK)(t:TE)(f:EX):Prop:=∀γ M r M',f γ M=some (r,M')->∀(W:Wd)(H:Hp)(σ:St)(Q:VK),Good K W M H->cL K W γ σ->(∀W' H',W.Ext W'->Good K W' M' H'->aEC K (EE σ) Q W' H' r)->t σ H Q
noncomputable def aIS(E:XK)(Q:List V->Hp->Prop)(W:Wd)(H:Hp):List CD ⊕ Exc->Prop
 |.inl xs=>∀vs,bY K W xs vs->Q vs H
 |.inr ex=>∀c dx,ExR K W ex c dx->E c dx H
noncomputable def SAX(EE:St->XK)(t:TA)(f:AX):Prop:=∀γ M r M',f γ M=some (r,M')->∀(W:Wd)(H:Hp)(σ:St)(Q:List V->Hp->Prop),Good K W M H->cL K W γ σ->(∀W' H',W.Ext W'->Good K W' M' H'->aIS K (EE σ) Q W' H' r)->t σ H Q
noncomputable def aGg(EE:St->XK)(D:Ends)(W:Wd)(H:Hp):VU->Prop
 |.o o=>ZA K D W H o
 |.xc γ ex=>∀σ c dx,cL K W γ σ->ExR K W ex c dx->EE σ c dx H
noncomputable def SSX(EE:St->XK)(t:TS)(f:SFX):Prop:=∀γ M o M',f γ M=some (o,M')->∀(W:Wd)(H:Hp)(σ:St)(D:Ends),Good K W M H->cL K W γ σ->(∀W' H',W.Ext W'->Good K W' M' H'->aGg K EE D W' H' o)->t D σ H
noncomputable def spX(f:FX):Sp:=fun vs H Q E=>∃xs M W r M',Good K W M H/\bY K W xs vs/\f xs M=some (r,M')/\∀W' H',W.Ext W'->Good K W' M' H'->aEC K E Q W' H' r
end
noncomputable def liE(f:EF):EX:=fun γ M=>(f γ M).bind fun r=>some (.v r.1,r.2)
noncomputable def liA(f:AF):AX:=fun γ M=>(f γ M).bind fun r=>some (.inl r.1,r.2)
noncomputable def liS(f:SF):SFX:=fun γ M=>(f γ M).bind fun r=>some (.o r.1,r.2)
noncomputable def xCons(f:EX)(g:AX):AX:=fun γ M=>(f γ M).bind fun r=>match r.1 with
 |.x e=>some (.inr e,r.2)
 |.v x=>(g γ r.2).bind fun q=>match q.1 with
  |.inr e=>some (.inr e,q.2)
  |.inl xs=>some (.inl (x::xs),q.2)
noncomputable def aIF(f:EX)(k:CD->Sto->Option (Rs×Sto)):EX:=fun γ M=>(f γ M).bind fun r=>match r.1 with
 |.x e=>some (.x e,r.2)
 |.v x=>k x r.2
noncomputable def aEy(f:AX)(k:List CD->Sto->Option (Rs×Sto)):EX:=fun γ M=>(f γ M).bind fun r=>match r.1 with
 |.inr e=>some (.x e,r.2)
 |.inl xs=>k xs r.2
noncomputable def QK(h:FX)(f:AX):EX:=aEy f h
noncomputable def rZ(f g:SFX):SFX:=fun γ M=>(f γ M).bind fun r=>match r.1 with
 |.o (.nx γ')=>g γ' r.2
 |o=>some (o,r.2)
noncomputable def KN(f:EX):SFX:=fun γ M=>(f γ M).bind fun r=>match r.1 with
 |.x e=>some (.xc γ e,r.2)
 |.v x=>some (.o (.rt x),r.2)
noncomputable def aHt(f:EX):SFX:=fun γ M=>(f γ M).bind fun r=>match r.1 with
 |.x e=>some (.xc γ e,r.2)
 |.v _=>some (.o (.nx γ),r.2)
noncomputable def aIN(f:EX)(g:GF):SFX:=fun γ M=>(f γ M).bind fun r=>match r.1 with
 |.x e=>some (.xc γ e,r.2)
 |.v x=>(g x γ r.2).bind fun q=>some (.o (.nx q.1),q.2)
noncomputable def UE(c:TF)(f g:SFX):SFX:=fun γ M=>(c γ M).bind fun r=>if r.1=true then f γ r.2 else g γ r.2
noncomputable def GM(g:GF)(b:SFX):List CD->Ga->Sto->Option (VU×Sto)
 |[],γ,M=>some (.o (.nx γ),M)
 |x::xs,γ,M=>(g x γ M).bind fun r=>(b r.1 r.2).bind fun q=>match q.1 with
  |.o (.nx γ')=>GM g b xs γ' q.2
  |.o (.ct γ')=>GM g b xs γ' q.2
  |.o (.bk γ')=>some (.o (.nx γ'),q.2)
  |.o (.rt x)=>some (.o (.rt x),q.2)
  |.xc γ' e=>some (.xc γ' e,q.2)
noncomputable def QZ(f:AF)(g:GF)(b:SFX):SFX:=fun γ M=>(f γ M).bind fun r=>GM g b r.1 γ r.2
noncomputable def HB(nm:Str):SFX:=fun γ M=>some (.xc γ ⟨nm,[]⟩,M)
noncomputable def fnX(ps N:Nat)(b:SFX):FX:=fun xs M=>if xs.length=ps then(b (xs.map some++List.replicate (N-xs.length) none) M).bind fun r=>match r.1 with
 |.o (.rt x)=>some (.v x,r.2)
 |.o (.nx _)=>some (.v (.d .none),r.2)
 |.xc _ e=>some (.x e,r.2)
 |_=>none else none
noncomputable def YE:Option Nat->Ga->Ga
 |none,γ=>γ
 |some i,γ=>γ.set i none
noncomputable def setG:Option Nat->Ga->CD->Ga
 |none,γ,_=>γ
 |some i,γ,x=>γ.set i (some x)
noncomputable def aGS(n:Option Nat):Out->Out
 |.nx γ=>.nx (YE n γ)
 |.bk γ=>.bk (YE n γ)
 |.ct γ=>.ct (YE n γ)
 |.rt x=>.rt x
structure HMi where
 tab:List (Str×Bool)
 n:Option Nat
 f:SF
noncomputable def aBm:List HMi->Ga->Exc->Sto->Option (Out×Sto)
 |[],_,_,_=>none
 |h::r,γ,ex,M=>match h.tab.lookup ex.nm with
  |some true=>(h.f (setG h.n γ (.c M.length)) (M++[.exc false ex.nm ex.fs])).bind fun q=>some (aGS h.n q.1,q.2)
  |some false=>aBm r γ ex M
  |none=>none
noncomputable def aAy(b:SFX)(hs:List HMi):SF:=fun γ M=>(b γ M).bind fun r=>match r.1 with
 |.o o=>some (o,r.2)
 |.xc γ' ex=>aBm hs γ' ex r.2
section
variable{K:Fg}{EE:St->XK}{ta tb:TE}{tA:TA}{t u:TS}{f g:EX}{fa:AX}{p q:SFX}{tt:TT}{ft:TF}{tg:TG}{hg:GF}
theorem aHu{f:AF}(a:SA K tA f):SAX K EE tA (liA f):=by
 intro γ M r M' h W H σ Q G R k;obtain⟨⟨x,M1⟩,h1,h⟩:=aJ h;cases h;exact a _ _ _ _ h1 W H σ Q G R fun v W' H' e G' rv=>k W' H' e G' v rv
theorem VY{f:SF}(a:SS K t f):SSX K EE t (liS f):=by
 intro γ M r M' h W H σ D G R k;obtain⟨⟨x,M1⟩,h1,h⟩:=aJ h;cases h;exact a _ _ _ _ h1 W H σ D G R fun W' H' e G'=>k W' H' e G'
theorem aAi{h:FX}(a:SAX K EE tA fa):SEX K EE (aAL (spX K h) EE tA) (QK h fa):=by
 intro γ M r M' hh W H σ Q G R k;obtain⟨⟨x,M1⟩,h1,hh⟩:=aJ hh;refine a _ _ _ _ h1 W H σ _ G R fun W1 H1 e1 G1=>?_;cases x with
 |inr e=>cases hh;exact k W1 H1 e1 G1
 |inl xs=>exact fun vs rs=>⟨xs,M1,W1,r,M',G1,rs,hh,fun W2 H2 e2 G2=>k W2 H2 (e1.trans e2) G2⟩
theorem aBT(a:SSX K EE t p)(b:SSX K EE u q):SSX K EE (aFT t u) (rZ p q):=by
 intro γ M o M' hh W H σ D G R k;obtain⟨⟨x,M1⟩,h1,hh⟩:=aJ hh;refine a _ _ _ _ h1 W H σ _ G R fun W1 H1 e1 G1=>?_;cases x with
 |xc γ' e=>cases hh;exact k W1 H1 e1 G1
 |o x=>
  cases x with
  |nx γ'=>exact fun σ' R'=>b _ _ _ _ hh W1 H1 σ' D G1 R' fun W2 H2 e2 G2=>k W2 H2 (e1.trans e2) G2
  |bk γ'=>cases hh;exact k W1 H1 e1 G1
  |ct γ'=>cases hh;exact k W1 H1 e1 G1
  |rt x=>cases hh;exact k W1 H1 e1 G1
theorem aCm(a:SEX K EE ta f):SSX K EE (aFj ta) (KN f):=by
 intro γ M o M' hh W H σ D G R k;obtain⟨⟨x,M1⟩,h1,hh⟩:=aJ hh;refine a _ _ _ _ h1 W H σ _ G R fun W1 H1 e1 G1=>?_;cases x with
 |x e=>cases hh;exact fun c dx z=>k W1 H1 e1 G1 σ c dx (R.up e1) z
 |v x=>cases hh;exact fun v rv=>k W1 H1 e1 G1 v rv
theorem aFp(c:STt K tt ft)(a:SSX K EE t p)(b:SSX K EE u q):SSX K EE (aFL tt t u) (UE ft p q):=by
 intro γ M o M' hh W H σ D G R k;obtain⟨⟨x,M1⟩,h1,hh⟩:=aJ hh;refine c _ _ _ _ h1 W H σ _ G R fun W1 H1 e1 G1=>?_;cases x with
 |true=>rw[A4 rfl];rw[A4 rfl]at hh;exact a _ _ _ _ hh W1 H1 σ D G1 (R.up e1) fun W2 H2 e2 G2=>k W2 H2 (e1.trans e2) G2
 |false=>rw[A5 A7];rw[A5 A7]at hh;exact b _ _ _ _ hh W1 H1 σ D G1 (R.up e1) fun W2 H2 e2 G2=>k W2 H2 (e1.trans e2) G2
theorem UB{nm:Str}:SSX K EE (GP EE (bN K nm)) (HB nm):=by
 intro γ M o M' hh W H σ D G R k;cases hh;exact k W H (.refl _) G σ _ none R ⟨rfl,rfl⟩
theorem aDr{wi:TI}{fi:AF}(i:SI K wi fi)(a:SG K tg hg)(b:SSX K EE t p):SSX K EE (aHA wi tg t) (QZ fi hg p):=by
 intro γ M o M' hh W H σ D G R k;obtain⟨⟨xs,M1⟩,h1,hh⟩:=aJ hh;have hh:GM hg p xs γ M1=some (o,M'):=hh;refine i _ _ _ _ h1 W H σ _ G R fun J W1 H1 e1 G1 gv=>?_;refine⟨fun j m σ' H'=>∃γ' M2 W2,j<=xs.length/\m=xs.length-j/\W1.Ext W2/\Good K W2 M2 H'/\cL K W2 γ' σ'/\GM hg p (xs.drop j) γ' M2=some (o,M'),⟨_,γ,M1,W1,F8 _,rfl,.refl _,G1,R.up e1,hh⟩,?_⟩;rintro j m σ' H' ⟨γ',M2,W2,hj,rfl,e2,G2,R2,h2⟩;obtain⟨gv1,gv2⟩:=gv W2 M2 H' e2 G2;by_cases hlt:j<xs.length
 .obtain⟨go,yl⟩:=gv1 j xs[j] (B9 hlt);rw[S7 hlt]at h2;refine .inr ⟨go,fun σ3 H3=>∃γ3 M3 W3,W2.Ext W3/\Good K W3 M3 H3/\cL K W3 γ3 σ3/\GM hg p (xs.drop (j+1)) γ3 M3=some (o,M'),?_,fun y H3 hy=>?_⟩
  .rintro σ3 H3 ⟨γ3,M3,W3,e3,G3,R3,h3⟩;exact⟨_,by omega,γ3,M3,W3,hlt,rfl,e2.trans e3,G3,R3,h3⟩
  .obtain⟨W8,e8,G8,ry⟩:=yl y H3 hy;obtain⟨⟨γ4,M4⟩,h4,h2⟩:=aJ (show(hg xs[j] γ' M2).bind _=_ from h2);obtain⟨⟨o5,M5⟩,h5,h2⟩:=aJ h2;refine a _ _ _ _ _ h4 W8 _ σ' y _ G8 (R2.up e8) ry fun σ4 W4 H4 e4 G4 R4=>?_;refine b _ _ _ _ h5 W4 H4 σ4 _ G4 R4 fun W5 H5 e5 G5=>?_;have e25:=(e8.trans e4).trans e5;cases o5 with
   |xc γ5 e=>cases h2;exact k W5 H5 ((e1.trans e2).trans e25) G5
   |o o5=>
    cases o5 with
    |nx γ5=>exact fun σ5 R5=>⟨γ5,M5,W5,e25,G5,R5,h2⟩
    |ct γ5=>exact fun σ5 R5=>⟨γ5,M5,W5,e25,G5,R5,h2⟩
    |bk γ5=>cases h2;exact k W5 H5 ((e1.trans e2).trans e25) G5
    |rt x=>cases h2;exact k W5 H5 ((e1.trans e2).trans e25) G5
 .have e:j=xs.length:=by omega
  subst e;rw[List.drop_length]at h2;cases h2;exact .inl ⟨gv2,k W2 H' (e1.trans e2) G2 σ' R2⟩
theorem cL.setN{γ:Ga}{σ:St}{n:Option Nat}{x:CD}{v:V}(R:cL K W γ σ)(r:cD K W x v):cL K W (setG n γ x) (setN n σ v):=by
 cases n with
 |none=>exact R
 |some i=>exact Paired.set (x:=some x) (y:=some v) r i R
theorem cL.unbN{γ:Ga}{σ:St}{n:Option Nat}(R:cL K W γ σ):cL K W (YE n γ) (unbN n σ):=by
 cases n with
 |none=>exact R
 |some i=>exact Paired.set (x:=none) (y:=none) True.intro i R
inductive HsM(K:Fg):List HR->List HMi->Prop
 |nil:HsM K [] []
 |cons {h:HR} {m:HMi} {hs:List HR} {ms:List HMi} (hn:h.n=m.n) (ht:∀nm b,m.tab.lookup nm=some b->PySem.W.exmOne K (.ref (bN K nm)) h.c=some b) (hS:SS K h.t m.f) (r:HsM K hs ms):HsM K (h::hs) (m::ms)
theorem ZK{D:Ends}{W:Wd}{M M':Sto}{H:Hp}{γ:Ga}{σ:St}{ex:Exc}{c:Value}{dx:Option Addr}{o:Out}(G:Good K W M H)(R:cL K W γ σ)(E:ExR K W ex c dx):
 ∀{hs:List HR}{ms:List HMi},HsM K hs ms->aBm ms γ ex M=some (o,M')->(∀W' H',W.Ext W'->Good K W' M' H'->ZA K D W' H' o)->tHs K D hs σ c dx H
 |_,_,.nil=>fun h _=>by cases h
 |_,_,@HsM.cons _ h m hs ms hn ht hS r=>fun hh k=>by
  obtain⟨rfl,rx⟩:=E;unfold aBm at hh;cases e:m.tab.lookup ex.nm with
  |none=>rw[e]at hh;cases hh
  |some b=>
   rw[e]at hh;refine⟨b,ht _ _ e,?_⟩;cases b with
   |false=>rw[A5 A7];exact ZK G R ⟨rfl,rx⟩ r hh k
   |true=>
    rw[A4 rfl];intro a ha;obtain⟨⟨o1,M1⟩,h1,hh⟩:=aJ (show(m.f _ _).bind _=_ from hh);have hh':some (aGS m.n o1,M1)=some (o,M'):=hh;cases hh';have G':Good K (W.more a) (M++[.exc false ex.nm ex.fs]) (upd H a (.ext (rE a (.ref (bN K ex.nm)) dx false))):=G.new ha ⟨dx,rfl,rx⟩;have e1:=W.ext_more a;have ra:cD K (W.more a) (.c M.length) (.ref a):=⟨by show M.length<W.n+1;rw[G.n];exact J2 _,by show _=V.ref (if M.length=W.n then a else _);rw[A4 G.n.symm]⟩;rw[hn];refine hS _ _ _ _ h1 (W.more a) _ _ _ G' ((R.up e1).setN ra) fun W2 H2 e2 G2=>?_;have kk:=k W2 H2 (e1.trans e2) G2;cases o1 with
    |nx γ2=>exact fun σ2 R2=>kk _ R2.unbN
    |bk γ2=>exact fun σ2 R2=>kk _ R2.unbN
    |ct γ2=>exact fun σ2 R2=>kk _ R2.unbN
    |rt x=>exact kk
theorem aHG{tb:(St->XK)->TS}{rs:List HR}{ms:List HMi}(b:∀EE,SSX K EE (tb EE) p)(h:HsM K rs ms):SS K (aGZ K tb rs) (aAy p ms):=by
 intro γ M o M' hh W H σ D G R k;obtain⟨⟨x,M1⟩,h1,hh⟩:=aJ hh;refine b _ _ _ _ _ h1 W H σ D G R fun W1 H1 e1 G1=>?_;cases x with
 |o x=>cases hh;exact k W1 H1 e1 G1
 |xc γ' ex=>exact fun σ' c dx R' E=>ZK G1 R' E h hh fun W2 H2 e2 G2=>k W2 H2 (e1.trans e2) G2
end
section
variable{ι:Type}
structure MX(K:Fg)(X:ι->Cx)(EE:ι->St->XK)(e:Expr)(f:EX):Prop where
 ex:∃t:ι->TE,(∀i,PE (X i) e (t i))/\∀i,SEX K (EE i) (t i) f
structure MAX(K:Fg)(X:ι->Cx)(EE:ι->St->XK)(es:List Expr)(f:AX):Prop where
 ex:∃t:ι->TA,(∀i,PA (X i) es (t i))/\∀i,SAX K (EE i) (t i) f
 st:KC es
structure MSX(K:Fg)(X:ι->Cx)(EE:ι->St->XK)(st:Stmt)(f:SFX):Prop where
 ex:∃t:ι->TS,(∀i,PS (X i) st (t i))/\∀i,SSX K (EE i) (t i) f
structure MLX(K:Fg)(X:ι->Cx)(EE:ι->St->XK)(st:List Stmt)(f:SFX):Prop where
 ex:∃t:ι->TS,(∀i,PSs (X i) st (t i))/\∀i,SSX K (EE i) (t i) f
variable{K:Fg}{X:ι->Cx}{EE:ι->St->XK}{e a b c tg iter:Expr}{es:List Expr}{f g:EX}{fa:AX}{p q:SFX}{ft:TF}{gf:GF}{st:Stmt}{sts sts':List Stmt}{pos:Pos}
theorem aFC{f:AF}(x:MA K X es f):MAX K X EE es (liA f):=by
 obtain⟨t,x1,x2⟩:=x.ex;exact⟨⟨fun _=>t,x1,fun _=>aHu x2⟩,x.st⟩
theorem aAF{f:SF}(x:MS K X st f):MSX K X EE st (liS f):=by
 obtain⟨t,x1,x2⟩:=x.ex;exact⟨fun _=>t,x1,fun _=>VY x2⟩
theorem vA{f:SF}(x:ML K X sts f):MLX K X EE sts (liS f):=by
 obtain⟨t,x1,x2⟩:=x.ex;exact⟨fun _=>t,x1,fun _=>VY x2⟩
theorem aDd{k:Nat}{x:Str}{ps:List Str}{F:FX}{p:Pos}(ok:∀i,XOk (X i) (EE i))(C:∀i,xW (X i).prog (X i).w (X i).K (X i).mg (X i).base k x ps (spX K F))(hr:∀i,cG k (X i).A)(y:MAX K X EE (e::es) fa)(hg:∀i,Gl (X i) x:=by intro _;rfl)(hd:(x==("__debug__":Str))=false:=by decide):
 MX K X EE (.Call (.Name x p) (e::es) [] pos) (QK F fa):=by
 obtain⟨u,y1,y2⟩:=y.ex;exact⟨_,fun i=>aCG (ok i) (C i) (hr i) (y1 i) (hg i) hd (y.st.1 _) (y.st.2.plain _ _),fun i=>aAi (y2 i)⟩
theorem xU(x:MSX K X EE st p):MLX K X EE [st] p:=by
 obtain⟨t,x1,x2⟩:=x.ex;exact⟨t,fun i=>RM (x1 i),x2⟩
theorem kL(x:MSX K X EE st p)(y:MLX K X EE sts q):MLX K X EE (st::sts) (rZ p q):=by
 obtain⟨t,x1,x2⟩:=x.ex;obtain⟨u,y1,y2⟩:=y.ex;exact⟨_,fun i=>KJ (x1 i) (y1 i),fun i=>aBT (x2 i) (y2 i)⟩
theorem aCi(x:MX K X EE e f):MSX K X EE (.Return (some e) pos) (KN f):=by
 obtain⟨t,x1,x2⟩:=x.ex;exact⟨_,fun i=>aBc (x1 i),fun i=>aCm (x2 i)⟩
theorem NA(x:MT K X c ft)(y:MLX K X EE sts p)(z:MLX K X EE sts' q):MSX K X EE (.If c sts sts' pos) (UE ft p q):=by
 obtain⟨t,x1,x2⟩:=x.ex;obtain⟨u,y1,y2⟩:=y.ex;obtain⟨v,z1,z2⟩:=z.ex;exact⟨_,fun i=>aEs (x1 i) (y1 i) (z1 i),fun i=>aFp x2 (y2 i) (z2 i)⟩
theorem aEg{fi:AF}(ok:∀i,XOk (X i) (EE i))(hc:∀i,(X i).calm=true)(x:MI K X tg iter fi)(y:MG K X tg gf)(z:MLX K X EE sts p)(hs:∀(env:Env)(x:Value),foldedSetIterable iter env x=pure x:=by intro _ _;rfl):MSX K X EE (.For tg iter sts [] pos) (QZ fi gf p):=by
 obtain⟨t,x1,x2⟩:=x.ex;obtain⟨u,y1,y2⟩:=y.ex;obtain⟨v,z1,z2⟩:=z.ex;exact⟨_,fun i=>WK (ok i).own (hc i) (x1 i) (y1 i) (z1 i) (hs _),fun i=>aDr x2 y2 (z2 i)⟩
theorem NV{x:Str}{np cpos:Pos}(ok:∀i,XOk (X i) (EE i))(hK:∀i,(X i).K=K)(hc:∀i,(X i).calm=true)(hm:∀i,(X i).mg x=some (.ref (bN K x)))(q:PySem.W.excIn K (bN K x) bmV "ValueError.__new__"=true)(hg:∀i,Gl (X i) x:=by intro _;rfl)(hd:(x==("__debug__":Str))=false:=by decide):
 MSX K X EE (.Raise (some (.Call (.Name x np) [] [] cpos)) none pos) (HB x):=
 ⟨fun i=>GP (EE i) (bN K x),fun i=>SD (ok i) (hc i) (hm i) (by rw[hK i];exact q) (hg i) hd,fun _=>UB⟩
noncomputable def aJs(X:ι->Cx):ι×List (Addr×Obj)×(St->XK)->Cx:=fun j=>(xF (X j.1) j.2.1).wish (XS (xF (X j.1) j.2.1) j.2.2)
noncomputable def aIU:ι×List (Addr×Obj)×(St->XK)->St->XK:=fun j=>j.2.2
noncomputable def aKs(X:ι->Cx):ι×Addr->Cx:=fun j=>hCx (X j.1) j.2
theorem aJO(bd:∀i,Body (X i))(j:ι×List (Addr×Obj)×(St->XK)):XOk (aJs X j) (aIU (ι:=ι) j):=
 XOk.of (X:=xF (X j.1) j.2.1) ⟨(bd j.1).stk,(bd j.1).fr,(bd j.1).ex⟩ _
structure MH(K:Fg)(X:ι->Cx)(hs:List ExceptHandler)(ms:List HMi):Prop where
 ex:∃rs,(∀i,ZZ (X i) hs rs)/\HsM K rs ms
theorem aFP:MH K X [] []:=⟨[],fun _=>aGa,.nil⟩
theorem aDc{x:Str}{np hp:Pos}{nm:Option Str}{b₀:Stmt}{suite:List Stmt}{hs:List ExceptHandler}{ms:List HMi}{tab:List (Str×Bool)}{n:Option Nat}{f:SF}(cv:Value)(bd:∀i,Body (X i))(hc:∀i,WY (X i) x cv)
 (hn:∀i,aJz (X i) nm n)
 (ht:∀p∈tab,PySem.W.exmOne K (.ref (bN K p.1)) cv=some p.2) (hS:ML K (aKs X) (b₀::suite) f) (r:MH K X hs ms) (hg:∀i,Gl (X i) x:=by intro _;rfl) (hd:(x==("__debug__":Str))=false:=by decide):
 MH K X (.ExceptHandler (some (.Name x np)) nm (b₀::suite) hp::hs) (⟨tab,n,f⟩::ms):=by
 obtain⟨t,h1,h2⟩:=hS.ex;obtain⟨rs,r1,r2⟩:=r.ex;refine⟨⟨cv,n,t⟩::rs,fun i=>aCA (h:=⟨cv,n,t⟩) (bd i) (hc i) (hg i) hd (hn i) (fun e=>h1 (i,e)) (r1 i),.cons rfl (fun nm b z=>?_) h2 r2⟩;exact ht (nm,b) (E6 z)
theorem aGk{h₀:ExceptHandler}{hs:List ExceptHandler}{ms:List HMi}(bd:∀i,Body (X i))(hK:∀i,(X i).K=K)(x:MLX K (aJs X) (aIU (ι:=ι)) sts p)(h:MH K X (h₀::hs) ms):MS K X (.Try sts (h₀::hs) [] [] pos) (aAy p ms):=by
 obtain⟨rs,r1,r2⟩:=h.ex;obtain⟨t,x1,x2⟩:=x.ex;refine⟨aGZ K (fun EE D σ H=>∀i pins,t (i,pins,EE) D σ H) rs,fun i=>?_,aHG (fun EE=>?_) r2⟩
 .have:=aHd (X:=X i) (tb:=fun EE D σ H=>∀i pins,t (i,pins,EE) D σ H) (pos:=pos) (bd i) (fun pins EE ps s σ H D I h=>x1 (i,pins,EE) ps s σ H D I (h i pins)) (r1 i);rw[hK i]at this;exact this
 .exact fun γ M o M' hh W H σ D G R k i pins=>x2 (i,pins,EE) γ M o M' hh W H σ D G R k
section
variable{P:Program}{w:World}{K:Fg}{mg:Str->Option Value}{base:Heap}
noncomputable abbrev aDK(P:Program)(w:World)(K:Fg)(mg:Str->Option Value)(base:Heap)(N:List Str)(x:Str)(st:Stmt)(f:Addr)(cdv:Value)(A:Around)(outer:List Env)(s:Shared)(H:Hp)(E:XK):Unit->Cx:=fun _=>
 (mE (CX1 P w) P w K mg base N x (aF st) f cdv A outer s H E).wish (XS (mE (CX1 P w) P w K mg base N x (aF st) f cdv A outer s H E) fun _=>E)
theorem KM{N:List Str}{x:Str}{st:Stmt}{f:Addr}{cdv:Value}{A:Around}{outer:List Env}{s:Shared}{E:XK}(i:Unit):XOk (aDK P w K mg base N x st f cdv A outer s H E i) ((fun _ _=>E:Unit->St->XK) i):=XOk.of RP _
theorem Fun.okXF{x qual:Str}{st:Stmt}{N ps:List Str}{k:Nat}{b:SFX}{f:Addr}{fd:FuncData}(Fu:Fun K x qual st f fd)(S:aS N ps (aF st))
 (hbody:∀(f:Addr)(cdv:Value)(A:Around)(outer:List Env)(s:Shared)(H:Hp)(E:XK),cG k (A.deeper (envOfC qual (aF st) s.heap.objs.size f cdv))->
  MLX K (aDK P w K mg base N qual st f cdv A outer s H E) (fun _ _=>E) (bR st) b):gY P w K mg base (CX1 P w) (k+1) f fd ps (spX K (fnX ps.length N.length b)):=by
 obtain⟨oc,od,kV,doc,pm,an,cdv,ct,osl,rfl,lk,hcd⟩:=Fu.ex
 have len:∀vs H Q E,spX K (fnX ps.length N.length b) vs H Q E->vs.length=ps.length:=fun vs H Q E h=>by
  obtain⟨xs,M,W,y,M',G,R,hf,_⟩:=h;by_cases hl:xs.length=ps.length
  .rw[<- Paired.len R];exact hl
  .unfold fnX at hf;rw[A5 hl]at hf;cases hf
 refine aHQ lk hcd S len fun A outer s H vs Q E hr h=>?_;obtain⟨t,h1,h2⟩:=(hbody f cdv A outer s H E hr).ex;refine⟨t (),h1 (),?_⟩;obtain⟨xs,M,W,r,M',G,R,hf,kk⟩:=h
 have hl:xs.length=ps.length:=by
  by_cases hl:xs.length=ps.length
  .exact hl
  .unfold fnX at hf;rw[A5 hl]at hf;cases hf
 unfold fnX at hf;rw[A4 hl]at hf;obtain⟨⟨o,M1⟩,h3,hf⟩:=aJ hf
 have hR:cL K W (xs.map some++List.replicate (N.length-xs.length) none) (start N vs):=by
  unfold start;rw[<- Paired.len R];exact Paired.app (bY.some R) (qP _)
 refine h2 () _ _ _ _ h3 W H _ _ G hR fun W1 H1 e1 G1=>?_;cases o with
 |xc γ e=>cases hf;exact fun σ c dx _ z=>kk W1 H1 e1 G1 c dx z
 |o o=>
  cases o with
  |rt x=>cases hf;exact fun v r=>kk W1 H1 e1 G1 v r
  |nx γ=>cases hf;exact fun σ r=>kk W1 H1 e1 G1 .non rfl
  |bk γ=>cases hf
  |ct γ=>cases hf
theorem Def.okX{x:Str}{st:Stmt}{N ps:List Str}{k:Nat}{b:SFX}(D:Def K mg x st)(S:aS N ps (aF st))
 (hb:∀(kV doc pm:Value)(an:Option Addr)(cdv ct:Value)(us:List Value),us.length=ps.length->bindArgs (PySem.W.fnOf x x (dG st) (bR st) (aF st) .none kV doc pm an cdv ct) ⟨us,[]⟩=pure (ps.zip us))
 (hbody:∀(f:Addr)(cdv:Value)(A:Around)(outer:List Env)(s:Shared)(H:Hp)(E:XK),cG k (A.deeper (envOfC x (aF st) s.heap.objs.size f cdv))->
  MLX K (aDK P w K mg base N x st f cdv A outer s H E) (fun _ _=>E) (bR st) b):xW P w K mg base (k+1) x ps (spX K (fnX ps.length N.length b)):=by
 obtain⟨f,fd,Fu,m⟩:=D.ex;exact⟨f,fd,Fu.okXF S hbody,m,Fu.kp,Fu.binds hb⟩
end
end
structure XC(K:Fg)(C:Addr):Prop where
 c:aKi K C
 ha:PySem.W.findIn K (.ref C) "__class__"=some (some (.builtin "object.__class__"))
 hn:PySem.W.specialIn K (.builtin "object.__class__") "__get__"=some (some (.builtin "getset_descriptor.__get__"))
 htk:PySem.W.takesIn K (.builtin "object.__class__")=some true
 hm:PySem.W.mroIn K C (.type "object")=some true
section
variable{X:Cx}{K:Fg}
noncomputable def aIy(tab:List (Str×Bool))(nn:Option Bool)(f:EF):EF:=fun γ M=>(f γ M).bind fun r=>match r.1 with
 |.c i=>(match r.2[i]? with
  |some (.exc _ nm _)=>(tab.lookup nm).bind fun b=>some (.d (.bool b),r.2)
  |_=>none)
 |.d .none=>nn.bind fun b=>some (.d (.bool b),r.2)
 |_=>none
theorem Good.excAt{M:Sto}{i:Nat}{fr:Bool}{nm:Str}{fs:List (Str×CD)}(G:Good K W M H)(h:M[i]?=some (.exc fr nm fs)):∃dx,H (W.α i)=some (.ext (rE (W.α i) (.ref (bN K nm)) dx fr))/\VQ K W dx fs:=by
 obtain⟨_,o,h2,h3⟩:=G.cs i _ h (by intro z;cases z);cases o with
 |ext φ=>
  obtain⟨dx,rfl,r⟩:=h3;exact⟨dx,h2,r⟩
 |_=>exact False.elim h3
end
section
variable{ι:Type}{K:Fg}{X:ι->Cx}{a:Expr}{f:EF}{pos:Pos}
theorem aHY{y:Str}{C:Addr}(hm:∀i,(X i).mg y=some (.ref C))(hg:∀i,Gl (X i) y:=by intro _;rfl)(hd:(y==("__debug__":Str))=false:=by decide):∀i p',PE (X i) (.Name y p') (tC (.ref C)):=fun i _=>HA (hg i) (hm i) rfl hd
end
noncomputable def aGU(h:FX)(f:AF):EF:=fun γ M=>(f γ M).bind fun r=>(h r.1 r.2).bind fun q=>match q.1 with
 |.v x=>some (x,q.2)
 |.x _=>none
section
variable{K:Fg}{cv:Value}{a:Str}{b:Bool}{l:List (Str×Bool)}
theorem YB:∀p∈([]:List (Str×Bool)),PySem.W.exmOne K (.ref (bN K p.1)) cv=some p.2:=fun _ h=>absurd h (by simp)
theorem DP(h:PySem.W.exmOne K (.ref (bN K a)) cv=some b)(r:∀p∈l,PySem.W.exmOne K (.ref (bN K p.1)) cv=some p.2):∀p∈(a,b)::l,PySem.W.exmOne K (.ref (bN K p.1)) cv=some p.2:=fun p hp=>by
 rcases List.mem_cons.mp hp with rfl|z
 .exact h
 .exact r p z
theorem FP{nm:Str}{C:Addr}(h:PySem.W.nsIn K mainGlobals nm=some (some (.ref C))):bN K nm=C:=by unfold bN;rw[h]
end
mutual
noncomputable def snap:Nat->Sto->CD->Option PyData
 |_,_,.d x=>some x
 |0,_,.c _=>none
 |n+1,M,.c i=>match M[i]? with
  |some (.lst xs)=>(qS n M xs).bind fun ds=>some (.list ds)
  |_=>none
 |_,_,.f _=>none
 |_,_,.g _=>none
 |0,_,.t _=>none
 |n+1,M,.t xs=>(qS n M (xs.map cdA)).bind fun ds=>some (.tuple ds)
noncomputable def qS:Nat->Sto->List CD->Option (List PyData)
 |_,_,[]=>some []
 |n,M,x::xs=>(snap n M x).bind fun d=>(qS n M xs).bind fun ds=>some (d::ds)
end
section
variable{K:Fg}{W:Wd}{M:Sto}{H:Hp}
theorem Good.lstAt'(G:Good K W M H){i:Nat}{xs:List CD}(h:M[i]?=some (.lst xs)):∃vs,H (W.α i)=some (.lst vs)/\bY K W xs vs:=by
 obtain⟨_,o,h2,h3⟩:=G.cs i _ h (by intro z;cases z);cases o with
 |lst vs=>exact⟨vs,h2,h3⟩
 |_=>exact False.elim h3
mutual
theorem AG(G:Good K W M H):∀(n:Nat)(x:CD)(d:PyData)(v:V),snap n M x=some d->cD K W x v->Rep K H d v
 |0,.d x=>fun d v h r=>by unfold snap at h;cases h;exact Rep.same G.fh _ _ r
 |n+1,.d x=>fun d v h r=>by unfold snap at h;cases h;exact Rep.same G.fh _ _ r
 |0,.c i=>fun d v h r=>by unfold snap at h;cases h
 |n+1,.c i=>fun d v h r=>by
  unfold snap at h;cases e:M[i]? with
  |none=>rw[e]at h;cases h
  |some c=>
   rw[e]at h;cases c with
   |lst xs=>
    obtain⟨ds,h1,h⟩:=aJ (show(qS n M xs).bind _=_ from h);cases h;obtain⟨vs,h2,h3⟩:=G.lstAt' e;exact⟨W.α i,vs,r.2,SqL.of h2,vK G n xs ds vs h1 h3⟩
   |_=>cases h
 |0,.f xs=>fun d v h r=>by unfold snap at h;cases h
 |n+1,.f xs=>fun d v h r=>by unfold snap at h;cases h
 |0,.g xs=>fun d v h r=>by unfold snap at h;cases h
 |n+1,.g xs=>fun d v h r=>by unfold snap at h;cases h
 |0,.t xs=>fun d v h r=>by unfold snap at h;cases h
 |n+1,.t xs=>fun d v h r=>by
  unfold snap at h;obtain⟨ds,h1,h⟩:=aJ h;cases h;obtain⟨a,vs,rfl,h2,h3⟩:=r;exact⟨a,vs,rfl,SqT.of (G.fh _ _ h2),vK G n _ ds vs h1 (PY h3)⟩
theorem vK(G:Good K W M H):∀(n:Nat)(xs:List CD)(ds:List PyData)(vs:List V),qS n M xs=some ds->bY K W xs vs->aL K H ds vs
 |_,[]=>fun ds vs h r=>by
  unfold qS at h;cases h;cases r;rfl
 |n,x::xs=>fun ds vs h r=>by
  unfold qS at h;obtain⟨d,h1,h⟩:=aJ h;obtain⟨es,h2,h⟩:=aJ h;cases h;cases r with
  |@cons _ v _ vs' r1 r2=>exact⟨v,vs',rfl,AG G n x d v h1 r1,vK G n xs es vs' h2 r2⟩
end
end
theorem XO{n:Nat}{M:Sto}{x:PyData}:snap n M (.d x)=some x:=by cases n<;>simp only[snap]
open PySem PySem.Spec PyProof.Rows PySem.Builtin PySem.Builtin.ObjectAttr
noncomputable def ZM:List Value->Bool
 |.ref _::r=>ZM r
 |l=>l==bmV
theorem AO(self:Value):∀{l:List Value},ZM l=true->refuseLoop self "__setattr__" l=pure ()/\l.contains (.type "object")=true/\l.isEmpty=false
 |[]=>fun e=>absurd e (by decide)
 |.ref c::r=>fun e=>by
  obtain⟨h1,h2,_⟩:=AO self (l:=r) e;exact⟨by rw[refuseLoop_ref];exact h1,by rw[List.contains_cons,h2,Bool.or_true],rfl⟩
 |.none::r=>fun e=>absurd (beq_iff_eq.mp (show((.none::r:List Value)==bmV)=true from e)) (by intro z;cases z)
 |.bool b::r=>fun e=>absurd (beq_iff_eq.mp (show((.bool b::r:List Value)==bmV)=true from e)) (by intro z;cases z)
 |.int b t::r=>fun e=>absurd (beq_iff_eq.mp (show((.int b t::r:List Value)==bmV)=true from e)) (by intro z;cases z)
 |.type n::r=>fun e=>by
  have q:(.type n::r:List Value)=bmV:=beq_iff_eq.mp (show((.type n::r:List Value)==bmV)=true from e);rw[q];exact⟨PySem.F.store_ValueError.passes self,by decide,rfl⟩
 |v::r=>fun e=>by
  cases v with
  |ref c=>
   obtain⟨h1,h2,_⟩:=AO self (l:=r) e;exact⟨by rw[refuseLoop_ref];exact h1,by rw[List.contains_cons,h2,Bool.or_true],rfl⟩
  |type n=>
   have q:(.type n::r:List Value)=bmV:=beq_iff_eq.mp (show((.type n::r:List Value)==bmV)=true from e);rw[q];exact⟨PySem.F.store_ValueError.passes self,by decide,rfl⟩
  |_=>exact absurd (beq_iff_eq.mp e) (by intro z;cases z)
noncomputable def aAK(K:Fg)(C:Addr):Bool:=(PySem.W.clsIn K C).any fun cd=>ZM cd.mro
section
variable{prog:Program}{w:World}{A:Around}{E:Value->Shared->Prop}{s:Shared}{K:Fg}{x C:Addr}{ox:Obj}{name:Str}{v:Value}
theorem aEf{vs:Array Value}{Q:Unit->Shared->Prop}(X:K.In s.heap)(I:PySem.W.InstAt s.heap x ox C none)(hv:ox.data=.fields vs)(hs:PySem.W.findIn K (.ref C) "__setattr__"=some (some (.builtin "object.__setattr__")))(hp:aAK K C=true)(ht:PySem.W.takerIn K C name=some none)(hh:PySem.W.hasDictIn K C=true)
 (h:∀h',h'.get? x=some { ox with dict:=some s.heap.objs.size }->h'.Ns1 s.heap.objs.size (fun y=>if y=name then some v else none)->(∀b o,b≠x->s.heap.get? b=some o->h'.get? b=some o)->Q () { s with heap:=h',toks:=s.toks+2 }):
 wpAny (model prog w) A (setAttr (.ref x) name v) Q E s:=by
 refine PySem.W.set_plain X I hs ?_;have SF:=PySem.F.store_object;obtain⟨cd,hc,ho⟩:=PySem.W.any_some hp;obtain⟨o1,o2,o3⟩:=AO (.ref x) ho;have sub:PySem.W.Looks (model prog w) s.heap (isInstance (.ref x) (.type "object")) true:=I.type.andThen (PySem.W.looks_mroIn X (by unfold PySem.W.mroIn;rw[hc,A1,A5 (by rw[o3];decide),o2]));refine codeAny_call_builtin SF.slot.plain SF.entry (@PySem.W.check_slot (model prog w) _ _ { s with toks:=s.toks+1 } "object.__setattr__" "object" "__setattr__" (.ref x) [.str name s.toks,v] [] _ SF.kind SF.split sub (SF.args (.ref x) (.str name s.toks) v) ?_);obtain⟨attr,ha,hr⟩:=Option.bind_eq_some_iff.mp ht;have hm:PySem.W.Looks (model prog w) s.heap (mroOf (.ref C)) cd.mro:=(PySem.W.looks_clsIn X hc).andThen .now
 have L3:PySem.W.Looks (model prog w) s.heap (storeTaker? attr) none:=by
  cases attr with
  |none=>cases hr;exact .now
  |some a=>
   obtain⟨b,hb,e⟩:=Option.map_eq_some_iff.mp hr;refine(PySem.W.looks_takesIn X hb).andThen ?_;cases b
   .exact .now
   .cases e
 rw[PySem.W.osa_eq,refuse_eq];have k0:∀b o,s.heap.get? b=some o->({ s with toks:=s.toks+1 }:Shared).heap.get? b=some o:=fun _ _ z=>z;refine A0 (A0 (J9 (s:={ s with toks:=s.toks+1 }) I.type (A0 (J9 (s:={ s with toks:=s.toks+1 }) hm ?_))));rw[o1];refine A6 (A0 (J9 (s:={ s with toks:=s.toks+1 }) I.type (A0 (J9 (s:={ s with toks:=s.toks+1 }) (PySem.W.looks_findIn X ha) (A0 (J9 (s:={ s with toks:=s.toks+1 }) L3 ?_))))));obtain⟨cd',hc',hd'⟩:=PySem.W.any_some hh
 have dn:ox.dict=none:=by
  have:=I.dict;cases q:ox.dict with
  |none=>rfl
  |some d=>rw[q]at this;exact this.elim
 have hx:=I.at_;have hcl:=I.cls;obtain⟨oc,odi,oda,osl⟩:=ox;dsimp only at hcl dn hv;subst hcl dn hv;refine A0 (A6 (A0 (A0 (wpAny_loadPart hx (A0 (J9 (s:={ s with toks:=s.toks+1 }) (PySem.W.looks_clsIn X hc') ?_))))));rw[hd'];rw[A5 (by decide)];show wpAny _ _ (if (!true || !typeHasDict (.ref C))=true then pure none else _) _ _ _;rw[A5 (by simp[typeHasDict])];have x1:(s.heap.push { cls:=.type "dict",data:=.dict #[] }).get? x=some ⟨.ref C,none,.fields vs,osl⟩:=A3 _ hx;have xs:x≠s.heap.objs.size:=B5 (A9 hx);refine A0 (wpAny_alloc' ?_);refine A0 (wpAny_update' x1 ?_);refine A6 ?_;generalize hg:(s.heap.push { cls:=.type "dict",data:=.dict #[] }).update x (fun o=>{ cls:=o.cls,dict:=some s.heap.objs.size,data:=o.data,slots:=o.slots })=g1
 have gd:g1.get? s.heap.objs.size=some { cls:=.type "dict",data:=.dict #[] }:=by
  rw[<- hg];exact(D6 _ _ xs).trans (B3 s.heap rfl)
 have gn:g1.Ns s.heap.objs.size (fun _=>none):=⟨_,#[],_,gd,rfl,fun e he=>absurd he (by simp),fun _=>rfl⟩;show wpAny _ _ (storeInDict s.heap.objs.size (.str name s.toks) name v) _ _ _;unfold storeInDict newKeyGuard;refine A0 (A6 (A0 (wpAny_nsSet1 (Heap.Ns1.of_empty gn) fun h' hn' hs'=>?_)));obtain⟨oD,esD,epD,hoD,hdD,hcD⟩:=hn'.count (PySem.Within.cons name v PySem.Within.nil);refine A0 (wpAny_lookBehind hoD (by rw[hdD];exact pastItsLine_dict (C9 hcD (by rw[B4,U7,F0];omega))) ?_);refine A6 ?_;refine h h' ?_ hn' fun b o hb q=>?_
 .rw[hs'.2 x xs,<- hg];exact E3 _ x1 rfl
 .rw[hs'.2 b (B5 (A9 q)),<- hg,D6 _ _ (F7 hb)];exact A3 _ q
end
end L2
namespace L2
variable{H:Hp}{W:Wd}{M:Sto}
open PySem PySem.Spec PyProof.Rows
noncomputable def FE(K:Fg)(C:Addr):Bool:=match K.lookup C with
 |some ⟨.type "type",_,.cls cd,sl⟩=>(match cd.mro,sl.toList with
  |.ref C'::bm,[_,_,_,_,some (.builtin n),_]=>C'==C&&n=="ValueError.__new__"&&!cd.hasDel&&PySem.W.tailIn K bmV bm
  |_,_=>false)
 |_=>false
theorem zP{K:Fg}{h:Heap}{C:Addr}(X:K.In h)(q:FE K C=true):
 ∃bm N nm qn bs hd sn sub ab col dd k0 k1 k2 k3 k5,h.get? C=some (excClassObj nm qn C N bs bm hd sn sub ab col dd k0 k1 k2 k3 k5 "ValueError.__new__")/\OwnTail h bmV bm:=by
 unfold FE at q;split at q
 case h_2=>cases q
 case h_1 dd cd sl lk=>
  split at q
  case h_2=>cases q
  case h_1 C' bm k0 k1 k2 k3 n k5 hm hs=>
   simp only[Bool.and_eq_true,beq_iff_eq,Bool.not_eq_true']at q;obtain⟨⟨⟨q1,q2⟩,q3⟩,q4⟩:=q;subst q1 q2;cases cd with
   |mk nm bs mro ns qn hd sn sub ab col del=>
    cases hm;cases q3
    have es:sl=#[k0,k1,k2,k3,some (.builtin "ValueError.__new__"),k5]:=by
     cases sl with
     |mk l=>exact O1 Array.mk hs
    cases es;exact⟨bm,ns,nm,qn,bs,hd,sn,sub,ab,col,dd,k0,k1,k2,k3,k5,X _ _ lk,PySem.W.tail_of_in X q4⟩
section
variable{prog:Program}{w:World}{A:Around}{E:Value->Shared->Prop}{K:Fg}{C f:Addr}
theorem aDg{h:Heap}{g:Array GenState}{d:Drawn}{t:Nat}{os:OsState}{us:List Value}{Q:Fin->Shared->Prop}(X:K.In h)(q:FE K C=true)(hi:PySem.W.findIn K (.ref C) "__init__"=some (some (.ref f)))(hf:PySem.W.typeIn K (.ref f)=some (.type "function"))(hl:us.length<=sizeLine)
 (hq:∀h' e,Heap.MadeExcOf h h' e (.ref C) us->wpAny (model prog w) A (call (.ref f) (.ref e::us)) (fun r s'=>r=.none/\Q (.done (.ret (.ref e))) s') E ⟨h',g,d,t,os⟩):
 wpAny (model prog w) A (Builtin.«type.__call__» ⟨.ref C::us,[]⟩) Q E ⟨h,g,d,t,os⟩:=by
 obtain⟨bm,N,nm,qn,bs,hd,sn,sub,ab,col,dd,k0,k1,k2,k3,k5,hC,T⟩:=zP X q;have F:=PySem.F.excBase_ValueError
 repeat (first|(with_reducible refine wpAny_loadPart_at hC ?_)|(with_reducible refine wpAny_madeBy_exc hC ?_)|wp_step)
 refine codeAny_call_builtin_code (Code.quiet_builtin _ F.quiet) (wpAny_check_new_subT F T hC (codeAny_exc_new_subT F T hC ?_ hl));show wpAny _ _ _ _ _ _;have kp:∀b o,h.get? b=some o->((h.push { cls:=.type "tuple",data:=.seq us.toArray }).push { cls:=.ref C,data:=.fields #[.ref h.objs.size,.none,.none,.none,.bool false,.none] }).get? b=some o:=fun b o z=>A3 _ (A3 _ z)
 have he:((h.push { cls:=.type "tuple",data:=.seq us.toArray }).push { cls:=.ref C,data:=.fields #[.ref h.objs.size,.none,.none,.none,.bool false,.none] }).get? (h.objs.size+1)=some { cls:=.ref C,data:=.fields #[.ref h.objs.size,.none,.none,.none,.bool false,.none] }:=by
  have:=B3 (h.push { cls:=.type "tuple",data:=.seq us.toArray }) (o:={ cls:=.ref C,data:=.fields #[.ref h.objs.size,.none,.none,.none,.bool false,.none] }) rfl
  rwa [O5]at this
 have ht:((h.push { cls:=.type "tuple",data:=.seq us.toArray }).push { cls:=.ref C,data:=.fields #[.ref h.objs.size,.none,.none,.none,.bool false,.none] }).get? h.objs.size=some { cls:=.type "tuple",data:=.seq us.toArray }:=A3 _ (B3 h rfl);have cC:(Value.ref C::bm).contains (.ref C)=true:=by simp
 have hC1:=kp _ _ hC;have L1:=PySem.W.looks_findIn (M:=model prog w) (X.keeps kp) hi;have L2:=PySem.W.bind_fn (M:=model prog w) (X.keeps kp) (.ref (h.objs.size+1)) hf;unfold isInstance
 repeat (first|(with_reducible refine wpAny_loadPart_at he ?_)|(with_reducible refine wpAny_isSubtype_exc hC1 ?_;rw[cC])|wp_step)
 show wpAny _ _ (typeLookup (.ref C) _) _ _ _;refine L1.at ?_;refine E9 (A0 (L2.at ?_));refine A0 (D5 (hq _ (h.objs.size+1) ⟨kp,S9 (Nat.le_succ _),h.objs.size,he,S9 (A8 _),ht⟩) (fun r s' z=>?_) fun _ _ z=>z);obtain⟨rfl,z⟩:=z
 wp_walk
 exact z
theorem VR{s:Shared}{us:List Value}{Q:Value->Shared->Prop}(X:K.In s.heap)(q:FE K C=true)(hi:PySem.W.findIn K (.ref C) "__init__"=some (some (.ref f)))(hf:PySem.W.typeIn K (.ref f)=some (.type "function"))(hl:us.length<=sizeLine)
 (hq:∀h' e,Heap.MadeExcOf s.heap h' e (.ref C) us->wpAny (model prog w) (A.under (.builtin "type.__call__" ⟨.ref C::us,[]⟩)) (call (.ref f) (.ref e::us)) (fun r s'=>r=.none/\Q (.ref e) s') E { s with heap:=h' }):
 wpAny (model prog w) A (call (.ref C) us) Q E s:=by
 obtain⟨bm,N,nm,qn,bs,hd,sn,sub,ab,col,dd,k0,k1,k2,k3,k5,hC,T⟩:=zP X q;obtain⟨h,g,d,t,os⟩:=s;have f1:=tc_lookup;have f2:=tc_bind (.ref C);have hT:(⟨h,g,d,t,os⟩:Shared).TypeIs (.ref C) "type":=⟨_,hC,rfl⟩;refine wpAny_call (codeAny_of_tree ?_);show wpAny _ _ (callAny (.ref C) ⟨us,[]⟩) _ _ _
 repeat (any_goals (first|assumption|(with_reducible refine wpAny_loadPart_at hC ?_)|wp_step))
 refine⟨rfl,?_⟩;refine codeAny_call_builtin_at (Code.quiet_builtin _ (by decide +kernel)) entry_typeCall (wpAny_check_type_call_sub hC (aDg (f:=f) X q hi hf hl fun h' e mk=>?_));exact hq h' e mk
end
noncomputable def unt(H:Hp)(e:Addr):Hp:=fun b=>if b=e then none else H b
theorem oB{a b:Addr}(h:b≠a):unt H a b=H b:=by unfold unt;rw[A5 h]
theorem BC{a:Addr}:unt H a a=none:=by unfold unt;rw[A4 rfl]
section
variable{X:Cx}{pins:List (Addr×Obj)}{σ:St}{H:Hp}{s:Shared}
theorem Inv.untrack{e:Addr}{φ:Heap->Prop}(I:Inv X pins σ H s)(he:H e=some (.ext φ)):Inv X pins σ (unt H e) s:=by
 have up:∀b,H b=none->unt H e b=none:=fun b q=>by
  by_cases z:b=e
  .rw[z,BC]
  .rw[oB z];exact q
 have ne:∀b u,H b=some u->(∀ψ,u≠.ext ψ)->b≠e:=fun b u q n z=>by
  rw[z,he]at q;cases q;exact n φ rfl
 refine⟨I.ok,I.os,I.bare,⟨I.base.keep,I.base.slot,fun b o q n hx=>up b (I.base.free b o q n hx),I.base.there,fun b xs q=>?_,fun b o u q=>?_,fun b ps q=>?_⟩,I.loc,I.cell,up _ I.free,fun x c q=>up _ (I.freeC x c q),fun p h=>?_,fun b u q=>?_,I.len⟩
 .have:=I.base.tups b xs q;rw[oB (ne _ _ this fun _ z=>by cases z)];exact this
 .have:=I.base.frzs b o u q;rw[oB (ne _ _ this fun _ z=>by cases z)];exact this
 .obtain⟨more,this⟩:=I.base.tbls b ps q;exact⟨more,by rw[oB (ne _ _ this fun _ z=>by cases z)];exact this⟩
 .obtain⟨q1,q2,q3⟩:=I.pin p h;exact⟨q1,up _ q2,q3⟩
 .have hb:b≠e:=fun z=>by rw[z,BC]at q;cases q
  rw[oB hb]at q;exact(I.hok b u q).stay (fun _ _ _ z=>z) (fun c z=>by rw[oB (ne _ _ z fun _ w=>by cases w)];exact z) fun c xs z=>by rw[oB (ne _ _ z fun _ w=>by cases w)];exact z
structure VX(K:Fg)(C:Addr)(f:Str):Prop where
 sa:PySem.W.findIn K (.ref C) "__setattr__"=some (some (.builtin "object.__setattr__"))
 ov:aAK K C=true
 tk:PySem.W.takerIn K C f=some none
 hd:PySem.W.hasDictIn K C=true
 na:PySem.W.findIn K (.ref C) f=some none
theorem aCg{A:Around}{E:Value->Shared->Prop}{a C:Addr}{f:Str}{y:V}{u:Value}{Q:Unit->Shared->Prop}(I:Inv X pins σ H s)(e:H a=some (.ext (rE a (.ref C) none true)))(c:VX X.K C f)(ry:RelV y u)
 (h:∀d s',H d=none->d≠a->Inv X pins σ (upd (upd H d (.xd [(f,y)])) a (.ext (rE a (.ref C) (some d) true))) s'->Q () s'):wpAny (model X.prog X.w) A (setAttr (.ref a) f u) Q E s:=by
 obtain⟨⟨o,vs,h1,h2,h3,h4,h5⟩,_⟩:=I.hok a _ e;obtain⟨z1,z2⟩:=h5 rfl
 have no:PySem.W.notCls o=true:=by
  obtain⟨_,_,dt,_⟩:=o;cases h4;rfl
 have hn:H s.heap.objs.size=none:=I.hok.fresh (A8 _);have hne:s.heap.objs.size≠a:=F9 (A9 h1);refine aEf I.kIn ⟨h1,h2,no,by rw[h3];exact True.intro⟩ h4 c.sa c.ov c.tk c.hd fun h' q1 q2 q3=>h s.heap.objs.size _ hn hne ?_;have hda:∀b w,H b=some w->b≠s.heap.objs.size:=fun b w z=>aP z hn;refine I.un (t':=s.toks+2) ⟨fun b ob z n _ _=>?_,fun b ob z n _ _=>?_,fun b ob z n _=>?_,fun b ob z _=>?_,fun b xs z=>?_,fun b ob w z=>?_,fun b ps z=>?_⟩ fun b w z=>?_
 .exact q3 b ob (fun w=>by rw[w,e]at n;cases n) z
 .exact⟨ob.slots,q3 b ob (fun w=>by rw[w,e]at n;cases n) z⟩
 .rw[aM (fun w=>by rw[w,e]at n;cases n),aM (B5 (A9 z))];exact n
 .by_cases w:b=a
  .rw[w];exact⟨_,q1⟩
  .exact⟨ob,q3 b ob w z⟩
 .rw[aM (xE z e (by intro w;cases w)),aM (hda _ _ z)];exact z
 .rw[aM (xE z e (by intro w;cases w)),aM (hda _ _ z)];exact z
 .exact⟨#[],by rw[aM (xE z e (by intro w;cases w)),aM (hda _ _ z),z];simp⟩
 .by_cases hb:b=a
  .subst hb;rw[aV]at z;cases z;exact⟨⟨_,vs,q1,h2,rfl,h4,h5⟩,⟨_,q1⟩,fun g1 g2 ⟨o',ws,k1,k2⟩ kk=>⟨o',ws,kk o' k1,k2⟩⟩
  .rw[aM hb]at z;by_cases hd:b=s.heap.objs.size
   .subst hd;rw[aV]at z;cases z;refine⟨_,q2,fun g=>?_⟩;show vT (List.lookup g [(f,y)]) (if g=f then some u else none);by_cases gf:g=f
    .rw[A4 gf,gf,D0,beq_self_eq_true];exact ry
    .rw[A5 gf,D0,beq_eq_false_iff_ne.mpr gf];exact True.intro
   .rw[aM hd]at z;refine(I.hok b w z).stay (fun c v hc r=>q3 c v ?_ r) (fun c r=>?_) fun c xs r=>?_
    .rcases hc with rfl|hc
     .exact hb
     .exact xE hc e (by intro w;cases w)
    .rw[aM (xE r e (by intro w;cases w)),aM (hda _ _ r)];exact r
    .rw[aM (xE r e (by intro w;cases w)),aM (hda _ _ r)];exact r
theorem Inv.newX{C e:Addr}{us:List Value}{h':Heap}(I:Inv X pins σ H s)(mk:Heap.MadeExcOf s.heap h' e (.ref C) us):H e=none/\Inv X pins σ (upd H e (.ext (rE e (.ref C) none true))) { s with heap:=h' }:=by
 have hn:H e=none:=by
  cases z:H e with
  |none=>rfl
  |some u=>
   obtain⟨o,z'⟩:=(I.hok e u z).there;rw[mk.new]at z';cases z'
 obtain⟨t,he,_,_⟩:=mk.there;refine⟨hn,I.un (t':=s.toks) ⟨fun b o q _ _ _=>mk.keeps b o q,fun b o q _ _ _=>⟨o.slots,mk.keeps b o q⟩,fun b o q n _=>?_,fun b o q _=>⟨o,mk.keeps b o q⟩,fun b xs q=>?_,fun b o u q=>?_,fun b ps q=>?_⟩ fun b u q=>?_⟩
 .rw[aM (fun z=>by rw[z,mk.new]at q;cases q)];exact n
 .rw[aM (aP q hn)];exact q
 .rw[aM (aP q hn)];exact q
 .exact⟨#[],by rw[aM (aP q hn),q];simp⟩
 .by_cases hb:b=e
  .subst hb;rw[aV]at q;cases q;exact⟨⟨_,_,he,rfl,rfl,rfl,fun _=>⟨by show 1<6;decide,rfl⟩⟩,⟨_,he⟩,fun g1 g2 ⟨o',ws,k1,k2⟩ kk=>⟨o',ws,kk o' k1,k2⟩⟩
  .rw[aM hb]at q;exact(I.hok b u q).stay (fun c v _ r=>mk.keeps c v r) (fun c r=>by rw[aM (aP r hn)];exact r) fun c xs r=>by rw[aM (aP r hn)];exact r
end
section
variable{X:Cx}{C f:Addr}{x:Str}{p pos:Pos}{k:Nat}{fd:FuncData}{ps:List Str}{sp:Sp}{e:Expr}{es:List Expr}{t:TA}
structure MkX(K:Fg)(C f:Addr):Prop where
 ex:FE K C=true
 init:PySem.W.findIn K (.ref C) "__init__"=some (some (.ref f))
 fn:PySem.W.isFn K (.ref f)=true
 kp:PySem.W.keepIn K (.ref C)=true
noncomputable def MQ(C:Addr)(sp:Sp)(t:TA):TE:=fun σ H Q=>t σ H fun vs H1=>vs.length<=sizeLine/\∀a,H1 a=none->sp (.ref a::vs) (upd H1 a (.ext (rE a (.ref C) none true))) (fun v H2=>v=.non/\Q (.ref a) H2) E0
theorem VI{pins:List (Addr×Obj)}{σ:St}{s:Shared}{Q:VK}{us:List Value}{vs:List V}(M:MkX X.K C f)(F:gY X.prog X.w X.K X.mg X.base CX0 k f fd ps sp)(hr:cG (k+1) X.A)(hb:Binds X.K fd ps [])(I:Inv X pins σ H s)(r:bF vs us)
 (hl:vs.length<=sizeLine) (h:∀a,H a=none->sp (.ref a::vs) (upd H a (.ext (rE a (.ref C) none true))) (fun v H2=>v=.non/\Q (.ref a) H2) E0):
 wpAny (model X.prog X.w) X.A (call (.ref C) us) (fun v s'=>∃a H',v=.ref a/\Inv X pins σ H' s'/\(X.ex=[]->X.s₀.heap.get? a=none)/\Q (.ref a) H') X.xe s:=by
 refine VR I.kIn M.ex M.init (beq_iff_eq.mp M.fn) (by rw[<- r.length];exact hl) fun h' a mk=>?_;obtain⟨h1,I2⟩:=I.newX mk;have hq:=h a h1;have r2:bF (V.ref a::vs) (Value.ref a::us):=.cons rfl r
 have hlen:(Value.ref a::us).length=ps.length:=by
  have e:=r2.length;rw[F.len _ _ _ _ hq]at e;exact e.symm
 have b:=hb { s with heap:=h' } (Value.ref a::us) I2.kIn (by rw[C3];exact hlen);rw[C3]at b;refine wpAny_call (Y8 (F.run _ X.stack _ _ ⟨Value.ref a::us,[]⟩ (Value.ref a::us) _ _ E0 (hr.make C us []) (I2.env0.make C us []) b r2 hq) fun rr s' hq'=>?_);cases rr with
 |error e=>exact False.elim hq'
 |ok fl=>
  cases fl with
  |ret u=>
   obtain⟨v,H',I3,rv,ev,q3⟩:=I2.after hq';subst ev
   have nw:X.ex=[]->X.s₀.heap.get? a=none:=fun hx=>by
    cases z:X.s₀.heap.get? a with
    |none=>rfl
    |some o=>
     obtain⟨o1,z1⟩:=I.base.there a o z (by rw[hx];simp);rw[mk.new]at z1;cases z1
   exact⟨rv,a,H',rfl,I3,nw,q3⟩
  |next=>exact False.elim hq'
  |brk=>exact False.elim hq'
  |cont=>exact False.elim hq'
theorem RV(M:MkX X.K C f)(F:gY X.prog X.w X.K X.mg X.base CX0 k f fd ps sp)(hr:cG (k+1) X.A)(hg:Gl X x)(hm:X.mg x=some (.ref C))(hb:Binds X.K fd ps [])
 (ha:PA X (e::es) t) (hdb:(x==("__debug__":Str))=false) (he:starEach (e::es) X.env=(false,eval e X.env)::starEach es X.env) (hpl:(backTo pos (starEach es X.env)).any (·.1)=false)
 {pins:List (Addr×Obj)} {s:Shared} {σ:St} {H:Hp} {Q:VK} (I:Inv X pins σ H s) (h:MQ C sp t σ H Q):
 wpAny (model X.prog X.w) X.A (eval (.Call (.Name x p) (e::es) [] pos) X.env) (fun v s'=>∃a H',v=.ref a/\Inv X pins σ H' s'/\(X.ex=[]->X.s₀.heap.get? a=none)/\Q (.ref a) H') X.xe s:=by
 refine L5 (oI I hg hm ?_ hdb);exact Y4 (h₀:=X.base) I.ok.mod.kin M.kp (thn (ha pos pins s σ H _ I h) fun us s1 ⟨vs,H1,I1,r,hl,q⟩=>⟨I1.kIn,VI M F hr hb I1 r hl q⟩) he hpl
end
theorem aCa{prog:Program}{w:World}{A:Around}{E:Value->Shared->Prop}{s:Shared}{env:Env}{e:Expr}{pos:Pos}{K:Fg}{C:Addr}{Q:Flow->Shared->Prop}(hh:A.handled=none)(q:FE K C=true)(be:PySem.W.subIn K (.ref C) (.type "BaseException")=some true)
 (h:wpAny (model prog w) A (eval e env) (fun v s1=>∃a oe vs,v=.ref a/\K.In s1.heap/\s1.heap.get? a=some oe/\oe.cls=.ref C/\oe.data=.fields vs/\vs[1]?=some .none/\E (.ref a) s1) E s):
 wpAny (model prog w) A (exec (.Raise (some e) none pos) env) Q E s:=by
 show wpAny (model prog w) A (do standAt pos;raiseStmt env (some (do let v <- eval e env;standAt pos;pure v)) none) Q E s;refine A0 (S3 ?_);unfold raiseStmt;dsimp only;refine A0 (A0 (D5 h (fun v s1 z=>A0 (S3 (A6 ?_))) fun _ _ z=>z));obtain⟨a,oe,vs,rfl,X,he,hc,hv,h1,hE⟩:=z;have LT:PySem.W.Looks (model prog w) s1.heap (typeOf (.ref a)) (.ref C):=hc▸(PySem.W.Looks.ld he).andThen .now;have LS:=PySem.W.looks_subIn (M:=model prog w) X be;obtain⟨bm,N,nm,qn,bs,hd,sn,sub,ab,col,dd,k0,k1,k2,k3,k5,hC,_⟩:=zP X q;have LC:PySem.W.Looks (model prog w) s1.heap (typeOf (.ref C)) (.type "type"):=(PySem.W.Looks.ld hC).andThen .now
 have nt:∀{Q':Bool->Shared->Prop},Q' false s1->wpAny (model prog w) A (isType (.ref a)) Q' E s1:=fun{Q'} z=>by
  simp only[isType,loadHead];refine A0 (wpAny_loadPart he ?_);rw[hv];exact A6 z
 refine A0 (A6 ?_);dsimp only;refine A0 (E9 ?_);unfold excFromValue isExcClass;refine A0 (A0 (nt ?_));simp only[Bool.false_eq_true,if_false];refine A6 ?_;simp only[Bool.false_eq_true,if_false];unfold isInstance;refine A0 (A0 (LT.here (LS.here ?_)));simp only[if_true];refine A6 ?_;refine A0 (nt ?_);simp only[Bool.false_eq_true,if_false];unfold raisedInstance;refine A0 (A0 (LT.here (A0 (LC.here ?_))));rw[A4 (by decide)];refine A6 ?_;unfold setFlight;refine A0 (A0 (E2 he hv h1 ?_));rw[A5 (by decide)];exact A6 (wpAny_raiseNew_none hh hE)
section
variable{X:Cx}{C f:Addr}{x:Str}{p cpos pos:Pos}{k:Nat}{fd:FuncData}{ps:List Str}{sp:Sp}{e:Expr}{es:List Expr}{t:TA}
noncomputable def EL(EE:St->XK)(C:Addr)(sp:Sp)(t:TA):TS:=fun _ σ H=>MQ C sp t σ H fun v H1=>∃a dx,v=.ref a/\H1 a=some (.ext (rE a (.ref C) dx true))/\EE σ (.ref C) dx (unt H1 a)
theorem UD{EE:St->XK}(ok:XOk X EE)(hc:X.calm=true)(M:MkX X.K C f)(be:PySem.W.subIn X.K (.ref C) (.type "BaseException")=some true)(F:gY X.prog X.w X.K X.mg X.base CX0 k f fd ps sp)(hr:cG (k+1) X.A)(hg:Gl X x)(hm:X.mg x=some (.ref C))(hb:Binds X.K fd ps [])
 (ha:PA X (e::es) t) (hdb:(x==("__debug__":Str))=false) (he:starEach (e::es) X.env=(false,eval e X.env)::starEach es X.env) (hpl:(backTo cpos (starEach es X.env)).any (·.1)=false):
 PS X (.Raise (some (.Call (.Name x p) (e::es) [] cpos)) none pos) (EL EE C sp t):=by
 intro pins s σ H D I h;refine aCa (I.ok.hd hc) M.ex be ?_;refine D5 (RV (X:=X) (p:=p) (pos:=cpos) M F hr hg hm hb ha hdb he hpl I h) (fun v s1 ⟨a',H1,ev,I1,new,a,dx,ex,ea,q⟩=>?_) fun _ _ z=>z;obtain rfl:a'=a:=V.ref.inj ex;subst ev;obtain⟨⟨o,vs,h1,h2,h3,h4,h5⟩,_⟩:=I1.hok a' _ ea;obtain⟨z1,z2⟩:=h5 rfl;have I2:Inv X [] σ (unt H1 a') s1:=(I1.untrack ea).pins_of fun p hp=>absurd hp (by simp);refine⟨a',o,vs,rfl,I1.kIn,h1,h2,h4,z2,ok.pass _ _ (ZT ok.bd I2 h1 BC (new ok.bd.ex) (fun p hp z=>?_) h4 z1 z2 (by rw[h2,h3];exact q))⟩
 .have:=(I1.pin p (E4 _ hp)).2.1;rw[z,ea]at this;cases this
end
section
variable{X:Cx}{o value e:Expr}{ta tv:TE}{f:Str}{pos pos':Pos}
noncomputable def XY(K:Fg)(ta tv:TE)(f:Str):TS:=fun D σ H=>tv σ H fun y H1=>ta σ H1 fun x H2=>∃a C,x=.ref a/\H2 a=some (.ext (rE a (.ref C) none true))/\VX K C f/\∀d,H2 d=none->d≠a->D.nx σ (upd (upd H2 d (.xd [(f,y)])) a (.ext (rE a (.ref C) (some d) true)))
theorem aDN(ha:PE X o ta)(hv:PE X value tv)(hs:swapsWith value (some (.Attribute o f pos')) pos.line X.env=pure false):PS X (.Assign [.Attribute o f pos'] value pos) (XY X.K ta tv f):=by
 intro pins s σ H D I h;refine plainObj_wpAny_Assign_Attribute (thn (hv pins s σ H _ I h) fun u s1 ⟨y,H1,I1,ry,q⟩=>thn (ha pins s1 σ H1 _ I1 q) fun ov s2 ⟨x,H2,I2,rx,a,C,ex,ea,c,q2⟩=>?_) hs;subst ex;obtain rfl:ov=Value.ref a:=rx;exact aCg I2 ea c ry fun d s3 hd hne I3=>⟨σ,_,I3,q2 d hd hne⟩
end
noncomputable def aAO(nm:Str)(h:FN)(fa:AF):EF:=fun γ M=>(fa γ M).bind fun r=>if r.1.length<=sizeLine then(h (.c r.2.length::r.1) (r.2++[.exc true nm []])).bind fun q=>if nF q.1=true then some (.c r.2.length,q.2)else none else none
noncomputable def excOf(M:Sto):CD->Option (Nat×Bool×Str×List (Str×CD))
 |.c i=>match M[i]? with
  |some (.exc fr nm fs)=>some (i,fr,nm,fs)
  |_=>none
 |_=>none
theorem IP{x:CD}{i:Nat}{fr:Bool}{nm:Str}{fs:List (Str×CD)}(h:excOf M x=some (i,fr,nm,fs)):x=.c i/\M[i]?=some (.exc fr nm fs):=by
 unfold excOf at h;split at h
 .rename_i j;split at h
  .rename_i a b c e;cases h;exact⟨rfl,e⟩
  .cases h
 .cases h
noncomputable def OP(nm f:Str)(eo ev:EF):SF:=fun γ M=>(ev γ M).bind fun v=>(eo γ v.2).bind fun o=>(excOf o.2 o.1).bind fun p=>if p.2.1=true/\p.2.2.1=nm/\p.2.2.2.isEmpty=true then some (.nx γ,o.2.set p.1 (.exc true nm [(f,v.1)]))else none
noncomputable def xY(nm:Str)(h:FN)(fa:AF):SFX:=fun γ M=>(aAO nm h fa γ M).bind fun r=>(excOf r.2 r.1).bind fun p=>if p.2.1=true/\p.2.2.1=nm then some (.xc γ ⟨nm,p.2.2.2⟩,r.2.set p.1 .dead)else none
section
variable{K:Fg}{EE:St->XK}{ta tv:TE}{tA:TA}
theorem ZI{nm:Str}{h:FN}{fa:AF}(b:SA K tA fa):SE K (MQ (bN K nm) (spM K h) tA) (aAO nm h fa):=by
 intro γ M x M' hh W H σ Q G R k;obtain⟨⟨ys,M1⟩,h1,hh⟩:=aJ hh
 have hl:ys.length<=sizeLine:=by
  by_cases z:ys.length<=sizeLine
  .exact z
  .rw[A5 z]at hh;cases hh
 rw[A4 hl]at hh;obtain⟨⟨z,M2⟩,h2,hh⟩:=aJ hh
 have hz:nF z=true:=by
  cases q:nF z with
  |true=>rfl
  |false=>rw[q]at hh;cases hh
 rw[A4 hz]at hh;cases hh;have hz':=JE hz;subst hz';refine b _ _ _ _ h1 W H σ _ G R fun vs W1 H1 e1 G1 r1=>⟨by rw[<- Paired.len r1];exact hl,fun a ha=>?_⟩;have Gb:=G1.new ha (c:=.exc true nm []) (o:=.ext (rE a (.ref (bN K nm)) none true)) ⟨none,rfl,rfl⟩;have e2:=W1.ext_more a;refine⟨.c M1.length::ys,M1++[.exc true nm []],W1.more a,.d .none,M2,Gb,.cons G1.newV (bY.up r1 e2),h2,fun v W3 H3 e3 G3 r3=>⟨r3,?_⟩⟩;exact k _ W3 H3 ((e1.trans e2).trans e3) G3 (G1.newV.up e3)
theorem aDo{nm f:Str}{eo ev:EF}(c:VX K (bN K nm) f)(a:SE K ta eo)(b:SE K tv ev):SS K (XY K ta tv f) (OP nm f eo ev):=by
 intro γ M o M' hh W H σ D G R k;obtain⟨⟨y,M1⟩,h1,hh⟩:=aJ hh;obtain⟨⟨z,M2⟩,h2,hh⟩:=aJ hh;obtain⟨⟨i,fr,nm',fs⟩,h3,hh⟩:=aJ hh;by_cases hc:fr=true/\nm'=nm/\fs.isEmpty=true
 .have hh:(if fr=true/\nm'=nm/\fs.isEmpty=true then some (Out.nx γ,M2.set i (.exc true nm [(f,y)]))else none)=some (o,M'):=hh;rw[A4 hc]at hh;cases hh;obtain⟨rfl,rfl,q⟩:=hc;have q:fs=[]:=by cases fs with|nil=>rfl|cons _ _=>cases q
  subst q;refine b _ _ _ _ h1 W H σ _ G R fun v W1 H1 e1 G1 r1=>?_;refine a _ _ _ _ h2 W1 H1 σ _ G1 (R.up e1) fun u W2 H2 e2 G2 r2=>?_;obtain⟨rfl,hM⟩:=IP h3;obtain⟨dx,hH,hx⟩:=G2.excAt hM;cases dx with
  |some d=>
   exact absurd rfl hx.1
  |none=>
   refine⟨W2.α i,_,r2.2,hH,c,fun d hd hne=>?_⟩;obtain⟨e3,G3⟩:=G2.lay (o:=.xd [(f,v)]) hd;have e23:=(e1.trans e2).trans e3;refine k _ _ e23 (G3.set hM (by intro q;cases q) (c':=.exc true nm' [(f,y)]) (o':=.ext (rE (W2.α i) (.ref (bN K nm')) (some d) true)) ⟨some d,rfl,by simp,[(f,v)],aV,.cons ⟨rfl,(r1.up e2).up e3⟩ .nil⟩) σ (R.up e23)
 .have hh:(if fr=true/\nm'=nm/\fs.isEmpty=true then some (Out.nx γ,M2.set i (.exc true nm [(f,y)]))else none)=some (o,M'):=hh;rw[A5 hc]at hh;cases hh
theorem Good.kill(g:Good K W M H){i:Nat}{c:Cell}(hi:M[i]?=some c)(hc:c≠.dead):Good K W (M.set i .dead) (unt H (W.α i)):=by
 obtain⟨h1,o,h2,h3⟩:=g.cs i c hi hc;have lt:i<M.length:=(List.getElem?_eq_some_iff.mp hi).1
 have at_:∀j d,(M.set i .dead)[j]?=some d->d≠.dead->j≠i/\M[j]?=some d:=fun j d h hd=>by
  by_cases q:i=j
  .subst q;rw[D8 lt]at h;exact absurd (D3 h).symm hd
  .rw[J1 q]at h;exact⟨fun z=>q z.symm,h⟩
 refine⟨fun b u hb=>?_,by rw[g.n,O6],fun j d hj hd=>?_,fun j k d1 d2 hj hk e1 e2 he=>?_⟩
 .rw[oB (fun z=>by rw[z,h1]at hb;cases hb)];exact g.fh b u hb
 .obtain⟨q,h⟩:=at_ j d hj hd;obtain⟨k1,u,k2,k3⟩:=g.cs j d h hd;exact⟨k1,u,by rw[oB fun z=>q (g.inj j i d c h hi hd hc z)];exact k2,k3⟩
 .exact g.inj j k d1 d2 (at_ j d1 hj e1).2 (at_ k d2 hk e2).2 e1 e2 he
theorem NM{nm:Str}{h:FN}{fa:AF}(b:SA K tA fa):SSX K EE (EL EE (bN K nm) (spM K h) tA) (xY nm h fa):=by
 intro γ M o M' hh W H σ D G R k;obtain⟨⟨x,M1⟩,h1,hh⟩:=aJ hh;obtain⟨⟨i,fr,nm',fs⟩,h2,hh⟩:=aJ hh;by_cases hc:fr=true/\nm'=nm
 .have hh:(if fr=true/\nm'=nm then some (VU.xc γ ⟨nm,fs⟩,M1.set i .dead)else none)=some (o,M'):=hh;rw[A4 hc]at hh;cases hh;obtain⟨rfl,rfl⟩:=hc;refine ZI b _ _ _ _ h1 W H σ _ G R fun v W1 H1 e1 G1 r1=>?_;obtain⟨rfl,hM⟩:=IP h2;obtain⟨dx,hH,hx⟩:=G1.excAt hM;exact⟨_,dx,r1.2,hH,k W1 _ e1 (G1.kill hM (by intro q;cases q)) σ _ dx (R.up e1) ⟨rfl,hx⟩⟩
 .have hh:(if fr=true/\nm'=nm then some (VU.xc γ ⟨nm,fs⟩,M1.set i .dead)else none)=some (o,M'):=hh;rw[A5 hc]at hh;cases hh
end
structure BI(P:Program)(w:World)(K:Fg)(mg:Str->Option Value)(base:Heap)(k:Nat)(nm:Str)(ps:List Str)(sp:Sp):Prop where
 ex:∃f fd,gY P w K mg base CX0 k f fd ps sp/\MkX K (bN K nm) f/\Binds K fd ps []
section
variable{P:Program}{w:World}{K:Fg}{mg:Str->Option Value}{base:Heap}
theorem NY.okIX{nm qual:Str}{st:Stmt}{N ps:List Str}{k:Nat}{b:SF}(D:NY K nm "__init__" qual st)(hm:FE K (bN K nm)=true)(hk:PySem.W.keepIn K (.ref (bN K nm))=true)(S:aS N ps (aF st))
 (hb:∀(kV doc pm:Value)(an:Option Addr)(cdv ct:Value)(us:List Value),us.length=ps.length->bindArgs (PySem.W.fnOf "__init__" qual (dG st) (bR st) (aF st) .none kV doc pm an cdv ct) ⟨us,[]⟩=pure (ps.zip us))
 (hbody:∀(f:Addr)(cdv:Value)(A:Around)(outer:List Env)(s:Shared)(H:Hp)(E:XK),cG k (A.deeper (envOfC qual (aF st) s.heap.objs.size f cdv))->
  ML K (fun _:Unit=>(mE CX0 P w K mg base N qual (aF st) f cdv A outer s H E).nox) (bR st) b):BI P w K mg base (k+1) nm ps (spM K (fnF ps.length N.length b)):=by
 obtain⟨f,fd,F,h1,h2⟩:=D.ex;exact⟨f,fd,F.okQ S hbody,⟨hm,h1,h2,hk⟩,F.binds hb⟩
theorem RN{nm m qual:Str}{st:Stmt}{C f:Addr}{oc:Value}{od an:Option Addr}{osl:Array (Option Value)}{kV doc pm cdv ct:Value}(hC:bN K nm=C)(hf:PySem.W.findIn K (.ref C) m=some (some (.ref f)))
 (l:K.lookup f=some ⟨oc,od,.func (PySem.W.fnOf m qual (dG st) (bR st) (aF st) .none kV doc pm an cdv ct),osl⟩) (c:PySem.W.codeIn K cdv qual=true) (k:PySem.W.keepIn K (.ref f)=true) (fn:PySem.W.isFn K (.ref f)=true):NY K nm m qual st:=
 ⟨f,_,aAT l c k,by rw[hC];exact hf,fn⟩
end
section
variable{ι:Type}{K:Fg}{X:ι->Cx}{EE:ι->St->XK}{e o a b:Expr}{es:List Expr}{f g:EF}{fa:AF}{pos:Pos}
theorem yS{k:Nat}{nm:Str}{ps:List Str}{F:FN}{p cpos:Pos}(ok:∀i,XOk (X i) (EE i))(C:∀i,BI (X i).prog (X i).w (X i).K (X i).mg (X i).base k nm ps (spM K F))(hK:∀i,(X i).K=K)(hc:∀i,(X i).calm=true)(hm:∀i,(X i).mg nm=some (.ref (bN K nm)))(be:PySem.W.subIn K (.ref (bN K nm)) (.type "BaseException")=some true)
 (hr:∀i,cG (k+1) (X i).A) (y:MA K X (e::es) fa) (hg:∀i,Gl (X i) nm:=by intro _;rfl) (hd:(nm==("__debug__":Str))=false:=by decide):
 MSX K X EE (.Raise (some (.Call (.Name nm p) (e::es) [] cpos)) none pos) (xY nm F fa):=by
 obtain⟨u,y1,y2⟩:=y.ex;refine⟨fun i=>EL (EE i) (bN K nm) (spM K F) u,fun i=>?_,fun i=>NM y2⟩;obtain⟨f,fd,F',M,B⟩:=(C i).ex;have hmi:(X i).mg nm=some (.ref (bN (X i).K nm)):=by rw[hK i];exact hm i
 have:=UD (ok i) (hc i) M (by rw[hK i];exact be) F' (hr i) (hg i) hmi B (y1 i) hd (y.st.1 _) (y.st.2.plain _ _) (p:=p) (cpos:=cpos) (pos:=pos);rw[hK i]at this;exact this
theorem aCC{nm fl:Str}{pos':Pos}(hK:∀i,(X i).K=K)(hc:VX K (bN K nm) fl)(x:ME K X o f)(y:ME K X e g)(hs:∀i,swapsWith e (some (.Attribute o fl pos')) pos.line (X i).env=pure false:=by intro _;rfl):MS K X (.Assign [.Attribute o fl pos'] e pos) (OP nm fl f g):=by
 obtain⟨t,x1,x2⟩:=x.ex;obtain⟨u,y1,y2⟩:=y.ex;refine⟨_,fun i=>?_,aDo hc x2 y2⟩;have:=aDN (x1 i) (y1 i) (hs i);rw[hK i]at this;exact this
end
noncomputable abbrev KY:=Key ⊕ List Key
noncomputable abbrev KF:=Ga->Sto->Option (KY×Sto)
noncomputable def SY(W:Wd):KY->V->Prop
 |.inl k,v=>v=kV k
 |.inr ks,v=>∃b,v=.ref b/\W.F b=some (.tup (ks.map kV))
theorem SY.up{W':Wd}{k:KY}{v:V}(h:SY W k v)(e:W.Ext W'):SY W' k v:=by
 cases k with
 |inl k=>exact h
 |inr ks=>obtain⟨b,h1,h2⟩:=h;exact⟨b,h1,e.ff _ _ h2⟩
section
variable{K:Fg}
noncomputable def SK(K:Fg)(t:TE)(f:KF):Prop:=∀γ M k M',f γ M=some (k,M')->∀(W:Wd)(H:Hp)(σ:St)(Q:VK),Good K W M H->cL K W γ σ->(∀v W' H',W.Ext W'->Good K W' M' H'->SY W' k v->Q v H')->t σ H Q
noncomputable def keysOf:List CD->Option (List Key)
 |[]=>some []
 |x::xs=>(keyOf x).bind fun k=>(keysOf xs).bind fun ks=>some (k::ks)
noncomputable def xP(fa:AF):KF:=fun γ M=>(fa γ M).bind fun r=>(keysOf r.1).bind fun ks=>if ks.length<=sizeLine then some (.inr ks,r.2)else none
variable{t td ty tx tv:TE}{tA:TA}{f fo fx fv:EF}{fk:KF}{fa:AF}
theorem sM{W:Wd}:∀{xs:List CD}{ks:List Key}{vs:List V},keysOf xs=some ks->bY K W xs vs->vs=ks.map kV
 |[],ks,vs=>fun h r=>by cases h;cases r;rfl
 |x::xs,ks,vs=>fun h r=>by
  obtain⟨k,h1,h⟩:=aJ h;obtain⟨ks',h2,h⟩:=aJ h;cases h;cases r with
  |cons r1 r2=>rw[UT h1 r1,sM h2 r2];rfl
theorem aHT(b:SA K tA fa):SK K (aDb tA) (xP fa):=by
 intro γ M k M' hh W H σ Q G R c;obtain⟨⟨ys,M1⟩,h1,hh⟩:=aJ hh;obtain⟨ks,h2,hh⟩:=aJ hh;by_cases hl:ks.length<=sizeLine
 .rw[A4 hl]at hh;cases hh;refine b _ _ _ _ h1 W H σ _ G R fun vs W1 H1 e1 G1 r1=>?_;have ev:=sM h2 r1;refine⟨by rw[ev,A2];exact hl,fun p hp=>?_⟩;obtain⟨e2,G2⟩:=G1.lay (o:=.tup vs) hp;exact c _ _ _ (e1.trans e2) G2 ⟨p,rfl,by show upd W1.F p (.tup vs) p=_;rw[aV,ev]⟩
 .rw[A5 hl]at hh;cases hh
section
variable{κ:Type}[DecidableEq κ]
noncomputable def lkC(kvs:List (κ×CD))(k:κ):Option CD:=(kvs.find? fun kv=>decide (kv.1=k)).map (·.2)
noncomputable def putD(kvs:List (κ×CD))(k:κ)(v:CD):List (κ×CD):=
 if (kvs.any fun kv=>decide (kv.1=k))=true then kvs.map (fun kv=>if kv.1=k then(kv.1,v)else kv)else kvs++[(k,v)]
noncomputable abbrev PKV(K:Fg)(W:Wd)(kvs:List (κ×CD))(us:List (κ×V)):Prop:=Paired (fun p q=>p.1=q.1/\cD K W p.2 q.2) kvs us
theorem yC{W:Wd}{k:κ}:∀{kvs:List (κ×CD)}{us:List (κ×V)},PKV K W kvs us->JK K W (lkC kvs k) (hX us k)
 |_,_,.nil=>True.intro
 |_,_,.cons (a:=p) (b:=q) (l₁:=ps) (l₂:=qs) r1 r2=>by
  by_cases h:p.1=k
  .have h':q.1=k:=r1.1▸h;rw[show lkC (p::ps) k=some p.2 by simp[lkC,List.find?_cons,h],show hX (q::qs) k=some q.2 by simp[hX,List.find?_cons,h']];exact r1.2
  .have h':¬q.1=k:=r1.1▸h;rw[show lkC (p::ps) k=lkC ps k by simp[lkC,List.find?_cons,h],show hX (q::qs) k=hX qs k by simp[hX,List.find?_cons,h']];exact yC r2
theorem KU{W:Wd}{k:κ}:∀{kvs:List (κ×CD)}{us:List (κ×V)},PKV K W kvs us->(kvs.any fun kv=>decide (kv.1=k))=us.any fun kv=>decide (kv.1=k)
 |_,_,.nil=>rfl
 |_,_,.cons r1 r2=>by rw[L6,L6,KU r2,r1.1]
theorem LP{W:Wd}{k:κ}{x:CD}{v:V}(rv:cD K W x v):∀{kvs:List (κ×CD)}{us:List (κ×V)},PKV K W kvs us->PKV K W (kvs.map fun kv=>if kv.1=k then(kv.1,x)else kv) (us.map fun kv=>if kv.1=k then(kv.1,v)else kv)
 |_,_,.nil=>.nil
 |_,_,.cons (a:=p) (b:=q) r1 r2=>by
  rw[B2,B2];refine .cons ?_ (LP rv r2);by_cases h:p.1=k
  .rw[A4 h,A4 (r1.1▸h)];exact⟨r1.1,rv⟩
  .rw[A5 h,A5 (r1.1▸h)];exact r1
theorem DK{k:κ}{x:CD}{v:V}{kvs:List (κ×CD)}{us:List (κ×V)}(r:PKV K W kvs us)(rv:cD K W x v):PKV K W (putD kvs k x) (putK us k v):=by
 unfold putD putK;rw[KU r];split
 .exact LP rv r
 .exact Paired.app r (.cons ⟨rfl,rv⟩ .nil)
end
noncomputable def lkP(kvs:List (List Key×PyData))(k:List Key):Option PyData:=(kvs.find? fun kv=>decide (kv.1=k)).map (·.2)
theorem BG{W:Wd}{k:List Key}:∀{kvs:List (List Key×PyData)}{us:List (List Key×V)},Paired (fun p q=>p.1=q.1/\Rep K W.F p.2 q.2) kvs us->JK K W ((lkP kvs k).map .d) (hX us k)
 |_,_,.nil=>True.intro
 |_,_,.cons (a:=p) (b:=q) (l₁:=ps) (l₂:=qs) r1 r2=>by
  by_cases h:p.1=k
  .have h':q.1=k:=r1.1▸h;rw[show lkP (p::ps) k=some p.2 by simp[lkP,List.find?_cons,h],show hX (q::qs) k=some q.2 by simp[hX,List.find?_cons,h']];exact r1.2
  .have h':¬q.1=k:=r1.1▸h;rw[show lkP (p::ps) k=lkP ps k by simp[lkP,List.find?_cons,h],show hX (q::qs) k=hX qs k by simp[hX,List.find?_cons,h']];exact BG r2
noncomputable def atD(M:Sto):CD->KY->Option (Option CD)
 |.c i,.inl k=>match M[i]? with
  |some (.dk kvs)=>some (lkC kvs k)
  |_=>none
 |.c i,.inr ks=>match M[i]? with
  |some (.dt kvs)=>some (lkC kvs ks)
  |_=>none
 |.f kvs,.inr ks=>some ((lkP kvs ks).map .d)
 |_,_=>none
noncomputable def yZ(M:Sto):CD->KY->CD->Option Sto
 |.c i,.inl k,x=>match M[i]? with
  |some (.dk kvs)=>if kvs.length<sizeLine then some (M.set i (.dk (putD kvs k x)))else none
  |_=>none
 |.c i,.inr ks,x=>match M[i]? with
  |some (.dt kvs)=>if kvs.length<sizeLine then some (M.set i (.dt (putD kvs ks x)))else none
  |_=>none
 |_,_,_=>none
theorem Good.dkAt{i:Nat}{kvs:List (Key×CD)}(G:Good K W M H)(h:M[i]?=some (.dk kvs)):∃us,H (W.α i)=some (.dK us)/\PKV K W kvs us:=by
 obtain⟨_,o,h2,h3⟩:=G.cs i _ h (by intro z;cases z);cases o<;>first|exact⟨_,h2,h3⟩|exact False.elim h3
theorem Good.dtAt{i:Nat}{kvs:List (List Key×CD)}(G:Good K W M H)(h:M[i]?=some (.dt kvs)):∃us,H (W.α i)=some (.dT us)/\PKV K W kvs us:=by
 obtain⟨_,o,h2,h3⟩:=G.cs i _ h (by intro z;cases z);cases o<;>first|exact⟨_,h2,h3⟩|exact False.elim h3
theorem aCl{x:CD}{k:KY}{r:Option CD}{v y:V}(G:Good K W M H)(h:atD M x k=some r)(rx:cD K W x v)(ry:SY W k y):∃a o,v=.ref a/\HD H a y o/\JK K W r o:=by
 unfold atD at h;split at h
 .rename_i i k';split at h
  .rename_i kvs hk;cases h;obtain⟨us,h1,h2⟩:=G.dkAt hk;refine⟨_,_,rx.2,?_,yC h2⟩;rw[show y=kV k' from ry];exact HD.k h1
  .cases h
 .rename_i i ks;split at h
  .rename_i kvs hk;cases h;obtain⟨us,h1,h2⟩:=G.dtAt hk;obtain⟨b,rfl,hb⟩:=ry;exact⟨_,_,rx.2,HD.t h1 (G.fh _ _ hb),yC h2⟩
  .cases h
 .rename_i kvs ks;cases h;obtain⟨a,o,us,rfl,h1,h2⟩:=rx;obtain⟨b,rfl,hb⟩:=ry;exact⟨_,_,rfl,.inr ⟨us,ks,b,.inr ⟨o,G.fh _ _ h1⟩,rfl,G.fh _ _ hb,rfl⟩,BG h2⟩
 .cases h
theorem HZ{M':Sto}{x z:CD}{k:KY}{v y u:V}(G:Good K W M H)(h:yZ M x k z=some M')(rx:cD K W x v)(ry:SY W k y)(rz:cD K W z u):∃a H',v=.ref a/\zX H a y u H'/\Good K W M' H':=by
 unfold yZ at h;split at h
 .rename_i z' i k';split at h
  .rename_i kvs hk;by_cases hl:kvs.length<sizeLine
   .rw[A4 hl]at h;cases h;obtain⟨us,h1,h2⟩:=G.dkAt hk;refine⟨_,_,rx.2,?_,G.set hk (by intro q;cases q) (o':=.dK (putK us k' u)) (DK h2 rz)⟩;rw[show y=kV k' from ry];exact zX.k h1 (by rw[<- Paired.len h2];exact hl)
   .rw[A5 hl]at h;cases h
  .cases h
 .rename_i z' i ks;split at h
  .rename_i kvs hk;by_cases hl:kvs.length<sizeLine
   .rw[A4 hl]at h;cases h;obtain⟨us,h1,h2⟩:=G.dtAt hk;obtain⟨b,rfl,hb⟩:=ry;exact⟨_,_,rx.2,zX.t h1 (G.fh _ _ hb) (by rw[<- Paired.len h2];exact hl),G.set hk (by intro q;cases q) (o':=.dT (putK us ks u)) (DK h2 rz)⟩
   .rw[A5 hl]at h;cases h
  .cases h
 .cases h
noncomputable def uY:EF:=fun _ M=>some (.c M.length,M++[.dt []])
noncomputable def aCj(neg:Bool)(fk:KF)(fo:EF):EF:=fun γ M=>(fk γ M).bind fun k=>(fo γ k.2).bind fun o=>(atD o.2 o.1 k.1).bind fun r=>some (.d (.bool (if neg then !r.isSome else r.isSome)),o.2)
noncomputable def sZ(fo:EF)(fk:KF)(fv:EF):SF:=fun γ M=>(fv γ M).bind fun v=>(fo γ v.2).bind fun o=>(fk γ o.2).bind fun k=>(yZ k.2 o.1 k.1 v.1).bind fun M'=>some (.nx γ,M')
theorem aAv:SE K XF uY:=by
 intro γ M x M' hh W H σ Q G R k;cases hh;exact fun p hp=>k _ (W.more p) _ (W.ext_more p) (G.new hp (c:=.dt []) (o:=.dT []) .nil) G.newV
theorem TN{r:Option CD}{o:Option V}(h:JK K W r o):o.isSome=r.isSome:=by
 cases r<;>cases o<;>first|rfl|exact False.elim h
theorem aFr(b:SK K ty fk)(a:SE K td fo):SE K (aJN ty td) (aCj false fk fo):=by
 intro γ M x M' hh W H σ Q G R k;obtain⟨⟨ky,M1⟩,h1,hh⟩:=aJ hh;obtain⟨⟨o,M2⟩,h2,hh⟩:=aJ hh;obtain⟨r,h3,hh⟩:=aJ hh;cases hh;refine b _ _ _ _ h1 W H σ _ G R fun y W1 H1 e1 G1 r1=>a _ _ _ _ h2 W1 H1 σ _ G1 (R.up e1) fun v W2 H2 e2 G2 r2=>?_;obtain⟨p,ov,ev,g,ro⟩:=aCl G2 h3 r2 (r1.up e2);refine⟨p,ov,ev,g,k _ W2 H2 (e1.trans e2) G2 ?_⟩;show _=V.bl r.isSome;rw[TN ro]
theorem aCT(a:SE K td fo)(b:SK K ty fk)(c:SE K tv fv):SS K (aFd td ty tv) (sZ fo fk fv):=by
 intro γ M o M' hh W H σ D G R k;obtain⟨⟨z,M1⟩,h1,hh⟩:=aJ hh;obtain⟨⟨x,M2⟩,h2,hh⟩:=aJ hh;obtain⟨⟨ky,M3⟩,h3,hh⟩:=aJ hh;obtain⟨M4,h4,hh⟩:=aJ hh;cases hh;refine c _ _ _ _ h1 W H σ _ G R fun u W1 H1 e1 G1 r1=>a _ _ _ _ h2 W1 H1 σ _ G1 (R.up e1) fun v W2 H2 e2 G2 r2=>b _ _ _ _ h3 W2 H2 σ _ G2 (R.up (e1.trans e2)) fun y W3 H3 e3 G3 r3=>?_;obtain⟨p,H4,ev,g,G4⟩:=HZ G3 h4 (r2.up e3) r3 ((r1.up e2).up e3);exact⟨p,H4,ev,g,k W3 H4 ((e1.trans e2).trans e3) G4 σ (R.up ((e1.trans e2).trans e3))⟩
end
section
variable{ι:Type}
structure MK(K:Fg)(X:ι->Cx)(e:Expr)(f:KF):Prop where
 ex:∃t,(∀i,PE (X i) e t)/\SK K t f
variable{K:Fg}{X:ι->Cx}{e o i a b:Expr}{es:List Expr}{f g fx:EF}{fk:KF}{fa:AF}{pos:Pos}
theorem FY{k:Nat}(x:MA K X es fa):MK K X (.Tuple es k pos) (xP fa):=by
 obtain⟨t,x1,x2⟩:=x.ex;exact⟨_,fun i=>ND (x1 i),aHT x2⟩
theorem LB:ME K X (.Dict [] [] pos) uY:=⟨_,fun _=>XQ,aAv⟩
theorem aHl(hu:∀j,(X j).A.units+1<cLine)(y:MK K X i fk)(x:ME K X o f)(hm:behindInMarks .In o=false:=by rfl):MT K X (.Compare i [.In] [o] pos) (gB (aCj false fk f)):=by
 obtain⟨t,x1,x2⟩:=x.ex;obtain⟨u,y1,y2⟩:=y.ex;exact⟨_,fun j=>aGL (aIg (hu j) (y1 j) (x1 j)) hm,aFB (aFr y2 x2)⟩
theorem QJ{pos':Pos}(hu:∀j,(X j).A.units+1<cLine)(x:ME K X o f)(y:MK K X i fk)(z:ME K X e g)(hs:∀j,swapsWith e (some (.Subscript o i pos')) pos.line (X j).env=pure false:=by intro _;rfl):MS K X (.Assign [.Subscript o i pos'] e pos) (sZ f fk g):=by
 obtain⟨t,x1,x2⟩:=x.ex;obtain⟨u,y1,y2⟩:=y.ex;obtain⟨v,z1,z2⟩:=z.ex;exact⟨_,fun j=>aDy (hu j) (x1 j) (y1 j) (z1 j) (hs j),aCT x2 y2 z2⟩
end
end L2
namespace PySem
open Sem (wp)
open AutoSeq1 (wpAny_loadPart')
section
variable{prog:Program}{w:World}{A:Around}{E:Value->Shared->Prop}{s:Shared}
theorem CI{it l:Addr}{i:Nat}{items}{x:Value}{Q:Value->Shared->Prop}(hit:s.heap.IsTupleIter it l i)(hl:s.heap.IsTuple l items)(hx:items[i]?=some x)
 (hQ:∀h',h'.IsTupleIter it l (i+1)->Heap.SameBut it s.heap h'->Q x { s with heap:=h' }):wpAny (model prog w) A (Builtin.SmallTypes.nextOf (.ref it)) Q E s:=by
 obtain⟨o,ho,hc,hd⟩:=id hit;obtain⟨ol,hol,_,nl,hdl⟩:=hl;unfold Builtin.SmallTypes.nextOf;refine A0 (J7 (name:=Str.ofString "__next__") hit.typeIs U0 (J4 U0 hit.typeIs F.entry_tuple_iterator_next ?_ (F.args_tuple_iterator_next_1 _)));show wpAny _ _ (field (.ref it) 0 >>= _) _ _ s;refine A0 (E2 ho hd (x:=.ref l) rfl ?_);show wpAny _ _ (if (Value.ref l==Value.none)=true then _ else _) _ _ s;rw[A5 (show ¬((Value.ref l==Value.none)=true)from A7)];show wpAny _ _ (field (.ref it) 1 >>= _) _ _ s;refine A0 (E2 ho hd (x:=.int i 0) rfl ?_);show wpAny _ _ (seqItems? (.ref l) >>= _) _ _ s;refine A0 (wpAny_seqItems hol hdl ?_);simp only[Int.toNat_natCast,hx];refine A0 (O7 ho hd (by simp) (A6 ⟨x,rfl,A6 (hQ _ ?_ (U2 ..))⟩));exact⟨_,E3 _ ho (U9 (J6 hd _)),(Obj.cls_mapFields ..).trans hc,by rw[J6 hd];simp[rawInt]⟩
theorem vM{it l:Addr}{i:Nat}{items}{Q:Value->Shared->Prop}(hh:A.handled=none)(hit:s.heap.IsTupleIter it l i)(hl:s.heap.IsTuple l items)(hx:items[i]?=none)
 (hE:∀h' e,Heap.ExtBut it s.heap h'->(∃o,h'.get? e=some o/\o.cls=.type "StopIteration")->E (.ref e) { s with heap:=h' }):wpAny (model prog w) A (Builtin.SmallTypes.nextOf (.ref it)) Q E s:=by
 obtain⟨o,ho,hc,hd⟩:=id hit;obtain⟨ol,hol,_,nl,hdl⟩:=hl;unfold Builtin.SmallTypes.nextOf;refine A0 (J7 (name:=Str.ofString "__next__") hit.typeIs U0 (J4 U0 hit.typeIs F.entry_tuple_iterator_next ?_ (F.args_tuple_iterator_next_1 _)));show wpAny _ _ (field (.ref it) 0 >>= _) _ _ s;refine A0 (E2 ho hd (x:=.ref l) rfl ?_);show wpAny _ _ (if (Value.ref l==Value.none)=true then _ else _) _ _ s;rw[A5 (show ¬((Value.ref l==Value.none)=true)from A7)];show wpAny _ _ (field (.ref it) 1 >>= _) _ _ s;refine A0 (E2 ho hd (x:=.int i 0) rfl ?_);show wpAny _ _ (seqItems? (.ref l) >>= _) _ _ s;refine A0 (wpAny_seqItems hol hdl ?_);simp only[Int.toNat_natCast,hx];refine A0 (wpAny_rule (A0 (O7 ho hd (by simp) ?_)));show wpAny _ _ (newExc (.type "StopIteration") [] >>= _) _ _ _;refine A0 ?_;simp only[newExc,newTuple];refine A0 (D1 ?_ (by size_fits));refine A0 (m:=firstArgMember _ _) (wpAny_of_eq (a:=Value.none) (by first|rfl|(simp only[firstArgMember];rfl)) ?_);refine D1 ?_ (by size_fits);simp only[raiseNew];refine A0 (wpAny_handled ?_)
 first|rw[show A.in1.handled=none from hh]|rw[hh]
 refine A0 (A6 (wpAny_throw ?_));exact hE _ _ (((U2 ..).extBut.push _).push _) ⟨_,B3 _ rfl,rfl⟩
end
theorem VN{prog:Program}{w:World}{A:Around}(hh:A.handled=none)(it l:Addr)(hne:l≠it)(items:Array Value):
 Draws prog w A it [it,l] items.size (fun i v=>items[i]?=some v) (fun i h=>h.IsTupleIter it l i/\h.IsTuple l items) where
 live:=fun _ _ st=>let⟨o,ho,_⟩:=st.1;⟨o,ho⟩
 frame:=fun _ _ _ st hk=>⟨st.1.at fun o e=>hk it (by simp) o e,let⟨o,ho,r⟩:=st.2;⟨o,hk l (by simp) o ho,r⟩⟩
 item:=fun i s Q E hi st hQ=>by
  refine CI st.1 st.2 (x:=items[i]) (by simp[hi]) fun h' hit' hs'=>?_;exact hQ _ h' s.toks (by simp[hi]) ⟨hit',let⟨o,ho,r⟩:=st.2;⟨o,(hs'.2 l hne).trans ho,r⟩⟩ hs'
 done:=fun s Q E st hE=>vM hh st.1 st.2 (by simp) hE
theorem AR(l:Addr)(items:Array Value)(n:Nat)(dct:Option Addr)(sl:Array (Option Value)):
 Meets (Builtin.«enumerate.__new__» ⟨[.type "enumerate",.ref l],[]⟩) (fun _ R s=>s.heap.get? l=some { cls:=.type "tuple",dict:=dct,data:=.seq items n,slots:=sl } /\
  R (.ok (.ret (.ref (s.heap.push { cls:=.type "tuple_iterator",data:=.fields #[.ref l,.int 0 0] }).objs.size)))
   { s with heap:=(s.heap.push { cls:=.type "tuple_iterator",data:=.fields #[.ref l,.int 0 0] }).push { cls:=.type "enumerate",data:=.fields #[.none,.bool false,.ref s.heap.objs.size,rawInt 0,.none,.none] } }):=
 .of_wp fun prog w A R s h=>by
  obtain⟨hp,g,d,tk,os⟩:=s;obtain⟨hl,h⟩:=h;have hsub:=sub_enumerate;have hL:Heap.IsTuple (Shared.heap ⟨hp,g,d,tk,os⟩) l items:=⟨_,hl,rfl,n,rfl⟩
  wp_walk using U5 hl
  refine wpAny_stack_any fun st=>A6 ?_;split
  .rename_i c _ _ _ _ _;cases (c==Value.type "enumerate")
   .wp_walk using U5 hl,Z2 hL
    exact⟨_,rfl,h⟩
   .wp_walk using U5 hl,Z2 hL
    exact⟨_,rfl,h⟩
  .wp_walk using U5 hl,Z2 hL
   exact⟨_,rfl,h⟩
section
variable{prog:Program}{w:World}{A:Around}{E:Value->Shared->Prop}{s:Shared}
theorem CF{l:Addr}{items:Array Value}{Q:Value->Shared->Prop}(hL:s.heap.IsTuple l items)
 (h:∀h',IsEnum h' (s.heap.objs.size+1) s.heap.objs.size 0 .none->h'.IsTupleIter s.heap.objs.size l 0->h'.objs.size=s.heap.objs.size+2->
  (∀b o,s.heap.get? b=some o->h'.get? b=some o)->Q (.ref (s.heap.objs.size+1)) { s with heap:=h' }):
 wpAny (model prog w) A (call (.type "enumerate") [.ref l]) Q E s:=by
 obtain⟨⟨c,dct,dt,sl⟩,hl,hc,n,hd⟩:=hL
 replace hc:c=.type "tuple":=hc
 replace hd:dt=.seq items n:=hd
 subst hc hd
 refine callType_new F.called_enumerate (by decide) (F.typeCall_enumerate_1 _) (F.newCall_enumerate_1 _) (fun obj=>F.args_object_init_2 obj _) F.entry_enumerate_new
  (AR l items n dct sl) ⟨hl,?_⟩
 have hz:(s.heap.push { cls:=.type "tuple_iterator",data:=.fields #[.ref l,.int 0 0] }).objs.size=s.heap.objs.size+1:=O5 ..;show _/\_;rw[hz]
 have he:IsEnum ((s.heap.push { cls:=.type "tuple_iterator",data:=.fields #[.ref l,.int 0 0] }).push
  { cls:=.type "enumerate",data:=.fields #[.none,.bool false,.ref s.heap.objs.size,rawInt 0,.none,.none] }) (s.heap.objs.size+1) s.heap.objs.size 0 .none:=by
  have:=B3 (s.heap.push { cls:=.type "tuple_iterator",data:=.fields #[.ref l,.int 0 0] })
   (o:={ cls:=.type "enumerate",data:=.fields #[.none,.bool false,.ref s.heap.objs.size,rawInt 0,.none,.none] }) rfl
  rw[hz]at this;exact this
 refine⟨⟨_,he,rfl⟩,h _ he ⟨_,A3 _ (B3 _ rfl),rfl,rfl⟩ (by rw[O5,hz]) fun b o x=>A3 _ (A3 _ x)⟩
end
end PySem
namespace L2
open PySem PySem.Spec PyProof.Rows
section
variable{X:Cx}{pins:List (Addr×Obj)}{σ:St}{H:Hp}{s:Shared}{h':Heap}
theorem Inv.turnLay{fp:List Addr}{a:Addr}{o:HO}{t':Nat}(I:Inv X pins σ H s)(hf:∀b∈fp,rF X pins H b)(k:∀b u,b∉fp->s.heap.get? b=some u->h'.get? b=some u)(hp:s.heap.objs.size<=a)(new:cF X.prog X.w (upd H a o) h' a o):
 Inv X pins σ (upd H a o) { s with heap:=h',toks:=t' }:=by
 have hn:H a=none:=I.hok.fresh hp;have nf:∀b u,H b=some u->b∉fp:=fun b u e z=>by rw[(hf b z).1]at e;cases e
 refine I.step (g':=s.gens) (d':=s.drawn) (ch:=fp) (fun b hb=>?_) (fun b o _ _ hc e _=>k b o hc e) (fun b o _ _ hc e _=>⟨o.slots,k b o hc e⟩) (fun b o _ e n=>?_) (fun b o hc e=>⟨o,k b o hc e⟩)
  (fun b xs e=>?_) (fun b o u e=>?_) (fun b ps e=>⟨#[],?_⟩) (fun m hm=>?_) ?_ I.bare
 .obtain⟨_,f1,_,f3,f4,f5⟩:=hf b hb;exact⟨f3,f1,f4,f5⟩
 .rw[aM (fun z=>by subst z;exact absurd (A9 e) (Nat.not_lt.mpr hp))];exact n
 .rw[aM (aP e hn)];exact e
 .rw[aM (aP e hn)];exact e
 .rw[aM (aP e hn)];simpa using e
 .obtain⟨o,es,ep,ho,r⟩:=hm;exact⟨o,es,ep,k _ o (fun z=>(hf _ z).2.1 rfl) ho,r⟩
 .intro b u e;by_cases hb:b=a
  .subst hb;rw[aV]at e;cases e;exact new
  .rw[aM hb]at e;refine(I.hok b u e).stay (fun c v hc q=>k c v ?_ q) (fun c q=>by rw[aM (aP q hn)];exact q) fun c xs q=>by rw[aM (aP q hn)];exact q
   rcases hc with z|z
   .rw[z];exact nf b _ e
   .exact nf c _ z
theorem Inv.turnF{fp:List Addr}{t':Nat}(I:Inv X pins σ H s)(hf:∀b∈fp,rF X pins H b)(k:∀b u,b∉fp->s.heap.get? b=some u->h'.get? b=some u):Inv X pins σ H { s with heap:=h',toks:=t' }:=by
 have nf:∀b u,H b=some u->b∉fp:=fun b u e z=>by rw[(hf b z).1]at e;cases e
 refine I.step (g':=s.gens) (d':=s.drawn) (ch:=fp) (fun b hb=>?_) (fun b o _ _ hc e _=>k b o hc e) (fun b o _ _ hc e _=>⟨o.slots,k b o hc e⟩) (fun _ _ _ _ n=>n) (fun b o hc e=>⟨o,k b o hc e⟩)
  (fun _ _ e=>e) (fun _ _ _ e=>e) (fun b ps e=>⟨#[],by simpa using e⟩) (fun m hm=>?_) (fun b u e=>?_) I.bare
 .obtain⟨_,f1,_,f3,f4,f5⟩:=hf b hb;exact⟨f3,f1,f4,f5⟩
 .obtain⟨o,es,ep,ho,r⟩:=hm;exact⟨o,es,ep,k _ o (fun z=>(hf _ z).2.1 rfl) ho,r⟩
 .refine(I.hok b u e).stay (fun c v hc q=>k c v ?_ q) (fun _ q=>q) fun _ _ q=>q;rcases hc with z|z
  .rw[z];exact nf b _ e
  .exact nf c _ z
end
noncomputable def Ite(Sq:Hp->List V->Prop):It:=
 ⟨fun i H=>∃xs x,Sq H xs/\xs[i]?=some x,fun i H v H'=>∃p x,H p=none/\v=.ref p/\H'=upd H p (.tup [.int i,x])/\∀xs,Sq H xs->xs[i]?=some x,fun i H=>∃xs,Sq H xs/\xs.length=i⟩
noncomputable def tnE(e it:Addr)(It:Heap->Nat->Prop)(i:Nat)(h:Heap):Prop:=(∃old,IsEnum h e it i old)/\It h i
section
variable{P:Program}{w:World}{K:Fg}{elts:List Expr}{x1:Nat}{tpos:Pos}
theorem CS{e it a:Addr}{Sq:Hp->List V->Prop}{It:Heap->Nat->Prop}(hei:e≠it)
 (hobj:∀h i,It h i->∃o vs,h.get? it=some o/\o.data=.fields vs) (hkeep:∀h h' i,It h i->(∀o,h.get? it=some o->h'.get? it=some o)->It h' i)
 (hinj:∀(X:Cx),X.K=K->∀pins σ H s,Inv X pins σ H s->∀xs ys,Sq H xs->Sq H ys->xs=ys)
 (draw:∀(X:Cx),X.prog=P->X.w=w->X.K=K->X.calm=true->∀pins σ H s,Inv X pins σ H s->∀xs,Sq H xs->(∃o vs,s.heap.get? it=some o/\o.data=.fields vs)->(∃o vs,s.heap.get? e=some o/\o.data=.fields vs)->∃(its:List Value)(fp:List Addr)(S:Nat->Heap->Prop),bF xs its/\e∉fp /\
  Draws P w X.A.in1 it fp its.length (fun i v=>its[i]?=some v) S/\(∀i,It s.heap i->S i s.heap)/\∀i h,S i h->It h i):
 Turn P w K (.Tuple elts x1 tpos) (Ite Sq) [e,it] e (tnE e it It) where
 mem:=by simp
 obj:=fun i h st b hb=>by
  obtain⟨⟨old,h1⟩,h2⟩:=st;rcases List.mem_cons.mp hb with rfl|hb
  .exact⟨_,h1,fun v z=>by cases z⟩
  .obtain⟨o,vs,q1,q2⟩:=hobj _ _ h2;rw[List.mem_singleton.mp hb];exact⟨o,q1,fun v z=>by rw[q2]at z;cases z⟩
 keep:=fun i h h' st k=>by
  obtain⟨⟨old,h1⟩,h2⟩:=st;exact⟨⟨old,k e (by simp) _ h1⟩,hkeep _ _ _ h2 fun o q=>k it (by simp) o q⟩
 item:=by
  intro X hP hw hK hc i pins s σ H E I hf st hg;obtain⟨xs,x,hq,hx⟩:=hg;obtain⟨⟨old,he⟩,hit⟩:=st;obtain⟨its,fp,S,rv,hef,D,s1,s2⟩:=draw X hP hw hK hc pins σ H s I xs hq (hobj _ _ hit) ⟨_,_,he,rfl⟩;subst hP hw hK;obtain⟨u,hu,ru⟩:=rv.get hx;have hlt:i<its.length:=(List.getElem?_eq_some_iff.mp hu).1;refine wpAny_pyNext_enum_itemD D he (s1 _ hit) hlt hei hef fun v h1 tk hv ho st1 ht hsz hk=>⟨_,rfl,?_⟩;rw[hu]at hv;cases hv;refine wpAny_letOwnedTupleGo_enum ho fun h2 he2 sb=>?_;have ne:s.heap.objs.size≠e:=F9 (A9 he);have ht2:h2.get? s.heap.objs.size=some { cls:=.type "tuple",data:=.seq #[.int i tk,u] }:=(sb.2 _ ne).trans ht
  have I2:Inv X pins σ (upd H s.heap.objs.size (.tup [.int i,x])) { s with heap:=h2,toks:=tk+1 }:=by
   refine I.turnLay hf (fun b o hb q=>(sb.2 b fun z=>hb (by simp[z])).trans (hk b o (fun z=>hb (by simp[z])) (fun z=>hb (by simp[z])) q)) (A8 _) ⟨by show 2<=sizeLine;rw[F0];decide,[.int i tk,u],.cons ⟨tk,rfl⟩ (.cons ru .nil),⟨_,ht2,rfl,_,rfl⟩⟩
  refine⟨.ref s.heap.objs.size,_,I2,rfl,⟨_,x,I.hok.fresh (A8 _),rfl,rfl,fun ys hy=>by rw[hinj X rfl _ _ _ _ I ys xs hy hq];exact hx⟩,⟨⟨_,by have:=he2;push_cast;exact this⟩,?_⟩,fun b hb=>?_⟩
  .exact hkeep _ _ _ (s2 _ _ st1) fun o q=>(sb.2 it (F7 hei)).trans q
  .have hb0:=(hf b hb).1;rw[aM (fun z=>?_)]
   .exact hb0
   .subst z;rcases List.mem_cons.mp hb with q|q
    .exact ne q
    .obtain⟨o,vs,q1,_⟩:=hobj _ _ hit;rw[<- List.mem_singleton.mp q]at q1;exact absurd (A9 q1) (J3 _)
 done:=by
  intro X hP hw hK hc i pins s σ H E I hf st hg;obtain⟨xs,hq,hx⟩:=hg;obtain⟨⟨old,he⟩,hit⟩:=st;obtain⟨its,fp,S,rv,hef,D,s1,s2⟩:=draw X hP hw hK hc pins σ H s I xs hq (hobj _ _ hit) ⟨_,_,he,rfl⟩;subst hP hw hK;have hl:=rv.length;rw[hl]at hx;subst hx;exact wpAny_pyNext_enum_endD D he (s1 _ hit) fun h1 hx=>⟨rfl,I.turnF (t':=s.toks) hf fun b o hb q=>hx b o (fun z=>hb (by simp[z])) q⟩
 self:=fun A i s Q E st h=>by
  obtain⟨⟨old,he⟩,_⟩:=st;exact wpAny_pyIter_enum he h
theorem OA{e it a:Addr}(hei:e≠it):Turn P w K (.Tuple elts x1 tpos) (Ite fun H xs=>SqL K H a xs) [e,it] e (tnE e it fun h i=>h.IsListIter it a i):=by
 refine CS (a:=a) hei (fun h i st=>?_) (fun h h' i st k=>st.at k) (fun X hK pins σ H s I xs ys h1 h2=>?_) fun X hP hw hK hc pins σ H s I xs hq hi he=>?_
 .obtain⟨o,q,_,d⟩:=st;exact⟨o,_,q,d⟩
 .subst hK;exact I.list_inj h1 h2
 .subst hP hw hK;obtain⟨its,rv,p,hz⟩:=I.list hq
  have ne:∀b,(∃o vs,s.heap.get? b=some o/\o.data=.fields vs)->a≠b:=fun b ⟨o,vs,q,d⟩ z=>by
   subst z;obtain⟨o',q',_,n,d'⟩:=p.isList;rw[q]at q';cases q';rw[d]at d';cases d'
  refine⟨its,[it,a],fun i h=>h.IsListIter it a i/\h.IsList a its.toArray,rv,?_,?_,fun i st=>⟨st,p.isList⟩,fun i h st=>st.1⟩
  .intro z;rcases List.mem_cons.mp z with z|z
   .exact hei z
   .exact ne e he (List.mem_singleton.mp z).symm
  .have:=Draws.list (prog:=X.prog) (w:=X.w) (A:=X.A.in1) (I.ok.hd hc) it a (ne it hi) its.toArray;simpa using this
theorem NK{e it a:Addr}(hei:e≠it):Turn P w K (.Tuple elts x1 tpos) (Ite fun H xs=>SqT K H a xs) [e,it] e (tnE e it fun h i=>h.IsTupleIter it a i):=by
 refine CS (a:=a) hei (fun h i st=>?_) (fun h h' i st k=>st.at k) (fun X hK pins σ H s I xs ys h1 h2=>?_) fun X hP hw hK hc pins σ H s I xs hq hi he=>?_
 .obtain⟨o,q,_,d⟩:=st;exact⟨o,_,q,d⟩
 .subst hK;exact I.tuple_inj h1 h2
 .subst hP hw hK;obtain⟨its,rv,p,hz⟩:=I.tuple hq;have pt:s.heap.IsTuple a its.toArray:=p
  have ne:∀b,(∃o vs,s.heap.get? b=some o/\o.data=.fields vs)->a≠b:=fun b ⟨o,vs,q,d⟩ z=>by
   subst z;obtain⟨o',q',_,n,d'⟩:=pt;rw[q]at q';cases q';rw[d]at d';cases d'
  refine⟨its,[it,a],fun i h=>h.IsTupleIter it a i/\h.IsTuple a its.toArray,rv,?_,?_,fun i st=>⟨st,pt⟩,fun i h st=>st.1⟩
  .intro z;rcases List.mem_cons.mp z with z|z
   .exact hei z
   .exact ne e he (List.mem_singleton.mp z).symm
  .have:=VN (prog:=X.prog) (w:=X.w) (A:=X.A.in1) (I.ok.hd hc) it a (ne it hi) its.toArray;simpa using this
end
section
variable{X:Cx}{elts:List Expr}{x1:Nat}{tpos:Pos}
noncomputable def aEL(K:Fg)(ta:TA):TI:=fun σ H R=>ta σ H fun vs H1=>∃a,vs=[.ref a]/\((∃xs,SqL K H1 a xs/\R (Ite fun H xs=>SqL K H a xs) H1)\/(∃xs,SqT K H1 a xs/\R (Ite fun H xs=>SqT K H a xs) H1))
theorem aDH{a:Expr}{ta:TA}{p pos:Pos}(hg:Gl X "enumerate")(hm:X.mg "enumerate"=none)(ha:PA X [a] ta)(hs:starEach [a] X.env=[(false,eval a X.env)]:=by rfl):PI X (.Tuple elts x1 tpos) (.Call (.Name "enumerate" p) [a] [] pos) (aEL X.K ta):=by
 intro pins s σ H R I h;refine Call_ (sX I hg hm boot_enumerate (Y1 (thn (ha pos pins s σ H _ I h) fun us s1 ⟨vs,H1,I1,r1,q1⟩=>?_) hs rfl));obtain⟨l,e,q⟩:=q1;subst e;cases r1 with
 |cons r rr=>
  cases rr;cases (show _=Value.ref l from r)
  have fp:∀b∈[s1.heap.objs.size+1,s1.heap.objs.size],rF X pins H1 b:=fun b hb=>by
   rcases List.mem_cons.mp hb with rfl|hb
   .exact I1.fpOk (Nat.le_succ _) (I1.hok.fresh (Nat.le_succ _))
   .rw[List.mem_singleton.mp hb];exact I1.fpOk (A8 _) (I1.hok.fresh (A8 _))
  rcases q with⟨xs,hq,q⟩|⟨xs,hq,q⟩
  .obtain⟨its,rv,p,hz⟩:=I1.list hq;refine call_enumerate_list p.isList fun h' he hit hsz hk=>?_;refine wpAny_pyIter_enum he ?_;exact⟨_,_,_,_,H1,rfl,I1.kept (t':=s1.toks) hk,OA (a:=l) (Nat.succ_ne_self _),⟨⟨_,he⟩,hit⟩,fp,q⟩
  .obtain⟨its,rv,p,hz⟩:=I1.tuple hq;refine CF (show s1.heap.IsTuple l its.toArray from p) fun h' he hit hsz hk=>?_;refine wpAny_pyIter_enum he ?_;exact⟨_,_,_,_,H1,rfl,I1.kept (t':=s1.toks) hk,NK (a:=l) (Nat.succ_ne_self _),⟨⟨_,he⟩,hit⟩,fp,q⟩
end
noncomputable def zA(ds:List PyData):List CD:=ds.zipIdx.map fun p=>.d (.tuple [.int (p.2:Nat),p.1])
noncomputable def wZ(f:AF):AF:=fun γ M=>(f γ M).bind fun r=>match r.1 with
 |[.d x]=>(bZ x).bind fun ds=>some (zA ds,r.2)
 |_=>none
theorem TM{ds:List PyData}{i:Nat}{x:CD}(h:(zA ds)[i]?=some x):∃d,ds[i]?=some d/\x=.d (.tuple [.int (i:Nat),d]):=by
 unfold zA at h;rw[D2,List.getElem?_zipIdx]at h;cases e:ds[i]? with
 |none=>rw[e]at h;cases h
 |some d=>
  rw[e]at h;exact⟨d,rfl,by simpa using h.symm⟩
theorem aCY{K:Fg}{tA:TA}{fa:AF}(b:SA K tA fa):SI K (aEL K tA) (wZ fa):=by
 intro γ M xs M' hh W H σ R G Rs k;obtain⟨⟨ys,M1⟩,h1,hh⟩:=aJ hh;refine b _ _ _ _ h1 W H σ _ G Rs fun vs W1 H1 e1 G1 r1=>?_;revert hh;dsimp only;split
 .rename_i y;intro hh;obtain⟨ds,h2,hh⟩:=aJ hh;cases hh;cases r1 with
  |cons r r'=>
   cases r';obtain⟨p,us,rfl,hs,hr⟩:=kX (show Rep K W1.F y _ from r) h2
   have gv:∀Sq:Hp->List V->Prop,(∀W2 M2 H2,W1.Ext W2->Good K W2 M2 H2->Sq H2 us)->GW K (Ite Sq) (zA ds) W1:=fun Sq hS W2 M2 H2 e2 G2=>by
    have hq:=hS W2 M2 H2 e2 G2;refine⟨fun i x hx=>?_,us,hq,by rw[show(zA ds).length=ds.length by simp[zA],hr.length]⟩;obtain⟨d,hd,rfl⟩:=TM hx;obtain⟨u,hu,ru⟩:=Paired.get (kM hr) (show(ds.map CD.d)[i]?=some (.d d)by rw[D2,hd];rfl);refine⟨⟨us,u,hq,hu⟩,fun v H3 hy=>?_⟩;obtain⟨p',x',hn,rfl,rfl,hx'⟩:=hy;have:=hx' us hq;rw[hu]at this;cases this;obtain⟨e3,G3⟩:=G2.lay (o:=.tup [.int i,u]) hn;refine⟨_,e3,G3,⟨p',_,rfl,SqT.of aV,?_⟩⟩;exact⟨_,_,rfl,rfl,_,_,rfl,Rep.same e3.ff _ _ (show Rep K W2.F d u from(ru.up e2)),rfl⟩
   refine⟨p,rfl,?_⟩;rcases hs with hs|hs
   .exact .inl ⟨us,G1.fh.seq hs,k _ W1 H1 e1 G1 (gv _ fun W2 M2 H2 e2 G2=>G2.fh.seq (e2.ff.seq hs))⟩
   .exact .inr ⟨us,G1.fh.seqT hs,k _ W1 H1 e1 G1 (gv _ fun W2 M2 H2 e2 G2=>G2.fh.seqT (e2.ff.seqT hs))⟩
 .intro hh;cases hh
theorem QG{ι:Type}{K:Fg}{X:ι->Cx}{a:Expr}{fa:AF}{pos:Pos}{elts:List Expr}{x1:Nat}{tpos p:Pos}(hK:∀i,(X i).K=K)(hm:∀i,(X i).mg "enumerate"=none)(x:MA K X [a] fa)(hg:∀i,Gl (X i) "enumerate":=by intro _;rfl):MI K X (.Tuple elts x1 tpos) (.Call (.Name "enumerate" p) [a] [] pos) (wZ fa):=by
 obtain⟨t,x1',x2⟩:=x.ex;exact⟨_,fun i=>by have:=aDH (elts:=elts) (x1:=x1) (tpos:=tpos) (p:=p) (pos:=pos) (hg i) (hm i) (x1' i) (x.st.1 _);rw[hK i]at this;exact this,aCY x2⟩
end L2
namespace PySem
open PySem.Calls PyProof.Rows
noncomputable abbrev sP(x:Value)(f:Bool)(d:Addr)(i n ep:Nat)(p q:Value):Obj:=
 { cls:=.type "dict_itemiterator",dict:=none,data:=.fields #[x,.bool f,.ref d,.int i 0,.int n 0,.int ep 0,p,q],slots:=#[] }
noncomputable abbrev duo(e:DictEntry):Obj:={ cls:=.type "tuple",data:=.seq #[e.key,e.val] }
noncomputable def DX(h:Heap)(it d:Addr)(i n ep:Nat):Prop:=
 ∃x f p q,h.get? it=some (sP x f d i n ep p q)/\(x=.none\/∃a o,x=rawInt (a:Nat)/\h.get? a=some o)
noncomputable def Raw(h:Heap)(d:Addr)(es:Array DictEntry)(ep:Nat):Prop:=∃o,h.get? d=some o/\o.data=.dict es ep
theorem Raw.to{h h':Heap}{d:Addr}{es:Array DictEntry}{ep:Nat}(r:Raw h d es ep)(k:∀o,h.get? d=some o->h'.get? d=some o):Raw h' d es ep:=let⟨o,e,x⟩:=r;⟨o,k o e,x⟩
section
variable{prog:Program}{w:World}{A:Around}{E:Value->Shared->Prop}{s:Shared}{it d v:Addr}{es:Array DictEntry}{i n ep:Nat}
theorem LY(d:Addr)(hd:(d==sysModules)=false):MeetsIn prog w (Builtin.«dict.items» ⟨[.ref d],[]⟩) fun _ R s=>s.TypeIs (.ref d) "dict" /\
 R (.ok (.ret (.ref s.heap.objs.size))) { s with heap:=s.heap.push { cls:=.type "dict_items",data:=.fields #[.ref d] } }:=
 .of_wp fun A R s ⟨ty,h⟩=>by
  have q:Builtin.Dict.showsAll d=pure ():=by unfold Builtin.Dict.showsAll;rw[hd];rfl
  show wpAny _ _ (Builtin.Dict.noArgs _ _ >>= fun _=>_) _ _ s;unfold Builtin.Dict.noArgs;refine A0 (A0 (wpAny_notOrdered_dict ty (A6 (?_:wpAny _ _ (Builtin.Dict.showsAll d >>= _) _ _ s))));rw[q];exact A0 (A6 (A0 (D1 (A6 ⟨_,rfl,h⟩))))
theorem OJ{Q:Value->Shared->Prop}(hv:s.heap.IsItemsView v d)(r:Raw s.heap d es ep)
 (h:Q (.ref s.heap.objs.size) { s with heap:=s.heap.push (sP .none false d 0 es.size ep .none .none) }):wpAny (model prog w) A (pyIter (.ref v)) Q E s:=by
 obtain⟨ov,v1,v2,v3⟩:=id hv;obtain⟨o,r1,r2⟩:=r;refine wpAny_pyIter_slot hv.typeIs F.slot_dict_items_iter (J4 F.slot_dict_items_iter hv.typeIs F.entry_dict_items_iter (A0 (A6 (A0 (?_:wpAny _ _ (field (.ref v) 0 >>= _) _ _ s)))) (F.args_dict_items_iter_1 _));refine A0 (E2 v1 v3 (x:=.ref d) rfl (A6 (A0 (?_:wpAny _ _ (Builtin.Dict_items.newIterator _ d) _ _ s))));refine A0 (wpAny_dictEntries r1 r2 (A0 (wpAny_dictEpoch r1 r2 ?_)));rw[show Builtin.Dict_items.ownsTuple "dict_itemiterator"=true from by decide];refine D1 (A6 ⟨_,rfl,_,_,⟨_,B3 _ rfl,rfl⟩,F.slot_dict_itemiterator_next.lookup,?_⟩) (by simp[sizeOk,Builtin.Dict_items.ownedTupleFields,sizeLine_eq]);exact h
theorem ZQ{e:DictEntry}{Q:Value->Shared->Prop}(st:DX s.heap it d i n ep)
 (h:∀h',DX h' it d i n ep->h'.get? s.heap.objs.size=some (duo e)->(∀b o,b≠it->s.heap.get? b=some o->h'.get? b=some o)->Q (.ref s.heap.objs.size) { s with heap:=h' }):
 wpAny (model prog w) A (Builtin.Dict_items.pairFromOwner (.ref it) 6 e.key e.val) Q E s:=by
 obtain⟨H,g,dr,tk,os⟩:=s;obtain⟨x,f,p,q,w0,hx⟩:=st;have lt:it<H.objs.size:=A9 w0;have new:(H.push (duo e)).get? H.objs.size=some (duo e):=B3 _ rfl;have old:∀b o,H.get? b=some o->(H.push (duo e)).get? b=some o:=fun b o=>A3 _;refine A0 (wpAny_newTuple ?_);show wpAny _ _ (Builtin.Dict_items.ownedTupleIsFree (.ref it) >>= _) _ _ ⟨H.push (duo e),g,dr,tk,os⟩;generalize H.push (duo e)=G at new old ⊢;have w1:=old it _ w0
 have fin:∀h' x' f' p' q',h'.get? it=some (sP x' f' d i n ep p' q')->(x'=.none\/∃a o,x'=rawInt (a:Nat)/\G.get? a=some o)->Heap.SameBut it G h'->Q (.ref H.objs.size) ⟨h',g,dr,tk,os⟩:=by
  intro h' x' f' p' q' k1 k2 k3;refine h h' ⟨x',f',p',q',k1,k2.imp id ?_⟩ (k3.extBut _ _ (F9 lt) new) fun b o nb e=>k3.extBut b o nb (old b o e);rintro⟨a,o,ea,eo⟩;by_cases c:a=it
  .exact⟨a,_,ea,c▸k1⟩
  .exact⟨a,o,ea,k3.extBut a o c eo⟩
 unfold Builtin.Dict_items.ownedTupleIsFree;refine A0 (A0 (E2 w1 rfl (x:=x) rfl ?_));rcases hx with rfl|⟨a,o,rfl,ea⟩
 .refine A6 (A0 (E2 w1 rfl (x:=p) rfl (A0 (E2 w1 rfl (x:=q) rfl (A0 (S0 w1 (by simp) fun h1 w2 k2=>?_))))));refine A0 (S0 w2 (by simp) fun h2 w3 k3=>A0 (S0 w3 (by simp) fun h3 w4 k4=>A0 (S0 w4 (by simp) fun h4 w5 k5=>?_)));exact A0 (wpAny_letGo (A6 (fin h4 _ _ _ _ w5 (.inr ⟨_,_,rfl,new⟩) (((k2.trans k3).trans k4).trans k5))))
 .have al:(loadIfAlive ((a:Int).toNat):Sem (Option Obj))=loadIfAlive a:=by rw[O8]
  show wpAny _ _ (loadIfAlive ((a:Int).toNat) >>= _) _ _ _;rw[al];refine A0 (W.kdx_alive (old a o ea) ?_);show wpAny _ _ (field (.ref it) 1 >>= _) _ _ _;refine A0 (E2 w1 rfl (x:=.bool f) rfl ?_);cases f
  .exact A0 (S0 w1 (by simp) fun h1 w2 k2=>A6 (A6 (fin h1 _ _ _ _ w2 (.inr ⟨a,o,rfl,old a o ea⟩) k2)))
  .exact A6 (A6 (fin G _ _ _ _ w1 (.inr ⟨a,o,rfl,old a o ea⟩) (Heap.SameBut.refl _ _)))
theorem NT{Q:Option Value->Shared->Prop}(hh:A.handled=none)(st:DX s.heap it d i es.size ep)(r:Raw s.heap d es ep)(ne:d≠it)
 (h1:∀e,es[i]?=some e->∀h',DX h' it d (i+1) es.size ep->h'.get? s.heap.objs.size=some (duo e)->(∀b o,b≠it->s.heap.get? b=some o->h'.get? b=some o)->Q (some (.ref s.heap.objs.size)) { s with heap:=h' })
 (h2:es[i]?=none->∀h',Heap.ExtBut it s.heap h'->Q none { s with heap:=h' }):wpAny (model prog w) A (pyNext (.ref it)) Q E s:=by
 obtain⟨H,g,dr,tk,os⟩:=s;obtain⟨x,f,p,q,w0,hx⟩:=st;obtain⟨od,r1,r2⟩:=r;have ty:Shared.TypeIs ⟨H,g,dr,tk,os⟩ (.ref it) "dict_itemiterator":=⟨_,w0,rfl⟩;have own:Builtin.Dict_items.ownsTuple "dict_itemiterator"=true:=by decide
 unfold pyNext;refine A0 (wpAny_attempt (J7 ty F.slot_dict_itemiterator_next (J4 F.slot_dict_itemiterator_next ty F.entry_dict_itemiterator_next (A0 (A6 (A0 (A0 ?_)))) (F.args_dict_itemiterator_next_1 _))));refine A0 (Y2 ty (A6 (A0 (wpAny_fieldsOf w0 rfl ?_))));rw[own];refine A0 (A6 (A0 (wpAny_dictEntries r1 r2 ?_)));rw[A5 (by simp)];refine A0 (A6 (A0 (wpAny_dictEpoch r1 r2 ?_)));rw[A5 (by simp)];refine A6 ?_;have pl:(if (i:Int)<0 then none else es[(i:Int).toNat]?)=es[i]?:=by rw[A5 (by omega),O8]
 simp only[pl];cases c:es[i]? with
 |some e=>
  refine A0 (A0 (Y2 ty (A6 (A0 (wpAny_isOneOf_itemiter ty ?_)))));refine A0 (S0 w0 (k:=3) (x:=rawInt ((i:Int)+1)) (by simp) fun h' w1 k1=>A0 (E9 ?_))
  have st1:DX h' it d (i+1) es.size ep:=by
   refine⟨x,f,p,q,w1,hx.imp id fun⟨a,o,ea,eo⟩=>?_⟩;by_cases c:a=it
   .exact⟨a,_,ea,c▸w1⟩
   .exact⟨a,o,ea,k1.extBut a o c eo⟩
  have ty1:Shared.TypeIs ⟨h',g,dr,tk,os⟩ (.ref it) "dict_itemiterator":=⟨_,w1,rfl⟩;refine A0 (wpAny_isOneOf_itemiter ty1 (A0 (wpAny_isOneOf_itemiter ty1 (ZQ (e:=e) st1 fun h'' st2 t2 k2=>?_))));have sz:h'.objs.size=H.objs.size:=k1.1;refine A6 ⟨_,rfl,A6 ?_⟩;rw[sz]at t2 ⊢;exact h1 e c h'' st2 t2 fun b o nb eb=>k2 b o nb (k1.extBut b o nb eb)
 |none=>
  refine A0 (A0 (Y2 ty (A6 (A0 (O7 w0 (i:=2) (x:=.none) rfl (by simp) (A0 ?_))))));simp only[newExc,newTuple];refine A0 (D1 (A0 (m:=firstArgMember _ _) (wpAny_of_eq (a:=Value.none) (by simp only[firstArgMember];rfl) (D1 ?_ (by size_fits)))) (by size_fits));simp only[raiseNew];refine A0 (wpAny_handled ?_);rw[show A.in1.handled=none from hh];refine A0 (A6 (wpAny_throw ?_));refine A0 (wpAny_isInstance (b:=true) (T:="StopIteration") ⟨_,B3 _ rfl,rfl⟩ isSubtype_stop ?_);exact A6 (h2 c _ (((U2 ..).extBut.push _).push _))
end
structure Handed(es:Array DictEntry)(lo:Addr)(h:Heap)(as:List Addr):Prop where
 rise:as.Pairwise (·<·)
 above:∀a∈as,lo<a
 duos:∀(j:Nat)(a:Addr),as[j]?=some a->∃e,es[j]?=some e/\h.get? a=some (duo e)
theorem Handed.to{es:Array DictEntry}{lo lo':Addr}{h h':Heap}{as:List Addr}(g:Handed es lo h as)(l:lo'<=lo)(k:∀a o,lo<a->h.get? a=some o->h'.get? a=some o):Handed es lo' h' as:=
 ⟨g.rise,fun a ha=>Nat.lt_of_le_of_lt l (g.above a ha),fun j a ha=>let⟨e,x,y⟩:=g.duos j a ha;⟨e,x,k a _ (g.above a (S2 ha)) y⟩⟩
theorem Handed.more{es:Array DictEntry}{lo a:Addr}{h:Heap}{as:List Addr}{e:DictEntry}(g:Handed es lo h as)(up:∀b∈as,b<a)(hl:lo<a)(he:es[as.length]?=some e)(ha:h.get? a=some (duo e)):Handed es lo h (as++[a]):=by
 refine⟨List.pairwise_append.mpr ⟨g.rise,List.pairwise_singleton _ _,fun b hb c hc=>by rw[List.mem_singleton.mp hc];exact up b hb⟩,fun b hb=>?_,fun j b hj=>?_⟩
 .exact(List.mem_append.mp hb).elim (g.above b) fun q=>List.mem_singleton.mp q▸hl
 .rw[List.getElem?_append]at hj;split at hj
  .exact g.duos j b hj
  .have z:j-as.length=0:=by
    have:=(List.getElem?_eq_some_iff.mp hj).1;simp at this;omega
   rw[z]at hj;cases hj;exact⟨e,by rw[show j=as.length by omega];exact he,ha⟩
noncomputable abbrev rowOf(acc:Array Value)(c:Nat):Obj:={ cls:=.type "list",dict:=none,data:=.seq acc c,slots:=#[] }
section
variable{prog:Program}{w:World}{A:Around}{E:Value->Shared->Prop}{s:Shared}{S I d v:Addr}{es:Array DictEntry}{ep:Nat}{R:Result->Shared->Prop}{res:Value}
theorem OT(hh:A.handled=none)(hI:S<I)(dS:d≠S)(dI:d≠I)(hn:es.size<=sizeLine):
 ∀(m i:Nat)(h:Heap)(tk c:Nat)(acc:Array Value)(as:List Addr),i+m=es.size->DX h I d i es.size ep->Raw h d es ep->h.get? S=some (rowOf acc c)->acc.toList=as.map Value.ref->as.length=i->Handed es I h as->I<h.objs.size->
  (∀h' tk acc c as,(∀b o,b≠S->b≠I->h.get? b=some o->h'.get? b=some o)->h'.get? S=some (rowOf acc c)->as.length=es.size->Handed es I h' as->acc.toList=as.map Value.ref->R (.ok (.ret res)) { s with heap:=h',toks:=tk })->
  codeAny (model prog w) A (.builtin "list.extend.loop" ⟨[.ref S,.ref I,res],[]⟩) R { s with heap:=h,toks:=tk }:=by
 intro m
 induction m using Nat.strongRecOn with
 |_ m ih=>
  intro i h tk c acc as em st r hS ea el hG lI fin;have nS:S≠I:=B5 hI;refine codeAny_builtin PySem.F.entry_extend_loop ?_;rw[Around.under_plainId S8 _];refine A0 (NT (A:=A.in1) (s:={ s with heap:=h,toks:=tk }) hh st r dI (fun e he h1 st1 t1 k1=>?_) fun he h1 k1=>?_)
  .have mi:i<es.size:=(Array.getElem?_eq_some_iff.mp he).1;have za:acc.size=i:=by rw[<- L8,ea,A2,el]
   have lS:S<h.objs.size:=A9 hS;have hS1:=k1 S _ nS hS;have sv:∀b o,b≠S->h1.get? b=some o->(h1.update S (Obj.mapSeq (·.push (Value.ref h.objs.size)))).get? b=some o:=fun b o nb e=>(D6 _ _ (F7 nb)).trans e;have hS2:=E3 (Obj.mapSeq (·.push (Value.ref h.objs.size))) hS1 rfl;have tp:=sv _ _ (F9 lS) t1;refine A0 (wpAny_updateSeq (f:=(·.push (Value.ref h.objs.size))) hS1 rfl (A6 ⟨plainId_quiet S8 _,?_⟩) (by rw[za];omega) (by show(acc.push _).size<=_;rw[Array.size_push,za];omega))
   refine ih (m-1) (by omega) (i+1) _ tk _ (acc.push (Value.ref h.objs.size)) (as++[h.objs.size]) (by omega) ?_ (r.to fun o e=>sv d o dS (k1 d o dI e)) hS2 (by rw[Array.toList_push,ea,E5];rfl) (by rw[C0,el];rfl)
    ((hG.to (A8 _) fun a o la e=>sv a o (F9 (O4 hI la)) (k1 a o (F9 la) e)).more (fun b hb=>?_) lI (by rw[el];exact he) tp) (O4 lI (A9 tp))
    fun h' tk' acc' c' as' k=>fin h' tk' acc' c' as' fun b o b1 b2 e=>k b o b1 b2 (sv b o b1 (k1 b o b2 e))
   .obtain⟨x,f,p,q,w1,hx⟩:=st1;refine⟨x,f,p,q,sv _ _ (F7 nS) w1,hx.imp id fun⟨a,o,e1,e2⟩=>?_⟩;by_cases q:a=S
    .subst q;exact⟨a,_,e1,hS2⟩
    .exact⟨a,o,e1,sv a o q e2⟩
   .obtain⟨j,hj⟩:=List.mem_iff_getElem?.mp hb;obtain⟨_,_,y⟩:=hG.duos j b hj;exact A9 y
  .have mi:es.size<=i:=Array.getElem?_eq_none_iff.mp he;exact A6 (fin h1 tk acc c as (fun b o _ b2 e=>k1 b o b2 e) (k1 S _ nS hS) (by omega) (hG.to (A8 _) fun a o la e=>k1 a o (F9 la) e) ea)
theorem TX{Q:List Value->Shared->Prop}(hh:A.handled=none)(hv:s.heap.IsItemsView v d)(r:Raw s.heap d es ep)(hn:es.size<=sizeLine)
 (hQ:∀(h':Heap)(tk:Nat)(as:List Addr),(∀b o,s.heap.get? b=some o->h'.get? b=some o)->as.length=es.size->Handed es s.heap.objs.size h' as->Q (as.map Value.ref) { s with heap:=h',toks:=tk }):
 wpAny (model prog w) A (collect (.ref v)) Q E s:=by
 obtain⟨H,g,dr,tk,os⟩:=s;have lv:v<H.objs.size:=let⟨_,ho,_⟩:=hv;A9 ho;have ld:d<H.objs.size:=let⟨_,ho,_⟩:=r;A9 ho;refine A0 (wpAny_runValue (codeAny_builtin entry_proto_collect' ?_));rw[Around.under_plainId PySem.F.plain_proto_collect _];refine A0 (m:=newList []) (D1 (A6 ⟨plainId_quiet PySem.F.plain_list_iadd _,codeAny_builtin entry_list_iadd' ?_⟩));rw[Around.under_plainId PySem.F.plain_list_iadd _];have p0:∀b o,H.get? b=some o->(H.push (rowOf #[] 0)).get? b=some o:=fun b o e=>A3 _ e;have r0:=(B3 H (o:=rowOf #[] 0) rfl);have z0:(H.push (rowOf #[] 0)).objs.size=H.objs.size+1:=O5 ..;show wpAny _ A.in1 (Builtin.List.listExtendWith (.ref H.objs.size) (.ref v) (.ref H.objs.size)) _ _ ⟨H.push (rowOf #[] 0),g,dr,tk,os⟩;generalize H.push (rowOf #[] 0)=G at p0 r0 z0 ⊢;have lG:H.objs.size<G.objs.size:=by rw[z0];exact J2 _
 have hv1:G.IsItemsView v d:=let⟨o,a,b⟩:=hv;⟨o,p0 _ _ a,b⟩;refine A0 (wpAny_typeOf (T:="dict_items") (hv1.typeIs (s:=⟨G,g,dr,tk,os⟩)) ?_);rw[show Builtin.List.listSameRef (.ref H.objs.size) (.ref v)=false from by simp[Builtin.List.listSameRef,Nat.ne_of_gt lv]];refine A0 (OJ (s:=⟨G,g,dr,tk,os⟩) hv1 (r.to fun o e=>p0 d o e) (A0 (E9 (W.kdx_hint (r:=v) (let⟨o,a,b,_⟩:=hv1;⟨o,A3 _ a,b⟩) ?_))));have p1:∀b o,G.get? b=some o->(G.push (sP .none false d 0 es.size ep .none .none)).get? b=some o:=fun b o e=>A3 _ e;have r1:=B3 G (o:=sP .none false d 0 es.size ep .none .none) rfl;show wpAny _ _ _ _ _ ⟨G.push (sP .none false d 0 es.size ep .none .none),g,dr,tk,os⟩;generalize G.push (sP .none false d 0 es.size ep .none .none)=F at p1 r1 ⊢
 have go:∀h c,(∀b o,b≠H.objs.size->F.get? b=some o->h.get? b=some o)->h.get? H.objs.size=some (rowOf #[] c)->
  codeAny (model prog w) A (.builtin "list.extend.loop" ⟨[.ref H.objs.size,.ref G.objs.size,.ref H.objs.size],[]⟩) (fun r s'=>match r with|.ok (.ret v)=>wpAny (model prog w) A (match v with|.ref a=>load a >>= fun o=>(match o.data with|.seq xs _=>pure xs.toList|_=>unsupported "internal:collect")|_=>unsupported "internal:collect") Q E s'|.ok _=>False|.error e=>E e s') ⟨h,g,dr,tk,os⟩:=fun h c k hS=>
  OT (s:=⟨H,g,dr,tk,os⟩) (S:=H.objs.size) (I:=G.objs.size) hh lG (B5 ld) (B5 (O4 ld lG)) hn es.size 0 h tk c #[] [] (Nat.zero_add _) ⟨_,_,_,_,k _ _ (F9 lG) r1,.inl rfl⟩ (r.to fun o e=>k _ _ (B5 ld) (p1 _ _ (p0 _ _ e))) hS rfl rfl
   ⟨.nil,(fun _ q=>nomatch q),fun j a q=>by simp at q⟩ (A9 (k _ _ (F9 lG) r1)) fun h' tk' acc c as k' hS' el hG ea=>A0 (wpAny_load hS' (A6 (by
    rw[ea];exact hQ h' tk' as (fun b o e=>k' b o (B5 (A9 e)) (B5 (O4 (A9 e) lG)) (k b o (B5 (A9 e)) (p1 b o (p0 b o e)))) el (hG.to (U3 lG) fun _ _ _ e=>e))))
 have q0:=p1 _ _ r0;have q1:=E3 (Obj.mapSeq (·.push Value.none)) q0 rfl;refine wpAny_ite_split (fun _=>A0 (wpAny_rule (A0 (A0 (wpAny_updateSeq (f:=(·.push Value.none)) q0 rfl (wpAny_updateSeq (hz:=by seq_fits) q1 rfl (A6 ⟨plainId_quiet S8 _,go _ _ (fun b o nb e=>?_) (E3 (Obj.mapSeq (·.pop)) q1 rfl)⟩))))))) fun _=>A6 ⟨plainId_quiet S8 _,go _ _ (fun _ _ _ e=>e) q0⟩;rw[D6 _ _ (F7 nb),D6 _ _ (F7 nb)];exact e
end
end PySem
namespace PySem
open PySem.Calls PyProof.Rows
section
variable{prog:Program}{w:World}{A:Around}{E:Value->Shared->Prop}{s:Shared}{it d:Addr}{es:Array DictEntry}{i ep:Nat}
theorem UI{Q:Value->Shared->Prop}(hd:(d==sysModules)=false)(ty:s.TypeIs (.ref d) "dict")(r:Raw s.heap d es ep)
 (h:Q (.ref s.heap.objs.size) { s with heap:=s.heap.push { cls:=.type "dict_keyiterator",data:=.fields #[.ref d,.int 0 0,.int es.size 0,.int ep 0] } }):wpAny (model prog w) A (pyIter (.ref d)) Q E s:=by
 obtain⟨o,r1,r2⟩:=r;have q:Builtin.Dict.showsAll d=pure ():=by unfold Builtin.Dict.showsAll;rw[hd];rfl
 refine wpAny_pyIter_slot ty F.slot_dict_iter (J4 F.slot_dict_iter ty F.entry_dict_iter (A0 (A0 (wpAny_notOrdered_dict ty (A6 (?_:wpAny _ _ (Builtin.Dict.showsAll d >>= _) _ _ s))))) (F.args_dict_iter_1 _));rw[q];refine A0 (A6 (A0 (wpAny_dictEntries r1 r2 (A0 (wpAny_dictEpoch r1 r2 (A0 (D1 (A6 ⟨_,rfl,_,_,⟨_,B3 _ rfl,rfl⟩,F.slot_dict_keyiterator_next.lookup,?_⟩))))))));exact h
theorem DD{Q:Option Value->Shared->Prop}(hh:A.handled=none)(st:s.heap.IsKeyIter it d i es.size ep)(r:Raw s.heap d es ep)
 (h1:∀e,es[i]?=some e->∀h',h'.IsKeyIter it d (i+1) es.size ep->Heap.SameBut it s.heap h'->Q (some e.key) { s with heap:=h' })
 (h2:es[i]?=none->∀h',Heap.ExtBut it s.heap h'->Q none { s with heap:=h' }):wpAny (model prog w) A (pyNext (.ref it)) Q E s:=by
 obtain⟨o,w0,c0,f0⟩:=id st;obtain⟨od,r1,r2⟩:=r;have ty:=st.typeIs;have own:Builtin.Dict_items.ownsTuple "dict_keyiterator"=false:=by decide
 unfold pyNext;refine A0 (wpAny_attempt (J7 ty F.slot_dict_keyiterator_next (J4 F.slot_dict_keyiterator_next ty F.entry_dict_keyiterator_next (A0 (A6 (A0 (A0 ?_)))) (F.args_dict_keyiterator_next_1 _))));refine A0 (Y6 ty (A6 (A0 (wpAny_fieldsOf w0 f0 ?_))));rw[own];refine A0 (A6 (A0 (wpAny_dictEntries r1 r2 ?_)));rw[A5 (by simp)];refine A0 (A6 (A0 (wpAny_dictEpoch r1 r2 ?_)));rw[A5 (by simp)];refine A6 ?_;have pl:(if (i:Int)<0 then none else es[(i:Int).toNat]?)=es[i]?:=by rw[A5 (by omega),O8]
 simp only[pl];cases c:es[i]? with
 |some e=>
  refine A0 (A0 (Y6 ty (A6 (A0 (wpAny_isOneOf_keyiter ty ?_)))));refine A0 (O7 w0 (i:=1) (x:=rawInt ((i:Int)+1)) f0 (by simp) ?_)
  have st1:(s.heap.update it (Obj.mapFields (·.setIfInBounds 1 (rawInt ((i:Int)+1))))).IsKeyIter it d (i+1) es.size ep:=
   ⟨_,E3 _ w0 (U9 (J6 f0 _)),(Obj.cls_mapFields ..).trans c0,by rw[J6 f0];simp[rawInt]⟩
  refine A0 (E9 (A0 (wpAny_isOneOf_keyiter (s:={ s with heap:=s.heap.update it (Obj.mapFields (·.setIfInBounds 1 (rawInt ((i:Int)+1)))) }) st1.typeIs ?_)));exact A6 (A6 ⟨_,rfl,A6 (h1 e c _ st1 (U2 ..))⟩)
 |none=>
  refine A0 (A0 (Y6 ty (A6 (A0 (O7 w0 (i:=0) (x:=.none) f0 (by simp) (A0 ?_))))));simp only[newExc,newTuple];refine A0 (D1 (A0 (m:=firstArgMember _ _) (wpAny_of_eq (a:=Value.none) (by simp only[firstArgMember];rfl) (D1 ?_ (by size_fits)))) (by size_fits));simp only[raiseNew];refine A0 (wpAny_handled ?_);rw[show A.in1.handled=none from hh];refine A0 (A6 (wpAny_throw ?_));refine A0 (wpAny_isInstance (b:=true) (T:="StopIteration") ⟨_,B3 _ rfl,rfl⟩ isSubtype_stop ?_);exact A6 (h2 c _ (((U2 ..).extBut.push _).push _))
theorem FV{h h':Heap}{it d:Addr}{i n ep:Nat}(x:h.IsKeyIter it d i n ep)(k:∀o,h.get? it=some o->h'.get? it=some o):h'.IsKeyIter it d i n ep:=let⟨o,ho,r⟩:=x;⟨o,k o ho,r⟩
theorem SW(hh:A.handled=none)(ne:d≠it):
 Walks prog w A it [it,d] [it] es.size (fun i v=>(es[i]?).map (·.key)=some v) (fun i h=>h.IsKeyIter it d i es.size ep/\Raw h d es ep) where
 sub:=fun b hb=>by simp at hb;simp[hb]
 frame:=fun _ _ _ st hk=>⟨FV st.1 fun o e=>hk it (by simp) o e,st.2.to fun o e=>hk d (by simp) o e⟩
 item:=fun i s Q E hi st hQ=>by
  have hx:es[i]?=some es[i]:=Array.getElem?_eq_getElem hi;refine DD hh st.1 st.2 (fun e he h' st' sb=>?_) fun hn=>by rw[hx]at hn;cases hn
  exact hQ _ h' s.toks (by rw[he];rfl) ⟨st',st.2.to fun o e=>sb.extBut d o ne e⟩ fun b o hb e=>sb.extBut b o (fun h=>hb (by simp[h])) e
 done:=fun s Q E st hQ=>by
  have hx:es[es.size]?=none:=Array.getElem?_eq_none (A8 _);refine DD hh st.1 st.2 (fun e he=>by rw[hx]at he;cases he) fun _ h' sb=>hQ h' s.toks fun b o hb e=>sb b o (fun h=>hb (by simp[h])) e
 self:=fun _ _ _ _ st hQ=>wpAny_pyIter_keyiter st.1 hQ
theorem XM{o:Obj}(hd:(d==sysModules)=false)(cl:o.cls=.type "dict")(dt:o.data=.dict es ep):PySem.W.KdlSrc prog w "dict" d d es.size (fun i v=>(es[i]?).map (·.key)=some v) (fun h=>h.get? d=some o) where
 type:=fun s ho=>⟨o,ho,cl⟩
 there:=fun h ho=>⟨A9 ho,A9 ho⟩
 keep:=fun h h' ho k=>k d (.inl rfl) o ho
 notList:=by decide
 notTuple:=by decide
 hint:=fun A E s Q ho q=>PySem.W.kdl_hint_dict ⟨o,ho,cl⟩ q
 iter:=fun A s hh ho=>⟨_,fun i h=>h.IsKeyIter s.heap.objs.size d i es.size ep/\Raw h d es ep,(fun E Q q=>UI hd ⟨o,ho,cl⟩ ⟨o,ho,dt⟩ q),SW hh (B5 (A9 ho)),⟨_,B3 _ rfl,rfl,rfl⟩,o,A3 _ ho,dt⟩
end
end PySem
namespace PySem.W
open PySem PySem.Calls PyProof.Rows PyProof.V PySem.Spec
section
variable{prog:Program}{w:World}{A:Around}{E:Value->Shared->Prop}{s:Shared}{h₀:Heap}{L:Addr}{m:Str->Option Value}{news:List (Addr×Obj)}{vs:List Value}
theorem l2_tail{Q:Value->Shared->Prop}(F:Fr h₀ L s.heap m)(N:News h₀ L s.heap news)(h2:2<=vs.length)(h64:vs.length<64)
 (h:∀D e1 h',Fr h₀ L h' m->News h₀ L h' ((D,seqObj "list" #[] e1)::news)->(∀q∈news,q.1<D)->
  wpAny (model prog w) A.in1 (keyKind' vs.toArray) (fun κ s'=>(kas_sort vs.length).kasWp (kas_ask prog w A.in1 κ vs) (fun p s''=>KasFin h₀ L m D e1 (p.toList.map fun i=>vs.getD i Value.none) (fun s3=>Q (.ref D) s3) s'') s') (fun _ _=>False) { s with heap:=h' }):
 wpAny (model prog w) A (do let l <- newList vs;let _ <- holding [l] (call (.builtin "list.sort") [l]);ret l) (fun fin s'=>∃v,fin=.done (.ret v)/\Q v s') E s:=by
 refine A0 (wpAny_newList ?_ (by rw[F0];omega));have hoL:(s.heap.push (seqObj "list" vs.toArray 0)).get? s.heap.objs.size=some (seqObj "list" vs.toArray 0):=B3 _ rfl;have keep:∀b o,s.heap.get? b=some o->(s.heap.push (seqObj "list" vs.toArray 0)).get? b=some o:=fun b o q=>A3 _ q;have hL:L<s.heap.objs.size:=F.ns.lt;show wpAny _ _ _ _ _ { s with heap:=s.heap.push (seqObj "list" vs.toArray 0) };refine A0 (E9 (J4 slot_list_sort ⟨_,hoL,rfl⟩ entry_list_sort ?body (args_list_sort _)))
 case body=>
  refine kat_list_sort (s:={ s with heap:=s.heap.push (seqObj "list" vs.toArray 0) }) (F.kept keep) (N.grown keep) hoL (F9 hL) (S9 (C9 F.above (U3 hL)))
   (fun p hp=>B5 (A9 (N p hp).1)) h2 h64 fun e1 h' F' N'=>?_
  refine D5 (h _ e1 h' F' N' fun q hq=>A9 (N q hq).1) (fun κ s' hk=>?_) fun _ _ x=>x;rw[kat_ask_eq rfl]at hk ⊢;exact kas_wp_mono hk fun p s'' hk'=>hk'.mono fun s3 hq=>⟨_,rfl,A6 ⟨_,rfl,hq⟩⟩
end
end PySem.W
namespace L2
variable{A:Around}
open PySem PySem.Spec PyProof.Rows
section
variable{X:Cx}{pins:List (Addr×Obj)}{σ:St}{H:Hp}{s:Shared}{E:Value->Shared->Prop}
noncomputable def pE(its:List Value):Sem PySem.Fin:=do let l <- newList its;let _ <- holding [l] (call (.builtin "list.sort") [l]);ret l
noncomputable def NR(K:Fg)(vs:List V)(H:Hp)(Q:VK):Prop:=
 (∃rows:List (List PyData),aL K H (rows.map .tuple) vs/\2<=rows.length/\rows.length<64/\(∀r∈rows,r.all SeqAt.shaped=true/\dC r=true)/\(lX rows=true\/pZ rows=true)/\(∀i j,i<rows.length->j<rows.length->(dH (rows.getD i []) (rows.getD j [])).isSome=true) /\
  ∀l,H l=none->Q (.ref l) (upd H l (.lst ((dW (fV rows) rows.length).map fun i=>vs.getD i .non))))\/(vs.length<2/\∀l,H l=none->Q (.ref l) (upd H l (.lst vs)))
theorem aHh{rows:List (List PyData)}{vs:List V}{its:List Value}{Q:VK}(hu:A.in1.units+64<cLine)(I:Inv X pins σ H s)(rv:bF vs its)(hrep:aL X.K H (rows.map .tuple) vs)(h2:2<=rows.length)(h64:rows.length<64)
 (hsh:∀r∈rows,r.all SeqAt.shaped=true/\dC r=true) (hknd:lX rows=true\/pZ rows=true) (hlt:∀i j,i<rows.length->j<rows.length->(dH (rows.getD i []) (rows.getD j [])).isSome=true)
 (q:∀l,H l=none->Q (.ref l) (upd H l (.lst ((dW (fV rows) rows.length).map fun i=>vs.getD i .non)))):
 wpAny (model X.prog X.w) A (pE its) (fun fin s'=>∃v,fin=.done (.ret v)/\∃x H',Inv X pins σ H' s'/\RelV x v/\Q x H') E s:=by
 obtain⟨as,hr⟩:=aL.reads I _ vs its hrep rv;have hlen:its.length=rows.length:=by rw[ReadsAll.len hr,A2]
 obtain⟨m,F⟩:=I.fr;have N:News X.base X.env.locals s.heap (qY X.base s.heap X.env.locals):=aAG;unfold pE;refine PySem.W.l2_tail (Q:=fun v s'=>∃x H',Inv X pins σ H' s'/\RelV x v/\Q x H') F N (by omega) (by omega) fun D e1 h' F' N' hD=>?_
 have kp:∀(h1:Heap),Fr X.base X.env.locals h1 m->(∀q∈qY X.base s.heap X.env.locals,h1.get? q.1=some q.2)->∀b o,b≠X.env.locals->s.heap.get? b=some o->h1.get? b=some o:=fun h1 G1 M1 b o hb e=>by
  cases z:X.base.get? b with
  |some v=>
   have:=I.bk b v z;rw[e]at this;cases this;exact G1.keep b _ z
  |none=>exact M1 (b,o) (wC hb z e)
 have k':=kp h' F' (fun q hq=>(N' q (B1 _ hq)).1)
 have hsz:s.heap.get? D=none:=by
  have hN:=N' _ B0;cases e:s.heap.get? D with
  |none=>rfl
  |some o=>exact absurd (hD (D,o) (wC hN.2.1 hN.2.2 e)) (J3 _)
 have seqL:∀b o vs n,s.heap.get? b=some o->o.data=.seq vs n->b≠X.env.locals:=fun b o vs n e d z=>by
  obtain⟨o',es,ep,x1,x2,_⟩:=F.ns;subst z;rw[e]at x1;cases x1;rw[d]at x2;cases x2
 have onl:dC (rows.map .tuple)=true:=by
  clear hrep hr hlen q hknd hlt h2 h64
  induction rows with
  |nil=>rfl
  |cons x r ih=>
   show(dC x&&dC (r.map .tuple))=true;rw[(hsh x B0).2,ih fun y hy=>hsh y (B1 _ hy)];rfl
 have hr':ReadsAll h' its (rows.map .tuple) as:=ZS (fun b o vs n e d=>k' b o (seqL b o vs n e d) e) _ _ _ onl hr;refine TB (s:={ s with heap:=h' }) hr' (by omega) hknd ?_;rw[hlen];refine KS.wp (lt:=fV rows) (n:=rows.length) (fun i j C hi hj c=>?_) (fun p hp'=>?_) ((RR (by omega)).ks (lt:=fV rows))
 .have at_:∀i,i<rows.length->∃bs,Reads h' (its.getD i .none) (.tuple (rows.getD i [])) bs:=fun i hi=>by
   obtain⟨bs,x⟩:=ReadsAll.at i hr' (by simpa using hi)
   have:(rows.map PyData.tuple).getD i .none=.tuple (rows.getD i []):=by
    rw[C6,D2,C6,B9 hi];rfl
   rw[this]at x;exact⟨bs,x⟩
  obtain⟨b1,r1⟩:=at_ i hi;obtain⟨b2,r2⟩:=at_ j hj
  have mem:∀i,i<rows.length->rows.getD i []∈rows:=fun i hi=>by
   rw[C6,B9 hi];exact S4 hi
  have hd:lX rows=true->∀r∈rows,r.head?.all isI=true:=fun z r hr=>by
   unfold lX at z;have:=List.all_eq_true.mp z r hr;cases r with
   |nil=>rfl
   |cons d ds=>cases d<;>first|rfl|exact absurd this (by intro z;cases z)
  obtain⟨c0,hc0⟩:=Option.isSome_iff_exists.mp (hlt i j hi hj);have hc:fV rows i j=c0:=by unfold fV;rw[hc0];rfl
  rw[hc]at c;exact aFg (s:={ s with heap:=h' }) hu r1 r2 (hsh _ (mem i hi)).1 (hsh _ (mem j hj)).1 hc0 (fun z=>⟨hd z _ (mem i hi),hd z _ (mem j hj)⟩) c
 .obtain⟨e,_⟩:=hp';subst e;refine PySem.W.KasFin.intro F' N' (.head fun q hq=>B5 (hD q hq)) fun h'' c F'' N''=>?_;have k'':=kp h'' F'' (fun q hq=>(N'' q (B1 _ hq)).1);refine⟨.ref D,upd H D (.lst ((dW (fV rows) rows.length).map fun i=>vs.getD i .non)),?_,rfl,q D (I.hok.none hsz)⟩;refine I.laidL k'' (fun m' hm'=>?_) hsz ⟨?_,_,c,CP rv _,(N'' _ B0).1⟩
  .rw[<- aCW F.ns hm'];exact F''.ns
  .rw[A2,(qU (fV rows) (by omega)).length_eq,List.length_range];have:64<=sizeLine:=by decide
   omega
theorem aHc{A:Around}{vs:List V}{its:List Value}{Q:VK}(I:Inv X pins σ H s)(rv:bF vs its)(h2:vs.length<2)(q:∀l,H l=none->Q (.ref l) (upd H l (.lst vs))):
 wpAny (model X.prog X.w) A (pE its) (fun fin s'=>∃v,fin=.done (.ret v)/\∃x H',Inv X pins σ H' s'/\RelV x v/\Q x H') E s:=by
 have hl:=rv.length;have hz:its.length<=sizeLine:=by rw[F0];omega
 unfold pE;refine A0 (wpAny_newList ?_ hz);refine A0 (E9 ?_);have gD:(s.heap.push { cls:=.type "list",data:=.seq its.toArray }).get? s.heap.objs.size=some (seqObj "list" its.toArray 0):=B3 _ rfl;refine J4 slot_list_sort ⟨_,gD,rfl⟩ entry_list_sort (xO gD (by omega) ⟨_,rfl,?_⟩) (args_list_sort _)
 obtain⟨c,gg⟩:∃c,(sortedHeap (s.heap.push { cls:=.type "list",data:=.seq its.toArray }) s.heap.objs.size its its.toArray).get? s.heap.objs.size=some (seqObj "list" its.toArray c):=by
  unfold sortedHeap;have g1:=get?_update_seq gD (fun _=>#[]);have g2:=A3 (seqObj "tuple" its.toArray 0) g1;have g3:=A3 (seqObj "list" #[] 0) g2;exact⟨_,get?_update_seq g3 (fun _=>its.toArray)⟩
 refine A6 ⟨_,rfl,.ref s.heap.objs.size,upd H s.heap.objs.size (.lst vs),I.laid (t':=s.toks) (fun b o e=>?_) (A8 _) ⟨by omega,its,c,rv,gg⟩,rfl,q _ (I.hok.fresh (A8 _))⟩
 .have hb:b≠s.heap.objs.size:=B5 (A9 e);unfold sortedHeap;rw[Heap.get?_update_ne _ _ _ _ hb];refine A3 _ (A3 _ ?_);rw[Heap.get?_update_ne _ _ _ _ hb];exact A3 _ e
theorem XT{vs:List V}{its:List Value}{Q:VK}(hu:A.in1.units+64<cLine)(I:Inv X pins σ H s)(rv:bF vs its)(h:NR X.K vs H Q):
 wpAny (model X.prog X.w) A (pE its) (fun fin s'=>∃v,fin=.done (.ret v)/\∃x H',Inv X pins σ H' s'/\RelV x v/\Q x H') E s:=by
 rcases h with⟨rows,a,b,c,d,e,f,g⟩|⟨a,b⟩
 .exact aHh hu I rv a b c d e f g
 .exact aHc I rv a b
noncomputable def uH:List (V×V)->Hp->(List V->Hp->Prop)->Prop
 |[],H,k=>k [] H
 |(x,y)::r,H,k=>∀p,H p=none->uH r (upd H p (.tup [x,y])) fun vs H2=>k (.ref p::vs) H2
theorem Inv.trackT{e:Addr}{vs:List V}{its:List Value}{n:Nat}(I:Inv X pins σ H s)(he:s.heap.get? e=some { cls:=.type "tuple",data:=.seq its.toArray n })(rv:bF vs its)(hz:vs.length<=sizeLine)(hn:H e=none)(h0:X.s₀.heap.get? e=none)(hp:∀p∈X.pn++pins,p.1≠e):
 Inv X pins σ (upd H e (.tup vs)) s:=by
 have ne:∀b u,H b=some u->b≠e:=fun b u z=>aP z hn
 have nd:∀b (o:Obj),s.heap.get? b=some o->(∀vs n,o.data≠.seq vs n)->b≠e:=fun b o q z w=>by
  subst w;rw[he]at q;cases q;exact z _ _ rfl
 refine⟨I.ok,I.os,I.bare,⟨I.base.keep,I.base.slot,fun b o q n hx=>?_,I.base.there,fun b xs q=>?_,fun b o u q=>?_,fun b ps q=>?_⟩,I.loc,I.cell,?_,fun x c q=>?_,fun p h=>?_,fun b u q=>?_,I.len⟩
 .rw[aM (fun z=>by rw[z,h0]at q;cases q)];exact I.base.free b o q n hx
 .have:=I.base.tups b xs q;rw[aM (ne _ _ this)];exact this
 .have:=I.base.frzs b o u q;rw[aM (ne _ _ this)];exact this
 .obtain⟨more,this⟩:=I.base.tbls b ps q;exact⟨more,by rw[aM (ne _ _ this)];exact this⟩
 .obtain⟨m,⟨o,es,ep,ho,hd,_⟩,_⟩:=I.loc;rw[aM (nd _ o ho fun vs n z=>by rw[hd]at z;cases z)];exact I.free
 .obtain⟨v,o,ho,hd⟩:=I.cell x c q;rw[aM (nd _ o ho fun vs n z=>by rw[hd]at z;cases z)];exact I.freeC x c q
 .obtain⟨q1,q2,q3⟩:=I.pin p h;exact⟨q1,by rw[aM (hp p h)];exact q2,q3⟩
 .by_cases hb:b=e
  .subst hb;rw[aV]at q;cases q;exact⟨hz,its,rv,⟨_,he,rfl,n,rfl⟩⟩
  .rw[aM hb]at q;exact(I.hok b u q).stay (fun _ _ _ z=>z) (fun c z=>by rw[aM (ne _ _ z)];exact z) fun c xs z=>by rw[aM (ne _ _ z)];exact z
theorem QO:∀{ps:List (V×V)}{us:List (Value×Value)}{as:List Addr}{H:Hp}{k:List V->Hp->Prop},Inv X pins σ H s->Paired (fun p q=>RelV p.1 q.1/\RelV p.2 q.2) ps us->as.length=us.length->as.Pairwise (·<·)->(∀a∈as,H a=none)->
 (∀(j:Nat)(a:Addr),as[j]?=some a->∃p,us[j]?=some p/\s.heap.get? a=some { cls:=.type "tuple",data:=.seq #[p.1,p.2] })->(∀a∈as,X.s₀.heap.get? a=none/\∀p∈X.pn++pins,p.1≠a)->uH ps H k->∃H2,Inv X pins σ H2 s/\k (as.map .ref) H2
 |[],us,as,H,k=>fun I r hl _ _ _ _ h=>by
  cases r;have:as=[]:=List.eq_nil_of_length_eq_zero hl;subst this;exact⟨H,I,h⟩
 |(x,y)::ps,us,as,H,k=>fun I r hl hp hn hg h0 h=>by
  cases r with
  |@cons _ q _ us' r1 r2=>
   match as,hl,hp,hn,hg,h0 with
   |a::as',hl,hp,hn,hg,h0=>
    obtain⟨p,e1,e2⟩:=hg 0 a rfl;have e1:some q=some p:=e1;cases e1;obtain⟨p1,p2⟩:=List.pairwise_cons.mp hp;have I1:=I.trackT (e:=a) (vs:=[x,y]) (its:=[q.1,q.2]) e2 (.cons r1.1 (.cons r1.2 .nil)) (by show 2<=sizeLine;rw[F0];decide) (hn a B0) (h0 a B0).1 (h0 a B0).2;have hl':as'.length=us'.length:=Nat.succ.inj hl;obtain⟨H2,I2,hk⟩:=QO (as:=as') (k:=fun vs H2=>k (.ref a::vs) H2) I1 r2 hl' p2 (fun b hb=>by rw[aM (F9 (p1 b hb))];exact hn b (B1 _ hb)) (fun j b hb=>hg (j+1) b hb) (fun b hb=>h0 b (B1 _ hb)) (h a (hn a B0));exact⟨H2,I2,hk⟩
noncomputable def aAM(K:Fg)(td:TE):TE:=fun σ H Q=>td σ H fun x H1=>∃a kvs,x=.ref a/\H1 a=some (.dT kvs) /\
 ∀bs:List Addr,Paired (fun(b:Addr)(kv:List Key×V)=>H1 b=some (.tup (kv.1.map kV))) bs kvs->uH ((bs.zip kvs).map fun p=>(.ref p.1,p.2.2)) H1 fun vs H2=>NR K vs H2 Q
end
section
variable{X:Cx}{o:Expr}{td:TE}{pos apos cpos p:Pos}
theorem KT.addrs{H:Hp}:∀{kvs:List (List Key×V)}{xs:List (List Key×Addr×Value)},KT H kvs xs->Paired (fun(b:Addr)(kv:List Key×V)=>H b=some (.tup (kv.1.map kV))) (xs.map fun x=>x.2.1) kvs /\
 Paired (fun(p:V×V)(q:Value×Value)=>RelV p.1 q.1/\RelV p.2 q.2) (((xs.map fun x=>x.2.1).zip kvs).map fun p=>(V.ref p.1,p.2.2)) (xs.map fun x=>(Value.ref x.2.1,x.2.2))
 |_,_,.nil=>⟨.nil,.nil⟩
 |_,_,.cons r1 r2=>⟨.cons r1.2.1 (KT.addrs r2).1,.cons ⟨rfl,r1.2.2⟩ (KT.addrs r2).2⟩
theorem WU(hu:X.A.in1.in1.units+64<cLine)(hc:X.calm=true)(hg:Gl X "sorted")(hm:X.mg "sorted"=none)(ho:PE X o td)(hb:attributeBase o "items" X.env (eval o X.env)=eval o X.env)(hline:(apos.endLine==cpos.line)=true):
 PE X (.Call (.Name "sorted" p) [.Call (.Attribute o "items" apos) [] [] cpos] [] pos) (aAM X.K td):=by
 intro pins s σ H Q I h;refine L5 (sX I hg hm boot_sorted ?_ (by decide) (by decide));refine PyProof.Rows.callWith_builtin1 ?_ rfl rfl;show wpAny _ _ (spliced ((false,eval (.Call (.Attribute o "items" apos) [] [] cpos) X.env)::[])) _ _ s;refine Calls.spliced_cons ?_;refine wpAny_Call_method (T:="dict") (id:="dict.items") hb rfl hline PySem.F.plainAttrs_dict PySem.F.slot_dict_items PySem.F.type_dict_items (thn (ho pins s σ H _ I h) fun u s1 ⟨x,H1,I1,rx,a,kvs,ex,ea,q⟩=>?_);subst ex;obtain rfl:u=Value.ref a:=rx;obtain⟨z,hs,xs,r,od,es,ep,h1,h2,h3,h4,h5⟩:=(show cF X.prog X.w H1 s1.heap a (.dT kvs)from I1.hok a _ ea);have hT:s1.TypeIs (.ref a) "dict":=⟨od,h1,h2.1⟩;refine⟨hT,fun b e=>by cases e;exact⟨od,h1,h2.2.1⟩,?_⟩;show wpAny _ _ (callWith cpos (.builtin "dict.items") [.ref a] [] []) _ _ s1;refine method_meetsIn PySem.F.slot_dict_items PySem.F.entry_dict_items rfl (PySem.evalArgs_none ⟨rfl,hT,PySem.F.args_dict_items_1 _,_,LY a hs,hT,?_⟩);refine Calls.spliced_nil ?_;have I2:Inv X pins σ H1 { s1 with heap:=s1.heap.push { cls:=.type "dict_items",data:=.fields #[.ref a] } }:=I1.kept (t':=s1.toks) fun b o e=>A3 _ e;have hv:(s1.heap.push { cls:=.type "dict_items",data:=.fields #[.ref a] }).IsItemsView s1.heap.objs.size a:=⟨_,B3 _ rfl,rfl,rfl⟩;have hat:Raw (s1.heap.push { cls:=.type "dict_items",data:=.fields #[.ref a] }) a es ep:=⟨od,A3 _ h1,h3⟩;have hzs:es.size=xs.length:=by rw[<- L8,h4,A2]
 have hl:kvs.length=xs.length:=Paired.len r;refine Calls.call_function_entry kind_sorted plain_sorted entry_sorted (args_sorted1 _) ?_;unfold Builtin.«sorted»;refine A0 (m:=checkCount "sorted" 1 1 _) (A6 ?_);refine A0 (TX (A:=X.A.in1) (I.ok.hd hc) hv hat (by rw[hzs,<- hl];exact z) fun h' tk as hk hal hG=>?_);have I3:Inv X pins σ H1 { s1 with heap:=h',toks:=tk }:=I2.kept hk;obtain⟨pk1,pk2⟩:=KT.addrs r;have hge:∀b∈as,s1.heap.objs.size<b:=fun b hb=>O4 (show s1.heap.objs.size<(s1.heap.push { cls:=.type "dict_items",data:=.fields #[.ref a] }).objs.size by rw[O5];exact J2 _) (hG.above b hb)
 obtain⟨H2,I4,hk2⟩:=QO (as:=as) (s:={ s1 with heap:=h',toks:=tk }) I3 pk2 (by rw[hal,hzs,A2]) hG.rise (fun b hb=>I1.hok.fresh (U3 (hge b hb))) (fun j b hj=>by
  obtain⟨e,e1,e2⟩:=hG.duos j b hj;refine⟨(e.key,e.val),?_,e2⟩;rw[<- J5,h4,D2]at e1;rw[D2];cases c:xs[j]?<;>rw[c]at e1<;>cases e1;rfl) (fun b hb=>⟨S9 (C9 I1.sz (U3 (hge b hb))),fun p hp=>B5 (O4 (A9 (I1.pin p hp).1) (hge b hb))⟩) (q _ pk1)
 exact XT (A:=X.A.in1) hu I4 (its:=as.map Value.ref) (by
  clear hk2 hG hal hge
  induction as with
  |nil=>exact .nil
  |cons b as ih=>exact .cons rfl ih) hk2
end
section
variable{K:Fg}{td:TE}{fo:EF}
theorem Good.adopt{W:Wd}{M:Sto}{H:Hp}{b:Addr}{us:List V}(G:Good K W M H)(hb:H b=some (.tup us)):W.Ext { W with F:=upd W.F b (.tup us) }/\Good K { W with F:=upd W.F b (.tup us) } M H:=by
 have ff:iR W.F (upd W.F b (.tup us)):=fun c o hc=>by
  by_cases q:c=b
  .subst q;have:=G.fh _ _ hc;rw[hb]at this;cases this;exact aV
  .rw[aM q];exact hc
 have e:W.Ext { W with F:=upd W.F b (.tup us) }:=⟨ff,A8 _,fun _ _=>rfl⟩;refine⟨e,fun c o hc=>?_,G.n,fun i c hi hc=>?_,G.inj⟩
 .have hc:upd W.F b (.tup us) c=some o:=hc;by_cases q:c=b
  .subst q;rw[aV]at hc;cases hc;exact hb
  .rw[aM q]at hc;exact G.fh c o hc
 .obtain⟨h1,o,h2,h3⟩:=G.cs i c hi hc
  have ne:W.α i≠b:=fun q=>by
   rw[q,hb]at h2;cases h2;cases c<;>exact False.elim h3
  exact⟨by show upd W.F b (.tup us) (W.α i)=none;rw[aM ne];exact h1,o,h2,h3.up e⟩
noncomputable def LH(kv:List Key×PyData):List PyData:=[.tuple (kv.1.map xG),kv.2]
noncomputable def EA:List (List Key×CD)->Option (List (List Key×PyData))
 |[]=>some []
 |(k,.d x)::r=>(EA r).bind fun q=>some ((k,x)::q)
 |_=>none
noncomputable def kK(rows:List (List PyData)):Option (List PyData):=if sortable rows=true then some (PL rows)else if rows.length<2 then some (rows.map .tuple)else none
noncomputable def vX(fo:EF):EF:=fun γ M=>(fo γ M).bind fun o=>match o.1 with
 |.c i=>match o.2[i]? with
  |some (.dt kvs)=>(EA kvs).bind fun ds=>(kK (ds.map LH)).bind fun r=>some (.d (.list r),o.2)
  |_=>none
 |_=>none
theorem GQ{H:Hp}:∀ks:List Key,aL K H (ks.map xG) (ks.map kV)
 |[]=>rfl
 |k::ks=>⟨_,_,rfl,by cases k<;>rfl,GQ ks⟩
theorem vY{M:Sto}{H:Hp}:∀{bs:List Addr}{kvs:List (List Key×V)}{W:Wd},Good K W M H->Paired (fun(b:Addr)(kv:List Key×V)=>H b=some (.tup (kv.1.map kV))) bs kvs->∃W',W.Ext W'/\Good K W' M H/\Paired (fun(b:Addr)(kv:List Key×V)=>W'.F b=some (.tup (kv.1.map kV))) bs kvs
 |_,_,W,G,.nil=>⟨W,.refl _,G,.nil⟩
 |_,_,W,G,.cons h1 h2=>by
  obtain⟨e1,G1⟩:=G.adopt h1;obtain⟨W2,e2,G2,p2⟩:=vY G1 h2;exact⟨W2,e1.trans e2,G2,.cons (e2.ff _ _ aV) p2⟩
theorem KO{M:Sto}:∀{bs:List Addr}{ds:List (List Key×PyData)}{kvs:List (List Key×V)}{W:Wd}{H:Hp}{k:List V->Hp->Prop},Good K W M H->Paired (fun(b:Addr)(kv:List Key×V)=>W.F b=some (.tup (kv.1.map kV))) bs kvs->Paired (fun(p:List Key×PyData)(q:List Key×V)=>p.1=q.1/\Rep K W.F p.2 q.2) ds kvs->
 (∀vs W' H',W.Ext W'->Good K W' M H'->aL K W'.F ((ds.map LH).map .tuple) vs->k vs H')->uH ((bs.zip kvs).map fun p=>(.ref p.1,p.2.2)) H k
 |_,_,_,W,H,k,G,.nil,.nil=>fun c=>c [] W H (.refl _) G rfl
 |b::bs,(ks,d)::ds,(ks',v)::kvs,W,H,k,G,.cons h1 h2,.cons q1 q2=>fun c=>by
  obtain⟨rfl,rd⟩:=(show ks=ks'/\Rep K W.F d v from q1);intro p hp;obtain⟨e1,G1⟩:=G.lay (o:=.tup [.ref b,v]) hp;refine KO G1 (Paired.mapP h2 fun _ _ r=>e1.ff _ _ r) (Paired.mapP q2 fun _ _ r=>⟨r.1,Rep.same e1.ff _ _ r.2⟩) fun vs W2 H2 e2 G2 r2=>?_;refine c _ W2 H2 (e1.trans e2) G2 ⟨_,_,rfl,⟨p,_,rfl,SqT.of (e2.ff _ _ aV),?_⟩,r2⟩;exact⟨_,_,rfl,⟨b,_,rfl,SqT.of ((e1.trans e2).ff _ _ h1),GQ ks⟩,_,_,rfl,Rep.same (e1.trans e2).ff _ _ rd,rfl⟩
theorem DN{W:Wd}:∀{kvs:List (List Key×CD)}{ds:List (List Key×PyData)}{us:List (List Key×V)},EA kvs=some ds->PKV K W kvs us->Paired (fun(p:List Key×PyData)(q:List Key×V)=>p.1=q.1/\Rep K W.F p.2 q.2) ds us
 |[],_,_,h,.nil=>by cases h;exact .nil
 |(k,.d x)::r,_,_,h,.cons r1 r2=>by
  obtain⟨q,h1,h⟩:=aJ (show(EA r).bind _=_ from h);cases h;exact .cons r1 (DN h1 r2)
 |(k,.c _)::r,_,_,h,_=>by cases h
theorem VW(a:SE K td fo):SE K (aAM K td) (vX fo):=by
 intro γ M x M' hh W H σ Q G R k;obtain⟨⟨o,M1⟩,h1,hh⟩:=aJ hh;revert hh;dsimp only;split
 .rename_i i;split
  .rename_i kvs hk;intro hh;obtain⟨ds,h2,hh⟩:=aJ hh;obtain⟨r,h3,hh⟩:=aJ hh;cases hh;refine a _ _ _ _ h1 W H σ _ G R fun v W1 H1 e1 G1 r1=>?_;obtain⟨us,hu,pu⟩:=G1.dtAt hk;refine⟨_,us,r1.2,hu,fun bs pb=>?_⟩;obtain⟨W2,e2,G2,p2⟩:=vY G1 pb;refine KO G2 p2 (Paired.mapP (DN h2 pu) fun _ _ r=>⟨r.1,Rep.same e2.ff _ _ r.2⟩) fun vs W3 H3 e3 G3 r3=>?_;have e13:=(e1.trans e2).trans e3;unfold kK at h3;by_cases hs:sortable (ds.map LH)=true
   .rw[A4 hs]at h3;cases h3;obtain⟨s1,s2,s3,s4,s5⟩:=lK hs;refine .inl ⟨ds.map LH,aL.same G3.fh _ _ r3,s1,s2,s3,s4,s5,fun l hl=>?_⟩;obtain⟨e4,G4⟩:=G3.lay (o:=.lst ((dW (fV (ds.map LH)) (ds.map LH).length).map fun i=>vs.getD i .non)) hl;exact k _ _ _ (e13.trans e4) G4 ⟨l,_,rfl,SqL.of aV,aL.same e4.ff _ _ (zU r3 _ (aEZ (by omega)))⟩
   .rw[A5 hs]at h3;by_cases hl2:(ds.map LH).length<2
    .rw[A4 hl2]at h3;cases h3;refine .inr ⟨by rw[<- r3.length,A2];exact hl2,fun l hl=>?_⟩;obtain⟨e4,G4⟩:=G3.lay (o:=.lst vs) hl;exact k _ _ _ (e13.trans e4) G4 ⟨l,_,rfl,SqL.of aV,aL.same e4.ff _ _ r3⟩
    .rw[A5 hl2]at h3;cases h3
  .intro hh;cases hh
 .intro hh;cases hh
theorem WE{ι:Type}{X:ι->Cx}{o:Expr}{f:EF}{pos apos cpos p:Pos}(hK:∀i,(X i).K=K)(hu:∀i,(X i).A.in1.in1.units+64<cLine)(hc:∀i,(X i).calm=true)(hm:∀i,(X i).mg "sorted"=none)(x:ME K X o f)(hg:∀i,Gl (X i) "sorted":=by intro _;rfl)
 (hb:∀env:Env,attributeBase o "items" env (eval o env)=eval o env:=by intro _;rfl) (hline:(apos.endLine==cpos.line)=true:=by rfl):ME K X (.Call (.Name "sorted" p) [.Call (.Attribute o "items" apos) [] [] cpos] [] pos) (vX f):=by
 obtain⟨t,x1,x2⟩:=x.ex;exact⟨_,fun i=>by have:=WU (p:=p) (pos:=pos) (apos:=apos) (cpos:=cpos) (hu i) (hc i) (hg i) (hm i) (x1 i) (hb _) hline;rw[hK i]at this;exact this,VW x2⟩
end
section
variable{K:Fg}
theorem Good.freezeL{W:Wd}{M:Sto}{H:Hp}{i:Nat}{xs:List CD}{ds:List PyData}(G:Good K W M H)(hi:M[i]?=some (.lst xs))(hd:kU xs=some ds):
 ∃W',W.Ext W'/\Good K W' (M.set i .dead) H/\W'.α i=W.α i/\cD K W' (.d (.list ds)) (.ref (W.α i)):=by
 obtain⟨vs,hv,rv⟩:=G.lstAt hi;obtain⟨hn,_⟩:=G.cs i _ hi (by intro q;cases q);have lt:i<M.length:=(List.getElem?_eq_some_iff.mp hi).1;have e:W.Ext { W with F:=upd W.F (W.α i) (.lst vs) }:=⟨iR.upd hn,A8 _,fun _ _=>rfl⟩
 have at_:∀j d,(M.set i .dead)[j]?=some d->d≠.dead->j≠i/\M[j]?=some d:=fun j d h hd=>by
  by_cases q:i=j
  .subst q;rw[D8 lt]at h;exact absurd (D3 h).symm hd
  .rw[J1 q]at h;exact⟨fun z=>q z.symm,h⟩
 refine⟨_,e,⟨fun c o hc=>?_,by show W.n=_;rw[G.n,O6],fun j d hj hd=>?_,fun j k d1 d2 hj hk e1 e2 he=>?_⟩,rfl,⟨_,vs,rfl,SqL.of aV,aL.same e.ff _ _ (eW hd rv)⟩⟩
 .have hc:upd W.F (W.α i) (.lst vs) c=some o:=hc;by_cases q:c=W.α i
  .subst q;rw[aV]at hc;cases hc;exact hv
  .rw[aM q]at hc;exact G.fh c o hc
 .obtain⟨q,h⟩:=at_ j d hj hd;obtain⟨k1,u,k2,k3⟩:=G.cs j d h hd;have ne:W.α j≠W.α i:=fun z=>q (G.inj j i d _ h hi hd (by intro z;cases z) z);exact⟨by show upd W.F (W.α i) (.lst vs) (W.α j)=none;rw[aM ne];exact k1,u,k2,k3.up e⟩
 .exact G.inj j k d1 d2 (at_ j d1 hj e1).2 (at_ k d2 hk e2).2 e1 e2 he
noncomputable def lB(f:EF):EF:=fun γ M=>(f γ M).bind fun r=>match r.1 with
 |.c i=>match r.2[i]? with
  |some (.lst xs)=>(kU xs).bind fun ds=>some (.d (.list ds),r.2.set i .dead)
  |_=>none
 |.d x=>some (.d x,r.2)
 |_=>none
theorem SJ{t:TE}{f:EF}(a:SE K t f):SE K t (lB f):=by
 intro γ M x M' hh W H σ Q G R k;obtain⟨⟨o,M1⟩,h1,hh⟩:=aJ hh;revert hh;dsimp only;split
 .rename_i i;split
  .rename_i xs hx;intro hh;obtain⟨ds,h2,hh⟩:=aJ hh;cases hh;refine a _ _ _ _ h1 W H σ _ G R fun v W1 H1 e1 G1 r1=>?_;obtain⟨W2,e2,G2,_,r2⟩:=G1.freezeL hx h2;rw[r1.2];exact k _ W2 H1 (e1.trans e2) G2 r2
  .intro hh;cases hh
 .intro hh;cases hh;exact a _ _ _ _ h1 W H σ _ G R k
 .intro hh;cases hh
theorem DL{ι:Type}{X:ι->Cx}{e:Expr}{f:EF}(x:ME K X e f):ME K X e (lB f):=by
 obtain⟨t,x1,x2⟩:=x.ex;exact⟨t,x1,SJ x2⟩
noncomputable def DO:FN:=fun xs M=>match xs with
 |[.d a]=>(bZ a).bind fun ds=>some (.c M.length,M++[.lst (ds.map .d)])
 |[.c i]=>match M[i]? with
  |some (.lst ys)=>some (.c M.length,M++[.lst ys])
  |_=>none
 |_=>none
theorem aAD:PN K (LQ K) DO:=by
 intro xs M z M' h W H vs Q G r k;unfold DO at h;split at h
 .rename_i a;obtain⟨ds,h1,h⟩:=aJ h;cases h;rcases r with _|⟨r1,_|_⟩;obtain⟨p,us,rfl,hs,hr⟩:=kX (show Rep K W.F a _ from r1) h1;refine⟨p,us,rfl,hs.elim (fun q=>.inl (G.fh.seq q)) (fun q=>.inr (G.fh.seqT q)),fun l hl=>?_⟩;exact k _ (W.more l) _ (W.ext_more l) (G.new hl (c:=.lst (ds.map .d)) (o:=.lst us) (kM hr)) G.newV
 .rename_i i;split at h
  .rename_i ys hy;cases h;rcases r with _|⟨r1,_|_⟩;obtain⟨us,hv,hr⟩:=G.lstAt hy;refine⟨_,us,by rw[r1.2],.inl (SqL.of hv),fun l hl=>?_⟩;exact k _ (W.more l) _ (W.ext_more l) (G.new hl (c:=.lst ys) (o:=.lst us) hr) G.newV
  .cases h
 .cases h
theorem aBY{ι:Type}{X:ι->Cx}(hK:∀i,(X i).K=K):QN K X (.type "list") DO:=⟨_,fun i=>aEr (hK i),aAD⟩
noncomputable def eqC(neg:Bool):F2:=fun x y M=>(snap 5 M x).bind fun a=>(snap 5 M y).bind fun b=>if (SeqAt.shaped a&&SeqAt.shaped b)=true then some (.d (.bool (if neg then !PyData.eqv a b else PyData.eqv a b)),M)else none
theorem aHE{neg:Bool}:P2 K (MC K neg) (eqC neg):=by
 intro x y M z M' h W H v u Q G rx ry k;obtain⟨a,h1,h⟩:=aJ h;obtain⟨b,h2,h⟩:=aJ h;by_cases hs:(SeqAt.shaped a&&SeqAt.shaped b)=true
 .rw[A4 hs]at h;cases h;rw[B8]at hs;exact⟨a,b,AG G 5 x a v h1 rx,AG G 5 y b u h2 ry,hs.1,hs.2,k _ W H (.refl _) G rfl⟩
 .rw[A5 hs]at h;cases h
noncomputable def eqY(neg:Bool):F2:=zO (eqX neg) (eqC neg)
theorem aIV{ι:Type}{X:ι->Cx}(hK:∀i,(X i).K=K)(hu:∀i,(X i).A.units+64<cLine):Q2 K X (compareOp .Eq) (eqY false):=⟨_,fun i=>(kEq (hK i) (hu i)).or (show OpR (X i) (compareOp .Eq) (MC K false)by have:=aAV (X:=X i) (hu i);rw[hK i]at this;exact this),P2.or aBo aHE⟩
end
section
variable{X:Cx}{pins:List (Addr×Obj)}{σ:St}{H:Hp}{s:Shared}{a:Addr}{y v:V}{u r:Value}{A:Around}{E:Value->Shared->Prop}
theorem VS{H':Hp}{Q:Unit->Shared->Prop}(hu:A.units<cLine)(I:Inv X pins σ H s)(g:zX H a y v H')(ry:RelV y u)(rv:RelV v r)(h:∀s',Inv X pins σ H' s'->Q () s'):
 wpAny (model X.prog X.w) A (dictSet a u r) Q E s:=by
 rcases g with⟨kvs,k,e,ey,l,eH⟩|⟨kvs,k,b,e,ey,eb,l,eH⟩
 .subst ey eH;obtain⟨z,hd,vs,rel,dd⟩:=aEM I.hok e;have hz:vs.length<=sizeLine:=by rw[<- rel.length];exact z
  have hl:(putK kvs k v).length<=sizeLine:=by have:=lZ kvs k v;omega
  refine wpAny_dictSet_pairs (hsz:=hz) (QV ry) dd fun h' dd' hs=>h _ ?_;have he:∃q,h'.get? a=some q:=let⟨q,_,_,hq,_⟩:=dd';⟨q,hq⟩;exact yB I (by rw[e];exact True.intro) hs he (YC hl hd (rel.put k rv) dd')
 .subst ey eH;cases (show u=Value.ref b from ry);obtain⟨z,hd,xs,rel,dd⟩:=aET I.hok e;have hz:xs.length<=sizeLine:=by rw[<- Y3 rel];exact z
  have hl:(putK kvs k v).length<=sizeLine:=by have:=lZ kvs k v;omega
  refine wpAny_dictSet_heap (hsz:=hz) hu (HF I.hok eb) dd fun h' dd' hs=>h _ ?_;obtain⟨q,es,ep,hq,h2,h3,h4,_,h5⟩:=dd';refine yB I (by rw[e];exact True.intro) hs ⟨q,hq⟩ ⟨hl,hd,_,(rel.put k eb rv).keeps fun c ys ec=>?_,q,es,ep,hq,h2,h3,h4,h5⟩;rw[aM (xE ec e (fun z=>nomatch z))];exact ec
end
section
variable{prog:Program}{w:World}{A:Around}{R:Result->Shared->Prop}{s:Shared}
theorem aCq{kx vx target iter:Expr}{ifs:List Expr}{scope:Scope}{pos:Pos}{it:Value}{D:Addr}{env:Env}(I:Nat->Shared->Prop)
 (turn:∀n s,I n s->wpAny (model prog w) A (pyNext it) (fun r s1=>(r=none/\R (.ok .next) s1)\/∃v,r=some v /\
  wpAny (model prog w) A (letOwnedTupleGo target it v) (fun _ s2=>wpAny (model prog w) A (assign target env v) (fun _ s3=>
   wpAny (model prog w) A (forIn ifs true fun c r=>if r=true then(do
    let ok <- isTrue c env (eval c env)
    pure (ForInStep.yield ok))else pure (ForInStep.yield r)) (fun ok s4=>
     (ok=true/\wpAny (model prog w) A (eval kx env) (fun kv s5=>wpAny (model prog w) A (eval vx env) (fun vv s6=>wpAny (model prog w) A (dictSet D kv vv) (fun _ s7=>∃m,m<n/\I m s7) (fun _ _=>False) s6) (fun _ _=>False) s5) (fun _ _=>False) s4) \/
     (ok=false/\∃m,m<n/\I m s4)) (fun _ _=>False) s3) (fun _ _=>False) s2) (fun _ _=>False) s1) (fun _ _=>False) s)
 (n:Nat) (h:I n s):codeAny (model prog w) A (.compLoop (.DictComp kx vx [⟨target,iter,ifs,0⟩] scope pos) 0 it (.ref D) env) R s:=by
 refine codeAny_loop rfl I (fun n s hI=>?_) n h
 show wpAny _ A ((compTurn (.DictComp kx vx [⟨target,iter,ifs,0⟩] scope pos) 0 it (.ref D) env).onRaise fun x=>do
  noteFrame x env
  theTreesLotGoes x) _ _ s
 refine wpAny_noted ?_;rw[compTurn_dict];refine A0 (S3 (A0 (D5 (turn n s hI) (fun r s1 h1=>?_) fun _ _ f=>f.elim)));rcases h1 with⟨rfl,h1⟩|⟨v,rfl,h1⟩
 .exact A6 h1
 .refine A0 (D5 h1 (fun _ s2 h2=>?_) fun _ _ f=>f.elim);refine A0 (D5 h2 (fun _ s3 h3=>?_) fun _ _ f=>f.elim);refine A0 (D5 h3 (fun ok s4 h4=>?_) fun _ _ f=>f.elim);rcases h4 with⟨rfl,h4⟩|⟨rfl,h4⟩
  .refine A0 (A0 (D5 h4 (fun kv s5 h5=>?_) fun _ _ f=>f.elim));refine A0 (E9 (D5 h5 (fun vv s6 h6=>?_) fun _ _ f=>f.elim));refine A0 (S3 (E9 (D5 h6 (fun _ s7 h7=>A6 ⟨rfl,h7⟩) fun _ _ f=>f.elim)))
  .exact A6 ⟨rfl,h4⟩
end
noncomputable def tDc(o0:HO)(cap:List (Option Nat))(wi:TI)(g:TG)(tc:TT)(tk tv:TE):TE:=fun σ H Q=>wi σ H fun J H1=>∀D,H1 D=none->∃W:Nat->Nat->St->Hp->Prop,(∃m,W 0 m (xK cap σ) (upd H1 D o0))/\∀i m σ' H',W i m σ' H'->
 (J.stop i H'/\Q (.ref D) H') \/
 (J.go i H'/\∃N:St->Hp->Prop,(∀σ2 H2,N σ2 H2->∃m',m'<m/\W (i+1) m' σ2 H2)/\∀x H2,J.yld i H' x H2->g x σ' H2 fun σ2 H3=>tc σ2 H3 fun b H4=>(b=true/\tk σ2 H4 fun y H5=>tv σ2 H5 fun v H6=>∃H7,zX H6 D y v H7/\N σ2 H7)\/(b=false/\N σ2 H4))
section
variable{X:Cx}{N':List Str}{cap:List (Option Nat)}{scope:Scope}
theorem aFJ{o0:HO}(ho:o0=.dT []\/o0=.dK []){kx vx tg iter:Expr}{ifs:List Expr}{pos:Pos}{wi:TI}{g:TG}{tc:TT}{tk tv:TE}(hu:X.A.units<cLine)(hc:X.calm=true)(S:oP X N' cap scope)(hi:PI X tg iter wi)
 (hg:∀C s H fp pn,PG (eS X N' scope C s H fp pn) tg g) (hif:∀C s H fp pn,KP (eS X N' scope C s H fp pn) ifs tc) (hk:∀C s H fp pn,PE (eS X N' scope C s H fp pn) kx tk) (hv:∀C s H fp pn,PE (eS X N' scope C s H fp pn) vx tv)
 (hs:∀x,foldedSetIterable iter X.env x=pure x) {pins:List (Addr×Obj)} {s:Shared} {σ:St} {H:Hp} {Q:VK} (I:Inv X pins σ H s) (h:tDc o0 cap wi g tc tk tv σ H Q) {use:Option (Value->Sem Unit)} {QQ:Value->Shared->Prop}
 (post:∀(D C:Addr)(H':Hp)(s':Shared),(∃m,s'.heap.Ns C m)->(∀h',Heap.SameBut C s'.heap h'->Inv X pins σ H' { s' with heap:=h' })->rF X pins H' C->Q (.ref D) H'->compPost (model X.prog X.w) X.A X.xe use QQ (.ref D) C (.ok .next) s'):
 wpAny (model X.prog X.w) X.A (comprehension (.DictComp kx vx [⟨tg,iter,ifs,0⟩] scope pos) scope X.env (firstIterPos [⟨tg,iter,ifs,0⟩] pos) newDict false (firstIter [⟨tg,iter,ifs,0⟩] X.env) use) QQ X.xe s:=by
 refine wpAny_comprehension_free (e:=.DictComp kx vx [⟨tg,iter,ifs,0⟩] scope pos) (g:=⟨tg,iter,ifs,0⟩) (gs:=[]) rfl hs (zQ (S.cells I.ok)) S.kind S.names ?_;refine thn (hi pins s σ H _ I h) fun v s1 h1=>thn h1 fun itv s2 h2=>?_;obtain⟨it,fp,tn,J,H2,e,I2,T,st2,f2,hD⟩:=h2;subst e
 have fplt2:∀b∈fp,b<s2.heap.objs.size:=fun b hb=>by
  obtain⟨o,e,_⟩:=T.obj _ _ st2 b hb;exact A9 e
 refine D1 ?_;obtain⟨W,⟨m0,w0⟩,turn⟩:=hD s2.heap.objs.size (I2.hok.fresh (A8 _));generalize hDn:s2.heap.objs.size=D at *
 have I3:Inv X pins σ (upd H2 D o0) { s2 with heap:=s2.heap.push { cls:=.type "dict",data:=.dict #[] } }:=by
  refine I2.laid (t':=s2.toks) (fun _ _ q=>A3 _ q) (Nat.le_of_eq hDn) ?_;rcases ho with rfl|rfl
  .rw[<- hDn];exact KH _ I2.big
  .rw[<- hDn];exact aBs _ I2.big
 have st3:tn 0 (s2.heap.push { cls:=.type "dict",data:=.dict #[] }):=T.keep _ _ _ st2 fun b _ o e=>A3 _ e
 have f3:∀b∈fp,rF X pins (upd H2 D o0) b:=fun b hb=>by
  obtain⟨q0,q1⟩:=f2 b hb;exact⟨by rw[aM (B5 (fplt2 b hb))];exact q0,q1⟩
 generalize hs3:({ s2 with heap:=s2.heap.push { cls:=.type "dict",data:=.dict #[] } }:Shared)=s3 at I3 ⊢;have st3:tn 0 s3.heap:=by rw[<- hs3];exact st3
 have fplt:∀b∈fp,b<s3.heap.objs.size:=fun b hb=>by
  obtain⟨o,e,_⟩:=T.obj _ _ st3 b hb;exact A9 e
 refine wpAny_newFunctionEnv S.nocell (fun y hy=>by simp at hy) (fun h1' hns hsb=>?_) S.kind;have old:∀b o,s3.heap.get? b=some o->h1'.get? b=some o:=fun b o e=>hsb.extBut b o (B5 (A9 e)) (A3 _ e)
 have I4:Inv (eS X N' scope s3.heap.objs.size s3 (upd H2 D o0) fp pins) [] (xK cap σ) (upd H2 D o0) { s3 with heap:=h1',toks:=s3.toks+([]:List (Str×Value)).length }:=
  JN S I3 f3 fplt (A8 _) (by simpa using hns) old
 have loop:∀s4:Shared,s4={ s3 with heap:=h1',toks:=s3.toks+([]:List (Str×Value)).length }->
  codeAny (model X.prog X.w) X.A (.compLoop (.DictComp kx vx [⟨tg,iter,ifs,0⟩] scope pos) 0 (.ref it) (.ref D) (compEnvC scope (eG X.env scope.names []) s3.heap.objs.size X.env)) (compPost (model X.prog X.w) X.A X.xe use QQ (.ref D) s3.heap.objs.size) s4:=by
  rintro s4 rfl
  have stat:∀{Hx:Hp},(∀b∈fp,Hx b=none)->∀b∈fp,rF (eS X N' scope s3.heap.objs.size s3 (upd H2 D o0) fp pins) [] Hx b:=fun{Hx} hn b hb=>by
   refine⟨hn b hb,B5 (fplt b hb),I3.stkAll (f3 b hb).2.1 (f3 b hb).2.2.1,.inl hb,fun x c e=>(f3 b hb).2.2.2.2.1 x c (S.sub I3.ok x c e),fun p hp=>?_⟩;rcases List.mem_append.mp hp with z|z
   .exact(f3 b hb).2.2.2.2.2 p z
   .exact absurd z (by simp)
  refine aCq (fun n s'=>∃(i:Nat)(σ':St)(H':Hp),Inv (eS X N' scope s3.heap.objs.size s3 (upd H2 D o0) fp pins) [] σ' H' s'/\tn i s'.heap/\(∀b∈fp,H' b=none)/\W i n σ' H') ?_ m0
   ⟨0,xK cap σ,_,I4,T.keep _ _ _ st3 fun b _ o e=>old b o e,fun b hb=>(f3 b hb).1,w0⟩
  rintro n s5 ⟨i,σ',H',I5,t5,fr5,w5⟩;rcases turn i n σ' H' w5 with⟨stop,q⟩|⟨go,N,hN,step⟩
  .refine thn (T.done (eS X N' scope s3.heap.objs.size s3 (upd H2 D o0) fp pins) rfl rfl rfl hc i _ s5 σ' H' _ I5 (stat fr5) t5 stop) fun r s6 ⟨hr,I6⟩=>.inl ⟨hr,?_⟩;have nC:H' s3.heap.objs.size=none:=I6.free;refine post D _ H' s6 (let⟨m,hn,_⟩:=I6.loc;⟨m,hn⟩) (fun h' hs'=>?_) (I3.fpOk (A8 _) nC) q;have up:∀b o,b≠s3.heap.objs.size->s6.heap.get? b=some o->h'.get? b=some o:=fun b o hb e=>hs'.extBut b o hb e;have ltC:∀b o,s3.heap.get? b=some o->b≠s3.heap.objs.size:=fun b o e=>B5 (A9 e);have u6:Un (frs X.stack) fp (upd H2 D o0) H' s3.heap s6.heap:=I6.base
   have u7:Un (frs X.stack) fp (upd H2 D o0) H' s3.heap h':=by
    refine⟨fun b o e n hb hx=>up b o (ltC b o e) (u6.keep b o e n hb hx),fun b o e n hb hx=>?_,u6.free,fun b o e hx=>?_,u6.tups,u6.frzs,u6.tbls⟩
    .obtain⟨sl,q⟩:=u6.slot b o e n hb hx;exact⟨sl,up b _ (ltC b o e) q⟩
    .obtain⟨o',q⟩:=u6.there b o e hx;exact⟨o',up b o' (ltC b o e) q⟩
   have ok7:HOk X.prog X.w H' h':=fun b u e=>by
    refine(I6.hok b u e).stay (fun c v hc' z=>up c v ?_ z) (fun c z=>z) fun c xs z=>z;rcases hc' with rfl|z
    .exact aP e nC
    .exact aP z nC
   have os6:s6.os=s3.os:=I6.os;have ba6:=I6.bare;obtain⟨hh,gg,dd,tt,oo⟩:=s6;subst os6;have z7:=I3.call (s:=s3) (h':=h') (g':=gg) (d':=dd) (t':=tt) (ch:=fp) u7 ok7 ba6 fun b hb=>⟨(f3 b hb).2.2.2.1,(f3 b hb).2.1,(f3 b hb).2.2.2.2.1,(f3 b hb).2.2.2.2.2⟩;exact z7
  .refine thn (T.item (eS X N' scope s3.heap.objs.size s3 (upd H2 D o0) fp pins) rfl rfl rfl hc i _ s5 σ' H' _ I5 (stat fr5) t5 go) fun r s6 ⟨u,hr,h6⟩=>.inr ⟨u,hr,?_⟩;refine thn h6 fun _ s7 ⟨x,H7,I7,r7,y7,t7,fr7⟩=>?_;have I7':=I7.pinned (stat fr7) (T.obj _ _ t7)
   have back:∀{σx:St}{Hx:Hp}{sx:Shared},Inv (eS X N' scope s3.heap.objs.size s3 (upd H2 D o0) fp pins) ([]++vC fp s7.heap) σx Hx sx->(∀b∈fp,∀o,s7.heap.get? b=some o->sx.heap.get? b=some o)/\(∀b∈fp,Hx b=none):=fun{σx Hx sx} Ix=>by
    refine⟨fun b hb o e=>(Ix.pin (b,o) (C8 _ (C8 _ (gU hb e)))).1,fun b hb=>?_⟩;obtain⟨o,e,_⟩:=T.obj _ _ t7 b hb;exact(Ix.pin (b,o) (C8 _ (C8 _ (gU hb e)))).2.1
   refine thn (hg _ _ _ _ _ _ s7 σ' H7 x u _ I7' r7 (step x H7 y7)) fun _ s8 ⟨σ8,H8,I8,q8⟩=>?_;refine thn (hif _ _ _ _ _ _ s8 σ8 H8 _ I8 q8) fun b s9 ⟨H9,I9,q9⟩=>?_;rcases q9 with⟨rfl,q9⟩|⟨rfl,n9⟩
   .refine .inl ⟨rfl,thn (hk _ _ _ _ _ _ s9 σ8 H9 _ I9 q9) fun uk s10 ⟨y,H10,I10,ry,q10⟩=>thn (hv _ _ _ _ _ _ s10 σ8 H10 _ I10 q10) fun uv s11 ⟨v,H11,I11,rv,H12,g12,n12⟩=>?_⟩;obtain⟨m',hm,w12⟩:=hN _ _ n12;refine VS (X:=eS X N' scope s3.heap.objs.size s3 (upd H2 D o0) fp pins) hu I11 g12 ry rv fun s12 I12=>?_;obtain⟨b1,b2⟩:=back I12;exact⟨m',hm,i+1,σ8,H12,I12.pins_of fun p hp=>absurd hp (by simp),T.keep _ _ _ t7 b1,b2,w12⟩
   .obtain⟨m',hm,w9⟩:=hN _ _ n9;obtain⟨b1,b2⟩:=back I9;exact .inr ⟨rfl,m',hm,i+1,σ8,H9,I9.pins_of fun p hp=>absurd hp (by simp),T.keep _ _ _ t7 b1,b2,w9⟩
 exact codeAny_compStart_dict (loop _ rfl) (T.self _ 0 _ _ _ (T.keep _ _ _ st3 fun b _ o e=>old b o e) (loop _ rfl))
theorem aIz{o0:HO}(ho:o0=.dT []\/o0=.dK []){kx vx tg iter:Expr}{ifs:List Expr}{pos:Pos}{wi:TI}{g:TG}{tc:TT}{tk tv:TE}(hu:X.A.units<cLine)(hc:X.calm=true)(S:oP X N' cap scope)(hi:PI X tg iter wi)
 (hg:∀C s H fp pn,PG (eS X N' scope C s H fp pn) tg g) (hif:∀C s H fp pn,KP (eS X N' scope C s H fp pn) ifs tc) (hk:∀C s H fp pn,PE (eS X N' scope C s H fp pn) kx tk) (hv:∀C s H fp pn,PE (eS X N' scope C s H fp pn) vx tv)
 (hs:∀x,foldedSetIterable iter X.env x=pure x:=by intro _;rfl):PE X (.DictComp kx vx [⟨tg,iter,ifs,0⟩] scope pos) (tDc o0 cap wi g tc tk tv):=fun pins s σ H Q I h=>
 aFJ (use:=none) ho hu hc S hi hg hif hk hv hs I h fun D _ H' _ ⟨m,hn⟩ hI _ q=>⟨m,hn,fun h' hs'=>⟨.ref D,H',hI h' hs',rfl,q⟩⟩
end
noncomputable def dcF(d:Nat)(g:GF)(c:TF)(fk:KF)(e:EF):List CD->Ga->Sto->Option Sto
 |[],_,M=>some M
 |x::xs,γ,M=>(g x γ M).bind fun a=>(c a.1 a.2).bind fun b=>if b.1=true then(fk a.1 b.2).bind fun k=>(e a.1 k.2).bind fun v=>(yZ v.2 (.c d) k.1 v.1).bind fun M'=>dcF d g c fk e xs a.1 M' else dcF d g c fk e xs a.1 b.2
noncomputable def fDc(c0:Cell)(cap:List (Option Nat))(f:AF)(g:GF)(c:TF)(fk:KF)(e:EF):EF:=fun γ M=>(f γ M).bind fun r=>(dcF r.2.length g c fk e r.1 (jO cap γ) (r.2++[c0])).bind fun M'=>some (.c r.2.length,M')
section
variable{K:Fg}{tg:TG}{tt:TT}{hg:GF}{ft:TF}{fa:AF}
theorem aJH{o0:HO}{c0:Cell}(h0:(o0=.dT []/\c0=.dt [])\/(o0=.dK []/\c0=.dk [])){wi:TI}{cap:List (Option Nat)}{tk tv:TE}{fk:KF}{fe:EF}(i:SI K wi fa)(a:SG K tg hg)(c:STt K tt ft)(b:SK K tk fk)(e:SE K tv fe):
 SE K (tDc o0 cap wi tg tt tk tv) (fDc c0 cap fa hg ft fk fe):=by
 intro γ M x M' hh W H σ Q G R k;obtain⟨⟨ys,M1⟩,h1,hh⟩:=aJ hh;obtain⟨M9,h9,hh⟩:=aJ hh;cases hh;refine i _ _ _ _ h1 W H σ _ G R fun J W1 H1 e1 G1 gv=>fun D hD=>?_;have G2:Good K (W1.more D) (M1++[c0]) (upd H1 D o0):=G1.new hD (by rcases h0 with⟨rfl,rfl⟩|⟨rfl,rfl⟩<;>exact .nil);have e2:=W1.ext_more D;have rD:cD K (W1.more D) (.c M1.length) (.ref D):=G1.newV;refine⟨fun j m σ' H'=>∃γ' M3 W3,j<=ys.length/\m=ys.length-j/\(W1.more D).Ext W3/\Good K W3 M3 H'/\cL K W3 γ' σ'/\dcF M1.length hg ft fk fe (ys.drop j) γ' M3=some M',⟨_,jO cap γ,_,_,F8 _,rfl,.refl _,G2,EW ((R.up e1).up e2) cap,h9⟩,?_⟩;rintro j m σ' H' ⟨γ',M3,W3,hj,rfl,e3,G3,R3,h3⟩;obtain⟨gv1,gv2⟩:=gv W3 M3 H' (e2.trans e3) G3;by_cases hlt:j<ys.length
 .obtain⟨go,yl⟩:=gv1 j ys[j] (B9 hlt);rw[S7 hlt]at h3;refine .inr ⟨go,fun σ4 H4=>∃γ4 M4 W4,W3.Ext W4/\Good K W4 M4 H4/\cL K W4 γ4 σ4/\dcF M1.length hg ft fk fe (ys.drop (j+1)) γ4 M4=some M',?_,fun y H4 hy=>?_⟩
  .rintro σ4 H4 ⟨γ4,M4,W4,e4,G4,R4,h4⟩;exact⟨_,by omega,γ4,M4,W4,hlt,rfl,e3.trans e4,G4,R4,h4⟩
  .obtain⟨W8,e8,G8,ry⟩:=yl y H4 hy;obtain⟨⟨γ5,M5⟩,h5,h3⟩:=aJ (show(hg ys[j] γ' M3).bind _=_ from h3);obtain⟨⟨b6,M6⟩,h6,h3⟩:=aJ h3;refine a _ _ _ _ _ h5 W8 _ σ' y _ G8 (R3.up e8) ry fun σ5 W5 H5 e5 G5 R5=>?_;refine c _ _ _ _ h6 W5 H5 σ5 _ G5 R5 fun W6 H6 e6 G6=>?_;have e36:=(e8.trans e5).trans e6;cases b6 with
   |true=>
    rw[A4 rfl]at h3;obtain⟨⟨ky,M7⟩,h7,h3⟩:=aJ h3;obtain⟨⟨z,M10⟩,h10,h3⟩:=aJ h3;obtain⟨M11,h11,h3⟩:=aJ h3;refine .inl ⟨rfl,b _ _ _ _ h7 W6 H6 σ5 _ G6 (R5.up e6) fun yv W7 H7 e7 G7 r7=>e _ _ _ _ h10 W7 H7 σ5 _ G7 (R5.up (e6.trans e7)) fun v W10 H10 e10 G10 r10=>?_⟩;have e310:=(e36.trans e7).trans e10;obtain⟨p,H11,ep,g11,G11⟩:=HZ G10 h11 (rD.up (e3.trans e310)) (r7.up e10) r10;cases ep;exact⟨H11,g11,γ5,M11,W10,e310,G11,R5.up ((e6.trans e7).trans e10),h3⟩
   |false=>
    rw[A5 A7]at h3;exact .inr ⟨rfl,γ5,M6,W6,e36,G6,R5.up e6,h3⟩
 .have ej:j=ys.length:=by omega
  subst ej;rw[List.drop_length]at h3;cases h3;exact .inl ⟨gv2,k _ W3 H' ((e1.trans e2).trans e3) G3 (rD.up e3)⟩
variable{ι:Type}{X:ι->Cx}{N':List Str}{cap:List (Option Nat)}{scope:Scope}{tg' iter kx vx:Expr}{ifs:List Expr}{gf:GF}{fk:KF}{f:EF}{pos:Pos}
theorem aGT(hu:∀i,(X i).A.units<cLine)(hc:∀i,(X i).calm=true)(S:∀i,oP (X i) N' cap scope)(x:MI K X tg' iter fa)(y:MG K (nD X N' scope) tg' gf)(z:MF K (nD X N' scope) ifs ft)(w:MK K (nD X N' scope) kx fk)(q:ME K (nD X N' scope) vx f)(hs:∀(env:Env)(x:Value),foldedSetIterable iter env x=pure x:=by intro _ _;rfl):
 ME K X (.DictComp kx vx [⟨tg',iter,ifs,0⟩] scope pos) (fDc (.dt []) cap fa gf ft fk f):=by
 obtain⟨t,x1,x2⟩:=x.ex;obtain⟨u,y1,y2⟩:=y.ex;obtain⟨v,z1,z2⟩:=z.ex;obtain⟨o,w1,w2⟩:=w.ex;obtain⟨p,q1,q2⟩:=q.ex;exact⟨_,fun i=>aIz (.inl rfl) (hu i) (hc i) (S i) (x1 i) (fun C s H fp pn=>y1 (i,C,s,H,fp,pn)) (fun C s H fp pn=>z1 (i,C,s,H,fp,pn)) (fun C s H fp pn=>w1 (i,C,s,H,fp,pn)) (fun C s H fp pn=>q1 (i,C,s,H,fp,pn)) (hs _),aJH (.inl ⟨rfl,rfl⟩) x2 y2 z2 w2 q2⟩
end
noncomputable def aAu(K:Fg):List V->Hp->VK->Prop:=fun xs H Q=>∃a kvs,xs=[.ref a]/\H a=some (.dT kvs)/\∀bs:List Addr,Paired (fun(b:Addr)(kv:List Key×V)=>H b=some (.tup (kv.1.map kV))) bs kvs->NR K (bs.map .ref) H Q
theorem DZ:∀bs:List Addr,bF (bs.map V.ref) (bs.map Value.ref)
 |[]=>.nil
 |_::bs=>.cons rfl (DZ bs)
theorem EU{X:Cx}(hu:X.A.in1.in1.units+64<cLine)(hc:X.calm=true):eI X (.builtin "sorted") (aAu X.K):=by
 intro pins s σ H xs us Q I r h;obtain⟨a,kvs,rfl,ea,q⟩:=h;obtain⟨u,rfl,ru⟩:=vals1 r;cases ru;obtain⟨z,hs,ks,rk,od,es,ep,h1,h2,h3,h4,h5⟩:=(show cF X.prog X.w H s.heap a (.dT kvs)from I.hok a _ ea);have hl:kvs.length=ks.length:=Paired.len rk;have el:es.size=ks.length:=by rw[<- L8,h4,A2]
 refine Calls.call_function_entry kind_sorted plain_sorted entry_sorted (args_sorted1 _) ?_;unfold Builtin.«sorted»;refine A0 (m:=checkCount "sorted" 1 1 _) (A6 ?_);refine A0 (PySem.W.kdu_collect (A:=X.A.in1) (XM (ep:=ep) hs h2.1 h3) (I.ok.hd hc) h1 (by rw[el,<- hl];exact z) fun h' tk acc hk hacc=>?_);have I3:Inv X pins σ H { s with heap:=h',toks:=tk }:=I.kept hk
 have ev:acc.toList=(ks.map fun x=>x.2.1).map Value.ref:=by
  refine List.ext_getElem? fun j=>?_;rw[J5];cases e:acc[j]? with
  |none=>
   have:(ks.map fun x=>x.2.1).length<=j:=by
    have hz:=hacc.1;have:=Array.getElem?_eq_none_iff.mp e;rw[A2];omega
   rw[U6 (by rw[A2];exact this)]
  |some v=>
   have e1:(es[j]?).map (·.key)=some v:=hacc.2 j v e;rw[<- J5,h4,D2]at e1;rw[D2,D2];cases e3:ks[j]? with
   |none=>rw[e3]at e1;cases e1
   |some w=>rw[e3]at e1;cases e1;rfl
 rw[ev];exact XT (A:=X.A.in1) hu I3 (DZ _) (q _ (KT.addrs rk).1)
section
variable{K:Fg}
noncomputable def pP:FN:=fun xs M=>match xs with
 |[.c i]=>match M[i]? with
  |some (.dt kvs)=>(kK (kvs.map fun kv=>kv.1.map xG)).bind fun r=>some (.d (.list r),M)
  |_=>none
 |_=>none
theorem JI{W:Wd}:∀{bs:List Addr}{kvs:List (List Key×V)},Paired (fun(b:Addr)(kv:List Key×V)=>W.F b=some (.tup (kv.1.map kV))) bs kvs->aL K W.F ((kvs.map fun kv=>kv.1.map xG).map .tuple) (bs.map .ref)
 |_,_,.nil=>rfl
 |_,_,.cons h1 h2=>⟨_,_,rfl,⟨_,_,rfl,SqT.of h1,GQ _⟩,JI h2⟩
theorem IW{W:Wd}:∀{kvs:List (List Key×CD)}{us:List (List Key×V)},PKV K W kvs us->(us.map fun kv=>kv.1.map xG)=kvs.map fun kv=>kv.1.map xG
 |_,_,.nil=>rfl
 |_,_,.cons h1 h2=>by rw[B2,B2,IW h2,h1.1]
theorem aAq:PN K (aAu K) pP:=by
 intro xs M z M' h W H vs Q G r k;unfold pP at h;split at h
 .rename_i i;split at h
  .rename_i kvs hk;obtain⟨ds,h3,h⟩:=aJ h;cases h;rcases r with _|⟨r1,_|_⟩;obtain⟨us,hu,pu⟩:=G.dtAt hk;refine⟨_,us,by rw[r1.2],hu,fun bs pb=>?_⟩;obtain⟨W2,e2,G2,p2⟩:=vY G pb;have r3:=JI (K:=K) p2;rw[IW pu]at r3;unfold kK at h3;by_cases hs:sortable (kvs.map fun kv=>kv.1.map xG)=true
   .rw[A4 hs]at h3;cases h3;obtain⟨s1,s2,s3,s4,s5⟩:=lK hs;refine .inl ⟨_,aL.same G2.fh _ _ r3,s1,s2,s3,s4,s5,fun l hl=>?_⟩;obtain⟨e4,G4⟩:=G2.lay (o:=.lst ((dW (fV (kvs.map fun kv=>kv.1.map xG)) (kvs.map fun kv=>kv.1.map xG).length).map fun i=>(bs.map V.ref).getD i .non)) hl;exact k _ _ _ (e2.trans e4) G4 ⟨l,_,rfl,SqL.of aV,aL.same e4.ff _ _ (zU r3 _ (aEZ (by omega)))⟩
   .rw[A5 hs]at h3;by_cases hl2:(kvs.map fun kv=>kv.1.map xG).length<2
    .rw[A4 hl2]at h3;cases h3;refine .inr ⟨by rw[<- r3.length,A2];exact hl2,fun l hl=>?_⟩;obtain⟨e4,G4⟩:=G2.lay (o:=.lst (bs.map V.ref)) hl;exact k _ _ _ (e2.trans e4) G4 ⟨l,_,rfl,SqL.of aV,aL.same e4.ff _ _ r3⟩
    .rw[A5 hl2]at h3;cases h3
  .cases h
 .cases h
theorem aCN{ι:Type}{X:ι->Cx}(hK:∀i,(X i).K=K)(hu:∀i,(X i).A.in1.in1.units+64<cLine)(hc:∀i,(X i).calm=true):QN K X (.builtin "sorted") pP:=
 ⟨_,fun i=>by have:=EU (X:=X i) (hu i) (hc i);rw[hK i]at this;exact this,aAq⟩
end
theorem cG.u1{k:Nat}(r:cG k A):A.units+1<cLine:=by have:=r.un;omega
theorem cG.u0{k:Nat}(r:cG k A):A.units<cLine:=by have:=r.un;omega
noncomputable abbrev IPF:=Ga->Sto->Option ((List CD×(Sto->Prop))×Sto)
end L2
namespace PySem
open Sem (wp)
namespace F
end F
end PySem
namespace L2
open PySem PySem.Spec PyProof.Rows
theorem cG.le{ι:Type}{j k:Nat}{A:Around}{q:Bool}(r:cG k A q)(h:j<=k:=by decide):ι->cG j A q:=fun _=>r.mono h
noncomputable def MZ(C:Addr)(sp:Sp)(EE:St->XK)(t:TA):TE:=fun σ H Q=>aJk C sp [] (EE σ) t σ H Q
theorem aAI{X:Cx}{EE:St->XK}{C f:Addr}{k:Nat}{x:Str}{fd:FuncData}{ps:List Str}{sp:Sp}{p pos:Pos}{e:Expr}{es:List Expr}{t:TA}(ok:XOk X EE)(M:Mk X.K C f)(F:gY X.prog X.w X.K X.mg X.base (CX1 X.prog X.w) k f fd ps sp)(hr:cG (k+1) X.A)
 (hg:Gl X x) (hm:X.mg x=some (.ref C)) (hb:Binds X.K fd ps []) (ha:PA X (e::es) t) (hdb:(x==("__debug__":Str))=false) (he:starEach (e::es) X.env=(false,eval e X.env)::starEach es X.env) (hpl:(backTo pos (starEach es X.env)).any (·.1)=false):
 PE X (.Call (.Name x p) (e::es) [] pos) (MZ C sp EE t):=by
 intro pins s σ H Q I h;refine L5 (oI I hg hm ?_ hdb);refine Y4 (h₀:=X.base) I.ok.mod.kin M.kp (thn (ha pos pins s σ H _ I h) fun us s1 ⟨vs,H1,I1,r,q⟩=>⟨I1.kIn,?_⟩) he hpl;exact aBq M F hr hb .nil (fun _ _ _ _ I' z=>ok.pass _ _ (aBd ok.bd I' z)) I1 r q
noncomputable def IQ(nm:Str)(h:FX)(fa:AF):EX:=fun γ M=>(fa γ M).bind fun r=>(h (.c r.2.length::r.1) (r.2++[.obj nm []])).bind fun q=>match q.1 with
 |.x e=>some (.x e,q.2)
 |.v y=>if nF y=true then some (.v (.c r.2.length),q.2)else none
noncomputable def RQ(nm f:Str)(eo:EF)(ev:EX):SFX:=fun γ M=>(ev γ M).bind fun r=>match r.1 with
 |.x e=>some (.xc γ e,r.2)
 |.v v=>(eo γ r.2).bind fun o=>(objOf nm o.2 o.1).bind fun p=>if p.2.length<1000 then some (.o (.nx γ),o.2.set p.1 (.obj nm (vB f v p.2)))else none
section
variable{K:Fg}{EE:St->XK}{ta tv:TE}{tA:TA}
theorem aAc{nm:Str}{h:FX}{fa:AF}(b:SA K tA fa):SEX K EE (MZ (bN K nm) (spX K h) EE tA) (IQ nm h fa):=by
 intro γ M r M' hh W H σ Q G R k;obtain⟨⟨ys,M1⟩,h1,hh⟩:=aJ hh;obtain⟨⟨z,M2⟩,h2,hh⟩:=aJ hh;refine b _ _ _ _ h1 W H σ _ G R fun vs W1 H1 e1 G1 r1=>?_;intro p dx hp hdx hne;rw[C3];have Ga:=G1.extra (o:=.own p) hdx;have hp':(upd H1 dx (.own p)) p=none:=by rw[aM (F7 hne)];exact hp
 have Gb:=Ga.new hp' (c:=.obj nm []) (o:=.ins (bN K nm) dx []) ⟨rfl,.nil⟩;have e2:=W1.ext_more p;refine⟨.c M1.length::ys,M1++[.obj nm []],W1.more p,z,M2,Gb,.cons G1.newV (bY.up r1 e2),h2,fun W3 H3 e3 G3=>?_⟩;cases z with
 |x e=>cases hh;exact k W3 H3 ((e1.trans e2).trans e3) G3
 |v y=>
  have hh:(if nF y=true then some (Rs.v (.c M1.length),M2)else none)=some (r,M'):=hh;by_cases hy:nF y=true
  .rw[A4 hy]at hh;cases hh;have:=JE hy;subst this;exact fun v rv=>⟨rv,k W3 H3 ((e1.trans e2).trans e3) G3 _ (G1.newV.up e3)⟩
  .rw[A5 hy]at hh;cases hh
theorem aEm{nm f:Str}{eo:EF}{ev:EX}(c:Cls K (bN K nm))(n:fS K (bN K nm) f)(a:SE K ta eo)(b:SEX K EE tv ev):SSX K EE (aDk K ta tv f) (RQ nm f eo ev):=by
 intro γ M o M' hh W H σ D G R k;obtain⟨⟨y,M1⟩,h1,hh⟩:=aJ hh;refine b _ _ _ _ h1 W H σ _ G R fun W1 H1 e1 G1=>?_;cases y with
 |x e=>cases hh;exact fun c dx z=>k W1 H1 e1 G1 σ c dx (R.up e1) z
 |v y=>
  intro v r1;obtain⟨⟨z,M2⟩,h2,hh⟩:=aJ (show(eo γ M1).bind _=_ from hh);obtain⟨⟨i,fs⟩,h3,hh⟩:=aJ hh;have hh:(if fs.length<1000 then some (VU.o (.nx γ),M2.set i (.obj nm (vB f y fs)))else none)=some (o,M'):=hh;by_cases hl:fs.length<1000
  .rw[A4 hl]at hh;cases hh;refine a _ _ _ _ h2 W1 H1 σ _ G1 (R.up e1) fun u W2 H2 e2 G2 r2=>?_;obtain⟨rfl,hM⟩:=tQ h3;obtain⟨dx,us,hH,hp⟩:=G2.objAt hM;refine⟨W2.α i,_,dx,us,r2.2,hH,c,n,by rw[<- Paired.len hp];exact hl,?_⟩;exact k W2 _ (e1.trans e2) (G2.set hM (by intro q;cases q) (c':=.obj nm (vB f y fs)) (o':=.ins (bN K nm) dx (mX f v us)) ⟨rfl,AK (r1.up e2) hp⟩) σ (R.up (e1.trans e2))
  .rw[A5 hl]at hh;cases hh
end
structure AN(P:Program)(w:World)(K:Fg)(mg:Str->Option Value)(base:Heap)(k:Nat)(nm:Str)(ps:List Str)(sp:Sp):Prop where
 ex:∃f fd,gY P w K mg base (CX1 P w) k f fd ps sp/\Mk K (bN K nm) f/\Binds K fd ps []/\mg nm=some (.ref (bN K nm))
section
variable{ι:Type}{K:Fg}{X:ι->Cx}{EE:ι->St->XK}{e o:Expr}{es:List Expr}{f:EX}{g:EF}{fa:AF}{pos:Pos}
theorem aBN{nm fl:Str}{pos':Pos}(hK:∀i,(X i).K=K)(hc:Cls K (bN K nm))(hn:fS K (bN K nm) fl)(x:ME K X o g)(y:MX K X EE e f)(hs:∀i,swapsWith e (some (.Attribute o fl pos')) pos.line (X i).env=pure false:=by intro _;rfl):
 MSX K X EE (.Assign [.Attribute o fl pos'] e pos) (RQ nm fl g f):=by
 obtain⟨t,x1,x2⟩:=x.ex;obtain⟨u,y1,y2⟩:=y.ex;refine⟨fun i=>aDk K t (u i) fl,fun i=>?_,fun i=>aEm hc hn x2 (y2 i)⟩;have:=aAg (x1 i) (y1 i) (hs i);rw[hK i]at this;exact this
theorem aBZ{k:Nat}{nm:Str}{ps:List Str}{F:FX}{p:Pos}(ok:∀i,XOk (X i) (EE i))(C:∀i,AN (X i).prog (X i).w (X i).K (X i).mg (X i).base k nm ps (spX K F))(hK:∀i,(X i).K=K)(hr:∀i,cG (k+1) (X i).A)(y:MA K X (e::es) fa)(hg:∀i,Gl (X i) nm:=by intro _;rfl)(hd:(nm==("__debug__":Str))=false:=by decide):
 MX K X EE (.Call (.Name nm p) (e::es) [] pos) (IQ nm F fa):=by
 obtain⟨u,y1,y2⟩:=y.ex;refine⟨fun i=>MZ (bN K nm) (spX K F) (EE i) u,fun i=>?_,fun i=>aAc y2⟩;obtain⟨f,fd,F',M,B,m⟩:=(C i).ex;have:=aAI (ok i) M F' (hr i) (hg i) m B (y1 i) hd (y.st.1 _) (y.st.2.plain _ _) (p:=p) (pos:=pos);rw[hK i]at this;exact this
end
section
variable{P:Program}{w:World}{K:Fg}{mg:Str->Option Value}{base:Heap}
theorem NY.okR{nm qual:Str}{st:Stmt}{N ps:List Str}{k:Nat}{b:SFX}(D:NY K nm "__init__" qual st)(hm:PySem.W.makesIn K (bN K nm)=true)(hk:PySem.W.keepIn K (.ref (bN K nm))=true)(hg:mg nm=some (.ref (bN K nm)))(S:aS N ps (aF st))
 (hb:∀(kV doc pm:Value)(an:Option Addr)(cdv ct:Value)(us:List Value),us.length=ps.length->bindArgs (PySem.W.fnOf "__init__" qual (dG st) (bR st) (aF st) .none kV doc pm an cdv ct) ⟨us,[]⟩=pure (ps.zip us))
 (hbody:∀(f:Addr)(cdv:Value)(A:Around)(outer:List Env)(s:Shared)(H:Hp)(E:XK),cG k (A.deeper (envOfC qual (aF st) s.heap.objs.size f cdv))->
  MLX K (aDK P w K mg base N qual st f cdv A outer s H E) (fun _ _=>E) (bR st) b):AN P w K mg base (k+1) nm ps (spX K (fnX ps.length N.length b)):=by
 obtain⟨f,fd,F,h1,h2⟩:=D.ex;exact⟨f,fd,F.okXF S hbody,⟨hm,h1,h2,hk⟩,F.binds hb,hg⟩
end
section
variable{K:Fg}
noncomputable def xI(neg:Bool):F2:=fun x y M=>match y with
 |.d .none=>some (.d (.bool (if neg then !nF x else nF x)),M)
 |_=>none
theorem PB{x:CD}{W:Wd}{v:V}(r:cD K W x v):decide (v=.non)=nF x:=by
 cases x with
 |c n=>rw[r.2];rfl
 |t n=>obtain⟨a,vs,rfl,_⟩:=r;rfl
 |f n=>obtain⟨a,o,us,rfl,_⟩:=r;rfl
 |g n=>cases r;rfl
 |d x=>
  cases x with
  |list xs=>obtain⟨a,vs,rfl,_⟩:=r;rfl
  |tuple xs=>obtain⟨a,vs,rfl,_⟩:=r;rfl
  |dict xs=>obtain⟨a,vs,rfl,_⟩:=r;rfl
  |_=>cases (show v=_ from r);rfl
theorem aFh:P2 K (fun x y H Q=>y=.non/\Q (.bl (decide (x=.non))) H) (xI false):=by
 intro x y M z M' h W H v u Q G rx ry k;unfold xI at h;split at h
 .cases h;exact⟨ry,by rw[PB rx];exact k _ W H (.refl _) G rfl⟩
 .cases h
theorem aCI:P2 K (fun x y H Q=>y=.non/\Q (.bl (!decide (x=.non))) H) (xI true):=by
 intro x y M z M' h W H v u Q G rx ry k;unfold xI at h;split at h
 .cases h;exact⟨ry,by rw[PB rx];exact k _ W H (.refl _) G rfl⟩
 .cases h
theorem aEo{ι:Type}{X:ι->Cx}:Q2 K X (compareOp .Is) (xI false):=⟨_,fun _=>aFo,aFh⟩
theorem aFl{ι:Type}{X:ι->Cx}:Q2 K X (compareOp .IsNot) (xI true):=⟨_,fun _=>aCV,aCI⟩
end
section
variable{K:Fg}
end
end L2
namespace HT
open PySem  PySem.Spec PyProof.Rows
end HT
namespace L2
open PySem PySem.Spec PyProof.Rows
noncomputable def Rsg(xs:Array Nat):Prop:=∀i k:Nat,i<k->k<xs.size->xs.getD i 0<xs.getD k 0
noncomputable abbrev t7(b:Bool)(p:Array Nat):SetTable:=⟨7,p,#[],0,b,0,true⟩
noncomputable abbrev t31(b:Bool)(p:Array Nat):SetTable:=⟨31,p,#[],0,b,1,true⟩
noncomputable def vI:Value->Int
 |.int i _=>i
 |_=>0
structure Tp(b:Bool)(t:SetTable)(es:Array (Int×Value)):Prop where
 bd:∀e∈es.toList,0<=e.1/\e.1<9
 vl:∀e∈es.toList,vI e.2=e.1
 nd:(es.toList.map (·.1)).Nodup
 fm:∃p,Rsg p/\((t=t7 b p/\(∀i,i<p.size->p.getD i 0<=7)/\p.size<=4/\p.size=es.size)\/(t=t31 b p/\p.toList=es.toList.map fun e=>e.1.toNat))
structure aKn(prog:Program)(w:World)(b:Bool)(h:Heap)(a:Addr)(es:Array (Int×Value))(σ:List Int):Prop where
 ob:∃o ep t,h.get? a=some o/\o.ExactSet/\o.data=.set es ep t/\t.fits es.size=true/\Tp b t es
 el:ElemsOf (intKind prog w) es.toList
 sm:es.size<scanBound
 pm:(es.toList.map fun e=>vI e.2).Perm σ
section
variable{prog:Program}{w:World}{A:Around}{E:Value->Shared->Prop}{s:Shared}
theorem aGi{h:Heap}{a:Addr}{o:Obj}{es es':Array (Int×Value)}{ep:Nat}{t t':SetTable}(ho:h.get? a=some o)(hd:o.data=.set es ep t):(h.update a (Obj.putSet es' t')).get? a=some { o with data:=.set es' (ep+1) t' }:=by
 have:=E3 (Obj.putSet es' t') ho (by rw[putSet_of es' t' hd];rfl);rw[putSet_of es' t' hd]at this;exact this
theorem stored{b:Bool}{h:Heap}{a:Addr}{o:Obj}{es es':Array (Int×Value)}{ep:Nat}{t t':SetTable}{σ:List Int}(ho:h.get? a=some o)(hex:o.ExactSet)(hd:o.data=.set es ep t)(el:ElemsOf (intKind prog w) es'.toList)(sm:es'.size<scanBound)(hf:t'.fits es'.size=true)(T:Tp b t' es')(pm:(es'.toList.map fun e=>vI e.2).Perm σ):
 (h.update a (Obj.putSet es' t')).get? a=some { o with data:=.set es' (ep+1) t' }/\aKn prog w b (h.update a (Obj.putSet es' t')) a es' σ:=by
 have hg:=aGi (es':=es') (t':=t') ho hd;exact⟨hg,⟨_,_,_,hg,hex,rfl,hf,T⟩,el,sm,pm⟩
end
section
variable{prog:Program}{w:World}{A:Around}{E:Value->Shared->Prop}{s:Shared}
end
end L2
namespace PySem
section
variable{prog:Program}{w:World}{A:Around}{E:Value->Shared->Prop}{s:Shared}
end
end PySem
namespace L2
variable{apos cpos pos:Pos}
open PySem PySem.Spec PyProof.Rows
section
variable{K:Fg}
noncomputable def aJW:List V->Hp->VK->Prop:=fun xs H Q=>∃i,xs=[.int i]/\i.natAbs.log2<1920/\Q (.str (toString i)) H
noncomputable def iL:FN:=fun xs M=>match xs with
 |[.d (.int i)]=>if i.natAbs.log2<1920 then some (.d (.str (toString i)),M)else none
 |_=>none
theorem aDW:PN K aJW iL:=by
 intro xs M z M' h W H vs Q G r k;unfold iL at h;split at h
 .rename_i i;by_cases hl:i.natAbs.log2<1920
  .rw[A4 hl]at h;cases h;rcases r with _|⟨r1,_|_⟩;exact⟨i,by rw[show _=V.int i from r1],hl,k _ W H (.refl _) G rfl⟩
  .rw[A5 hl]at h;cases h
 .cases h
theorem tG{ι:Type}{X:ι->Cx}:QN K X (.type "str") iL:=⟨_,fun _=>GR,aDW⟩
noncomputable def aIC:R2:=fun x y H Q=>∃i j,x=.str i/\y=.str j/\i.length+j.length<=sizeLine/\Q (.str (i++j)) H
noncomputable def aDP:F2:=fun x y M=>match x,y with
 |.d (.str a),.d (.str b)=>if a.length+b.length<=sizeLine then some (.d (.str (a++b)),M)else none
 |_,_=>none
theorem aCw:P2 K aIC aDP:=by
 intro x y M z M' h W H v u Q G rx ry k;unfold aDP at h;split at h
 .rename_i a b;by_cases hl:a.length+b.length<=sizeLine
  .rw[A4 hl]at h;cases h;exact⟨a,b,rx,ry,hl,k _ W H (.refl _) G rfl⟩
  .rw[A5 hl]at h;cases h
 .cases h
noncomputable def fR:F2:=zO dX aDP
theorem mQ{ι:Type}{X:ι->Cx}(hK:∀i,(X i).K=K):Q2 K X (binaryOp .Add) fR:=⟨_,fun i=>(aIn (hK i)).or LW,P2.or OW aCw⟩
noncomputable def BV:List PyData->Option (List Str)
 |[]=>some []
 |.str x::r=>(BV r).bind fun xs=>some (x::xs)
 |_::_=>none
theorem JV:∀{ds:List PyData}{ns:List Str},BV ds=some ns->ds=ns.map .str
 |[],_=>fun h=>by cases h;rfl
 |d::ds,ns=>fun h=>by
  cases d with
  |str n=>
   obtain⟨ms,h1,h2⟩:=Option.bind_eq_some_iff.mp (show(BV ds).bind (fun ns=>some (n::ns))=some ns from h);cases h2;rw[JV h1];rfl
  |_=>cases h
theorem wR{H:Hp}:∀{ns:List Str}{us:List V},aL K H (ns.map .str) us->us=ns.map .str
 |[],_=>fun h=>h
 |n::ns,_=>fun h=>by
  obtain⟨v,r,rfl,h1,h2⟩:=(show ∃v r,_=v::r/\Rep K H (.str n) v/\aL K H (ns.map .str) r from h);rw[wR h2,show v=V.str n from h1];rfl
theorem ED:∀{ns:List Str}{us:List Value},bF (ns.map .str) us->StrsAre us ns
 |[],_=>fun h=>by cases h;exact .nil
 |n::ns,_=>fun h=>by
  cases h with
  |cons h1 h2=>
   obtain⟨t,rfl⟩:=h1;exact .cons n t (ED h2)
noncomputable def jG(sep:Str)(ys:List Str):Nat:=(ys.map (·.length)).sum+ys.length*sep.length
noncomputable def rJoin(K:Fg):V->List V->Hp->VK->Prop:=fun x vs H Q=>∃sep p ys,x=.str sep/\vs=[.ref p]/\SqL K H p (ys.map .str)/\jG sep ys<=16777216/\Q (.str (Txt.join sep ys)) H
theorem aCD{X:Cx}:MtR X "str.join" (rJoin X.K):=by
 intro pins s σ H x vs v us Q I rx rv h;obtain⟨sep,p,ys,rfl,rfl,hp,hz,q⟩:=h;obtain⟨t,rfl⟩:=rx;obtain⟨u,rfl,ru⟩:=vals1 rv;cases ru;obtain⟨its,rv',pl,hz'⟩:=I.list hp;exact join_list pl.isList (by simpa using ED rv') hz fun t' k=>⟨.str _,H,I.tok _,⟨_,rfl⟩,q⟩
noncomputable def jB:FM:=fun x vs M=>match x,vs with
 |.d (.str sep),[.d (.list ds)]=>(BV ds).bind fun ys=>if jG sep ys<=16777216 then some (.d (.str (Txt.join sep ys)),M)else none
 |_,_=>none
theorem aCQ:PM K (rJoin K) jB:=by
 intro x ys M z M' h W H v vs Q G rx rs k;unfold jB at h;split at h
 .rename_i sep ds;obtain⟨ys,h1,h⟩:=aJ h;by_cases hl:jG sep ys<=16777216
  .rw[A4 hl]at h;cases h;rcases rs with _|⟨r1,_|_⟩;obtain⟨p,us,rfl,hq,hr⟩:=(show ∃a us,_=V.ref a/\SqL K W.F a us/\aL K W.F ds us from r1);rw[JV h1]at hr;rw[wR hr]at hq;exact⟨sep,p,ys,rx,rfl,G.fh.seq hq,hl,k _ W H (.refl _) G rfl⟩
  .rw[A5 hl]at h;cases h
 .cases h
theorem HE{ι:Type}{X:ι->Cx}{o e:Expr}{f:EF}{fa:AF}(hK:∀i,(X i).K=K)(x:ME K X o f)(y:MA K X [e] fa)(hb:∀env:Env,attributeBase o "join" env (eval o env)=eval o env:=by intro _;rfl)(hl:(apos.endLine==cpos.line)=true:=by rfl):
 ME K X (.Call (.Attribute o "join" apos) [e] [] cpos) (aZ "str" jB f fa):=by
 obtain⟨t,x1,x2⟩:=x.ex;obtain⟨u,y1,y2⟩:=y.ex;refine⟨_,fun i=>?_,yG aCQ x2 y2⟩;have:=QH PySem.F.plainAttrs_str PySem.F.slot_str_join PySem.F.type_str_join aCD (x1 i) (y1 i) (apos:=apos) (cpos:=cpos) (hb _) (by rw[y.st.1];rfl) hl (y.st.1 _) (y.st.2.plain _ _);rw[hK i]at this;exact this
end
section
variable{K:Fg}
noncomputable def OO(K:Fg)(td ty:TE):TE:=fun σ H Q=>td σ H fun x H1=>ty σ H1 fun y H2=>∃a b kvs k v,x=.ref a/\y=.ref b/\Rd H2 a (.dT kvs)/\SqT K H2 b (k.map kV)/\hX kvs k=some v/\Q v H2
theorem aBf{X:Cx}{o i:Expr}{td ty:TE}(hu:X.A.units+1<cLine)(ho:PE X o td)(hi:PE X i ty)(hs:aDZ i):PE X (.Subscript o i pos) (OO X.K td ty):=by
 intro pins s σ H Q I h;refine aCo PySem.F.slot_dict_getitem.lookup hs (thn (ho pins s σ H _ I h) fun u s1 ⟨x,H1,I1,rx,q1⟩=>thn (hi pins s1 σ H1 _ I1 q1) fun iv s2 ⟨y,H2,I2,ry,a,b,kvs,k,v,ex,ey,e,eb,hv,q2⟩=>?_);subst ex;subst ey;obtain rfl:u=Value.ref a:=rx;cases (show iv=Value.ref b from ry);obtain⟨z,hd,xs,rel,dd⟩:=XD I2.hok e;obtain⟨w',hw,rw'⟩:=vT.some_of (v:=v) (o:=(atKey xs k).map (·.2)) (by rw[<- hv];exact rel.val k);obtain⟨p,hp,hp2⟩:=Option.map_eq_some_iff.mp hw;obtain⟨its,r,⟨ob,h1,h2,n,h3⟩,_⟩:=I2.tuple eb;refine⟨dd.typeIs,wpAny_getItem_heap (tupleKind_room_in1 hu) (k:=k) ⟨ob,its.toArray,n,h1,h2,h3,by simpa using uP r⟩ dd hp ?_⟩;rw[hp2];exact⟨v,H2,I2.tok _,rw',q2⟩
theorem VA{X:Cx}{o i:Expr}{td ty:TE}(hK:X.K=K)(hu:X.A.units+1<cLine)(ho:PE X o td)(hi:PE X i ty)(hs:aDZ i):PE X (.Subscript o i pos) (OO K td ty):=by subst hK;exact aBf hu ho hi hs
noncomputable def EN(fo fi:EF):EF:=fun γ M=>(fo γ M).bind fun o=>(fi γ o.2).bind fun k=>match k.1 with
 |.d (.tuple ds)=>(keysOf (ds.map .d)).bind fun ks=>(atD k.2 o.1 (.inr ks)).bind fun r=>r.bind fun x=>some (x,k.2)
 |_=>none
theorem aAs{td ty:TE}{fo fi:EF}(a:SE K td fo)(b:SE K ty fi):SE K (OO K td ty) (EN fo fi):=by
 intro γ M x M' hh W H σ Q G R c;obtain⟨⟨o,M1⟩,h1,hh⟩:=aJ hh;obtain⟨⟨ky,M2⟩,h2,hh⟩:=aJ hh;dsimp only at hh h2;split at hh
 .rename_i ds;obtain⟨ks,h3,hh⟩:=aJ hh;obtain⟨r,h4,hh⟩:=aJ hh;obtain⟨z,h5,hh⟩:=aJ hh;cases hh;subst h5;refine a _ _ _ _ h1 W H σ _ G R fun v W1 H1 e1 G1 r1=>b _ _ _ _ h2 W1 H1 σ _ G1 (R.up e1) fun y W2 H2 e2 G2 r2=>?_;obtain⟨q,us,rfl,hq,hr⟩:=(show ∃a us,y=V.ref a/\SqT K W2.F a us/\aL K W2.F ds us from r2);have ev:us=ks.map kV:=sM h3 (kM hr);subst ev;have hq':=G2.fh.seqT hq;have r1':=r1.up e2;cases o with
  |c i=>
   have h4:(match M'[i]? with|some (Cell.dt kvs)=>some (lkC kvs ks)|_=>none)=some (some x):=h4;split at h4
   .rename_i kvs hk;obtain⟨us,g1,g2⟩:=G2.dtAt hk;have ro:=yC (k:=ks) g2;rw[D3 h4]at ro;cases c':hX us ks with
    |none=>rw[c']at ro;exact False.elim ro
    |some u=>rw[c']at ro;exact⟨_,q,us,ks,u,r1'.2,rfl,.inl g1,hq',c',c u W2 H2 (e1.trans e2) G2 ro⟩
   .cases h4
  |f kvs=>
   have h4:some ((lkP kvs ks).map CD.d)=some (some x):=h4;obtain⟨p,ob,us,rfl,g1,g2⟩:=r1';have ro:=BG (k:=ks) g2;rw[D3 h4]at ro;cases c':hX us ks with
   |none=>rw[c']at ro;exact False.elim ro
   |some u=>rw[c']at ro;exact⟨_,q,us,ks,u,rfl,rfl,.inr ⟨ob,G2.fh _ _ g1⟩,hq',c',c u W2 H2 (e1.trans e2) G2 ro⟩
  |d _=>cases h4
  |t _=>cases h4
  |g _=>cases h4
 .cases hh
theorem ZE{ι:Type}{X:ι->Cx}{o i:Expr}{f g:EF}(hK:∀j,(X j).K=K)(hu:∀j,(X j).A.units+1<cLine)(x:ME K X o f)(y:ME K X i g)(hs:aDZ i:=by intro _ _;rfl):ME K X (.Subscript o i pos) (EN f g):=by
 obtain⟨t,x1,x2⟩:=x.ex;obtain⟨u,y1,y2⟩:=y.ex;exact⟨_,fun j=>VA (hK j) (hu j) (x1 j) (y1 j) hs,aAs x2 y2⟩
theorem jC{env:Env}:∀{names:List (Str×NameKind)}{x:Str},names.lookup x=some .cell\/names.lookup x=some .free->
 (names.map fun(n,k)=>if (k==NameKind.free&&env.scope.kind==.function&&env.kindOf n==some .cell)then(n,NameKind.cell)else(n,k)).lookup x=some .cell \/
 (names.map fun(n,k)=>if (k==NameKind.free&&env.scope.kind==.function&&env.kindOf n==some .cell)then(n,NameKind.cell)else(n,k)).lookup x=some .free
 |[],_=>fun h=>by simp at h
 |(n,k)::r,x=>fun h=>by
  have ih:=@jC env r x;show List.lookup x ((if (k==NameKind.free&&env.scope.kind==.function&&env.kindOf n==some .cell)=true then(n,NameKind.cell)else(n,k))::_)=_\/List.lookup x ((if (k==NameKind.free&&env.scope.kind==.function&&env.kindOf n==some .cell)=true then(n,NameKind.cell)else(n,k))::_)=_;cases hx:x==n with
  |true=>
   simp only[List.lookup_cons,hx]at h;by_cases hc:(k==NameKind.free&&env.scope.kind==.function&&env.kindOf n==some .cell)=true
   .rw[A4 hc];simp only[List.lookup_cons,hx];exact .inl trivial
   .rw[A5 hc];simp only[List.lookup_cons,hx];exact h
  |false=>
   simp only[List.lookup_cons,hx]at h;by_cases hc:(k==NameKind.free&&env.scope.kind==.function&&env.kindOf n==some .cell)=true
   .rw[A4 hc];simp only[List.lookup_cons,hx];exact ih h
   .rw[A5 hc];simp only[List.lookup_cons,hx];exact ih h
theorem QA{ι:Type}{X:ι->Cx}{N1 N':List Str}{sc1 scope:Scope}{cap:List (Option Nat)}{j:LcI ι}(h:aAn sc1 N1 N' cap scope=true):oP (nD X N1 sc1 j) N' cap scope:=by
 have S:oP { nD X N1 sc1 j with env:={ (nD X N1 sc1 j).env with scope:=sc1 } } N' cap scope:=cS (sc0:=sc1) (N:=N1) rfl rfl h;exact⟨S.nocell,S.kind,S.names,fun y hy hk=>jC (S.frees y hy hk),S.len,S.cap⟩
end
section
variable{K:Fg}
noncomputable def rC(a b:Str):Bool:=!(b.length==0)&&decide (a.length<=sizeLine)&&decide ((Builtin.Str.partsBetween a (Builtin.Str.occurrences a b 0 a.length (a.length+1)) b.length).length<=sizeLine)&&decide ((Txt.split a b).length<=sizeLine)
noncomputable def YO:V->List V->Hp->VK->Prop:=fun x vs H Q=>∃a b,x=.str a/\vs=[.str b]/\rC a b=true/\∀l,H l=none->Q (.ref l) (upd H l (.lst ((Txt.split a b).map .str)))
theorem tO:∀l:List (Str×Tok),bF ((l.map (·.1)).map V.str) (strValues l)
 |[]=>.nil
 |p::l=>.cons ⟨p.2,rfl⟩ (tO l)
theorem aBu{X:Cx}:MtR X "str.split" YO:=by
 intro pins s σ H x vs v us Q I rx rv h;obtain⟨a,b,rfl,rfl,ok,q⟩:=h;obtain⟨t,rfl⟩:=rx;obtain⟨u,rfl,ru⟩:=vals1 rv;obtain⟨t',rfl⟩:=ru;unfold rC at ok;simp only[Bool.and_eq_true,decide_eq_true_eq,Bool.not_eq_true']at ok;obtain⟨⟨⟨hy,hsz⟩,hsz2⟩,hl⟩:=ok
 have fin:∀(l:List (Str×Tok))(tk:Nat)(c:Nat),l.map (·.1)=Txt.split a b->EP X pins σ Q (.ref s.heap.objs.size) { s with toks:=tk,heap:=s.heap.push { cls:=.type "list",data:=.seq (strValues l).toArray c } }:=fun l tk c e=>by
  have I2:=I.laid (h':=s.heap.push { cls:=.type "list",data:=.seq (strValues l).toArray c }) (t':=tk) (o:=.lst ((Txt.split a b).map .str)) (a:=s.heap.objs.size) (fun x o hx=>A3 _ hx) (A8 _) ⟨by rw[A2];exact hl,strValues l,c,by rw[<- e];exact tO l,B3 _ rfl⟩;exact⟨.ref _,_,I2,rfl,q _ (I.hok.fresh (A8 _))⟩
 cases h1:(decide (a.length<b.length) || decide (Builtin.Str.strKind a<Builtin.Str.strKind b))
 .cases hf:(Builtin.Str.occurrences a b 0 a.length (a.length+1)).isEmpty
  .refine Z1 U4 (Z0 _ _ _) PySem.F.entry_str_split (PySem.F.args_str_split_2 _ _) (meets_str_split_sep a b t t' h1 hy hf hsz hsz2) ?_;show wants _ _ _ { s with toks:=_,heap:=s.heap.push { cls:=.type "list",data:=.seq (strsFrom s.toks (Builtin.Str.partsBetween a (Builtin.Str.occurrences a b 0 a.length (a.length+1)) b.length)).toArray } };rw[strsFrom_eq];exact fin (numbered s.toks _) _ _ ((numbered_texts _ _).trans ((A5 (ne_true_of_eq_false h1)).trans (A5 (ne_true_of_eq_false hf))).symm)
  .exact Z1 U4 (Z0 _ _ _) PySem.F.entry_str_split (PySem.F.args_str_split_2 _ _) (meets_str_split_not_found a b t t' h1 hy hf) (fin [(a,t)] s.toks _ ((A5 (ne_true_of_eq_false h1)).trans (A4 hf)).symm)
 .exact Z1 U4 (Z0 _ _ _) PySem.F.entry_str_split (PySem.F.args_str_split_2 _ _) (meets_str_split_cannot_occur a b t t' h1) (fin [(a,t)] s.toks _ (A4 h1).symm)
noncomputable def iW:FM:=fun x vs M=>match x,vs with
 |.d (.str a),[.d (.str b)]=>if rC a b=true then some (.d (.list ((Txt.split a b).map .str)),M)else none
 |_,_=>none
theorem AV{H:Hp}:∀ls:List Str,aL K H (ls.map .str) (ls.map .str)
 |[]=>rfl
 |_::ls=>⟨_,_,rfl,rfl,AV ls⟩
theorem aAf:PM K YO iW:=by
 intro x ys M z M' h W H v vs Q G rx rs k;unfold iW at h;split at h
 .rename_i a b;by_cases ok:rC a b=true
  .rw[A4 ok]at h;cases h;rcases rs with _|⟨r1,_|_⟩;refine⟨a,b,rx,by rw[show _=V.str b from r1],ok,fun l hl=>?_⟩;obtain⟨e2,G2⟩:=G.lay (o:=.lst ((Txt.split a b).map .str)) hl;exact k _ _ _ e2 G2 ⟨l,_,rfl,SqL.of aV,AV _⟩
  .rw[A5 ok]at h;cases h
 .cases h
theorem AW{ι:Type}{X:ι->Cx}{o e:Expr}{f:EF}{fa:AF}(hK:∀i,(X i).K=K)(x:ME K X o f)(y:MA K X [e] fa)(hb:∀env:Env,attributeBase o "split" env (eval o env)=eval o env:=by intro _;rfl)(hl:(apos.endLine==cpos.line)=true:=by rfl):
 ME K X (.Call (.Attribute o "split" apos) [e] [] cpos) (aZ "str" iW f fa):=by
 obtain⟨t,x1,x2⟩:=x.ex;obtain⟨u,y1,y2⟩:=y.ex;refine⟨_,fun i=>?_,yG aAf x2 y2⟩;have:=QH PySem.F.plainAttrs_str U4 PySem.F.type_str_split aBu (x1 i) (y1 i) (apos:=apos) (cpos:=cpos) (hb _) (by rw[y.st.1];rfl) hl (y.st.1 _) (y.st.2.plain _ _);rw[hK i]at this;exact this
noncomputable def ixS:F2:=fun x y M=>match x,y with
 |.d (.str z),.d (.int n)=>if z.length<=sizeLine then(atI z.cps.toList n).bind fun c=>some (.d (.str ⟨#[c]⟩),M)else none
 |_,_=>none
theorem aGJ:P2 K aGq ixS:=by
 intro x y M z M' h W H v u Q G rx ry k;unfold ixS at h;split at h
 .rename_i w n;by_cases hl:w.length<=sizeLine
  .rw[A4 hl]at h;obtain⟨c,h1,h⟩:=aJ h;cases h;exact⟨w,n,c,rx,ry,hl,h1,k _ W H (.refl _) G rfl⟩
  .rw[A5 hl]at h;cases h
 .cases h
theorem aIP{ι:Type}{X:ι->Cx}:QI K X ixS:=⟨_,fun _=>WJ,aGJ⟩
noncomputable def inS(neg:Bool):F2:=fun x y M=>match x,y with
 |.d (.str a),.d (.str b)=>some (.d (.bool (if neg then !(!(Builtin.Str.occurrences b a 0 b.length 1).isEmpty)else !(Builtin.Str.occurrences b a 0 b.length 1).isEmpty)),M)
 |_,_=>none
theorem aFu:P2 K (fun x y H Q=>∃i j,x=.str i/\y=.str j/\Q (.bl (!(Builtin.Str.occurrences j i 0 j.length 1).isEmpty)) H) (inS false):=by
 intro x y M z M' h W H v u Q G rx ry k;unfold inS at h;split at h
 .rename_i a b;cases h;exact⟨a,b,rx,ry,k _ W H (.refl _) G rfl⟩
 .cases h
theorem aIr{ι:Type}{X:ι->Cx}:Q2 K X (compareOp .In) (inS false):=⟨_,fun _=>UG,aFu⟩
noncomputable def lD(f:EF):TF:=fun γ M=>(f γ M).bind fun r=>match r.1 with
 |.d (.str y)=>if y.length<=sizeLine then some (((y.length:Int) != 0),r.2)else none
 |_=>none
theorem aBS{ta:TE}{f:EF}(a:SE K ta f):STt K (fun σ H Q=>ta σ H fun x H'=>∃k,aAS K x H' k/\Q k H') (lD f):=by
 intro γ M b M' hh W H σ Q G R k;obtain⟨⟨y,M1⟩,h1,hh⟩:=aJ hh;dsimp only at hh;split at hh
 .rename_i w;by_cases hl:w.length<=sizeLine
  .rw[A4 hl]at hh;cases hh;refine a _ _ _ _ h1 W H σ _ G R fun v W1 H1 e1 G1 r1=>⟨_,?_,k W1 H1 e1 G1⟩;rw[show v=.str w from r1];exact⟨hl,rfl⟩
  .rw[A5 hl]at hh;cases hh
 .cases hh
theorem GC{ι:Type}{X:ι->Cx}{a:Expr}{f:EF}(hK:∀i,(X i).K=K)(x:ME K X a f)(he:∀(env:Env)(whole:Sem Value),isTrue a env whole=(do let v <- whole;standAt a.pos;holding [v] (truthy v)):=by intro _ _;rfl):MT K X a (lD f):=by
 obtain⟨t,x1,x2⟩:=x.ex;exact⟨_,fun i=>PH (hK i) (x1 i) (he _),aBS x2⟩
end
section
variable{K:Fg}
noncomputable def aEz:List V->Hp->VK->Prop:=fun xs H Q=>∃x n,xs=[.str x]/\PySem.intText? x=some n/\x.length<=640/\Q (.int n) H
theorem UX{X:Cx}:eI X (.type "int") aEz:=by
 intro pins s σ H xs us Q I r h;obtain⟨x,n,rfl,hn,hl,q⟩:=h;obtain⟨u,rfl,t,rfl⟩:=vals1 r;exact PySem.W.KIN.call_text hn hl ⟨.int n,H,I.tok _,⟨_,rfl⟩,q⟩
noncomputable def OV:FN:=fun xs M=>match xs with
 |[.d (.str x)]=>if x.length<=640 then(PySem.intText? x).bind fun n=>some (.d (.int n),M)else none
 |_=>none
theorem aDl:PN K aEz OV:=by
 intro xs M z M' h W H vs Q G r k;unfold OV at h;split at h
 .rename_i x;by_cases hl:x.length<=640
  .rw[A4 hl]at h;obtain⟨n,h1,h⟩:=aJ h;cases h;rcases r with _|⟨r1,_|_⟩;exact⟨x,n,by rw[show _=V.str x from r1],h1,hl,k _ W H (.refl _) G rfl⟩
  .rw[A5 hl]at h;cases h
 .cases h
theorem aFV{ι:Type}{X:ι->Cx}:QN K X (.type "int") OV:=⟨_,fun _=>UX,aDl⟩
noncomputable def aEx(K:Fg):List V->Hp->VK->Prop:=fun xs H Q=>∃x n,xs=[x]/\aIm K x H n/\Q (.int n) H
theorem aJG{X:Cx}(h:X.K=K):eI X (.builtin "len") (aEx K):=by subst h;exact WH
noncomputable def JT:FN:=fun xs M=>match xs with
 |[.d (.str x)]=>if x.length<=sizeLine then some (.d (.int x.length),M)else none
 |_=>none
theorem aDQ:PN K (aEx K) JT:=by
 intro xs M z M' h W H vs Q G r k;unfold JT at h;split at h
 .rename_i x;by_cases hl:x.length<=sizeLine
  .rw[A4 hl]at h;cases h;rcases r with _|⟨r1,_|_⟩;exact⟨.str x,x.length,by rw[show _=V.str x from r1],⟨hl,rfl⟩,k _ W H (.refl _) G rfl⟩
  .rw[A5 hl]at h;cases h
 .cases h
theorem aIl{ι:Type}{X:ι->Cx}(hK:∀i,(X i).K=K):QN K X (.builtin "len") JT:=⟨_,fun i=>aJG (hK i),aDQ⟩
noncomputable def gS(x y:Str):List Str:=match Builtin.Str.occurrences x y 0 x.length 1 with
 |i::_=>[Builtin.Str.strSub x 0 i,y,Builtin.Str.strSub x (i+y.length) x.length]
 |[]=>[x,Str.empty,Str.empty]
theorem VO(x y:Str):(gS x y).length=3:=by
 unfold gS;split<;>rfl
noncomputable def aEX:V->List V->Hp->VK->Prop:=fun x vs H Q=>∃a b,x=.str a/\vs=[.str b]/\(b.length==0)=false/\a.length<=sizeLine/\∀l,H l=none->Q (.ref l) (upd H l (.tup ((gS a b).map .str)))
theorem aDq{X:Cx}:MtR X "str.partition" aEX:=by
 intro pins s σ H x vs v us Q I rx rv h;obtain⟨a,b,rfl,rfl,hy,hsz,q⟩:=h;obtain⟨t,rfl⟩:=rx;obtain⟨u,rfl,ru⟩:=vals1 rv;obtain⟨t',rfl⟩:=ru;refine Z1 PySem.F.slot_str_partition (Z0 _ _ _) PySem.F.entry_str_partition (PySem.F.args_str_partition_2 _ _) (meets_str_partition a b t t' hy hsz) ?_
 have fin:∀(its:List Value)(tk:Nat)(c:Nat),bF ((gS a b).map .str) its->EP X pins σ Q (.ref s.heap.objs.size) { s with toks:=tk,heap:=s.heap.push { cls:=.type "tuple",data:=.seq its.toArray c } }:=fun its tk c e=>by
  have I2:=I.laid (h':=s.heap.push { cls:=.type "tuple",data:=.seq its.toArray c }) (t':=tk) (o:=.tup ((gS a b).map .str)) (a:=s.heap.objs.size) (fun x o hx=>A3 _ hx) (A8 _) ⟨by rw[A2,VO,F0];decide,its,e,⟨_,B3 _ rfl,rfl,c,rfl⟩⟩;exact⟨.ref _,_,I2,rfl,q _ (I.hok.fresh (A8 _))⟩
 unfold gS at fin;revert fin;cases Builtin.Str.occurrences a b 0 a.length 1 with
 |nil=>intro fin;exact fin _ _ _ (.cons ⟨_,rfl⟩ (.cons ⟨_,rfl⟩ (.cons ⟨_,rfl⟩ .nil)))
 |cons i r=>intro fin;exact fin _ _ _ (.cons ⟨_,rfl⟩ (.cons ⟨_,rfl⟩ (.cons ⟨_,rfl⟩ .nil)))
noncomputable def BW:FM:=fun x vs M=>match x,vs with
 |.d (.str a),[.d (.str b)]=>if (b.length==0)=false/\a.length<=sizeLine then some (.d (.tuple ((gS a b).map .str)),M)else none
 |_,_=>none
theorem aDe:PM K aEX BW:=by
 intro x ys M z M' h W H v vs Q G rx rs k;unfold BW at h;split at h
 .rename_i a b;by_cases ok:(b.length==0)=false/\a.length<=sizeLine
  .rw[A4 ok]at h;cases h;rcases rs with _|⟨r1,_|_⟩;refine⟨a,b,rx,by rw[show _=V.str b from r1],ok.1,ok.2,fun l hl=>?_⟩;obtain⟨e2,G2⟩:=G.lay (o:=.tup ((gS a b).map .str)) hl;exact k _ _ _ e2 G2 ⟨l,_,rfl,SqT.of aV,AV _⟩
  .rw[A5 ok]at h;cases h
 .cases h
theorem aCf{ι:Type}{X:ι->Cx}{o e:Expr}{f:EF}{fa:AF}(hK:∀i,(X i).K=K)(x:ME K X o f)(y:MA K X [e] fa)(hb:∀env:Env,attributeBase o "partition" env (eval o env)=eval o env:=by intro _;rfl)(hl:(apos.endLine==cpos.line)=true:=by rfl):
 ME K X (.Call (.Attribute o "partition" apos) [e] [] cpos) (aZ "str" BW f fa):=by
 obtain⟨t,x1,x2⟩:=x.ex;obtain⟨u,y1,y2⟩:=y.ex;refine⟨_,fun i=>?_,yG aDe x2 y2⟩;have:=QH PySem.F.plainAttrs_str PySem.F.slot_str_partition PySem.F.type_str_partition aDq (x1 i) (y1 i) (apos:=apos) (cpos:=cpos) (hb _) (by rw[y.st.1];rfl) hl (y.st.1 _) (y.st.2.plain _ _);rw[hK i]at this;exact this
end
noncomputable def Its(x:Str):It:=⟨fun i _=>i<x.cps.size,fun i H v H'=>H'=H/\∃c,x.cps[i]?=some c/\v=.str ⟨#[c]⟩,fun i _=>x.cps.size<=i⟩
theorem aBt{P:Program}{w:World}{K:Fg}{tg:Expr}(it:Addr)(x:Str)(t:Tok):Turn P w K tg (Its x) [it] it (fun i h=>h.IsStrIter it "str_ascii_iterator" x t i) where
 mem:=by simp
 obj:=fun i h st b hb=>by
  have e:b=it:=by simpa using hb
  subst e;obtain⟨o,h1,h2,h3⟩:=st;exact⟨_,h1,fun v z=>by rw[h3]at z;cases z⟩
 keep:=fun i h h' st k=>by
  obtain⟨o,h1,h2,h3⟩:=st;exact⟨o,k it (by simp) _ h1,h2,h3⟩
 item:=by
  intro X hP hw hK hc i pins s σ H E I hf st hg;subst hP hw hK;obtain⟨f0,f1,f2,f3,f4,f5⟩:=hf it (by simp);have W:=Walks.strAscii (prog:=X.prog) (w:=X.w) (I.ok.hd hc) it x t;refine W.item i s _ _ hg st fun v h' tk hv st' kk=>?_;obtain⟨c,u,hc',rfl⟩:=hv;have I1:Inv X pins σ H { s with heap:=h',toks:=tk }:=I.turned (fun b o hb e=>kk b o (by simpa using hb) e) f0 f1 f3 f4 f5;obtain⟨o,h1,h2,h3⟩:=id st';exact⟨_,rfl,PK (s:={ s with heap:=h',toks:=tk }) (n:="str_ascii_iterator") h1 h2 h3 (by decide) ⟨.str ⟨#[c]⟩,H,I1,⟨u,rfl⟩,⟨rfl,c,hc',rfl⟩,st',fun b hb=>(hf b hb).1⟩⟩
 done:=by
  intro X hP hw hK hc i pins s σ H E I hf st hg;subst hP hw hK;obtain⟨f0,f1,f2,f3,f4,f5⟩:=hf it (by simp);exact wpAny_pyNext_ascii_end (I.ok.hd hc) st (by have:x.cps.size<=i:=hg;simp;omega) fun h' eb=>⟨rfl,I.turned (t':=s.toks) (fun b o hb e=>eb b o hb e) f0 f1 f3 f4 f5⟩
 self:=fun _ _ _ _ _ st h=>wpAny_pyIter_striter_ascii st h
section
variable{X:Cx}{tg:Expr}
noncomputable def aJK(tl:TE):TI:=fun σ H R=>tl σ H fun x H1=>∃y,x=.str y/\y.cps.all (·<128)=true/\R (Its y) H1
theorem aHm{l:Expr}{tl:TE}(hl:PE X l tl):PI X tg l (aJK tl):=by
 intro pins s σ H R I h;refine thn (hl pins s σ H _ I h) fun v s1 ⟨x,H1,I1,r1,q1⟩=>?_;obtain⟨y,e,ha,q⟩:=q1;subst e;obtain⟨t,rfl⟩:=r1;refine wpAny_pyIter_ascii ha ?_;refine⟨s1.heap.objs.size,[s1.heap.objs.size],_,_,H1,rfl,I1.kept (t':=s1.toks) fun b o e=>A3 _ e,aBt _ y t,⟨_,B3 _ rfl,rfl,rfl⟩,fun b hb=>?_,q⟩;have e:b=s1.heap.objs.size:=by simpa using hb
 subst e;exact I1.fpOk (A8 _) (I1.hok.fresh (A8 _))
end
section
variable{K:Fg}
noncomputable def AJ(y:Str):List CD:=y.cps.toList.map fun c=>.d (.str ⟨#[c]⟩)
theorem SV{y:Str}{W:Wd}:GW K (Its y) (AJ y) W:=fun W' M' H' e G=>by
 refine⟨fun i x hx=>?_,?_⟩
 .unfold AJ at hx;rw[D2,Option.map_eq_some_iff]at hx;obtain⟨c,hc,rfl⟩:=hx;rw[J5]at hc;refine⟨(Array.getElem?_eq_some_iff.mp hc).1,fun v H'' hy=>⟨W',.refl _,by rw[hy.1];exact G,?_⟩⟩;obtain⟨c',h1,rfl⟩:=hy.2;rw[hc]at h1;cases h1;rfl
 .show y.cps.size<=_;simp[AJ]
noncomputable def BQ(f:EF):AF:=fun γ M=>(f γ M).bind fun r=>match r.1 with
 |.d (.str y)=>if y.cps.all (·<128)=true then some (AJ y,r.2)else none
 |_=>none
theorem aIa{t:TE}{f:EF}(a:SE K t f):SI K (aJK t) (BQ f):=by
 intro γ M xs M' hh W H σ R G Rs k;obtain⟨⟨y,M1⟩,h1,hh⟩:=aJ hh;dsimp only at hh;split at hh
 .rename_i z;by_cases hs:z.cps.all (·<128)=true
  .rw[A4 hs]at hh;cases hh;exact a _ _ _ _ h1 W H σ _ G Rs fun v W1 H1 e1 G1 r1=>⟨z,r1,hs,k _ W1 H1 e1 G1 SV⟩
  .rw[A5 hs]at hh;cases hh
 .cases hh
theorem aIk{ι:Type}{X:ι->Cx}{tg e:Expr}{f:EF}(x:ME K X e f):MI K X tg e (BQ f):=by
 obtain⟨t,x1,x2⟩:=x.ex;exact⟨_,fun i=>aHm (x1 i),aIa x2⟩
end
section
variable{K:Fg}
theorem XH{ι:Type}{X:ι->Cx}{x:Str}{n:Str}(hm:∀i,∃t:Tok,(X i).mg x=some (.str n t))(hg:∀i,Gl (X i) x:=by intro _;rfl)(hd:(x==("__debug__":Str))=false:=by decide):ME K X (.Name x pos) (fC (.str n)):=
 ⟨_,fun i=>HA (v:=.str n) (hg i) (hm i).choose_spec ⟨_,rfl⟩ hd,ZU⟩
structure OC(K:Fg)(C:Addr):Prop where
 cl:Cls K C
 ha:PySem.W.findIn K (.ref C) "__class__"=some (some (.builtin "object.__class__"))
 hn:PySem.W.specialIn K (.builtin "object.__class__") "__get__"=some (some (.builtin "getset_descriptor.__get__"))
 htk:PySem.W.takesIn K (.builtin "object.__class__")=some true
 hm:PySem.W.mroIn K C (.type "object")=some true
 me:PySem.W.kitOne K (.ref C) (.ref C)=some true
noncomputable def aAU(K:Fg):List V->Hp->VK->Prop:=fun xs H Q=>∃a C dx fs,xs=[.ref a,.ref C]/\H a=some (.ins C dx fs)/\OC K C/\Q (.bl true) H
theorem RY{X:Cx}:eI X (.builtin "isinstance") (aAU X.K):=by
 intro pins s σ H xs us Q I r h;obtain⟨a,C,dx,fs,rfl,ha,oc,q⟩:=h;obtain⟨u,u',rfl,ru,ru'⟩:=vals2 r;cases (show u'=Value.ref C from ru');exact SC I ru (.ins ha oc.cl oc.ha oc.hn oc.htk oc.hm) oc.me fun tk=>⟨.bl true,H,I.tok tk,rfl,q⟩
theorem aJa{X:Cx}(h:X.K=K):eI X (.builtin "isinstance") (aAU K):=by subst h;exact RY
noncomputable def CW(nm:Str)(f:EF):EF:=fun γ M=>(f γ M).bind fun r=>(objOf nm r.2 r.1).bind fun _=>some (.d (.bool true),r.2)
theorem aCp{nm:Str}{ta:TE}{f:EF}(oc:OC K (bN K nm))(a:SE K ta f):SE K (tCB (aAU K) (rO ta (rO (tC (.ref (bN K nm))) TY))) (CW nm f):=by
 intro γ M x M' hh W H σ Q G R k;obtain⟨⟨y,M1⟩,h1,hh⟩:=aJ hh;obtain⟨⟨i,fs⟩,h2,hh⟩:=aJ hh;cases hh;refine a _ _ _ _ h1 W H σ _ G R fun u W1 H1 e1 G1 r1=>?_;obtain⟨rfl,hM⟩:=tQ h2;obtain⟨dx,us,hH,hp⟩:=G1.objAt hM;exact⟨W1.α i,_,dx,us,by rw[r1.2],hH,oc,k _ W1 H1 e1 G1 rfl⟩
theorem aCt{ι:Type}{X:ι->Cx}{a:Expr}{f:EF}{pos:Pos}{y nm:Str}{p p':Pos}(hK:∀i,(X i).K=K)(oc:OC K (bN K nm))(hy:∀i p',PE (X i) (.Name y p') (tC (.ref (bN K nm))))
 (x:ME K X a f) (hs:aAt a [.Name y p']) (hm:∀i,(X i).mg "isinstance"=none) (hg:∀i,Gl (X i) "isinstance":=by intro _;rfl):ME K X (.Call (.Name "isinstance" p) [a,.Name y p'] [] pos) (CW nm f):=by
 obtain⟨t,x1,x2⟩:=x.ex;exact⟨_,fun i=>uM (aJa (hK i)) (hg i) (hm i) boot_isinstance (jH (x1 i) (jH (hy i _) zM cR) (hs _)) (by decide) (by decide) (hs _) (nZ cR uU),aCp oc x2⟩
noncomputable def aIR:V->Option Int->Option Int->Hp->VK->Prop:=fun x lo hi H Q=>∃y,x=.str y/\y.length<=sizeLine/\Q (.str (Txt.slice y lo hi)) H
theorem aFD{X:Cx}:SlR X aIR:=by
 intro pins s σ H x v vl vu lo hi sl Q I rx hs pl pu h;obtain⟨y,rfl,hz,q⟩:=h;obtain⟨t,rfl⟩:=rx;refine⟨"str",_,PySem.F.slot_str_getitem.lookup,Z0 _ _ _,?_⟩
 have fin:∀l u,l.map (·.1)=lo->u.map (·.1)=hi->s.heap.IsSlice sl l u none->wpAny (model X.prog X.w) X.A (getItem (.str y t) (.ref sl)) (EP X pins σ Q) X.xe s:=fun l u e1 e2 hsl=>by
  subst e1 e2;exact wpAny_getItem_str_slice hsl rfl (post_val_or_str ⟨C9 (Txt.slice_le y _ _) hz,fun t' k=>⟨.str _,H,I.tok _,⟨_,rfl⟩,q⟩⟩)
 cases pl with
 |none=>cases pu with
  |none=>exact fin none none rfl rfl hs
  |int j u=>exact fin none (some (j,u)) rfl rfl hs
 |int i t1=>cases pu with
  |none=>exact fin (some (i,t1)) none rfl rfl hs
  |int j u=>exact fin (some (i,t1)) (some (j,u)) rfl rfl hs
noncomputable def WQ(f:EF)(l u:OF):EF:=fun γ M=>(f γ M).bind fun r=>(l γ r.2).bind fun p=>(u γ p.2).bind fun q=>match r.1 with
 |.d (.str y)=>if y.length<=sizeLine then some (.d (.str (Txt.slice y p.1 q.1)),q.2)else none
 |_=>none
theorem aGH{ta:TE}{f:EF}{tl th:TO}{l u:OF}(a:SE K ta f)(b:SO K tl l)(c:SO K th u):SE K (tSl aIR ta tl th) (WQ f l u):=by
 intro γ M x M' hh W H σ Q G R k;obtain⟨⟨y,M1⟩,h1,hh⟩:=aJ hh;obtain⟨⟨p,M2⟩,h2,hh⟩:=aJ hh;obtain⟨⟨q,M3⟩,h3,hh⟩:=aJ hh;refine a _ _ _ _ h1 W H σ _ G R fun v W1 H1 e1 G1 r1=>?_;refine b _ _ _ _ h2 W1 H1 σ _ G1 (R.up e1) fun W2 H2 e2 G2=>?_;refine c _ _ _ _ h3 W2 H2 σ _ G2 (R.up (e1.trans e2)) fun W3 H3 e3 G3=>?_;cases y with
 |d y=>
  cases y with
  |str z=>
   have hh:(if z.length<=sizeLine then some (CD.d (.str (Txt.slice z p q)),M3)else none)=some (x,M'):=hh;by_cases hl:z.length<=sizeLine
   .rw[A4 hl]at hh;cases hh;exact⟨z,r1,hl,k _ W3 H3 ((e1.trans e2).trans e3) G3 rfl⟩
   .rw[A5 hl]at hh;cases hh
  |_=>cases hh
 |_=>cases hh
theorem aHz{ι:Type}{X:ι->Cx}{a:Expr}{f:EF}{lo hi:Option Expr}{l u:OF}{p2:Pos}(x:ME K X a f)(y:MO K X lo l)(z:MO K X hi u):ME K X (.Subscript a (.Slice lo hi none p2) pos) (WQ f l u):=by
 obtain⟨t,x1,x2⟩:=x.ex;obtain⟨t',y1,y2⟩:=y.ex;obtain⟨t'',z1,z2⟩:=z.ex;exact⟨_,fun i=>HM aFD (x1 i) (y1 i) (z1 i),aGH x2 y2 z2⟩
noncomputable def aED:R2:=fun x y H Q=>∃i n,x=.str i/\y=.int n/\(n<1000/\-1000<n/\i.length<=1000)/\Q (.str (Txt.mul i n)) H
theorem aFM{x:Str}{n:Int}(h:n<1000/\-1000<n/\x.length<=1000):MulOk x n:=by
 obtain⟨h1,h2,h3⟩:=h;refine⟨?_,fun hn _=>?_,fun hn _=>?_⟩
 .rw[C7 (by omega),C7 (by omega)];rfl
 .have:(1000:Int)<=(2 ^ 63-1) / n:=by
   refine Int.le_ediv_of_mul_le (by omega) ?_;omega
  omega
 .show decide (x.length*n.toNat > sizeLine)=false;refine C7 ?_;have:x.length*n.toNat<=1000*1000:=Nat.mul_le_mul h3 (by omega);rw[F0];omega
theorem aCX{X:Cx}:OpR X (binaryOp .Mult) aED:=by
 intro pins s σ H x y v u Q I rx ry h;obtain⟨i,n,rfl,rfl,hz,q⟩:=h;obtain⟨t,rfl⟩:=rx;obtain⟨t',rfl⟩:=ry;exact SB.mul (aFM hz) fun t' k=>⟨.str _,H,I.tok _,⟨_,rfl⟩,q⟩
noncomputable def rG:F2:=fun x y M=>match x,y with
 |.d (.str i),.d (.int n)=>if n<1000/\-1000<n/\i.length<=1000 then some (.d (.str (Txt.mul i n)),M)else none
 |_,_=>none
theorem aDA:P2 K aED rG:=by
 intro x y M z M' h W H v u Q G rx ry k;unfold rG at h;split at h
 .rename_i i n;by_cases hl:n<1000/\-1000<n/\i.length<=1000
  .rw[A4 hl]at h;cases h;exact⟨i,n,rx,ry,hl,k _ W H (.refl _) G rfl⟩
  .rw[A5 hl]at h;cases h
 .cases h
theorem MU{ι:Type}{X:ι->Cx}:Q2 K X (binaryOp .Mult) rG:=⟨_,fun _=>aCX,aDA⟩
end
end L2
section
noncomputable section
namespace Q69
open PySem PySem.Spec PyProof.Rows L2
noncomputable def top(i:Nat):Stmt:=PySem.Challenge.pw_cutstree_k69_read.main.body.getD i (.Pass ⟨0,0,0,0⟩)
theorem ar1{α:Type}{P:List α->Prop}{us:List α}(hl:us.length=1)(h:∀a0,P [a0]):P us:=by
 rcases us with _|⟨a0,_|⟨c,r⟩⟩<;>first|exact h _|cases hl
theorem ar2{α:Type}{P:List α->Prop}{us:List α}(hl:us.length=2)(h:∀a0 a1,P [a0,a1]):P us:=by
 rcases us with _|⟨a0,_|⟨a1,_|⟨c,r⟩⟩⟩<;>first|exact h _ _|cases hl
theorem ar3{α:Type}{P:List α->Prop}{us:List α}(hl:us.length=3)(h:∀a0 a1 a2,P [a0,a1,a2]):P us:=by
 rcases us with _|⟨a0,_|⟨a1,_|⟨a2,_|⟨c,r⟩⟩⟩⟩<;>first|exact h _ _ _|cases hl
set_option hygiene false
local macro_rules | `(tactic| sleep 990) => `(tactic| exact ⟨rfl, rfl, rfl, by decide +kernel, rfl, by decide +kernel, by decide +kernel⟩)
local macro_rules | `(tactic| sleep 991) => `(tactic| (intro _ _ _ _ _ _ _ hl; apply ar1 hl; intros; rfl))
local macro_rules | `(tactic| sleep 992) => `(tactic| (intro _ _ _ _ _ _ _ hl; apply ar2 hl; intros; rfl))
local macro_rules | `(tactic| sleep 993) => `(tactic| (intro _ _ _ _ _ _ _ hl; apply ar3 hl; intros; rfl))
set_option hygiene true
noncomputable abbrev oF:Stmt:=top 43
noncomputable abbrev xC:List Str:=["_law_script","_law_many","_law_row","_law_odd","_law_deck_here","_law_k","_law_at","_law_one"]
noncomputable abbrev qM:List Str:=["_law_script","_law_many"]
theorem sc__law_deck:aS xC qM (aF oF):=by sleep 990
noncomputable def sA:EF:=(dO (aB (fC (.int 48271)) (aB (fC (.int 69621)) (aB (fC (.int 39373)) (aB (fC (.int 40692)) aH)))))
theorem yQ(γ:Ga)(M:Sto):sA γ M=some (.d (.list [(.int 48271),(.int 69621),(.int 39373),(.int 40692)]),M):=rfl
noncomputable def eB:SF:=(bG (bB (fOp bC (aD 5) (aK iS (aB (aD 2) aH))) (hName 6))
 (bG (bB (fOp bC (fOp ixF (aD 2) (aD 6)) (fC (.int 1000000))) (hName 7))
 (bG (sIf (gB (fOp (eqX false) (aD 3) (fC (.int 0))))
  (bG (bB (fOp bC (fOp dX (fOp dX (fOp ixF (aD 2) (aD 6)) (fOp AY (fOp AY (aD 5) (aD 5)) (fC (.int 16807)))) (fOp AY (fC (.int 3)) (aD 5))) (fC (.int 2147483629))) (hName 7))
 (bG (bB (fOp bC (fOp dX (fOp AY (aD 7) (fOp ixF sA (fOp bC (aD 5) (fC (.int 4))))) (fC (.int 7))) (fC (.int 2147483647))) (hName 7))
 (bB (fOp bC (fOp AY (aD 7) (aD 7)) (fC (.int 2147483629))) (hName 7))))
  (bB (fOp bS (fOp ixF (aD 2) (aD 6)) (fC (.int 1000000))) (hSub (aD 2) (aD 6) GY)))
 (rP (aZ "list" iJ (aD 4) (aB (aD 7) aH))))))
noncomputable def lO:SF:=(bG (bB (aK DO (aB (aD 0) aH)) (hName 2))
 (bG (sIf (gB (fOp (eqY false) (aD 2) (dO aH)))
  (bB (vL (aB (fC (.int 4)) aH)) (hName 2))
  cP)
 (bG (bB (fOp bC (fOp ixF (aD 2) (fC (.int 0))) (fC (.int 2))) (hName 3))
 (bG (bB (fOp bS (fOp ixF (aD 2) (fC (.int 0))) (fC (.int 2))) (hSub (aD 2) (fC (.int 0)) GY))
 (bG (bB (vL aH) (hName 4))
 (bG (AU (gT (aB (aD 1) aH)) (hName 5) eB)
 (bG (rP (aZ "list" kF (aD 4) aH))
 (bO (aD 4)))))))))
noncomputable def lM:FN:=fnF 2 8 lO
noncomputable abbrev jK:Stmt:=top 49
noncomputable abbrev pO:List Str:=["_law_deck_here","_law_many","_law_found","_law_turn","_law_draw","_law_i","_law_j","_law_some"]
noncomputable abbrev oS:List Str:=["_law_deck_here","_law_many"]
theorem sc__law_ties:aS pO oS (aF jK):=by sleep 990
noncomputable def rN:EF:=(dO (aB (eV (aB (fC (.int 1)) (aB (fC (.int 1)) aH))) (aB (eV (aB (fC (.int 1)) (aB (fC (.int 2)) aH))) (aB (eV (aB (fC (.int 3)) (aB (fC (.int 4)) aH))) (aB (eV (aB (fOp uR (fC (.int 10)) (fC (.int 12))) (aB (fC (.int 1)) aH))) (aB (eV (aB (fC (.int 1)) (aB (fC (.int 55440)) aH))) (aB (eV (aB (fC (.int 5)) (aB (fC (.int 12)) aH))) (aB (eV (aB (fOp vS (fOp uR (fC (.int 10)) (fC (.int 12))) (fC (.int 3))) (aB (fC (.int 7)) aH))) (aB (eV (aB (fC (.int 0)) (aB (fC (.int 1)) aH))) aH)))))))))
theorem yY(γ:Ga)(M:Sto):rN γ M=some (.d (.list [(.tuple [(.int 1),(.int 1)]),(.tuple [(.int 1),(.int 2)]),(.tuple [(.int 3),(.int 4)]),(.tuple [(.int 1000000000000),(.int 1)]),(.tuple [(.int 1),(.int 55440)]),(.tuple [(.int 5),(.int 12)]),(.tuple [(.int 999999999997),(.int 7)]),(.tuple [(.int 0),(.int 1)])]),M):=rfl
noncomputable def iE:SF:=(bG (bB (aZ "list" eE (aD 0) aH) (hName 4))
 (bG (bB (fOp bC (aD 4) (aD 1)) (hName 5))
 (bG (bB (fOp bC (fOp bS (aD 4) (fC (.int 41))) (aD 1)) (hName 6))
 (bG (bB rN (hName 7))
 (sIf (gB (fOp (eqX true) (aD 5) (aD 6)))
  (sZ (aD 2) (xP (aB (aK CN (aB (aD 5) (aB (aD 6) aH))) (aB (aK DR (aB (aD 5) (aB (aD 6) aH))) aH))) (fOp ixF (fOp dX (aD 7) (dO (aB (eV (aB (fOp bC (fOp bS (aD 4) (fC (.int 9))) (fC (.int 99))) (aB (fC (.int 1)) aH))) aH))) (fOp bC (fOp bS (aD 4) (fC (.int 1700))) (fC (.int 9)))))
  cP)))))
noncomputable def mD:EF:=(fLc [some 2,none] (aX (aK pP (aB (aD 2) aH))) (hName 1) eM (fOp dX (aD 1) (eV (aB (EN (aD 0) (aD 1)) aH))))
noncomputable def qT:SF:=(bG (bB uY (hName 2))
 (bG (AU (gT (aB (fOp bC (aZ "list" eE (aD 0) aH) (fC (.int 9))) aH)) (hName 3) iE)
 (bO mD)))
noncomputable def lF:FN:=fnF 2 8 qT
noncomputable abbrev kQ:Stmt:=top 45
noncomputable abbrev rS:List Str:=["_law_amount"]
noncomputable abbrev mV:List Str:=["_law_amount"]
theorem BA:aS rS mV (aF kQ):=by sleep 990
noncomputable def iD:SF:=(bG (sIf (gB (fOp (eqX false) (fOp ixF (aD 0) (fC (.int 1))) (fC (.int 1))))
 (bO (aK iL (aB (fOp ixF (aD 0) (fC (.int 0))) aH)))
 cP)
 (bO (fOp fR (fOp fR (aK iL (aB (fOp ixF (aD 0) (fC (.int 0))) aH)) (fC (.str "/"))) (aK iL (aB (fOp ixF (aD 0) (fC (.int 1))) aH)))))
noncomputable def fE:FN:=fnF 1 1 iD
noncomputable abbrev oG:Stmt:=top 50
noncomputable abbrev wO:List Str:=["_law_word","_law_row"]
noncomputable abbrev qJ:List Str:=["_law_word","_law_row"]
theorem EJ:aS wO qJ (aF oG):=by sleep 990
noncomputable def pR:SF:=(bO (aZ "str" jB (fC (.str " ")) (aB (dO (aB (aD 0) (aB (aK iL (aB (fOp ixF (aD 1) (fC (.int 0))) aH)) (aB (aK iL (aB (fOp ixF (aD 1) (fC (.int 1))) aH)) (aB (aK fE (aB (fOp ixF (aD 1) (fC (.int 2))) aH)) aH))))) aH)))
noncomputable def dR:FN:=fnF 2 2 pR
noncomputable abbrev fH:Stmt:=top 29
noncomputable abbrev jN:List Str:=["text","lines"]
noncomputable abbrev nQ:List Str:=["text"]
theorem sc_said_lines:aS jN nQ (aF fH):=by sleep 990
noncomputable def kS:EF:=(fLc [none] (aX (aZ "str" iW (aD 0) (aB (fC (.str " ")) aH))) (hName 0) (lD (aD 0)) (aD 0))
noncomputable def gC:EF:=(fLc [none] (aX (aZ "str" iW (aD 0) (aB (fC (.str "\n")) aH))) (hName 0) eM kS)
noncomputable def kI:EF:=(fLc [none,none] (wZ (aB (aD 1) aH)) (gZ 2 (bI (hName 0) (bI (hName 1) gV))) (CB (aD 1)) (eV (aB (aD 0) (aB (aD 1) aH))))
noncomputable def jS:SF:=(bG (bB gC (hName 1))
 (bO kI))
noncomputable def cK:FN:=fnF 1 2 jS
noncomputable abbrev jR:Stmt:=top 31
noncomputable abbrev pC:List Str:=["word","most_digits"]
noncomputable abbrev qF:List Str:=["word","most_digits"]
theorem FC:aS pC qF (aF jR):=by sleep 990
noncomputable def fD:EF:=(fLc [none] (BQ (aD 0)) (hName 0) eM (fOp (inS false) (aD 0) (fC (.str "0123456789"))))
noncomputable def lT:SF:=(bG (sIf (gOr (gO (gB (nH ltI leI (fC (.int 0)) (aK JT (aB (aD 0) aH)) (aD 1)))) (gO (gB (aK xM (aB fD aH)))))
 (bO (fC .none))
 cP)
 (bO (fIf (gOr (gB (fOp (eqX false) (aD 0) (fC (.str "0")))) (gB (fOp (eqX true) (fOp ixS (aD 0) (fC (.int 0))) (fC (.str "0"))))) (aK OV (aB (aD 0) aH)) (fC .none))))
noncomputable def cE:FN:=fnF 2 2 lT
noncomputable abbrev pY:Stmt:=top 30
noncomputable abbrev BU:List Str:=["word"]
noncomputable abbrev sD:List Str:=["word"]
theorem LA:aS BU sD (aF pY):=by sleep 990
noncomputable def nU:SF:=(bO (aK cE (aB (aD 0) (aB (fC (.int 2)) aH))))
noncomputable def cH:FN:=fnF 1 1 nU
noncomputable abbrev sF:Stmt:=top 39
noncomputable abbrev EB:List Str:=["words","many"]
noncomputable abbrev vH:List Str:=["words"]
theorem sc_many_in:aS EB vH (aF sF):=by sleep 990
noncomputable def qV:SF:=(bG (bB (fIf (vN (gB (fOp (eqX false) (aK iS (aB (aD 0) aH)) (fC (.int 2)))) (gB (fOp (eqX false) (fOp ixF (aD 0) (fC (.int 0))) (fC (.str "places"))))) (aK cH (aB (fOp ixF (aD 0) (fC (.int 1))) aH)) (fC .none)) (hName 1))
 (bO (fIf (vN (gB (fOp (xI true) (aD 1) (fC .none))) (gB (nH leI leI (fC (.int 1)) (aD 1) (fC (.int 40))))) (aD 1) (fC .none))))
noncomputable def nG:FN:=fnF 1 2 qV
noncomputable abbrev oY:Stmt:=top 6
noncomputable abbrev BE:List Str:=["thing"]
noncomputable abbrev sE:List Str:=["thing"]
theorem IV:aS BE sE (aF oY):=by sleep 990
noncomputable def BD:SF:=(bO (kT (sY "int" (aD 0)) (ZN (sY "bool" (aD 0)))))
noncomputable def fQ:FN:=fnF 1 1 BD
noncomputable abbrev vW:Stmt:=top 7
noncomputable abbrev JX:List Str:=["thing"]
noncomputable abbrev BB:List Str:=["thing"]
theorem RZ:aS JX BB (aF vW):=by sleep 990
noncomputable def HU:SF:=(bO (QC "list" "tuple" (aD 0)))
noncomputable def tL:FN:=fnF 1 1 HU
noncomputable abbrev eN:Stmt:=inClass (top 3) 0
noncomputable abbrev rT:List Str:=["self","at"]
noncomputable abbrev mS:List Str:=["self","at"]
theorem BP:aS rT mS (aF eN):=by sleep 990
noncomputable def sC:SF:=(OP "NoTie" "at" (aD 0) (aD 1))
noncomputable def mB:FN:=fnF 2 2 sC
noncomputable abbrev vD:Stmt:=top 19
noncomputable abbrev KG:List Str:=["one","other"]
noncomputable abbrev zZ:List Str:=["one","other"]
theorem sc_common:aS KG zZ (aF vD):=by sleep 990
noncomputable def sQ:SF:=(sV (CB (aD 1)) (CJ 0 1 (aB (aD 1) (aB (fOp bC (aD 0) (aD 1)) aH))))
noncomputable def HQ:SF:=(bG sQ
 (bO (aD 0)))
noncomputable def pF:FN:=fnF 2 2 HQ
noncomputable abbrev oJ:Stmt:=top 8
noncomputable abbrev xA:List Str:=["thing","length"]
noncomputable abbrev pT:List Str:=["thing","length"]
theorem EO:aS xA pT (aF oJ):=by sleep 990
noncomputable def wF:SF:=(bO (kT (aK tL (aB (aD 0) aH)) (fOp (eqX false) (aK iS (aB (aD 0) aH)) (aD 1))))
noncomputable def kY:FN:=fnF 2 2 wF
noncomputable abbrev eF:Stmt:=top 18
noncomputable abbrev iM:List Str:=["thing"]
noncomputable abbrev eJ:List Str:=["thing"]
theorem oO:aS iM eJ (aF eF):=by sleep 990
noncomputable def cO:SF:=(bG (sIf (gOr (gO (gB (aK kY (aB (aD 0) (aB (fC (.int 2)) aH))))) (gOr (gO (gB (aK fQ (aB (fOp ixF (aD 0) (fC (.int 0))) aH)))) (gO (gB (aK fQ (aB (fOp ixF (aD 0) (fC (.int 1))) aH))))))
 (bO (fC (.bool false)))
 cP)
 (bO (kT (fOp geI (fOp ixF (aD 0) (fC (.int 0))) (fC (.int 0))) (fOp geI (fOp ixF (aD 0) (fC (.int 1))) (fC (.int 1))))))
noncomputable def bM:FN:=fnF 1 1 cO
noncomputable abbrev jY:Stmt:=top 17
noncomputable abbrev rM:List Str:=["thing"]
noncomputable abbrev mR:List Str:=["thing"]
theorem yI:aS rM mR (aF jY):=by sleep 990
noncomputable def eA:SF:=(bO (kT (aK bM (aB (aD 0) aH)) (kT (fOp (eqX false) (fOp bC (fC (.int 55440)) (fOp ixF (aD 0) (fC (.int 1)))) (fC (.int 0))) (fOp (eqX false) (aK pF (aB (fOp ixF (aD 0) (fC (.int 0))) (aB (fOp ixF (aD 0) (fC (.int 1))) aH))) (fC (.int 1))))))
noncomputable def cZ:FN:=fnF 1 1 eA
noncomputable abbrev oA:Stmt:=top 16
noncomputable abbrev xD:List Str:=["thing"]
noncomputable abbrev pH:List Str:=["thing"]
theorem GI:aS xD pH (aF oA):=by sleep 990
noncomputable def iK:SF:=(bO (kT (aK cZ (aB (aD 0) aH)) (fOp leI (fOp ixF (aD 0) (fC (.int 0))) (fC (.int 1000000000000)))))
noncomputable def eP:FN:=fnF 1 1 iK
noncomputable abbrev pL:Stmt:=top 9
noncomputable abbrev BM:List Str:=["many","thing"]
noncomputable abbrev tH:List Str:=["many","thing"]
theorem JA:aS BM tH (aF pL):=by sleep 990
noncomputable def oK:SF:=(bO (kT (aK fQ (aB (aD 1) aH)) (nH leI ltI (fC (.int 0)) (aD 1) (aD 0))))
noncomputable def gX:FN:=fnF 2 2 oK
noncomputable abbrev eO:Stmt:=top 10
noncomputable abbrev jD:List Str:=["many","i","j"]
noncomputable abbrev eX:List Str:=["many","i","j"]
theorem pN:aS jD eX (aF eO):=by sleep 990
noncomputable def cV:SF:=(bO (kT (aK gX (aB (aD 0) (aB (aD 1) aH))) (kT (aK gX (aB (aD 0) (aB (aD 2) aH))) (fOp (eqX true) (aD 1) (aD 2)))))
noncomputable def cB:FN:=fnF 3 3 cV
noncomputable abbrev eK:Stmt:=top 11
noncomputable abbrev iZ:List Str:=["many","thing"]
noncomputable abbrev fB:List Str:=["many","thing"]
theorem qG:aS iZ fB (aF eK):=by sleep 990
noncomputable def cW:SF:=(bO (kT (aK kY (aB (aD 1) (aB (fC (.int 3)) aH))) (kT (aK cB (aB (aD 0) (aB (fOp ixF (aD 1) (fC (.int 0))) (aB (fOp ixF (aD 1) (fC (.int 1))) aH)))) (fOp ltI (fOp ixF (aD 1) (fC (.int 0))) (fOp ixF (aD 1) (fC (.int 1)))))))
noncomputable def bQ:FN:=fnF 2 2 cW
noncomputable abbrev uT:Stmt:=top 24
noncomputable abbrev JR:List Str:=["many","thing"]
noncomputable abbrev yL:List Str:=["many","thing"]
theorem SU:aS JR yL (aF uT):=by sleep 990
noncomputable def nE:SF:=(bO (kT (aK bQ (aB (aD 0) (aB (aD 1) aH))) (aK eP (aB (fOp ixF (aD 1) (fC (.int 2))) aH))))
noncomputable def jZ:FN:=fnF 2 2 nE
noncomputable abbrev jU:Stmt:=top 23
noncomputable abbrev pV:List Str:=["many","ties","weights","at","row"]
noncomputable abbrev pU:List Str:=["many","ties"]
theorem sc_kept_ties:aS pV pU (aF jU):=by sleep 990
noncomputable def fG:SFX:=(rZ (UE (gOr (gO (gB (aK jZ (aB (aD 0) (aB (aD 4) aH))))) (gB (aCj false (xP (aB (fOp ixF (aD 4) (fC (.int 0))) (aB (fOp ixF (aD 4) (fC (.int 1))) aH))) (aD 2))))
 (xY "NoTie" mB (aB (aD 3) aH))
 (liS cP))
 (liS (sZ (aD 2) (xP (aB (fOp ixF (aD 4) (fC (.int 0))) (aB (fOp ixF (aD 4) (fC (.int 1))) aH))) (aK eC (aB (fOp ixF (aD 4) (fC (.int 2))) aH)))))
noncomputable def mT:EF:=(fLc [none,none,none] (aX (vX (aD 2))) (gZ 2 (bI (gZ 2 (bI (hName 0) (bI (hName 1) gV))) (bI (hName 2) gV))) (gB (fOp gtI (fOp ixF (aD 2) (fC (.int 0))) (fC (.int 0)))) (eV (aB (aD 0) (aB (aD 1) (aB (aD 2) aH)))))
noncomputable def oZ:SFX:=(rZ (UE (gO (gB (aK tL (aB (aD 1) aH))))
 (xY "NoTie" mB (aB (fC (.int 0)) aH))
 (liS cP))
 (rZ (liS (bB uY (hName 2)))
 (rZ (QZ (wZ (aB (aD 1) aH)) (gZ 2 (bI (hName 3) (bI (hName 4) gV))) fG)
 (liS (bO (aK eC (aB mT aH)))))))
noncomputable def iP:FX:=fnX 2 5 oZ
noncomputable abbrev eU:Stmt:=inClass (top 22) 0
noncomputable abbrev pJ:List Str:=["self","many","ties"]
noncomputable abbrev qH:List Str:=["self","many","ties"]
theorem FR:aS pJ qH (aF eU):=by sleep 990
noncomputable def mK:EF:=(fDc (.dt []) [none,none,none] (aX (rH "Web" "ties" (aD 0))) (gZ 3 (bI (hName 0) (bI (hName 1) (bI (hName 2) gV)))) eM (xP (aB (aD 0) (aB (aD 1) aH))) (aD 2))
noncomputable def pW:SFX:=(rZ (UE (gOr (gO (gB (aK fQ (aB (aD 1) aH)))) (gOr (gB (fOp ltI (aD 1) (fC (.int 1)))) (gB (fOp gtI (aD 1) (fC (.int 40))))))
 (HB "NoPlace")
 (liS cP))
 (rZ (liS (IK "Web" "many" (aD 0) (aD 1)))
 (rZ (RQ "Web" "ties" (aD 0) (QK iP (liA (aB (aD 1) (aB (aD 2) aH)))))
 (liS (IK "Web" "weights" (aD 0) mK)))))
noncomputable def iO:FX:=fnX 3 3 pW
noncomputable abbrev nK:Stmt:=top 15
noncomputable abbrev wN:List Str:=["thing"]
noncomputable abbrev pK:List Str:=["thing"]
theorem FG:aS wN pK (aF nK):=by sleep 990
noncomputable def lJ:SF:=(bO (kT (aK bM (aB (aD 0) aH)) (fOp (eqX false) (aK pF (aB (fOp ixF (aD 0) (fC (.int 0))) (aB (fOp ixF (aD 0) (fC (.int 1))) aH))) (fC (.int 1)))))
noncomputable def fX:FN:=fnF 1 1 lJ
noncomputable abbrev nW:Stmt:=top 32
noncomputable abbrev wM:List Str:=["word","above","slash","below","amount"]
noncomputable abbrev pM:List Str:=["word"]
theorem sc_amount_of:aS wM pM (aF nW):=by sleep 990
noncomputable def lU:SF:=(bG (bB (aZ "str" BW (aD 0) (aB (fC (.str "/")) aH)) (gZ 3 (bI (hName 1) (bI (hName 2) (bI (hName 3) gV)))))
 (bG (sIf (vN (lD (aD 2)) (gB (fOp (eqX false) (aD 3) (fC (.str "1")))))
  (bO (fC .none))
  cP)
 (bG (bB (eV (aB (aK cE (aB (aD 1) (aB (fC (.int 30)) aH))) (aB (fIf (lD (aD 2)) (aK cE (aB (aD 3) (aB (fC (.int 30)) aH))) (fC (.int 1))) aH))) (hName 4))
 (bO (fIf (gB (aK fX (aB (aD 4) aH))) (aD 4) (fC .none))))))
noncomputable def iN:FN:=fnF 1 5 lU
noncomputable abbrev vV:Stmt:=top 40
noncomputable abbrev LD:List Str:=["words","name","row"]
noncomputable abbrev BH:List Str:=["words","name"]
theorem sc_row_in:aS LD BH (aF vV):=by sleep 990
noncomputable def uG:SF:=(bG (sIf (gOr (gB (fOp (eqX true) (aK iS (aB (aD 0) aH)) (fC (.int 4)))) (gB (fOp (eqX true) (fOp ixF (aD 0) (fC (.int 0))) (aD 1))))
 (bO (fC .none))
 cP)
 (bG (bB (eV (aB (aK cH (aB (fOp ixF (aD 0) (fC (.int 1))) aH)) (aB (aK cH (aB (fOp ixF (aD 0) (fC (.int 2))) aH)) (aB (aK iN (aB (fOp ixF (aD 0) (fC (.int 3))) aH)) aH)))) (hName 2))
 (bO (fIf (gB (fOp (inD false) (fC .none) (aD 2))) (fC .none) (aD 2)))))
noncomputable def gF:FN:=fnF 2 3 uG
noncomputable abbrev lC:Stmt:=top 34
noncomputable abbrev sW:List Str:=["text","lines","many","wrong"]
noncomputable abbrev sS:List Str:=["text"]
theorem sc_read_web:aS sW sS (aF lC):=by sleep 990
noncomputable def jM:EF:=(fLc [none,none] (aX (fSl (aD 1) (gL (fC (.int 1))) dM)) (gZ 2 (bI (hName 0) (bI (hName 1) gV))) eM (aK gF (aB (aD 1) (aB (fC (.str "tie")) aH))))
noncomputable def FB:SF:=sH
noncomputable def nR:SFX:=(KN (IQ "Web" iO (aB (aD 2) (aB jM aH))))
noncomputable def nV:SF:=(bG (bB (aK cK (aB (aD 0) aH)) (hName 1))
 (bG (sIf (gO (CB (aD 1)))
  sH
  cP)
 (bG (bB (aK nG (aB (fOp ixF (fOp ixF (aD 1) (fC (.int 0))) (fC (.int 1))) aH)) (hName 2))
 (bG (sIf (gB (fOp (xI false) (aD 2) (fC .none)))
  sH
  cP)
 (aAy nR [⟨[("NoTie",true),("NoPlace",false)],(some 3),FB⟩])))))
noncomputable def hV:FN:=fnF 1 4 nV
noncomputable abbrev kP:Stmt:=top 51
noncomputable abbrev rK:List Str:=["_law_deck_here","_law_lines","_law_found","_law_line_here","_law_draw","_law_words"]
noncomputable abbrev mC:List Str:=["_law_deck_here","_law_lines"]
theorem sc__law_spread:aS rK mC (aF kP):=by sleep 990
noncomputable def fM:EF:=(dO (aB (fC (.int 1)) (aB (fC (.int 1)) (aB (fC (.int 3)) (aB (fC (.int 2)) aH)))))
theorem vJ(γ:Ga)(M:Sto):fM γ M=some (.d (.list [(.int 1),(.int 1),(.int 3),(.int 2)]),M):=rfl
noncomputable def fJ:EF:=(dO (aB (fC (.str "")) (aB (fC (.str "\n")) (aB (fC (.str "   \n")) (aB (fC (.str " \n\n")) aH)))))
theorem vR(γ:Ga)(M:Sto):fJ γ M=some (.d (.list [(.str ""),(.str "\n"),(.str "   \n"),(.str " \n\n")]),M):=rfl
noncomputable def fI:SF:=(bG (bB (aZ "list" eE (aD 0) aH) (hName 4))
 (bG (bB (aZ "str" jB (fOp rG (fC (.str " ")) (fOp ixF fM (fOp bC (aD 4) (fC (.int 4))))) (aB (aZ "str" iW (aD 3) (aB (fC (.str " ")) aH)) aH)) (hName 5))
 (bG (bB (fOp fR (fOp fR (fOp fR (aD 2) (fOp ixF fJ (fOp bC (fOp bS (aD 4) (fC (.int 4))) (fC (.int 4))))) (fOp rG (fC (.str " ")) (fOp bC (fOp bS (aD 4) (fC (.int 16))) (fC (.int 3))))) (aD 5)) (hName 2))
 (bB (fOp fR (fOp fR (aD 2) (fOp rG (fC (.str " ")) (fOp bC (fOp bS (aD 4) (fC (.int 48))) (fC (.int 2))))) (fC (.str "\n"))) (hName 2)))))
noncomputable def iA:SF:=(bG (bB (fC (.str "")) (hName 2))
 (bG (AU (aX (aD 1)) (hName 3) fI)
 (bO (fOp ixF (dO (aB (aD 2) (aB (WQ (aD 2) dM (gL (fUn ZH (fC (.int 1))))) (aB (fOp fR (aD 2) (fC (.str "  "))) (aB (fOp fR (aD 2) (fC (.str "\n \n"))) aH))))) (fOp bC (aZ "list" eE (aD 0) aH) (fC (.int 4)))))))
noncomputable def bW:FN:=fnF 2 6 iA
noncomputable abbrev iF:Stmt:=top 52
noncomputable abbrev jF:List Str:=["_law_thing"]
noncomputable abbrev jQ:List Str:=["_law_thing"]
theorem rW:aS jF jQ (aF iF):=by sleep 990
noncomputable def kB(self:FN):EF:=(fLc [none] (aX (aD 0)) (hName 0) eM (aK self (aB (aD 0) aH)))
noncomputable def gG(self:FN):SF:=(bG (sIf (gB (sY "tuple" (aD 0)))
 (bO (aK xM (aB (kB self) aH)))
 cP)
 (bO (kT (sY "int" (aD 0)) (ZN (sY "bool" (aD 0))))))
noncomputable def cJ:Nat->FN
 |0=>fun _ _=>none
 |n+1=>fnF 1 1 (gG (cJ n))
noncomputable abbrev nX:Stmt:=top 53
noncomputable abbrev wK:List Str:=["_law_found","_law_due"]
noncomputable abbrev pD:List Str:=["_law_found","_law_due"]
theorem EY:aS wK pD (aF nX):=by sleep 990
noncomputable def lP:SF:=(bO (kT (sY "tuple" (aD 0)) (kT (fOp (eqX false) (aK zD (aB (aD 0) aH)) (aD 1)) (aK (cJ 9) (aB (aD 0) aH)))))
noncomputable def dD:FN:=fnF 2 2 lP
noncomputable abbrev kO:Stmt:=top 44
noncomputable abbrev rQ:List Str:=["_law_above","_law_below","_law_one","_law_other"]
noncomputable abbrev mU:List Str:=["_law_above","_law_below"]
theorem sc__law_lowest:aS rQ mU (aF kO):=by sleep 990
noncomputable def oM:SF:=(sV (gB (fOp gtI (aD 3) (fC (.int 0)))) (CJ 2 3 (aB (aD 3) (aB (fOp bC (aD 2) (aD 3)) aH))))
noncomputable def mW:SF:=(bG (CJ 2 3 (aB (aD 0) (aB (aD 1) aH)))
 (bG oM
 (bO (eV (aB (fOp bS (aD 0) (aD 2)) (aB (fOp bS (aD 1) (aD 2)) aH))))))
noncomputable def iC:FN:=fnF 2 4 mW
noncomputable abbrev pX:Stmt:=top 46
noncomputable abbrev zJ:List Str:=["_law_deck_here","_law_draw","_law_more","_law_top","_law_low"]
noncomputable abbrev sO:List Str:=["_law_deck_here"]
theorem sc__law_any:aS zJ sO (aF pX):=by sleep 990
noncomputable def sR:SF:=(bG (bB (aZ "list" eE (aD 0) aH) (hName 1))
 (bG (bB (aZ "list" eE (aD 0) aH) (hName 2))
 (bG (bB (fOp ixF (dO (aB (fOp bC (fOp bS (aD 1) (fC (.int 7))) (fC (.int 10))) (aB (fOp bC (fOp bS (aD 1) (fC (.int 7))) (fC (.int 1000))) (aB (fOp vS (fOp vS (fOp uR (fC (.int 10)) (fC (.int 30))) (fC (.int 1))) (fOp bC (fOp bS (aD 1) (fC (.int 7))) (fC (.int 50)))) (aB (fOp dX (fOp AY (aD 1) (fOp uR (fC (.int 10)) (fC (.int 12)))) (aD 2)) aH))))) (fOp bC (aD 1) (fC (.int 4)))) (hName 3))
 (bG (bB (fOp ixF (dO (aB (fC (.int 1)) (aB (fC (.int 1)) (aB (fOp dX (fC (.int 1)) (fOp bC (fOp bS (aD 2) (fC (.int 5))) (fC (.int 40)))) (aB (fC (.int 55440)) (aB (fOp vS (fOp vS (fOp uR (fC (.int 10)) (fC (.int 30))) (fC (.int 1))) (fOp bC (fOp bS (aD 2) (fC (.int 5))) (fC (.int 30)))) (aB (fOp dX (fC (.int 1)) (aD 2)) aH))))))) (fOp bC (aD 2) (fC (.int 6)))) (hName 4))
 (bO (aK iC (aB (aD 3) (aB (aD 4) aH))))))))
noncomputable def nJ:FN:=fnF 1 5 sR
noncomputable abbrev mH:Stmt:=top 47
noncomputable abbrev uF:List Str:=["_law_deck_here","_law_many","_law_found","_law_k","_law_draw"]
noncomputable abbrev nL:List Str:=["_law_deck_here","_law_many"]
theorem sc__law_drawn:aS uF nL (aF mH):=by sleep 990
noncomputable def gK:SF:=(bG (bB (aZ "list" eE (aD 0) aH) (hName 4))
 (rP (aZ "list" iJ (aD 2) (aB (eV (aB (fOp bC (aD 4) (fC (.int 100))) (aB (fOp ixF (dO (aB (fOp bC (fOp bS (aD 4) (fC (.int 100))) (fC (.int 100))) (aB (fOp bC (fOp bS (aD 4) (fC (.int 100))) (fC (.int 10))) aH))) (fOp bC (aD 3) (fC (.int 2)))) (aB (aK nJ (aB (aD 0) aH)) aH)))) aH))))
noncomputable def nO:SF:=(bG (bB (vL aH) (hName 2))
 (bG (AU (gT (aB (aD 1) aH)) (hName 3) gK)
 (bO (aD 2))))
noncomputable def jT:FN:=fnF 2 5 nO
noncomputable abbrev gI:Stmt:=top 48
noncomputable abbrev mL:List Str:=["_law_deck_here","_law_many","_law_found","_law_k","_law_draw"]
noncomputable abbrev mM:List Str:=["_law_deck_here","_law_many"]
theorem sc__law_places:aS mL mM (aF gI):=by sleep 990
noncomputable def fN:EF:=(dO (aB (fC (.int 100)) (aB (fC (.int 10)) (aB (fC (.int 40)) aH))))
theorem uV(γ:Ga)(M:Sto):fN γ M=some (.d (.list [(.int 100),(.int 10),(.int 40)]),M):=rfl
noncomputable def iU:EF:=(fLc [some 0,some 4,none] (gT (aB (fOp dX (fC (.int 1)) (fOp bC (aD 4) (fC (.int 6)))) aH)) (hName 2) eM (fOp bC (aZ "list" eE (aD 0) aH) (fOp ixF fN (fOp bC (fOp bS (aD 1) (fC (.int 9))) (fC (.int 3))))))
noncomputable def fL:SF:=(bG (bB (aZ "list" eE (aD 0) aH) (hName 4))
 (rP (aZ "list" iJ (aD 2) (aB (aK eC (aB iU aH)) aH))))
noncomputable def mJ:SF:=(bG (bB (vL aH) (hName 2))
 (bG (AU (gT (aB (aD 1) aH)) (hName 3) fL)
 (bO (aD 2))))
noncomputable def hZ:FN:=fnF 2 5 mJ
noncomputable abbrev jI:Stmt:=top 38
noncomputable abbrev qD:List Str:=["lines","at","row"]
noncomputable abbrev pQ:List Str:=["lines"]
theorem sc_read_rows:aS qD pQ (aF jI):=by sleep 990
noncomputable def iI:SF:=(sIf (gB (fOp (xI false) (aD 2) (fC .none)))
 sH
 cP)
noncomputable def mI:EF:=(fLc [none,none] (aX (aD 0)) (gZ 2 (bI (hName 0) (bI (hName 1) gV))) eM (aD 1))
noncomputable def lA:SF:=(bG (AU (aX (aD 0)) (gZ 2 (bI (hName 1) (bI (hName 2) gV))) iI)
 (bO (aK eC (aB mI aH))))
noncomputable def dE:FN:=fnF 1 3 lA
noncomputable abbrev jW:Stmt:=top 35
noncomputable abbrev pB:List Str:=["text"]
noncomputable abbrev qI:List Str:=["text"]
theorem FU:aS pB qI (aF jW):=by sleep 990
noncomputable def rV:EF:=(fLc [none,none] (aX (aK cK (aB (aD 0) aH))) (gZ 2 (bI (hName 0) (bI (hName 1) gV))) eM (eV (aB (aD 0) (aB (aK gF (aB (aD 1) (aB (fC (.str "branch")) aH))) aH))))
noncomputable def lE:SF:=(bO (aK dE (aB rV aH)))
noncomputable def eL:FN:=fnF 1 1 lE
noncomputable abbrev jP:Stmt:=top 36
noncomputable abbrev qQ:List Str:=["text"]
noncomputable abbrev qO:List Str:=["text"]
theorem EI:aS qQ qO (aF jP):=by sleep 990
noncomputable def rY:EF:=(fLc [none,none] (aX (aK cK (aB (aD 0) aH))) (gZ 2 (bI (hName 0) (bI (hName 1) gV))) eM (eV (aB (aD 0) (aB (aK gF (aB (aD 1) (aB (fC (.str "flow")) aH))) aH))))
noncomputable def kZ:SF:=(bO (aK dE (aB rY aH)))
noncomputable def eQ:FN:=fnF 1 1 kZ
noncomputable abbrev nN:Stmt:=top 41
noncomputable abbrev uO:List Str:=["words","side"]
noncomputable abbrev vQ:List Str:=["words"]
theorem sc_side_in:aS uO vQ (aF nN):=by sleep 990
noncomputable def kW:EF:=(fLc [none] (aX (fSl (aD 0) (gL (fC (.int 1))) dM)) (hName 0) eM (aK cH (aB (aD 0) aH)))
noncomputable def qZ:SF:=(bG (sIf (gOr (gB (fOp ltI (aK iS (aB (aD 0) aH)) (fC (.int 2)))) (gB (fOp (eqX true) (fOp ixF (aD 0) (fC (.int 0))) (fC (.str "side")))))
 (bO (fC .none))
 cP)
 (bG (bB (aK eC (aB kW aH)) (hName 1))
 (bO (fIf (gB (fOp (inD false) (fC .none) (aD 1))) (fC .none) (aD 1)))))
noncomputable def jX:FN:=fnF 1 2 qZ
noncomputable abbrev iG:Stmt:=top 37
noncomputable abbrev nM:List Str:=["text"]
noncomputable abbrev nT:List Str:=["text"]
theorem CK:aS nM nT (aF iG):=by sleep 990
noncomputable def pS:EF:=(fLc [none,none] (aX (aK cK (aB (aD 0) aH))) (gZ 2 (bI (hName 0) (bI (hName 1) gV))) eM (eV (aB (aD 0) (aB (aK jX (aB (aD 1) aH)) aH))))
noncomputable def jJ:SF:=(bO (aK dE (aB pS aH)))
noncomputable def dU:FN:=fnF 1 1 jJ
noncomputable abbrev qK:Stmt:=top 54
noncomputable abbrev zK:List Str:=["_law_script","_law_deck_here","_law_many","_law_ties_here","_law_turn","_law_lines","_law_web","_law_rows","_law_sides"]
noncomputable abbrev aEW:List Str:=["_law_script"]
theorem sc_law:aS zK aEW (aF qK):=by sleep 990
noncomputable def HG:EF:=(fLc [none] (aX (fOp dX (fSl (aD 3) (gL (aD 4)) dM) (fSl (aD 3) dM (gL (aD 4))))) (hName 0) eM (aK dR (aB (fC (.str "tie")) (aB (aD 0) aH))))
noncomputable def QY:EF:=(eV (aB (fC (.int 0)) (aB (fC (.int 1)) aH)))
theorem ZO(γ:Ga)(M:Sto):QY γ M=some (.d (.tuple [(.int 0),(.int 1)]),M):=rfl
noncomputable def FT:EF:=(fLc [none] (aX (aD 3)) (hName 0) (gB (fOp (eqX true) (fOp ixF (aD 0) (fC (.int 2))) QY)) (aD 0))
noncomputable def RK:EF:=(fLc [none] (aX (aD 7)) (hName 0) eM (aK dR (aB (fC (.str "branch")) (aB (aD 0) aH))))
noncomputable def RH:EF:=(fLc [none] (aX (aD 7)) (hName 0) eM (aK dR (aB (fC (.str "flow")) (aB (aD 0) aH))))
noncomputable def QX:EF:=(dO (aB (fC (.str "side")) aH))
theorem aAW(γ:Ga)(M:Sto):QX γ M=some (.d (.list [(.str "side")]),M):=rfl
noncomputable def RC:EF:=(fLc [none] (aX (aD 0)) (hName 0) eM (aK iL (aB (aD 0) aH)))
noncomputable def xS:EF:=(fLc [none] (aX (aD 8)) (hName 0) eM (aZ "str" jB (fC (.str " ")) (aB (fOp dX QX RC) aH)))
noncomputable def PR:EF:=(eV (aB (eV aH) (aB (eV aH) (aB (eV aH) aH))))
theorem aBB(γ:Ga)(M:Sto):PR γ M=some (.d (.tuple [(.tuple []),(.tuple []),(.tuple [])]),M):=rfl
noncomputable def PU:SF:=(bG (bB (aK lM (aB (aD 0) (aB (fC (.int 180)) aH))) (hName 1))
 (bG (bB (fOp ixF (dO (aB (fC (.int 1)) (aB (fC (.int 2)) (aB (fC (.int 40)) (aB (fOp dX (fC (.int 2)) (fOp bC (aZ "list" eE (aD 1) aH) (fC (.int 30)))) aH))))) (fOp bC (aZ "list" eE (aD 1) aH) (fC (.int 4)))) (hName 2))
 (bG (bB (aK lF (aB (aD 1) (aB (aD 2) aH))) (hName 3))
 (bG (bB (fOp bC (aZ "list" eE (aD 1) aH) (fOp dX (aK iS (aB (aD 3) aH)) (fC (.int 1)))) (hName 4))
 (bG (bB (fOp dX (dO (aB (fOp fR (fC (.str "places ")) (aK iL (aB (aD 2) aH))) aH)) HG) (hName 5))
 (bG (bB (aK hV (aB (aK bW (aB (aD 1) (aB (aD 5) aH))) aH)) (hName 6))
 (bG (sIf (gOr (gO (gB (CW "Web" (aD 6)))) (gOr (gB (fOp (eqX true) (rH "Web" "many" (aD 6)) (aD 2))) (gB (sY "bool" (rH "Web" "many" (aD 6))))))
  (bO (fC (.bool false)))
  cP)
 (bG (sIf (gO (gB (aK dD (aB (rH "Web" "ties" (aD 6)) (aB FT aH)))))
  (bO (fC (.bool false)))
  cP)
 (bG (bB (lB (aK jT (aB (aD 1) (aB (fOp bC (aZ "list" eE (aD 1) aH) (fC (.int 7))) aH)))) (hName 7))
 (bG (bB (lB (aK hZ (aB (aD 1) (aB (fOp bC (aZ "list" eE (aD 1) aH) (fC (.int 6))) aH)))) (hName 8))
 (bG (sIf (gO (gB (aK dD (aB (aK eL (aB (aK bW (aB (aD 1) (aB RK aH))) aH)) (aB (aD 7) aH)))))
  (bO (fC (.bool false)))
  cP)
 (bG (sIf (gO (gB (aK dD (aB (aK eQ (aB (aK bW (aB (aD 1) (aB RH aH))) aH)) (aB (aD 7) aH)))))
  (bO (fC (.bool false)))
  cP)
 (bG (bB xS (hName 5))
 (bG (sIf (gO (gB (aK dD (aB (aK dU (aB (aK bW (aB (aD 1) (aB (aD 5) aH))) aH)) (aB (aD 8) aH)))))
  (bO (fC (.bool false)))
  cP)
 (bO (fOp (eqX false) (eV (aB (aK eL (aB (fC (.str "")) aH)) (aB (aK eQ (aB (fC (.str "  \n")) aH)) (aB (aK dU (aB (fC (.str "\n\n")) aH)) aH)))) PR))))))))))))))))
noncomputable def F_law:FN:=fnF 1 9 PU
structure Txt(K:Fg)(mg:Str->Option Value):Prop where
 hB:UH mg ["all","bool","enumerate","int","isinstance","len","list","max","min","range","sorted","str","tuple"]
 v114:∃t:Tok,mg "MOST_ABOVE"=some (.int 1000000000000 t)
 v115:∃t:Tok,mg "BELOW"=some (.int 55440 t)
 v116:∃t:Tok,mg "MOST_PLACES"=some (.int 40 t)
 v117:∃t:Tok,mg "DIGITS"=some (.str "0123456789" t)
 v118:∃t:Tok,mg "MOST_PLACE_DIGITS"=some (.int 2 t)
 v119:∃t:Tok,mg "MOST_AMOUNT_DIGITS"=some (.int 30 t)
 v105:mg "NoTie"=some (.ref (bN K "NoTie"))
 v106:XC K (bN K "NoTie")
 v107:mg "NoPlace"=some (.ref (bN K "NoPlace"))
 v29:PySem.W.exmOne K (.ref (bN K "NoPlace")) (.ref (bN K "NoTie"))=some false
 v30:PySem.W.exmOne K (.ref (bN K "NoTie")) (.ref (bN K "NoTie"))=some true
 v108:mg "Web"=some (.ref (bN K "Web"))
 v109:Cls K (bN K "Web")
 v36:fS K (bN K "Web") "many"
 v110:OC K (bN K "Web")
 v46:fS K (bN K "Web") "ties"
 v111:VX K (bN K "NoTie") "at"
 v52:PySem.W.keepIn K (.ref (bN K "NoTie"))=true
 v53:FE K (bN K "NoTie")=true
 v112:NY K "NoTie" "__init__" "NoTie.__init__" eN
 v59:PySem.W.excIn K (bN K "NoPlace") bmV "ValueError.__new__"=true
 v60:fS K (bN K "Web") "weights"
 v113:NY K "Web" "__init__" "Web.__init__" eU
 v66:PySem.W.makesIn K (bN K "Web")=true
 v67:PySem.W.keepIn K (.ref (bN K "Web"))=true
 v68:Def K mg "_law_deck" oF
 v69:Def K mg "_law_ties" jK
 v70:Def K mg "_law_number" kQ
 v71:Def K mg "_law_line" oG
 v72:Def K mg "said_lines" fH
 v73:Def K mg "number_of" jR
 v74:Def K mg "place_of" pY
 v75:Def K mg "many_in" sF
 v76:Def K mg "is_whole" oY
 v77:Def K mg "is_row" vW
 v78:Def K mg "common" vD
 v79:Def K mg "is_row_of" oJ
 v80:Def K mg "has_amount_numbers" eF
 v81:Def K mg "is_in_parts" jY
 v82:Def K mg "is_weight" oA
 v83:Def K mg "is_place" pL
 v84:Def K mg "are_unlike_places" eO
 v85:Def K mg "is_between_places" eK
 v86:Def K mg "is_tie" uT
 v87:Def K mg "kept_ties" jU
 v88:Def K mg "is_amount" nK
 v89:Def K mg "amount_of" nW
 v90:Def K mg "row_in" vV
 v91:Def K mg "read_web" lC
 v92:Def K mg "_law_spread" kP
 v93:Def K mg "_law_plain" iF
 v94:Def K mg "_law_same" nX
 v95:Def K mg "_law_lowest" kO
 v96:Def K mg "_law_any" pX
 v97:Def K mg "_law_drawn" mH
 v98:Def K mg "_law_places" gI
 v99:Def K mg "read_rows" jI
 v100:Def K mg "read_tree" jW
 v101:Def K mg "read_flow" jP
 v102:Def K mg "side_in" nN
 v103:Def K mg "read_sides" iG
 v104:Def K mg "law" qK
section
variable{P:Program}{w:World}{K:Fg}{mg:Str->Option Value}{base:Heap}
theorem GH(T:Txt K mg):Callee P w K mg base 1 "_law_deck" qM (spM K lM):=
 T.v68.okG (N:=xC) (ps:=qM) (k:=0) (b:=lO) sc__law_deck (by sleep 992) fun f cdv A outer s H E hr=>
  (aN (bH 2 (fun _=>sc__law_deck.nd) (dB (aBY (fun _=>rfl)) (fun _=>T.hB.of "list") boot_list (aA (aC 0) aG)))
   (aN (gR (cX (aIV (fun _=>rfl) (fun _=>hr.units)) (aC 2) (fO aG))
    (aT (bH 2 (fun _=>sc__law_deck.nd) (GJ (aA aE aG))))
    dN)
   (aN (bH 3 (fun _=>sc__law_deck.nd) (aR cA (bJ cM (aC 2) aE) aE))
   (aN (NZ (aR eD (bJ cM (aC 2) aE) aE) (aAz aEq (aC 2) aE))
   (aN (bH 4 (fun _=>sc__law_deck.nd) (GJ aG))
   (aN (vP (fun _=>L9) (fun _=>rfl) (tM (fun _=>T.hB.of "range") (aA (aC 1) aG)) (aY 5 (fun _=>sc__law_deck.nd))
    (aN (bH 6 (fun _=>sc__law_deck.nd) (aR cA (aC 5) (dZ DJ (fun _=>T.hB.of "len") boot_len (aA (aC 2) aG))))
   (aN (bH 7 (fun _=>sc__law_deck.nd) (aR cA (bJ cM (aC 2) (aC 6)) aE))
   (aN (gR (cX (xN (fun _=>rfl) (fun _=>hr.units)) (aC 3) aE)
    (aN (bH 7 (fun _=>sc__law_deck.nd) (aR cA (aR lV (aR lV (bJ cM (aC 2) (aC 6)) (aR CT (aR CT (aC 5) (aC 5)) aE)) (aR CT aE (aC 5))) aE))
   (aN (bH 7 (fun _=>sc__law_deck.nd) (aR cA (aR lV (aR CT (aC 7) (bJ cM (fO (aA aE (aA aE (aA aE (aA aE aG))))) (aR cA (aC 5) aE))) aE) aE))
   (aT (bH 7 (fun _=>sc__law_deck.nd) (aR cA (aR CT (aC 7) (aC 7)) aE)))))
    (aT (NZ (aR eD (bJ cM (aC 2) (aC 6)) aE) (aAz aEq (aC 2) (aC 6)))))
   (aT (xZ (uX (fun _=>rfl) (aC 4) (aA (aC 7) aG))))))))
   (aN (xZ (LU (fun _=>rfl) (aC 4)))
   (aT (bD (aC 4))))))))))
theorem ES(T:Txt K mg):Callee P w K mg base 1 "_law_ties" oS (spM K lF):=
 T.v69.okG (N:=pO) (ps:=oS) (k:=0) (b:=qT) sc__law_ties (by sleep 992) fun f cdv A outer s H E hr=>
  (aN (bH 2 (fun _=>sc__law_ties.nd) LB)
   (aN (vP (fun _=>L9) (fun _=>rfl) (tM (fun _=>T.hB.of "range") (aA (aR cA (gA (fun _=>rfl) (aC 0)) aE) aG)) (aY 3 (fun _=>sc__law_ties.nd))
    (aN (bH 4 (fun _=>sc__law_ties.nd) (gA (fun _=>rfl) (aC 0)))
   (aN (bH 5 (fun _=>sc__law_ties.nd) (aR cA (aC 4) (aC 1)))
   (aN (bH 6 (fun _=>sc__law_ties.nd) (aR cA (aR eD (aC 4) aE) (aC 1)))
   (aN (bH 7 (fun _=>sc__law_ties.nd) (fO (aA (cT (aA aE (aA aE aG))) (aA (cT (aA aE (aA aE aG))) (aA (cT (aA aE (aA aE aG))) (aA (cT (aA (aR IZ aE aE) (aA aE aG))) (aA (cT (aA aE (aA aE aG))) (aA (cT (aA aE (aA aE aG))) (aA (cT (aA (aR JW (aR IZ aE aE) aE) (aA aE aG))) (aA (cT (aA aE (aA aE aG))) aG))))))))))
   (aT (gR (cX (IE (fun _=>rfl) (fun _=>hr.units)) (aC 5) (aC 6))
    (aT (QJ (fun _=>hr.u1) (aC 2) (FY (aA (dZ (aIi (fun _=>rfl)) (fun _=>T.hB.of "min") boot_min (aA (aC 5) (aA (aC 6) aG))) (aA (dZ (aGB (fun _=>rfl)) (fun _=>T.hB.of "max") boot_max (aA (aC 5) (aA (aC 6) aG))) aG))) (bJ cM (aR lV (aC 7) (fO (aA (cT (aA (aR cA (aR eD (aC 4) aE) aE) (aA aE aG))) aG))) (aR cA (aR eD (aC 4) aE) aE))))
    dN)))))))
   (aT (bD (gQ (N':=(["_law_found","_law_pair"]:List Str)) (cap:=[some 2,none]) (fun _=>rfl) (fun _=>cS (sc0:=aF jK) (N:=pO) rfl rfl (by decide +kernel)) (dP (fun _=>rfl) (dZ (aCN (fun _=>rfl) (fun _=>hr.units2) (fun _=>rfl)) (fun _=>T.hB.of "sorted") boot_sorted (aA (aC 2) aG))) (aY 1 (fun _=>(show(["_law_found","_law_pair"]:List Str).Nodup by decide +kernel))) eT (aR lV (aC 1) (cT (aA (ZE (fun _=>rfl) (fun _=>hr.u1) (aC 0) (aC 1)) aG))))))))
theorem yM(T:Txt K mg):Callee P w K mg base 1 "_law_number" mV (spM K fE):=
 T.v70.okG (N:=rS) (ps:=mV) (k:=0) (b:=iD) BA (by sleep 991) fun f cdv A outer s H E hr=>
  (aN (gR (cX (xN (fun _=>rfl) (fun _=>hr.units)) (bJ cM (aC 0) aE) aE)
   (aT (bD (dB tG (fun _=>T.hB.of "str") boot_str (aA (bJ cM (aC 0) aE) aG))))
   dN)
   (aT (bD (aR (mQ (fun _=>rfl)) (aR (mQ (fun _=>rfl)) (dB tG (fun _=>T.hB.of "str") boot_str (aA (bJ cM (aC 0) aE) aG)) bT) (dB tG (fun _=>T.hB.of "str") boot_str (aA (bJ cM (aC 0) aE) aG))))))
theorem oH(T:Txt K mg):Callee P w K mg base 2 "_law_line" qJ (spM K dR):=
 T.v71.okG (N:=wO) (ps:=qJ) (k:=1) (b:=pR) EJ (by sleep 992) fun f cdv A outer s H E hr=>
  (aT (bD (HE (fun _=>rfl) bT (aA (fO (aA (aC 0) (aA (dB tG (fun _=>T.hB.of "str") boot_str (aA (bJ cM (aC 1) aE) aG)) (aA (dB tG (fun _=>T.hB.of "str") boot_str (aA (bJ cM (aC 1) aE) aG)) (aA (aO (fun _=>yM T) hr.le (aA (bJ cM (aC 1) aE) aG)) aG))))) aG))))
theorem iB(T:Txt K mg):Callee P w K mg base 1 "said_lines" nQ (spM K cK):=
 T.v72.okG (N:=jN) (ps:=nQ) (k:=0) (b:=jS) sc_said_lines (by sleep 991) fun f cdv A outer s H E hr=>
  (aN (JM 1 (fun _=>sc_said_lines.nd) (N':=(["line"]:List Str)) (cap:=[none]) (fun _=>rfl) (fun _=>cS (sc0:=aF fH) (N:=jN) rfl rfl (by decide +kernel)) (dP (fun _=>rfl) (AW (fun _=>rfl) (aC 0) (aA bT aG))) (aY 0 (fun _=>(show(["line"]:List Str).Nodup by decide +kernel))) eT (gQ (N':=(["word"]:List Str)) (cap:=[none]) (fun _=>rfl) (fun _=>QA (by decide +kernel)) (dP (fun _=>rfl) (AW (fun _=>rfl) (aC 0) (aA bT aG))) (aY 0 (fun _=>(show(["word"]:List Str).Nodup by decide +kernel))) (GZ (GC (fun _=>rfl) (aC 0))) (aC 0)))
   (aT (bD (gQ (N':=(["at","words"]:List Str)) (cap:=[none,none]) (fun _=>rfl) (fun _=>cS (sc0:=aF fH) (N:=jN) rfl rfl (by decide +kernel)) (QG (fun _=>rfl) (fun _=>T.hB.of "enumerate") (aA (aC 1) aG)) (iX (fun _=>rfl) (fun _=>rfl) (bL (aY 0 (fun _=>(show(["at","words"]:List Str).Nodup by decide +kernel))) (bL (aY 1 (fun _=>(show(["at","words"]:List Str).Nodup by decide +kernel))) fK))) (GZ (NX (fun _=>rfl) (aC 1))) (cT (aA (aC 0) (aA (aC 1) aG)))))))
theorem oE(T:Txt K mg):Callee P w K mg base 1 "number_of" qF (spM K cE):=
 T.v73.okG (N:=pC) (ps:=qF) (k:=0) (b:=lT) FC (by sleep 992) fun f cdv A outer s H E hr=>
  (aN (gR (BJ (oW (gH (HK aAN YI aE (dZ (aIl (fun _=>rfl)) (fun _=>T.hB.of "len") boot_len (aA (aC 0) aG)) (aC 1))) (oX (gH (fT (dZ (aEH (fun _=>rfl) (fun _=>rfl)) (fun _=>T.hB.of "all") boot_all (aA (gQ (N':=(["sign"]:List Str)) (cap:=[none]) (fun _=>rfl) (fun _=>cS (sc0:=aF jR) (N:=pC) rfl rfl (by decide +kernel)) (aIk (aC 0)) (aY 0 (fun _=>(show(["sign"]:List Str).Nodup by decide +kernel))) eT (iT aIr (aC 0) (XH (fun _=>T.v117)))) aG)))))))
   (aT (bD fP))
   dN)
   (aT (bD (zL (BJ (oW (cX (xN (fun _=>rfl) (fun _=>hr.units)) (aC 0) bT) (oX (cX (IE (fun _=>rfl) (fun _=>hr.units)) (bJ aIP (aC 0) aE) bT)))) (dB aFV (fun _=>T.hB.of "int") boot_int (aA (aC 0) aG)) fP))))
theorem lQ(T:Txt K mg):Callee P w K mg base 2 "place_of" sD (spM K cH):=
 T.v74.okG (N:=BU) (ps:=sD) (k:=1) (b:=nU) LA (by sleep 991) fun f cdv A outer s H E hr=>
  (aT (bD (aO (fun _=>oE T) hr.le (aA (aC 0) (aA (kJ (fun _=>T.v118)) aG)))))
theorem MD(T:Txt K mg):Callee P w K mg base 3 "many_in" vH (spM K nG):=
 T.v75.okG (N:=EB) (ps:=vH) (k:=2) (b:=qV) sc_many_in (by sleep 991) fun f cdv A outer s H E hr=>
  (aN (bH 1 (fun _=>sc_many_in.nd) (zL (BJ (NJ (cX (xN (fun _=>rfl) (fun _=>hr.units)) (dZ DJ (fun _=>T.hB.of "len") boot_len (aA (aC 0) aG)) aE) (FL (cX (xN (fun _=>rfl) (fun _=>hr.units)) (bJ cM (aC 0) aE) bT)))) (aO (fun _=>lQ T) hr.le (aA (bJ cM (aC 0) aE) aG)) fP))
   (aT (bD (zL (BJ (NJ (cX aFl (aC 1) fP) (FL (HK YI YI aE (aC 1) (kJ (fun _=>T.v116)))))) (aC 1) fP))))
theorem lY(T:Txt K mg):Callee P w K mg base 1 "is_whole" sE (spM K fQ):=
 T.v76.okG (N:=BE) (ps:=sE) (k:=0) (b:=BD) IV (by sleep 991) fun f cdv A outer s H E hr=>
  (aT (bD (eY (tD (T:="int") (fun _=>rfl) (by decide) (aC 0) (fun _=>cR) (fun _=>T.hB.of "isinstance") (fun _=>T.hB.of "int") boot_int) (iY (XB (tD (T:="bool") (fun _=>rfl) (by decide) (aC 0) (fun _=>cR) (fun _=>T.hB.of "isinstance") (fun _=>T.hB.of "bool") boot_bool))))))
theorem DY(T:Txt K mg):Callee P w K mg base 1 "is_row" BB (spM K tL):=
 T.v77.okG (N:=JX) (ps:=BB) (k:=0) (b:=HU) RZ (by sleep 991) fun f cdv A outer s H E hr=>
  (aT (bD (aCE (T:="list") (U:="tuple") (fun _=>rfl) (by decide) (by decide) (aC 0) (fun _=>cR) (fun _=>T.hB.of "isinstance") (fun _=>T.hB.of "list") (fun _=>T.hB.of "tuple") boot_list Y9)))
theorem qA(T:Txt K mg):BI P w K mg base 1 "NoTie" mS (spM K mB):=
 T.v112.okIX (N:=rT) (ps:=mS) (k:=0) (b:=sC) T.v53 T.v52 BP (by sleep 992) fun f cdv A outer s H E hr=>
  (aT (aCC (nm:="NoTie") (fun _=>rfl) T.v111 (aC 0) (aC 1)))
theorem CM(T:Txt K mg):Callee P w K mg base 1 "common" zZ (spM K pF):=
 T.v78.okG (N:=KG) (ps:=zZ) (k:=0) (b:=HQ) sc_common (by sleep 992) fun f cdv A outer s H E hr=>
  (aN (HX (fun _=>L9) (NX (fun _=>rfl) (aC 1)) (aT (LV 0 1 (fun _=>rfl) (fun _=>sc_common.nd) (aA (aC 1) (aA (aR cA (aC 0) (aC 1)) aG)))))
   (aT (bD (aC 0))))
theorem uI(T:Txt K mg):Callee P w K mg base 2 "is_row_of" pT (spM K kY):=
 T.v79.okG (N:=xA) (ps:=pT) (k:=1) (b:=wF) EO (by sleep 992) fun f cdv A outer s H E hr=>
  (aT (bD (eY (aO (fun _=>DY T) hr.le (aA (aC 0) aG)) (iY (iT (xN (fun _=>rfl) (fun _=>hr.units)) (dZ DJ (fun _=>T.hB.of "len") boot_len (aA (aC 0) aG)) (aC 1))))))
theorem gP(T:Txt K mg):Callee P w K mg base 3 "has_amount_numbers" eJ (spM K bM):=
 T.v80.okG (N:=iM) (ps:=eJ) (k:=2) (b:=cO) oO (by sleep 991) fun f cdv A outer s H E hr=>
  (aN (gR (BJ (oW (gH (fT (aO (fun _=>uI T) hr.le (aA (aC 0) (aA aE aG))))) (oW (gH (fT (aO (fun _=>lY T) hr.le (aA (bJ cM (aC 0) aE) aG)))) (oX (gH (fT (aO (fun _=>lY T) hr.le (aA (bJ cM (aC 0) aE) aG))))))))
   (aT (bD CO))
   dN)
   (aT (bD (eY (iT aIO (bJ cM (aC 0) aE) aE) (iY (iT aIO (bJ cM (aC 0) aE) aE))))))
theorem BF(T:Txt K mg):Callee P w K mg base 4 "is_in_parts" mR (spM K cZ):=
 T.v81.okG (N:=rM) (ps:=mR) (k:=3) (b:=eA) yI (by sleep 991) fun f cdv A outer s H E hr=>
  (aT (bD (eY (aO (fun _=>gP T) hr.le (aA (aC 0) aG)) (eY (iT (xN (fun _=>rfl) (fun _=>hr.units)) (aR cA (kJ (fun _=>T.v115)) (bJ cM (aC 0) aE)) aE) (iY (iT (xN (fun _=>rfl) (fun _=>hr.units)) (aO (fun _=>CM T) hr.le (aA (bJ cM (aC 0) aE) (aA (bJ cM (aC 0) aE) aG))) aE))))))
theorem FI(T:Txt K mg):Callee P w K mg base 5 "is_weight" pH (spM K eP):=
 T.v82.okG (N:=xD) (ps:=pH) (k:=4) (b:=iK) GI (by sleep 991) fun f cdv A outer s H E hr=>
  (aT (bD (eY (aO (fun _=>BF T) hr.le (aA (aC 0) aG)) (iY (iT YI (bJ cM (aC 0) aE) (kJ (fun _=>T.v114)))))))
theorem wX(T:Txt K mg):Callee P w K mg base 2 "is_place" tH (spM K gX):=
 T.v83.okG (N:=BM) (ps:=tH) (k:=1) (b:=oK) JA (by sleep 992) fun f cdv A outer s H E hr=>
  (aT (bD (eY (aO (fun _=>lY T) hr.le (aA (aC 1) aG)) (iY (aAd YI aAN aE (aC 1) (aC 0))))))
theorem oQ(T:Txt K mg):Callee P w K mg base 3 "are_unlike_places" eX (spM K cB):=
 T.v84.okG (N:=jD) (ps:=eX) (k:=2) (b:=cV) pN (by sleep 993) fun f cdv A outer s H E hr=>
  (aT (bD (eY (aO (fun _=>wX T) hr.le (aA (aC 0) (aA (aC 1) aG))) (eY (aO (fun _=>wX T) hr.le (aA (aC 0) (aA (aC 2) aG))) (iY (iT (IE (fun _=>rfl) (fun _=>hr.units)) (aC 1) (aC 2)))))))
theorem oU(T:Txt K mg):Callee P w K mg base 4 "is_between_places" fB (spM K bQ):=
 T.v85.okG (N:=iZ) (ps:=fB) (k:=3) (b:=cW) qG (by sleep 992) fun f cdv A outer s H E hr=>
  (aT (bD (eY (aO (fun _=>uI T) hr.le (aA (aC 1) (aA aE aG))) (eY (aO (fun _=>oQ T) hr.le (aA (aC 0) (aA (bJ cM (aC 1) aE) (aA (bJ cM (aC 1) aE) aG)))) (iY (iT aAN (bJ cM (aC 1) aE) (bJ cM (aC 1) aE)))))))
theorem SZ(T:Txt K mg):Callee P w K mg base 6 "is_tie" yL (spM K jZ):=
 T.v86.okG (N:=JR) (ps:=yL) (k:=5) (b:=nE) SU (by sleep 992) fun f cdv A outer s H E hr=>
  (aT (bD (eY (aO (fun _=>oU T) hr.le (aA (aC 0) (aA (aC 1) aG))) (iY (aO (fun _=>FI T) hr.le (aA (bJ cM (aC 1) aE) aG))))))
theorem FS(T:Txt K mg):xW P w K mg base 7 "kept_ties" pU (spX K iP):=
 T.v87.okX (N:=pV) (ps:=pU) (k:=6) (b:=oZ) sc_kept_ties (by sleep 992) fun f cdv A outer s H E hr=>
  (kL (NA (gH (fT (aO (fun _=>DY T) hr.le (aA (aC 1) aG))))
   (xU (yS (fun i=>KM i) (fun _=>qA T) (fun _=>rfl) (fun _=>rfl) (fun _=>T.v105) T.v106.c.be hr.le (aA aE aG)))
   (vA dN))
   (kL (aAF (bH 2 (fun _=>sc_kept_ties.nd) LB))
   (kL (aEg (fun i=>KM i) (fun _=>rfl) (QG (fun _=>rfl) (fun _=>T.hB.of "enumerate") (aA (aC 1) aG)) (iX (fun _=>rfl) (fun _=>rfl) (bL (aY 3 (fun _=>sc_kept_ties.nd)) (bL (aY 4 (fun _=>sc_kept_ties.nd)) fK)))
    (kL (NA (BJ (oW (gH (fT (aO (fun _=>SZ T) hr.le (aA (aC 0) (aA (aC 4) aG))))) (oX (aHl (fun _=>hr.u1) (FY (aA (bJ cM (aC 4) aE) (aA (bJ cM (aC 4) aE) aG))) (aC 2)))))
    (xU (yS (fun i=>KM i) (fun _=>qA T) (fun _=>rfl) (fun _=>rfl) (fun _=>T.v105) T.v106.c.be hr.le (aA (aC 3) aG)))
    (vA dN))
   (vA (aT (QJ (fun _=>hr.u1) (aC 2) (FY (aA (bJ cM (aC 4) aE) (aA (bJ cM (aC 4) aE) aG))) (dB (tX (fun _=>rfl)) (fun _=>T.hB.of "tuple") Y9 (aA (bJ cM (aC 4) aE) aG)))))))
   (vA (aT (bD (dB (tX (fun _=>rfl)) (fun _=>T.hB.of "tuple") Y9 (aA (gQ (N':=(["i","j","weight"]:List Str)) (cap:=[none,none,none]) (fun _=>rfl) (fun _=>cS (sc0:=aF jU) (N:=pV) rfl rfl (by decide +kernel)) (dP (fun _=>rfl) (WE (fun _=>rfl) (fun _=>hr.units2) (fun _=>rfl) (fun _=>T.hB.of "sorted") (aC 2))) (iX (fun _=>rfl) (fun _=>rfl) (bL (iX (fun _=>rfl) (fun _=>rfl) (bL (aY 0 (fun _=>(show(["i","j","weight"]:List Str).Nodup by decide +kernel))) (bL (aY 1 (fun _=>(show(["i","j","weight"]:List Str).Nodup by decide +kernel))) fK))) (bL (aY 2 (fun _=>(show(["i","j","weight"]:List Str).Nodup by decide +kernel))) fK))) (GZ (cX aHg (bJ cM (aC 2) aE) aE)) (cT (aA (aC 0) (aA (aC 1) (aA (aC 2) aG))))) aG))))))))
theorem ER(T:Txt K mg):AN P w K mg base 8 "Web" qH (spX K iO):=
 T.v113.okR (N:=pJ) (ps:=qH) (k:=7) (b:=pW) T.v66 T.v67 T.v108 FR (by sleep 993) fun f cdv A outer s H E hr=>
  (kL (NA (BJ (oW (gH (fT (aO (fun _=>lY T) hr.le (aA (aC 1) aG)))) (oW (cX aAN (aC 1) aE) (oX (cX aHg (aC 1) (kJ (fun _=>T.v116)))))))
   (xU (NV (fun i=>KM i) (fun _=>rfl) (fun _=>rfl) (fun _=>T.v107) T.v59))
   (vA dN))
   (kL (aAF (aAR (nm:="Web") (fun _=>rfl) T.v109 T.v36 (aC 0) (aC 1)))
   (kL (aBN (nm:="Web") (fun _=>rfl) T.v109 T.v46 (aC 0) (aDd (fun i=>KM i) (fun _=>FS T) hr.le (aFC (aA (aC 1) (aA (aC 2) aG)))))
   (vA (aT (aAR (nm:="Web") (fun _=>rfl) T.v109 T.v60 (aC 0) (aGT (N':=(["i","j","weight"]:List Str)) (cap:=[none,none,none]) (fun _=>hr.u0) (fun _=>rfl) (fun _=>cS (sc0:=aF eU) (N:=pJ) rfl rfl (by decide +kernel)) (dP (fun _=>rfl) (GO (nm:="Web") (fun _=>rfl) T.v109 T.v46 (aC 0))) (iX (fun _=>rfl) (fun _=>rfl) (bL (aY 0 (fun _=>(show(["i","j","weight"]:List Str).Nodup by decide +kernel))) (bL (aY 1 (fun _=>(show(["i","j","weight"]:List Str).Nodup by decide +kernel))) (bL (aY 2 (fun _=>(show(["i","j","weight"]:List Str).Nodup by decide +kernel))) fK)))) eT (FY (aA (aC 0) (aA (aC 1) aG))) (aC 2))))))))
theorem HC(T:Txt K mg):Callee P w K mg base 4 "is_amount" pK (spM K fX):=
 T.v88.okG (N:=wN) (ps:=pK) (k:=3) (b:=lJ) FG (by sleep 991) fun f cdv A outer s H E hr=>
  (aT (bD (eY (aO (fun _=>gP T) hr.le (aA (aC 0) aG)) (iY (iT (xN (fun _=>rfl) (fun _=>hr.units)) (aO (fun _=>CM T) hr.le (aA (bJ cM (aC 0) aE) (aA (bJ cM (aC 0) aE) aG))) aE)))))
theorem HI(T:Txt K mg):Callee P w K mg base 5 "amount_of" pM (spM K iN):=
 T.v89.okG (N:=wM) (ps:=pM) (k:=4) (b:=lU) sc_amount_of (by sleep 991) fun f cdv A outer s H E hr=>
  (aN (NZ (aCf (fun _=>rfl) (aC 0) (aA bT aG)) (iX (fun _=>rfl) (fun _=>rfl) (bL (aY 1 (fun _=>sc_amount_of.nd)) (bL (aY 2 (fun _=>sc_amount_of.nd)) (bL (aY 3 (fun _=>sc_amount_of.nd)) fK)))))
   (aN (gR (BJ (NJ (GC (fun _=>rfl) (aC 2)) (FL (cX (xN (fun _=>rfl) (fun _=>hr.units)) (aC 3) bT))))
    (aT (bD fP))
    dN)
   (aN (bH 4 (fun _=>sc_amount_of.nd) (cT (aA (aO (fun _=>oE T) hr.le (aA (aC 1) (aA (kJ (fun _=>T.v119)) aG))) (aA (zL (GC (fun _=>rfl) (aC 2)) (aO (fun _=>oE T) hr.le (aA (aC 3) (aA (kJ (fun _=>T.v119)) aG))) aE) aG))))
   (aT (bD (zL (fT (aO (fun _=>HC T) hr.le (aA (aC 4) aG))) (aC 4) fP))))))
theorem wA(T:Txt K mg):Callee P w K mg base 6 "row_in" BH (spM K gF):=
 T.v90.okG (N:=LD) (ps:=BH) (k:=5) (b:=uG) sc_row_in (by sleep 992) fun f cdv A outer s H E hr=>
  (aN (gR (BJ (oW (cX (IE (fun _=>rfl) (fun _=>hr.units)) (dZ DJ (fun _=>T.hB.of "len") boot_len (aA (aC 0) aG)) aE) (oX (cX (IE (fun _=>rfl) (fun _=>hr.units)) (bJ cM (aC 0) aE) (aC 1)))))
   (aT (bD fP))
   dN)
   (aN (bH 2 (fun _=>sc_row_in.nd) (cT (aA (aO (fun _=>lQ T) hr.le (aA (bJ cM (aC 0) aE) aG)) (aA (aO (fun _=>lQ T) hr.le (aA (bJ cM (aC 0) aE) aG)) (aA (aO (fun _=>HI T) hr.le (aA (bJ cM (aC 0) aE) aG)) aG)))))
   (aT (bD (zL (cX (aIH (fun _=>rfl) (fun _=>hr.units1)) fP (aC 2)) fP (aC 2))))))
theorem II(T:Txt K mg):Callee P w K mg base 10 "read_web" sS (spM K hV):=
 T.v91.okG (N:=sW) (ps:=sS) (k:=9) (b:=nV) sc_read_web (by sleep 991) fun f cdv A outer s H E hr=>
  (aN (bH 1 (fun _=>sc_read_web.nd) (aO (fun _=>iB T) hr.le (aA (aC 0) aG)))
   (aN (gR (gH (NX (fun _=>rfl) (aC 1)))
    (aT tT)
    dN)
   (aN (bH 2 (fun _=>sc_read_web.nd) (aO (fun _=>MD T) hr.le (aA (bJ cM (bJ cM (aC 1) aE) aE) aG)))
   (aN (gR (cX aEo (aC 2) fP)
    (aT tT)
    dN)
   (aT (aGk (fun _=>⟨rfl,rfl,rfl⟩) (fun _=>rfl) (xU (aCi (aBZ (fun i=>aJO (fun _=>⟨rfl,rfl,rfl⟩) i) (fun _=>ER T) (fun _=>rfl) hr.le (aA (aC 2) (aA (gQ (N':=(["at","words"]:List Str)) (cap:=[none,none]) (fun _=>rfl) (fun _=>cS (sc0:=aF lC) (N:=sW) rfl rfl (by decide +kernel)) (dP (fun _=>rfl) (QM (fun _=>rfl) (aC 1) (uB aE) uE)) (iX (fun _=>rfl) (fun _=>rfl) (bL (aY 0 (fun _=>(show(["at","words"]:List Str).Nodup by decide +kernel))) (bL (aY 1 (fun _=>(show(["at","words"]:List Str).Nodup by decide +kernel))) fK))) eT (aO (fun _=>wA T) hr.le (aA (aC 1) (aA bT aG)))) aG))))) (aDc (tab:=[("NoTie",true),("NoPlace",false)]) (n:=(some 3)) (.ref (bN K "NoTie")) (fun _=>⟨rfl,rfl,rfl⟩) (fun _=>.inl T.v105) (fun _=>⟨sc_read_web.nd,rfl,rfl⟩) (DP T.v30 (DP T.v29 YB)) (aT tT)
   aFP)))))))
theorem gM(T:Txt K mg):Callee P w K mg base 1 "_law_spread" mC (spM K bW):=
 T.v92.okG (N:=rK) (ps:=mC) (k:=0) (b:=iA) sc__law_spread (by sleep 992) fun f cdv A outer s H E hr=>
  (aN (bH 2 (fun _=>sc__law_spread.nd) bT)
   (aN (vP (fun _=>L9) (fun _=>rfl) (dP (fun _=>rfl) (aC 1)) (aY 3 (fun _=>sc__law_spread.nd))
    (aN (bH 4 (fun _=>sc__law_spread.nd) (gA (fun _=>rfl) (aC 0)))
   (aN (bH 5 (fun _=>sc__law_spread.nd) (HE (fun _=>rfl) (aR MU bT (bJ cM (fO (aA aE (aA aE (aA aE (aA aE aG))))) (aR cA (aC 4) aE))) (aA (AW (fun _=>rfl) (aC 3) (aA bT aG)) aG)))
   (aN (bH 2 (fun _=>sc__law_spread.nd) (aR (mQ (fun _=>rfl)) (aR (mQ (fun _=>rfl)) (aR (mQ (fun _=>rfl)) (aC 2) (bJ cM (fO (aA bT (aA bT (aA bT (aA bT aG))))) (aR cA (aR eD (aC 4) aE) aE))) (aR MU bT (aR cA (aR eD (aC 4) aE) aE))) (aC 5)))
   (aT (bH 2 (fun _=>sc__law_spread.nd) (aR (mQ (fun _=>rfl)) (aR (mQ (fun _=>rfl)) (aC 2) (aR MU bT (aR cA (aR eD (aC 4) aE) aE))) bT)))))))
   (aT (bD (bJ cM (fO (aA (aC 2) (aA (aHz (aC 2) uE (uB (aIA aJR aE))) (aA (aR (mQ (fun _=>rfl)) (aC 2) bT) (aA (aR (mQ (fun _=>rfl)) (aC 2) bT) aG))))) (aR cA (gA (fun _=>rfl) (aC 0)) aE))))))
theorem rR(T:Txt K mg):∀n:Nat,Callee P w K mg base (n+1) "_law_plain" jQ (spM K (cJ n))
 |0=>(T.v93.okNone (N:=jF) (ps:=jQ) (k:=0) rW (by intro _ _ _ _ _ _ _ hl;apply ar1 hl;intros;rfl)).mono (by decide)
 |n+1=>(T.v93.okG (N:=jF) (ps:=jQ) (k:=n+1) (b:=gG (cJ n)) rW (by sleep 991) fun f cdv A outer s H E hr=>
  (aN (gR (fT (tD (T:="tuple") (fun _=>rfl) (by decide) (aC 0) (fun _=>cR) (fun _=>T.hB.of "isinstance") (fun _=>T.hB.of "tuple") Y9))
   (aT (bD (dZ (aEH (fun _=>rfl) (fun _=>rfl)) (fun _=>T.hB.of "all") boot_all (aA (gQ (N':=(["_law_inner"]:List Str)) (cap:=[none]) (fun _=>rfl) (fun _=>cS (sc0:=aF iF) (N:=jF) rfl rfl (by decide +kernel)) (dP (fun _=>rfl) (aC 0)) (aY 0 (fun _=>(show(["_law_inner"]:List Str).Nodup by decide +kernel))) eT (aO (fun _=>rR T n) (fun _=>hr.mono (by omega)) (aA (aC 0) aG))) aG))))
   dN)
   (aT (bD (eY (tD (T:="int") (fun _=>rfl) (by decide) (aC 0) (fun _=>cR) (fun _=>T.hB.of "isinstance") (fun _=>T.hB.of "int") boot_int) (iY (XB (tD (T:="bool") (fun _=>rfl) (by decide) (aC 0) (fun _=>cR) (fun _=>T.hB.of "isinstance") (fun _=>T.hB.of "bool") boot_bool)))))))).mono (by omega)
theorem jE(T:Txt K mg):Callee P w K mg base 11 "_law_same" pD (spM K dD):=
 T.v94.okG (N:=wK) (ps:=pD) (k:=10) (b:=lP) EY (by sleep 992) fun f cdv A outer s H E hr=>
  (aT (bD (eY (tD (T:="tuple") (fun _=>rfl) (by decide) (aC 0) (fun _=>cR) (fun _=>T.hB.of "isinstance") (fun _=>T.hB.of "tuple") Y9) (eY (iT (xN (fun _=>rfl) (fun _=>hr.units)) (dB (aFw (fun _=>rfl)) (fun _=>T.hB.of "list") boot_list (aA (aC 0) aG)) (aC 1)) (iY (aO (fun _=>rR T 9) hr.le (aA (aC 0) aG)))))))
theorem yW(T:Txt K mg):Callee P w K mg base 1 "_law_lowest" mU (spM K iC):=
 T.v95.okG (N:=rQ) (ps:=mU) (k:=0) (b:=mW) sc__law_lowest (by sleep 992) fun f cdv A outer s H E hr=>
  (aN (LV 2 3 (fun _=>rfl) (fun _=>sc__law_lowest.nd) (aA (aC 0) (aA (aC 1) aG)))
   (aN (HX (fun _=>L9) (cX aHg (aC 3) aE) (aT (LV 2 3 (fun _=>rfl) (fun _=>sc__law_lowest.nd) (aA (aC 3) (aA (aR cA (aC 2) (aC 3)) aG)))))
   (aT (bD (cT (aA (aR eD (aC 0) (aC 2)) (aA (aR eD (aC 1) (aC 2)) aG)))))))
theorem HS(T:Txt K mg):Callee P w K mg base 2 "_law_any" sO (spM K nJ):=
 T.v96.okG (N:=zJ) (ps:=sO) (k:=1) (b:=sR) sc__law_any (by sleep 991) fun f cdv A outer s H E hr=>
  (aN (bH 1 (fun _=>sc__law_any.nd) (gA (fun _=>rfl) (aC 0)))
   (aN (bH 2 (fun _=>sc__law_any.nd) (gA (fun _=>rfl) (aC 0)))
   (aN (bH 3 (fun _=>sc__law_any.nd) (bJ cM (fO (aA (aR cA (aR eD (aC 1) aE) aE) (aA (aR cA (aR eD (aC 1) aE) aE) (aA (aR JW (aR JW (aR IZ aE aE) aE) (aR cA (aR eD (aC 1) aE) aE)) (aA (aR lV (aR CT (aC 1) (aR IZ aE aE)) (aC 2)) aG))))) (aR cA (aC 1) aE)))
   (aN (bH 4 (fun _=>sc__law_any.nd) (bJ cM (fO (aA aE (aA aE (aA (aR lV aE (aR cA (aR eD (aC 2) aE) aE)) (aA aE (aA (aR JW (aR JW (aR IZ aE aE) aE) (aR cA (aR eD (aC 2) aE) aE)) (aA (aR lV aE (aC 2)) aG))))))) (aR cA (aC 2) aE)))
   (aT (bD (aO (fun _=>yW T) hr.le (aA (aC 3) (aA (aC 4) aG)))))))))
theorem CA(T:Txt K mg):Callee P w K mg base 3 "_law_drawn" nL (spM K jT):=
 T.v97.okG (N:=uF) (ps:=nL) (k:=2) (b:=nO) sc__law_drawn (by sleep 992) fun f cdv A outer s H E hr=>
  (aN (bH 2 (fun _=>sc__law_drawn.nd) (GJ aG))
   (aN (vP (fun _=>L9) (fun _=>rfl) (tM (fun _=>T.hB.of "range") (aA (aC 1) aG)) (aY 3 (fun _=>sc__law_drawn.nd))
    (aN (bH 4 (fun _=>sc__law_drawn.nd) (gA (fun _=>rfl) (aC 0)))
   (aT (xZ (uX (fun _=>rfl) (aC 2) (aA (cT (aA (aR cA (aC 4) aE) (aA (bJ cM (fO (aA (aR cA (aR eD (aC 4) aE) aE) (aA (aR cA (aR eD (aC 4) aE) aE) aG))) (aR cA (aC 3) aE)) (aA (aO (fun _=>HS T) hr.le (aA (aC 0) aG)) aG)))) aG))))))
   (aT (bD (aC 2)))))
theorem AH(T:Txt K mg):Callee P w K mg base 1 "_law_places" mM (spM K hZ):=
 T.v98.okG (N:=mL) (ps:=mM) (k:=0) (b:=mJ) sc__law_places (by sleep 992) fun f cdv A outer s H E hr=>
  (aN (bH 2 (fun _=>sc__law_places.nd) (GJ aG))
   (aN (vP (fun _=>L9) (fun _=>rfl) (tM (fun _=>T.hB.of "range") (aA (aC 1) aG)) (aY 3 (fun _=>sc__law_places.nd))
    (aN (bH 4 (fun _=>sc__law_places.nd) (gA (fun _=>rfl) (aC 0)))
   (aT (xZ (uX (fun _=>rfl) (aC 2) (aA (dB (tX (fun _=>rfl)) (fun _=>T.hB.of "tuple") Y9 (aA (gQ (N':=(["_law_deck_here","_law_draw","_law_at"]:List Str)) (cap:=[some 0,some 4,none]) (fun _=>rfl) (fun _=>cS (sc0:=aF gI) (N:=mL) rfl rfl (by decide +kernel)) (tM (fun _=>T.hB.of "range") (aA (aR lV aE (aR cA (aC 4) aE)) aG)) (aY 2 (fun _=>(show(["_law_deck_here","_law_draw","_law_at"]:List Str).Nodup by decide +kernel))) eT (aR cA (gA (fun _=>rfl) (aC 0)) (bJ cM (fO (aA aE (aA aE (aA aE aG)))) (aR cA (aR eD (aC 1) aE) aE)))) aG)) aG))))))
   (aT (bD (aC 2)))))
theorem nP(T:Txt K mg):Callee P w K mg base 1 "read_rows" pQ (spM K dE):=
 T.v99.okG (N:=qD) (ps:=pQ) (k:=0) (b:=lA) sc_read_rows (by sleep 991) fun f cdv A outer s H E hr=>
  (aN (vP (fun _=>L9) (fun _=>rfl) (dP (fun _=>rfl) (aC 0)) (iX (fun _=>rfl) (fun _=>rfl) (bL (aY 1 (fun _=>sc_read_rows.nd)) (bL (aY 2 (fun _=>sc_read_rows.nd)) fK)))
   (aT (gR (cX aEo (aC 2) fP)
   (aT tT)
   dN)))
   (aT (bD (dB (tX (fun _=>rfl)) (fun _=>T.hB.of "tuple") Y9 (aA (gQ (N':=(["at","row"]:List Str)) (cap:=[none,none]) (fun _=>rfl) (fun _=>cS (sc0:=aF jI) (N:=qD) rfl rfl (by decide +kernel)) (dP (fun _=>rfl) (aC 0)) (iX (fun _=>rfl) (fun _=>rfl) (bL (aY 0 (fun _=>(show(["at","row"]:List Str).Nodup by decide +kernel))) (bL (aY 1 (fun _=>(show(["at","row"]:List Str).Nodup by decide +kernel))) fK))) eT (aC 1)) aG)))))
theorem uK(T:Txt K mg):Callee P w K mg base 7 "read_tree" qI (spM K eL):=
 T.v100.okG (N:=pB) (ps:=qI) (k:=6) (b:=lE) FU (by sleep 991) fun f cdv A outer s H E hr=>
  (aT (bD (aO (fun _=>nP T) hr.le (aA (gQ (N':=(["at","words"]:List Str)) (cap:=[none,none]) (fun _=>rfl) (fun _=>cS (sc0:=aF jW) (N:=pB) rfl rfl (by decide +kernel)) (dP (fun _=>rfl) (aO (fun _=>iB T) hr.le (aA (aC 0) aG))) (iX (fun _=>rfl) (fun _=>rfl) (bL (aY 0 (fun _=>(show(["at","words"]:List Str).Nodup by decide +kernel))) (bL (aY 1 (fun _=>(show(["at","words"]:List Str).Nodup by decide +kernel))) fK))) eT (cT (aA (aC 0) (aA (aO (fun _=>wA T) hr.le (aA (aC 1) (aA bT aG))) aG)))) aG))))
theorem tJ(T:Txt K mg):Callee P w K mg base 7 "read_flow" qO (spM K eQ):=
 T.v101.okG (N:=qQ) (ps:=qO) (k:=6) (b:=kZ) EI (by sleep 991) fun f cdv A outer s H E hr=>
  (aT (bD (aO (fun _=>nP T) hr.le (aA (gQ (N':=(["at","words"]:List Str)) (cap:=[none,none]) (fun _=>rfl) (fun _=>cS (sc0:=aF jP) (N:=qQ) rfl rfl (by decide +kernel)) (dP (fun _=>rfl) (aO (fun _=>iB T) hr.le (aA (aC 0) aG))) (iX (fun _=>rfl) (fun _=>rfl) (bL (aY 0 (fun _=>(show(["at","words"]:List Str).Nodup by decide +kernel))) (bL (aY 1 (fun _=>(show(["at","words"]:List Str).Nodup by decide +kernel))) fK))) eT (cT (aA (aC 0) (aA (aO (fun _=>wA T) hr.le (aA (aC 1) (aA bT aG))) aG)))) aG))))
theorem NF(T:Txt K mg):Callee P w K mg base 3 "side_in" vQ (spM K jX):=
 T.v102.okG (N:=uO) (ps:=vQ) (k:=2) (b:=qZ) sc_side_in (by sleep 991) fun f cdv A outer s H E hr=>
  (aN (gR (BJ (oW (cX aAN (dZ DJ (fun _=>T.hB.of "len") boot_len (aA (aC 0) aG)) aE) (oX (cX (IE (fun _=>rfl) (fun _=>hr.units)) (bJ cM (aC 0) aE) bT))))
   (aT (bD fP))
   dN)
   (aN (bH 1 (fun _=>sc_side_in.nd) (dB (tX (fun _=>rfl)) (fun _=>T.hB.of "tuple") Y9 (aA (gQ (N':=(["word"]:List Str)) (cap:=[none]) (fun _=>rfl) (fun _=>cS (sc0:=aF nN) (N:=uO) rfl rfl (by decide +kernel)) (dP (fun _=>rfl) (QM (fun _=>rfl) (aC 0) (uB aE) uE)) (aY 0 (fun _=>(show(["word"]:List Str).Nodup by decide +kernel))) eT (aO (fun _=>lQ T) hr.le (aA (aC 0) aG))) aG)))
   (aT (bD (zL (cX (aIH (fun _=>rfl) (fun _=>hr.units1)) fP (aC 1)) fP (aC 1))))))
theorem rX(T:Txt K mg):Callee P w K mg base 4 "read_sides" nT (spM K dU):=
 T.v103.okG (N:=nM) (ps:=nT) (k:=3) (b:=jJ) CK (by sleep 991) fun f cdv A outer s H E hr=>
  (aT (bD (aO (fun _=>nP T) hr.le (aA (gQ (N':=(["at","words"]:List Str)) (cap:=[none,none]) (fun _=>rfl) (fun _=>cS (sc0:=aF iG) (N:=nM) rfl rfl (by decide +kernel)) (dP (fun _=>rfl) (aO (fun _=>iB T) hr.le (aA (aC 0) aG))) (iX (fun _=>rfl) (fun _=>rfl) (bL (aY 0 (fun _=>(show(["at","words"]:List Str).Nodup by decide +kernel))) (bL (aY 1 (fun _=>(show(["at","words"]:List Str).Nodup by decide +kernel))) fK))) eT (cT (aA (aC 0) (aA (aO (fun _=>NF T) hr.le (aA (aC 1) aG)) aG)))) aG))))
theorem fn_law(T:Txt K mg):∃f fd,mg "law"=some (.ref f)/\(∀(s:Shared)(u:Value),BindsTo s fd ⟨[u],[]⟩ [("_law_script",u)])/\∀base,gY P w K mg base CX0 12 f fd aEW (spM K F_law):=
 T.v104.okLG (N:=zK) (k:=11) (b:=PU) sc_law rfl (by sleep 991) fun base f cdv A outer s H E hr=>
  (aN (bH 1 (fun _=>sc_law.nd) (aO (fun _=>GH T) hr.le (aA (aC 0) (aA aE aG))))
   (aN (bH 2 (fun _=>sc_law.nd) (bJ cM (fO (aA aE (aA aE (aA aE (aA (aR lV aE (aR cA (gA (fun _=>rfl) (aC 1)) aE)) aG))))) (aR cA (gA (fun _=>rfl) (aC 1)) aE)))
   (aN (bH 3 (fun _=>sc_law.nd) (aO (fun _=>ES T) hr.le (aA (aC 1) (aA (aC 2) aG))))
   (aN (bH 4 (fun _=>sc_law.nd) (aR cA (gA (fun _=>rfl) (aC 1)) (aR lV (dZ DJ (fun _=>T.hB.of "len") boot_len (aA (aC 3) aG)) aE)))
   (aN (bH 5 (fun _=>sc_law.nd) (aR lV (fO (aA (aR (mQ (fun _=>rfl)) bT (dB tG (fun _=>T.hB.of "str") boot_str (aA (aC 2) aG))) aG)) (gQ (N':=(["_law_row"]:List Str)) (cap:=[none]) (fun _=>rfl) (fun _=>cS (sc0:=aF qK) (N:=zK) rfl rfl (by decide +kernel)) (dP (fun _=>rfl) (aR lV (QM (fun _=>rfl) (aC 3) (uB (aC 4)) uE) (QM (fun _=>rfl) (aC 3) uE (uB (aC 4))))) (aY 0 (fun _=>(show(["_law_row"]:List Str).Nodup by decide +kernel))) eT (aO (fun _=>oH T) hr.le (aA bT (aA (aC 0) aG))))))
   (aN (bH 6 (fun _=>sc_law.nd) (aO (fun _=>II T) hr.le (aA (aO (fun _=>gM T) hr.le (aA (aC 1) (aA (aC 5) aG))) aG)))
   (aN (gR (BJ (oW (gH (fT (aCt (nm:="Web") (fun _=>rfl) T.v110 (aHY (fun _=>T.v108)) (aC 6) (fun _=>cR) (fun _=>T.hB.of "isinstance")))) (oW (cX (IE (fun _=>rfl) (fun _=>hr.units)) (GO (nm:="Web") (fun _=>rfl) T.v109 T.v36 (aC 6)) (aC 2)) (oX (fT (tD (T:="bool") (fun _=>rfl) (by decide) (GO (nm:="Web") (fun _=>rfl) T.v109 T.v36 (aC 6)) (fun _=>BO) (fun _=>T.hB.of "isinstance") (fun _=>T.hB.of "bool") boot_bool))))))
    (aT (bD CO))
    dN)
   (aN (gR (gH (fT (aO (fun _=>jE T) hr.le (aA (GO (nm:="Web") (fun _=>rfl) T.v109 T.v46 (aC 6)) (aA (gQ (N':=(["_law_row"]:List Str)) (cap:=[none]) (fun _=>rfl) (fun _=>cS (sc0:=aF qK) (N:=zK) rfl rfl (by decide +kernel)) (dP (fun _=>rfl) (aC 3)) (aY 0 (fun _=>(show(["_law_row"]:List Str).Nodup by decide +kernel))) (GZ (cX (IE (fun _=>rfl) (fun _=>hr.units)) (bJ cM (aC 0) aE) (cT (aA aE (aA aE aG))))) (aC 0)) aG)))))
    (aT (bD CO))
    dN)
   (aN (bH 7 (fun _=>sc_law.nd) (DL (aO (fun _=>CA T) hr.le (aA (aC 1) (aA (aR cA (gA (fun _=>rfl) (aC 1)) aE) aG)))))
   (aN (bH 8 (fun _=>sc_law.nd) (DL (aO (fun _=>AH T) hr.le (aA (aC 1) (aA (aR cA (gA (fun _=>rfl) (aC 1)) aE) aG)))))
   (aN (gR (gH (fT (aO (fun _=>jE T) hr.le (aA (aO (fun _=>uK T) hr.le (aA (aO (fun _=>gM T) hr.le (aA (aC 1) (aA (gQ (N':=(["_law_row"]:List Str)) (cap:=[none]) (fun _=>rfl) (fun _=>cS (sc0:=aF qK) (N:=zK) rfl rfl (by decide +kernel)) (dP (fun _=>rfl) (aC 7)) (aY 0 (fun _=>(show(["_law_row"]:List Str).Nodup by decide +kernel))) eT (aO (fun _=>oH T) hr.le (aA bT (aA (aC 0) aG)))) aG))) aG)) (aA (aC 7) aG)))))
    (aT (bD CO))
    dN)
   (aN (gR (gH (fT (aO (fun _=>jE T) hr.le (aA (aO (fun _=>tJ T) hr.le (aA (aO (fun _=>gM T) hr.le (aA (aC 1) (aA (gQ (N':=(["_law_row"]:List Str)) (cap:=[none]) (fun _=>rfl) (fun _=>cS (sc0:=aF qK) (N:=zK) rfl rfl (by decide +kernel)) (dP (fun _=>rfl) (aC 7)) (aY 0 (fun _=>(show(["_law_row"]:List Str).Nodup by decide +kernel))) eT (aO (fun _=>oH T) hr.le (aA bT (aA (aC 0) aG)))) aG))) aG)) (aA (aC 7) aG)))))
    (aT (bD CO))
    dN)
   (aN (JM 5 (fun _=>sc_law.nd) (N':=(["_law_side"]:List Str)) (cap:=[none]) (fun _=>rfl) (fun _=>cS (sc0:=aF qK) (N:=zK) rfl rfl (by decide +kernel)) (dP (fun _=>rfl) (aC 8)) (aY 0 (fun _=>(show(["_law_side"]:List Str).Nodup by decide +kernel))) eT (HE (fun _=>rfl) bT (aA (aR lV (fO (aA bT aG)) (gQ (N':=(["_law_place"]:List Str)) (cap:=[none]) (fun _=>rfl) (fun _=>QA (by decide +kernel)) (dP (fun _=>rfl) (aC 0)) (aY 0 (fun _=>(show(["_law_place"]:List Str).Nodup by decide +kernel))) eT (dB tG (fun _=>T.hB.of "str") boot_str (aA (aC 0) aG)))) aG)))
   (aN (gR (gH (fT (aO (fun _=>jE T) hr.le (aA (aO (fun _=>rX T) hr.le (aA (aO (fun _=>gM T) hr.le (aA (aC 1) (aA (aC 5) aG))) aG)) (aA (aC 8) aG)))))
    (aT (bD CO))
    dN)
   (aT (bD (iT (xN (fun _=>rfl) (fun _=>hr.units)) (cT (aA (aO (fun _=>uK T) hr.le (aA bT aG)) (aA (aO (fun _=>tJ T) hr.le (aA bT aG)) (aA (aO (fun _=>rX T) hr.le (aA bT aG)) aG)))) (cT (aA (cT aG) (aA (cT aG) (aA (cT aG) aG)))))))))))))))))))))
theorem txt_mk{h:Heap}{v122:Tok}{v123:Tok}{v124:Tok}{v125:Tok}{v126:Tok}{v127:Tok}{v128:Addr}{v129:Addr}{v130:Addr}{v131:Addr}{od_NoTie__init an_NoTie__init:Option Addr}{sl_NoTie__init:Array (Option Value)}{oc_NoTie__init kV_NoTie__init dc_NoTie__init pm_NoTie__init cd_NoTie__init ct_NoTie__init:Value}{v132:Addr}{od_Web__init an_Web__init:Option Addr}{sl_Web__init:Array (Option Value)}{oc_Web__init kV_Web__init dc_Web__init pm_Web__init cd_Web__init ct_Web__init:Value}(X:K.In h)(G:h.Ns mainGlobals mg)(v0:PySem.W.nsIn K mainGlobals "all"=some none)(v1:PySem.W.nsIn K mainGlobals "bool"=some none)(v2:PySem.W.nsIn K mainGlobals "enumerate"=some none)(v3:PySem.W.nsIn K mainGlobals "int"=some none)(v4:PySem.W.nsIn K mainGlobals "isinstance"=some none)(v5:PySem.W.nsIn K mainGlobals "len"=some none)(v6:PySem.W.nsIn K mainGlobals "list"=some none)(v7:PySem.W.nsIn K mainGlobals "max"=some none)(v8:PySem.W.nsIn K mainGlobals "min"=some none)(v9:PySem.W.nsIn K mainGlobals "range"=some none)(v10:PySem.W.nsIn K mainGlobals "sorted"=some none)(v11:PySem.W.nsIn K mainGlobals "str"=some none)(v12:PySem.W.nsIn K mainGlobals "tuple"=some none)(v13:PySem.W.nsIn K mainGlobals "MOST_ABOVE"=some (some (.int 1000000000000 v122)))(v14:PySem.W.nsIn K mainGlobals "BELOW"=some (some (.int 55440 v123)))(v15:PySem.W.nsIn K mainGlobals "MOST_PLACES"=some (some (.int 40 v124)))(v16:PySem.W.nsIn K mainGlobals "DIGITS"=some (some (.str "0123456789" v125)))(v17:PySem.W.nsIn K mainGlobals "MOST_PLACE_DIGITS"=some (some (.int 2 v126)))(v18:PySem.W.nsIn K mainGlobals "MOST_AMOUNT_DIGITS"=some (some (.int 30 v127)))(v19:PySem.W.nsIn K mainGlobals "NoTie"=some (some (.ref v128)))(v20:PySem.W.findIn K (.ref v128) "__getattribute__"=some (some (.builtin "BaseException.__getattribute__")))(v21:PySem.W.findIn K (.ref v128) "__getattr__"=some none)(v22:PySem.W.subIn K (.ref v128) (.type "BaseException")=some true)(v23:(PySem.W.clsIn K v128).isSome=true)(v24:PySem.W.findIn K (.ref v128) "__class__"=some (some (.builtin "object.__class__")))(v25:PySem.W.specialIn K (.builtin "object.__class__") "__get__"=some (some (.builtin "getset_descriptor.__get__")))(v26:PySem.W.takesIn K (.builtin "object.__class__")=some true)(v27:PySem.W.mroIn K v128 (.type "object")=some true)(v28:PySem.W.nsIn K mainGlobals "NoPlace"=some (some (.ref v129)))(v29:PySem.W.exmOne K (.ref v129) (.ref v128)=some false)(v30:PySem.W.exmOne K (.ref v128) (.ref v128)=some true)(v31:PySem.W.nsIn K mainGlobals "Web"=some (some (.ref v130)))(v32:PySem.W.plainGet K v130 Str.empty=true)(v33:PySem.W.hasDictIn K v130=true)(v34:PySem.W.plainOver K v130=true)(v35:PySem.W.findIn K (.ref v130) "__setattr__"=some (some (.builtin "object.__setattr__")))(v36:PySem.W.findIn K (.ref v130) "many"=some none)(v37:PySem.W.plainGet K v130 Str.empty=true)(v38:PySem.W.hasDictIn K v130=true)(v39:PySem.W.plainOver K v130=true)(v40:PySem.W.findIn K (.ref v130) "__setattr__"=some (some (.builtin "object.__setattr__")))(v41:PySem.W.findIn K (.ref v130) "__class__"=some (some (.builtin "object.__class__")))(v42:PySem.W.specialIn K (.builtin "object.__class__") "__get__"=some (some (.builtin "getset_descriptor.__get__")))(v43:PySem.W.takesIn K (.builtin "object.__class__")=some true)(v44:PySem.W.mroIn K v130 (.type "object")=some true)(v45:PySem.W.kitOne K (.ref v130) (.ref v130)=some true)(v46:PySem.W.findIn K (.ref v130) "ties"=some none)(v47:PySem.W.findIn K (.ref v128) "__setattr__"=some (some (.builtin "object.__setattr__")))(v48:aAK K v128=true)(v49:PySem.W.takerIn K v128 "at"=some none)(v50:PySem.W.hasDictIn K v128=true)(v51:PySem.W.findIn K (.ref v128) "at"=some none)(v52:PySem.W.keepIn K (.ref v128)=true)(v53:FE K v128=true)(v54:PySem.W.findIn K (.ref v128) "__init__"=some (some (.ref v131)))(v55:K.lookup v131=some ⟨oc_NoTie__init,od_NoTie__init,.func (PySem.W.fnOf "__init__" "NoTie.__init__" (dG eN) (bR eN) (aF eN) .none kV_NoTie__init dc_NoTie__init pm_NoTie__init an_NoTie__init cd_NoTie__init ct_NoTie__init),sl_NoTie__init⟩)(v56:PySem.W.codeIn K cd_NoTie__init "NoTie.__init__"=true)(v57:PySem.W.keepIn K (.ref v131)=true)(v58:PySem.W.isFn K (.ref v131)=true)(v59:PySem.W.excIn K v129 bmV "ValueError.__new__"=true)(v60:PySem.W.findIn K (.ref v130) "weights"=some none)(v61:PySem.W.findIn K (.ref v130) "__init__"=some (some (.ref v132)))(v62:K.lookup v132=some ⟨oc_Web__init,od_Web__init,.func (PySem.W.fnOf "__init__" "Web.__init__" (dG eU) (bR eU) (aF eU) .none kV_Web__init dc_Web__init pm_Web__init an_Web__init cd_Web__init ct_Web__init),sl_Web__init⟩)(v63:PySem.W.codeIn K cd_Web__init "Web.__init__"=true)(v64:PySem.W.keepIn K (.ref v132)=true)(v65:PySem.W.isFn K (.ref v132)=true)(v66:PySem.W.makesIn K v130=true)(v67:PySem.W.keepIn K (.ref v130)=true)(v68:Def K mg "_law_deck" oF)(v69:Def K mg "_law_ties" jK)(v70:Def K mg "_law_number" kQ)(v71:Def K mg "_law_line" oG)(v72:Def K mg "said_lines" fH)(v73:Def K mg "number_of" jR)(v74:Def K mg "place_of" pY)(v75:Def K mg "many_in" sF)(v76:Def K mg "is_whole" oY)(v77:Def K mg "is_row" vW)(v78:Def K mg "common" vD)(v79:Def K mg "is_row_of" oJ)(v80:Def K mg "has_amount_numbers" eF)(v81:Def K mg "is_in_parts" jY)(v82:Def K mg "is_weight" oA)(v83:Def K mg "is_place" pL)(v84:Def K mg "are_unlike_places" eO)(v85:Def K mg "is_between_places" eK)(v86:Def K mg "is_tie" uT)(v87:Def K mg "kept_ties" jU)(v88:Def K mg "is_amount" nK)(v89:Def K mg "amount_of" nW)(v90:Def K mg "row_in" vV)(v91:Def K mg "read_web" lC)(v92:Def K mg "_law_spread" kP)(v93:Def K mg "_law_plain" iF)(v94:Def K mg "_law_same" nX)(v95:Def K mg "_law_lowest" kO)(v96:Def K mg "_law_any" pX)(v97:Def K mg "_law_drawn" mH)(v98:Def K mg "_law_places" gI)(v99:Def K mg "read_rows" jI)(v100:Def K mg "read_tree" jW)(v101:Def K mg "read_flow" jP)(v102:Def K mg "side_in" nN)(v103:Def K mg "read_sides" iG)(v104:Def K mg "law" qK):Txt K mg:=by
 cases FP v19;cases FP v28;cases FP v31;exact⟨(dA (D7 X G v0) (dA (D7 X G v1) (dA (D7 X G v2) (dA (D7 X G v3) (dA (D7 X G v4) (dA (D7 X G v5) (dA (D7 X G v6) (dA (D7 X G v7) (dA (D7 X G v8) (dA (D7 X G v9) (dA (D7 X G v10) (dA (D7 X G v11) (dA (D7 X G v12) aAo))))))))))))),⟨_,J8 X G v13⟩,⟨_,J8 X G v14⟩,⟨_,J8 X G v15⟩,⟨_,J8 X G v16⟩,⟨_,J8 X G v17⟩,⟨_,J8 X G v18⟩,J8 X G v19,⟨⟨v20,v21,v22,v23⟩,v24,v25,v26,v27⟩,J8 X G v28,v29,v30,J8 X G v31,⟨v32,v33,v34,v35⟩,v36,⟨⟨v37,v38,v39,v40⟩,v41,v42,v43,v44,v45⟩,v46,⟨v47,v48,v49,v50,v51⟩,v52,v53,RN rfl v54 v55 v56 v57 v58,v59,v60,RN rfl v61 v62 v63 v64 v65,v66,v67,v68,v69,v70,v71,v72,v73,v74,v75,v76,v77,v78,v79,v80,v81,v82,v83,v84,v85,v86,v87,v88,v89,v90,v91,v92,v93,v94,v95,v96,v97,v98,v99,v100,v101,v102,v103,v104⟩
end
end Q69
end
end
section
namespace Q69
variable{L M M':Sto}{γ γ':Ga}{c m v:Nat}{J a b i j n p y z:Int}{sep w x:Str}{us:List Tie}{C e f f3 f4 g:EF}{xs:List CD}{ns:List Int}{ds ys:List PyData}{d r:PyData}{s:Tie}{fa:AF}
open PySem PySem.Spec PyProof.Rows L2
local macro_rules | `(tactic| simp! [$a,*]) => `(tactic| simp only [fnF, fnX, rZ, UE, KN, aHt, aIN, QK, aEy, aIF, liA, liE, liS, HB, aAy, aBm, aGS, YE, setG, aIy, aGU, bG, sIf, bO, aIo, cP, bB, rP, hName, gZ, bI, gV, hSub, gOr, vN, gO, gB, CB, aEb, aK, aB, aH, aD, fC, fOp, fUn, kT, fOr, ZN, fIf, nH, asB, eV, dO, vL, kU, sY, QC, pI, ifS, aGC, vS, AY, bS, bC, uR, ltI, leI, gtI, geI, Option.bind_some, Option.bind_none, Option.map_some, List.getElem?_cons_zero, List.getElem?_cons_succ, List.length_cons, List.length_nil, List.set_cons_zero, List.set_cons_succ, List.map_cons, List.map_nil, List.replicate_zero, List.replicate_succ, List.cons_append, List.nil_append, List.append_nil, if_true, ite_true, ite_false, Nat.reduceAdd, Nat.reduceSub, reduceIte, Bool.not_true, Bool.not_false, Bool.false_eq_true, $a,*])
noncomputable def tY:PyData->Bool
 |.int _=>true
 |_=>false
noncomputable def WR:PyData->Bool
 |.list _=>true
 |.tuple _=>true
 |_=>false
theorem kR(x:PyData)(M:Sto):fQ [.d x] M=some (.d (.bool (tY x)),M):=by cases x<;>rfl
theorem aAp(x:PyData)(M:Sto):tL [.d x] M=some (.d (.bool (WR x)),M):=by cases x<;>rfl
noncomputable def iV(d:PyData)(n:Int):Bool:=match bZ d with
 |some ds=>((ds.length:Int)==n)
 |none=>false
theorem fW(x:PyData)(n:Int)(M:Sto):kY [.d x,.d (.int n)] M=some (.d (.bool (iV x n)),M):=by cases x<;>rfl
theorem IJ(x y:Int):Int.gcd y (x % y)=Int.gcd x y:=by
 rw[Int.gcd_comm x y];have:x % y=x-y*(x / y):=by have:=Int.emod_add_mul_ediv x y;omega
 rw[this];simp
noncomputable abbrev I(n:Int):CD:=.d (.int n)
theorem iH{x:Int}(h:0<y):qN x y=true:=by simp[qN,h]
theorem wB(M:Sto):∀(n:Nat)(x y:Int),0<=x->0<=y->y.toNat<n->
 fA (CB (aD 1)) (CJ 0 1 (aB (aD 1) (aB (fOp bC (aD 0) (aD 1)) aH))) n [some (I x),some (I y)] M=some (.nx [some (I (Int.gcd x y)),some (I 0)],M)
 |0=>fun _ _ _ _ h=>by omega
 |n+1=>fun x y hx hy h=>by
  by_cases e:y=0
  .subst e;have:(Int.gcd x 0:Int)=x:=by rw[Int.gcd_zero_right];omega
   rw[this];rfl
  .have hp:0<y:=by omega
   have ih:=wB M n y (x % y) hy (C4 _ e) (by have:=C1 x hp;omega);rw[IJ]at ih;rw[<- ih];have hb:(y != 0)=true:=by simp[e]
   simp only[fA,CB,aD,aEb,CJ,aB,fOp,aH,bC,pI,ifS,iH hp,hb,Option.bind,List.getElem?_cons_succ,List.getElem?_cons_zero,if_true,List.set]
theorem HV(M:Sto)(ha:0<=a)(hb:0<=b):pF [I a,I b] M=some (I (Int.gcd a b),M):=by
 have h:sQ [some (I a),some (I b)] M=_:=IA (wB M (b.toNat+1) a b ha hb (J2 _));show((bG sQ _ [some (I a),some (I b)] M).bind _)=_;unfold bG;rw[h];rfl
noncomputable abbrev B(b:Bool):CD:=.d (.bool b)
noncomputable def pG(d:PyData):Bool:=match bZ d with
 |some [.int a,.int b]=>decide (0<=a)&&decide (1<=b)
 |_=>false
theorem ZW{x:PyData}(h:iV x 2=true):∃a b,x=.list [a,b]\/x=.tuple [a,b]:=by
 unfold iV at h;cases x with
 |list ds=>
  have h:((ds.length:Int)==2)=true:=h;rcases ds with _|⟨a,_|⟨b,_|⟨c,r⟩⟩⟩
  .simp at h
  .simp at h
  .exact⟨a,b,.inl rfl⟩
  .simp at h;omega
 |tuple ds=>
  have h:((ds.length:Int)==2)=true:=h;rcases ds with _|⟨a,_|⟨b,_|⟨c,r⟩⟩⟩
  .simp at h
  .simp at h
  .exact⟨a,b,.inr rfl⟩
  .simp at h;omega
 |_=>simp[bZ]at h
theorem JD{x:PyData}(h:iV x 2=false):pG x=false:=by
 unfold pG;unfold iV at h;cases q:bZ x with
 |none=>rfl
 |some ds=>
  rw[q]at h;rcases ds with _|⟨a,_|⟨b,_|⟨c,r⟩⟩⟩
  .rfl
  .cases a<;>rfl
  .simp at h
  .cases a<;>cases b<;>rfl
theorem aKp{a b:PyData}:ixF (.d (.list [a,b])) (I 0) M=some (.d a,M):=rfl
theorem aKu{a b:PyData}:ixF (.d (.list [a,b])) (I 1) M=some (.d b,M):=rfl
theorem aIt{a b:PyData}:ixF (.d (.tuple [a,b])) (I 0) M=some (.d a,M):=rfl
theorem aIJ{a b:PyData}:ixF (.d (.tuple [a,b])) (I 1) M=some (.d b,M):=rfl
theorem aIv{p q:Bool}:(if p=true then some (B q,M)else some (B false,M))=some (B (p&&q),M):=by cases p<;>rfl
theorem cN(x:PyData)(M:Sto):bM [.d x] M=some (B (pG x),M):=by
 cases h:iV x 2 with
 |false=>
  rw[JD h];simp![bM,cO,fW,h]
 |true=>
  obtain⟨a,b,rfl|rfl⟩:=ZW h
  .cases a<;>cases b<;>first|rfl|(rename_i a b;simp![bM,cO,fW,h,kR,aKp,aKu,tY,aIv];rfl)
  .cases a<;>cases b<;>first|rfl|(rename_i a b;simp![bM,cO,fW,h,kR,aIt,aIJ,tY,aIv];rfl)
noncomputable def P(k:Bool)(a b:Int):PyData:=if k then .list [.int a,.int b]else .tuple [.int a,.int b]
theorem aAQ{k:Bool}:ixF (.d (P k a b)) (I 0) M=some (I a,M):=by cases k<;>rfl
theorem aDT{k:Bool}:ixF (.d (P k a b)) (I 1) M=some (I b,M):=by cases k<;>rfl
theorem UF:eqX false (I i) (I j) M=some (B (i==j),M):=rfl
theorem aGz:eqX true (I i) (I j) M=some (B (!(i==j)),M):=rfl
theorem DQ:dX (I i) (I j) M=some (I (i+j),M):=rfl
theorem aBk{k:Bool}:pG (P k a b)=(decide (0<=a)&&decide (1<=b)):=by cases k<;>rfl
theorem aKa(n m:Nat):((n:Int)==(m:Int))=(n==m):=by
 rw[U1];simp;omega
noncomputable def gW(a b:Int):Bool:=decide (0<=a)&&decide (1<=b)&&(55440 % b==0)&&(Int.gcd a b==1)&&decide (a<=1000000000000)
theorem rL(k:Bool)(a b:Int)(M:Sto):cZ [.d (P k a b)] M=some (B (decide (0<=a)&&decide (1<=b)&&(55440 % b==0)&&(Int.gcd a b==1)),M):=by
 cases h:(decide (0<=a)&&decide (1<=b))with
 |false=>
  simp![cZ,eA,cN,aBk,h,Bool.false_and]
 |true=>
  have hh:=h;rw[B8]at h;have h1:=D4 h.1;have h2:=D4 h.2;have hm:qN 55440 b=true:=iH (by omega);cases h3:(55440 % b==0)with
  |false=>simp![cZ,eA,cN,aBk,hh,aAQ,aDT,hm,UF,h3,Bool.true_and,Bool.false_and]
  |true=>
   simp![cZ,eA,cN,aBk,hh,aAQ,aDT,hm,UF,h3,Bool.true_and,HV M h1 (Int.le_trans (by decide) h2)];rw[show(1:Int)=((1:Nat):Int)from rfl,aKa]
theorem JJ(k:Bool)(a b:Int)(M:Sto):eP [.d (P k a b)] M=some (B (gW a b),M):=by
 cases h:(decide (0<=a)&&decide (1<=b)&&(55440 % b==0)&&(Int.gcd a b==1))with
 |false=>
  have e:gW a b=false:=by unfold gW;rw[h];rfl
  rw[e];simp![eP,iK,rL,h]
 |true=>
  have e:gW a b=decide (a<=1000000000000):=by unfold gW;rw[h];rfl
  rw[e];simp![eP,iK,rL,h,aAQ]
theorem AB(M:Sto)(a b:Int):∀(n:Nat)(x y:Int),0<=x->0<=y->y.toNat<n->
 fA (gB (fOp gtI (aD 3) (fC (.int 0)))) (CJ 2 3 (aB (aD 3) (aB (fOp bC (aD 2) (aD 3)) aH))) n [some (I a),some (I b),some (I x),some (I y)] M=some (.nx [some (I a),some (I b),some (I (Int.gcd x y)),some (I 0)],M)
 |0=>fun _ _ _ _ h=>by omega
 |n+1=>fun x y hx hy h=>by
  by_cases e:y=0
  .subst e;have:(Int.gcd x 0:Int)=x:=by rw[Int.gcd_zero_right];omega
   rw[this];rfl
  .have hp:0<y:=by omega
   have ih:=AB M a b n y (x % y) hy (C4 _ e) (by have:=C1 x hp;omega);rw[IJ]at ih;rw[<- ih];have hb:decide (0<y)=true:=C5 hp;simp![fA,CJ,iH hp,hb]
theorem RT(h:1<=b):1<=(Int.gcd a b:Int):=by
 have:Int.gcd a b≠0:=fun z=>by have:=(Int.gcd_eq_zero_iff.mp z).2;omega
 omega
theorem aFq(h:1<=b):(Int.gcd a b:Int)<=b:=Int.le_of_dvd (by omega) (Int.gcd_dvd_right a b)
theorem wsm(h:0<=y)(h2:y<2 ^ 200):y.natAbs<wY:=by
 have h1:y.natAbs<2 ^ 200:=by omega
 exact B7 h1 (Nat.pow_le_pow_right (by decide) (by decide))
theorem yF{x:Int}(h:0<y)(h2:y.natAbs<wY):wI x y=true:=by simp[wI,h,h2]
theorem aAx(M:Sto)(ha:0<=a)(hb:1<=b)(hw:b.natAbs<wY):iC [I a,I b] M=some (.d (.tuple [.int (a / (Int.gcd a b:Int)),.int (b / (Int.gcd a b:Int))]),M):=by
 have h:oM [some (I a),some (I b),some (I a),some (I b)] M=_:=IA (AB M a b (b.toNat+1) a b ha (by omega) (J2 _));have g1:=RT (a:=a) hb;have g2:=aFq (a:=a) hb;have d1:∀x,wI x (Int.gcd a b:Int)=true:=fun x=>yF (by omega) (Nat.lt_of_le_of_lt (by omega) hw);have sz:(2:Nat)<=sizeLine:=by decide
 simp![iC,mW,CJ,h,d1,sz]
theorem aEE(h:gW a b=true):0<=a/\a<=1000000000000/\1<=b/\b<=55440:=by
 unfold gW at h;simp only[Bool.and_eq_true,decide_eq_true_eq,beq_iff_eq]at h;obtain⟨⟨⟨⟨h1,h2⟩,h3⟩,_⟩,h5⟩:=h;exact⟨h1,h5,h2,Int.le_of_dvd (by decide) (Int.dvd_of_emod_eq_zero h3)⟩
noncomputable def jV(x:PyData):Bool:=match bZ x with
 |some [.int a,.int b]=>gW a b
 |_=>false
noncomputable def R2'(k:Bool)(p q:PyData):PyData:=if k then .list [p,q]else .tuple [p,q]
theorem YM(k:Bool)(p q:PyData):bZ (R2' k p q)=some [p,q]:=by cases k<;>rfl
theorem aDn{x:PyData}(h:iV x 2=true):∃k p q,x=R2' k p q:=by
 obtain⟨a,b,rfl|rfl⟩:=ZW h
 .exact⟨true,a,b,rfl⟩
 .exact⟨false,a,b,rfl⟩
theorem aDu{x:PyData}(h:pG x=true):∃k a b,x=P k a b:=by
 have hr:iV x 2=true:=by
  cases e:iV x 2 with
  |true=>rfl
  |false=>rw[JD e]at h;cases h
 obtain⟨k,p,q,rfl⟩:=aDn hr;unfold pG at h;rw[YM]at h;cases p<;>cases q<;>first|exact⟨k,_,_,rfl⟩|simp at h
theorem aEk(k:Bool)(a b:Int):jV (P k a b)=gW a b:=by cases k<;>rfl
theorem IS{x:PyData}(h:pG x=false):jV x=false:=by
 unfold pG at h;unfold jV;split
 .rename_i a b e;rw[e]at h;dsimp only at h;unfold gW;rw[h];rfl
 .rfl
theorem ID(x:PyData)(M:Sto):eP [.d x] M=some (B (jV x),M):=by
 cases h:pG x with
 |false=>
  rw[IS h];have e:cZ [.d x] M=some (B false,M):=by simp![cZ,eA,cN,h]
  simp![eP,iK,e]
 |true=>
  obtain⟨k,a,b,rfl⟩:=aDu h;rw[aEk];exact JJ k a b M
theorem tI:∀ds:List PyData,kU (ds.map .d)=some ds
 |[]=>rfl
 |d::ds=>by
  show(kU (ds.map .d)).map (d::·)=_;rw[tI ds];rfl
structure Tie where
 i:Int
 j:Int
 a:Int
 b:Int
deriving DecidableEq
noncomputable def Tie.key(t:Tie):List Key:=[.inl t.i,.inl t.j]
noncomputable def Tie.val(t:Tie):CD:=.d (.tuple [.int t.a,.int t.b])
noncomputable def bE(ts:List Tie):List (List Key×CD):=ts.map fun t=>(t.key,t.val)
theorem aDF{ts:List Tie}{t:Tie}(h:∀s∈ts,s.key≠t.key):lkC (bE ts) t.key=none:=by
 unfold lkC bE;rw[List.find?_map];have:List.find? ((fun kv=>decide (kv.1=t.key)) ∘ fun s:Tie=>(s.key,s.val)) ts=none:=List.find?_eq_none.mpr fun s hs=>by simpa using h s hs
 rw[this];rfl
theorem RL{ts:List Tie}{t:Tie}(h:∀s∈ts,s.key≠t.key):putD (bE ts) t.key t.val=bE (ts++[t]):=by
 unfold putD
 have:((bE ts).any fun kv=>decide (kv.1=t.key))=false:=by
  rw[bE,List.any_map];exact List.any_eq_false.mpr fun s hs=>by simpa using h s hs
 rw[this,A5 A7];unfold bE;rw[E5];rfl
theorem sz{n:Nat}(hn:n<=1000):n<=sizeLine:=by rw[F0];exact C9 hn (by decide)
noncomputable def f1(t:Tie):List PyData:=[.tuple [.int t.i,.int t.j],.tuple [.int t.a,.int t.b]]
noncomputable def f2(t:Tie):List PyData:=[.int t.i,.int t.j,.tuple [.int t.a,.int t.b]]
theorem OK{c d:Int}:PyData.eqv (.tuple [.int a,.int b]) (.tuple [.int c,.int d])=(a==c&&(b==d&&true)):=rfl
theorem zF{f:Tie->List PyData}{i:Nat}(h:i<us.length):(us.map f).getD i []=f us[i]:=by
 rw[C6,D2,B9 h];rfl
noncomputable def t0:Tie:=⟨0,0,0,0⟩
theorem UV(us:List Tie):(List.range us.length).map (fun i=>us.getD i t0)=us:=by
 refine List.ext_getElem? fun i=>?_;rw[D2];by_cases h:i<us.length
 .rw[List.getElem?_range h,B9 h];show some (us.getD i t0)=_;rw[C6,B9 h];rfl
 .rw[U6 (by rw[List.length_range];omega),U6 (by omega)];rfl
theorem MV{i:Nat}(h:i<us.length):us.getD i t0=us[i]:=by
 rw[C6,B9 h];rfl
noncomputable def big(t:Tie):Bool:=decide (t.a > 0)
noncomputable def dJ(vs:List Tie):List PyData:=(vs.filter big).map fun t=>.tuple (f2 t)
theorem yK{cap:List (Option Nat)}{f:AF}{g:GF}{c:TF}{ee:EF}{M1 M2:Sto}(it:f γ M=some (xs,M1))(hl:xs.length<=sizeLine)(e:lcF g c ee xs (jO cap γ) M1=some (ds.map .d,M2))(hd:ds.length<=sizeLine):fLc cap f g c ee γ M=some (.d (.list ds),M2):=by
 have h1:LJ cap f g c ee γ M=some (ds.map .d,M2):=by
  unfold LJ;rw[it,A1,A4 hl];exact e
 show(LJ cap f g c ee γ M).bind _=_;rw[h1,A1,tI,A1,A4 hd]
noncomputable abbrev kG:GF:=gZ 2 (bI (gZ 2 (bI (hName 0) (bI (hName 1) gV))) (bI (hName 2) gV))
noncomputable abbrev kC:TF:=gB (fOp gtI (fOp ixF (aD 2) (fC (.int 0))) (fC (.int 0)))
noncomputable abbrev kE:EF:=eV (aB (aD 0) (aB (aD 1) (aB (aD 2) aH)))
theorem DM{M:Sto}:∀(vs:List Tie)(s1 s2 s3:Option CD),lcF kG kC kE (vs.map fun t=>.d (.tuple (f1 t))) [s1,s2,s3] M=some ((dJ vs).map .d,M)
 |[]=>fun _ _ _=>rfl
 |t::vs=>fun s1 s2 s3=>by
  have ih:=DM (M:=M) vs (some (I t.i)) (some (I t.j)) (some (.d (.tuple [.int t.a,.int t.b])));have g1:kG (.d (.tuple (f1 t))) [s1,s2,s3] M=some ([some (I t.i),some (I t.j),some (.d (.tuple [.int t.a,.int t.b]))],M):=rfl;have c1:kC [some (I t.i),some (I t.j),some (.d (.tuple [.int t.a,.int t.b]))] M=some (big t,M):=rfl
  have e1:kE [some (I t.i),some (I t.j),some (.d (.tuple [.int t.a,.int t.b]))] M=some (.d (.tuple (f2 t)),M):=by
   have l3:3<=sizeLine:=sz (by decide);simp![kE,f2,if_pos l3,Nat.zero_add]
  rw[B2];unfold lcF;rw[g1,A1];dsimp only;rw[c1,A1];dsimp only;by_cases hb:big t=true
  .rw[A4 hb,e1,A1];dsimp only;rw[ih,A1];unfold dJ;rw[O2 hb];rfl
  .rw[A5 hb,ih];unfold dJ;rw[O3 hb]
theorem JO:∀us:List Tie,EA (bE us)=some (us.map fun t=>(t.key,.tuple [.int t.a,.int t.b]))
 |[]=>rfl
 |t::us=>by
  show(EA (bE us)).bind _=_;rw[JO us];rfl
theorem aEe(us:List Tie):(us.map fun t=>(t.key,PyData.tuple [.int t.a,.int t.b])).map LH=us.map f1:=by
 rw[B6];rfl
theorem aAJ{vs:List Tie}(h:vs.length<=1000):(dJ vs).length<=sizeLine:=by
 unfold dJ;rw[A2];exact sz (C9 (L4 ..) h)
noncomputable def bA(us:List Tie):List PyData:=us.map fun t=>.tuple (f2 t)
noncomputable def Ok(n:Int)(us:List Tie):Prop:=(∀t∈us,gW t.a t.b=true/\0<=t.i/\t.i<t.j/\t.j<n)/\(us.map Tie.key).Nodup/\us.length<64
theorem MP(nd:(us.map Tie.key).Nodup):((us.filter big).map Tie.key).Nodup:=(List.filter_sublist.map Tie.key).nodup nd
theorem JC{N:Sto}:∀(ws ts:List Tie)(s1 s2 s3:Option CD),((ts++ws).map Tie.key).Nodup->ts.length+ws.length<1000->
 dcF N.length (gZ 3 (bI (hName 0) (bI (hName 1) (bI (hName 2) gV)))) eM (xP (aB (aD 0) (aB (aD 1) aH))) (aD 2) ((bA ws).map .d) [s1,s2,s3] (N++[.dt (bE ts)])=some (N++[.dt (bE (ts++ws))])
 |[]=>fun ts _ _ _ _ _=>by rw[C3];rfl
 |t::ws=>fun ts s1 s2 s3 nd hl=>by
  have nk:∀s∈ts,s.key≠t.key:=fun s hs q=>by
   rw[E5,List.nodup_append]at nd;exact nd.2.2 _ (List.mem_map_of_mem hs) _ (by rw[B2];exact B0) q
  have ih:=JC (N:=N) ws (ts++[t]) (some (I t.i)) (some (I t.j)) (some t.val) (by rw[E8];exact nd) (by rw[C0];simp only[List.length_cons,List.length_nil]at hl ⊢;omega);have hD:(N++[.dt (bE ts)])[N.length]?=some (.dt (bE ts)):=by rw[E1 (A8 _),S5];rfl
  have len:(bE ts).length<sizeLine:=by unfold bE;rw[A2,F0];omega
  have st:yZ (N++[.dt (bE ts)]) (.c N.length) (.inr t.key) t.val=some (N++[.dt (bE (ts++[t]))]):=by
   simp only[yZ,hD,if_pos len,RL nk];rw[List.set_append_right _ _ (A8 _),S5];rfl
  have l2:(Tie.key t).length<=sizeLine:=sz (show 2<=1000 by decide)
  have kf:xP (aB (aD 0) (aB (aD 1) aH)) [some (I t.i),some (I t.j),some t.val] (N++[.dt (bE ts)])=some (.inr t.key,N++[.dt (bE ts)]):=by
   have kk:keysOf [I t.i,I t.j]=some t.key:=rfl;simp![xP,kk,if_pos l2]
  show dcF _ _ _ _ _ (.d (.tuple (f2 t))::(bA ws).map .d) [s1,s2,s3] _=_;unfold dcF;rw[show gZ 3 (bI (hName 0) (bI (hName 1) (bI (hName 2) gV))) (.d (.tuple (f2 t))) [s1,s2,s3] (N++[.dt (bE ts)])=some ([some (I t.i),some (I t.j),some t.val],N++[.dt (bE ts)])from rfl,A1];dsimp only;rw[show eM [some (I t.i),some (I t.j),some t.val] (N++[.dt (bE ts)])=some (true,N++[.dt (bE ts)])from rfl,A1];dsimp only;rw[A4 rfl,kf,A1];dsimp only;rw[show aD 2 [some (I t.i),some (I t.j),some t.val] (N++[.dt (bE ts)])=some (t.val,N++[.dt (bE ts)])from rfl,A1];dsimp only;rw[st,A1,ih,E8];rfl
noncomputable def aKk(w:Nat)(n:Int)(vs:List Tie):Cell:=.obj "Web" [("many",I n),("ties",.d (.tuple (dJ vs))),("weights",.c (w+2))]
noncomputable def FO(w:Nat)(n:Int)(us vs:List Tie):List Cell:=[aKk w n vs,.dt (bE us),.dt (bE (vs.filter big))]
theorem EV{fs:List (Str×CD)}:objOf "Web" (M++(.obj "Web" fs::L)) (.c M.length)=some (M.length,fs):=by
 have:(M++(Cell.obj "Web" fs::L))[M.length]?=some (.obj "Web" fs):=by rw[E1 (A8 _),S5];rfl
 simp only[objOf,this,if_true]
theorem HH{c c':Cell}:(M++(c::L)).set M.length c'=M++(c'::L):=by
 rw[List.set_append_right _ _ (A8 _),S5];rfl
noncomputable def R3(k:Bool)(p q w:PyData):PyData:=if k then .list [p,q,w]else .tuple [p,q,w]
theorem uD(k:Bool)(p q w:PyData):bZ (R3 k p q w)=some [p,q,w]:=by cases k<;>rfl
theorem aDh{x:PyData}(h:iV x 3=true):∃k p q w,x=R3 k p q w:=by
 have aux:∀ds:List PyData,((ds.length:Int)==3)=true->∃p q w,ds=[p,q,w]:=fun ds h=>by
  match ds,h with
  |[p,q,w],_=>exact⟨p,q,w,rfl⟩
  |[],h=>exact absurd h (by decide)
  |[_],h=>exact absurd h (by simp)
  |[_,_],h=>exact absurd h (by simp)
  |_::_::_::_::r,h=>
   have:((r.length+1+1+1+1:Nat):Int)=3:=by simpa using h
   omega
 cases x with
 |list ds=>obtain⟨p,q,w,rfl⟩:=aux ds h;exact⟨true,p,q,w,rfl⟩
 |tuple ds=>obtain⟨p,q,w,rfl⟩:=aux ds h;exact⟨false,p,q,w,rfl⟩
 |_=>cases h
noncomputable def plc(n:Int):PyData->Bool
 |.int i=>decide (0<=i)&&decide (i<n)
 |_=>false
theorem sU(n:Int)(p:PyData)(M:Sto):gX [I n,.d p] M=some (B (plc n p),M):=by
 cases hp:tY p with
 |false=>
  have e:plc n p=false:=by cases p<;>first|rfl|cases hp
  rw[e];simp![gX,oK,kR,hp]
 |true=>
  obtain⟨i,rfl⟩:∃i,p=.int i:=by cases p<;>first|exact⟨_,rfl⟩|cases hp
  have hc:plc n (.int i)=(decide (0<=i)&&decide (i<n)):=rfl;rw[hc];cases h0:decide (0<=i)<;>simp![gX,oK,kR,hp,h0,Bool.true_and,Bool.false_and]
noncomputable def ulk(n:Int)(p q:PyData):Bool:=match p,q with
 |.int i,.int j=>plc n p&&(plc n q&&!(i==j))
 |_,_=>false
theorem xX{p:PyData}(h:plc n p=true):∃i,p=.int i/\0<=i/\i<n:=by
 cases p with
 |int i=>simp only[plc,Bool.and_eq_true,decide_eq_true_eq]at h;exact⟨i,rfl,h.1,h.2⟩
 |_=>cases h
theorem aES(n:Int)(p q:PyData)(M:Sto):cB [I n,.d p,.d q] M=some (B (ulk n p q),M):=by
 cases h1:plc n p with
 |false=>
  have e:ulk n p q=false:=by
   unfold ulk;split
   .rw[h1];rfl
   .rfl
  rw[e];simp![cB,cV,sU,h1]
 |true=>
  obtain⟨i,rfl,_⟩:=xX h1;cases h2:plc n q with
  |false=>
   have e:ulk n (.int i) q=false:=by
    unfold ulk;split
    .rw[h2,Bool.false_and,Bool.and_false]
    .rfl
   rw[e];simp![cB,cV,sU,h1,h2]
  |true=>
   obtain⟨j,rfl,_⟩:=xX h2;have e:ulk n (.int i) (.int j)=!(i==j):=by show(plc n (.int i)&&(plc n (.int j)&&!(i==j)))=_;rw[h1,h2];rfl
   rw[e];simp![cB,cV,sU,h1,h2,aGz]
noncomputable def jA(n:Int)(r:PyData):Option Tie:=match bZ r with
 |some [.int i,.int j,w]=>match bZ w with
  |some [.int a,.int b]=>if 0<=i/\i<j/\j<n/\gW a b=true then some ⟨i,j,a,b⟩else none
  |_=>none
 |_=>none
theorem SN{w:PyData}(h:jV w=true):∃a b,bZ w=some [.int a,.int b]/\gW a b=true:=by
 unfold jV at h;split at h
 .rename_i a b e;exact⟨a,b,e,h⟩
 .cases h
theorem PJ{w:PyData}(hr:bZ r=some [.int i,.int j,w])(hw:bZ w=some [.int a,.int b])(h:0<=i/\i<j/\j<n/\gW a b=true):jA n r=some ⟨i,j,a,b⟩:=by
 unfold jA;rw[hr];dsimp only;rw[hw];dsimp only;rw[A4 h]
theorem tV{t:Tie}(h:jA n r=some t):∃w,bZ r=some [.int t.i,.int t.j,w]/\bZ w=some [.int t.a,.int t.b]/\0<=t.i/\t.i<t.j/\t.j<n/\gW t.a t.b=true:=by
 unfold jA at h;split at h
 .rename_i i j w hr;split at h
  .rename_i a b hw;split at h
   .rename_i c;cases h;exact⟨w,hr,hw,c⟩
   .cases h
  .cases h
 .cases h
theorem ix3(k:Bool)(p q w:PyData)(M:Sto):ixF (.d (R3 k p q w)) (I 0) M=some (.d p,M)/\ixF (.d (R3 k p q w)) (I 1) M=some (.d q,M)/\ixF (.d (R3 k p q w)) (I 2) M=some (.d w,M):=by cases k<;>exact⟨rfl,rfl,rfl⟩
theorem aBE(n:Int)(r:PyData)(M:Sto):jZ [I n,.d r] M=some (B (jA n r).isSome,M):=by
 cases h3:iV r 3 with
 |false=>
  have e:jA n r=none:=by
   cases h:jA n r with
   |none=>rfl
   |some t=>
    obtain⟨w,hr,_⟩:=tV h;unfold iV at h3;rw[hr]at h3;cases h3
  have bt:bQ [I n,.d r] M=some (B false,M):=by
   simp![bQ,cW,fW,h3]
  rw[e];simp![jZ,nE,bt,Option.isSome_none]
 |true=>
  obtain⟨k,p,q,w,rfl⟩:=aDh h3;obtain⟨x0,x1,x2⟩:=ix3 k p q w M;cases hu:ulk n p q with
  |false=>
   have e:jA n (R3 k p q w)=none:=by
    cases h:jA n (R3 k p q w)with
    |none=>rfl
    |some t=>
     obtain⟨w',hr,_,i0,ij,jn,_⟩:=tV h;rw[uD]at hr;cases hr
     have:ulk n (.int t.i) (.int t.j)=true:=by
      have ne:(!(t.i==t.j))=true:=by simp;omega
      show(plc n (.int t.i)&&(plc n (.int t.j)&&!(t.i==t.j)))=true;rw[ne];simp only[plc,decide_eq_true i0,decide_eq_true jn,decide_eq_true (show t.i<n by omega),decide_eq_true (show(0:Int)<=t.j by omega),Bool.and_true,Bool.true_and]
     rw[this]at hu;cases hu
   have bt:bQ [I n,.d (R3 k p q w)] M=some (B false,M):=by
    simp![bQ,cW,fW,h3,x0,x1,aES,hu]
   rw[e];simp![jZ,nE,bt,Option.isSome_none]
  |true=>
   obtain⟨i,j,rfl,rfl,i0,jn⟩:∃i j,p=.int i/\q=.int j/\0<=i/\j<n:=by
    unfold ulk at hu;split at hu
    .rename_i i j;rw[B8,B8]at hu;obtain⟨i',e1,q1,_⟩:=xX hu.1;obtain⟨j',e2,_,q2⟩:=xX hu.2.1;cases e1;cases e2;exact⟨i,j,rfl,rfl,q1,q2⟩
    .cases hu
   have bt:bQ [I n,.d (R3 k (.int i) (.int j) w)] M=some (B (decide (i<j)),M):=by
    simp![bQ,cW,fW,h3,x0,x1,aES,hu]
   cases ij:decide (i<j)with
   |false=>
    have e:jA n (R3 k (.int i) (.int j) w)=none:=by
     cases h:jA n (R3 k (.int i) (.int j) w)with
     |none=>rfl
     |some t=>
      obtain⟨w',hr,_,_,z,_⟩:=tV h;rw[uD]at hr;cases hr;exact absurd z (F5 ij)
    rw[ij]at bt;rw[e];simp![jZ,nE,bt,Option.isSome_none]
   |true=>
    rw[ij]at bt
    have e:(jA n (R3 k (.int i) (.int j) w)).isSome=jV w:=by
     cases hw:jV w with
     |true=>
      obtain⟨a,b,w1,w2⟩:=SN hw;rw[PJ (uD ..) w1 ⟨i0,D4 ij,jn,w2⟩];rfl
     |false=>
      cases h:jA n (R3 k (.int i) (.int j) w)with
      |none=>rfl
      |some t=>
       obtain⟨w',hr,h2,_,_,_,h3'⟩:=tV h;rw[uD]at hr;cases hr;unfold jV at hw;rw[h2]at hw;dsimp only at hw;rw[h3']at hw;cases hw
    rw[e];simp![jZ,nE,bt,x2,ID]
noncomputable def Tie.lt(s t:Tie):Prop:=s.i<t.i\/(s.i=t.i/\s.j<t.j)
instance(s t:Tie):Decidable (Tie.lt s t):=by unfold Tie.lt;infer_instance
theorem key_ne{t:Tie}(h:s.key≠t.key):¬(s.i=t.i/\s.j=t.j):=fun⟨a,b⟩=>h (by unfold Tie.key;rw[a,b])
theorem Tie.lt_tot{t:Tie}(h:s.key≠t.key)(n:¬Tie.lt t s):Tie.lt s t:=by
 have:=key_ne h;unfold Tie.lt at n ⊢;omega
theorem Tie.lt_tr{t u:Tie}(h:Tie.lt s t)(k:Tie.lt t u):Tie.lt s u:=by unfold Tie.lt at h k ⊢;omega
theorem Tie.lt_ir(h:Tie.lt s s):False:=by unfold Tie.lt at h;omega
theorem zG:∀{xs ys:List Tie},xs.Pairwise Tie.lt->ys.Pairwise Tie.lt->xs.Perm ys->xs=ys
 |[],ys=>fun _ _ p=>(List.nil_perm.mp p).symm
 |x::xs,[]=>fun _ _ p=>absurd p.length_eq (by simp)
 |x::xs,y::ys=>fun hx hy p=>by
  obtain⟨x1,x2⟩:=List.pairwise_cons.mp hx;obtain⟨y1,y2⟩:=List.pairwise_cons.mp hy
  have e:x=y:=by
   have mx:x∈y::ys:=p.mem_iff.mp B0;have my:y∈x::xs:=p.mem_iff.mpr B0;rcases List.mem_cons.mp mx with e|mx
   .exact e
   .rcases List.mem_cons.mp my with e|my
    .exact e.symm
    .exact(Tie.lt_ir (Tie.lt_tr (x1 y my) (y1 x mx))).elim
  subst e;rw[zG x2 y2 (List.perm_cons x |>.mp p)]
structure HW(f:Tie->List PyData):Prop where
 sh:∀t,(f t).all SeqAt.shaped=true
 on:∀t,dC (f t)=true
 hd:∀us:List Tie,(lX (us.map f) || pZ (us.map f))=true
 lt:∀s t,s.key≠t.key->dH (f s) (f t)=some (decide (Tie.lt s t))
 eq:∀s,(dH (f s) (f s)).isSome=true
theorem rf1:HW f1:=by
 refine⟨fun t=>rfl,fun t=>rfl,fun us=>?_,fun s t h=>?_,fun s=>?_⟩
 .rw[Bool.or_eq_true];exact .inr (by unfold pZ;rw[List.all_map];exact List.all_eq_true.mpr fun t _=>rfl)
 .have k:=key_ne h
  have e:(s.i==t.i&&(s.j==t.j&&true))=false:=by
   rw[Bool.and_true,Bool.and_eq_false_iff];by_cases q:s.i=t.i
   .exact .inr (by simpa using fun z=>k ⟨q,z⟩)
   .exact .inl (by simpa using q)
  unfold f1 dH;rw[OK,e,A5 A7];show some (HT.lexLt [s.i,s.j] [t.i,t.j])=_;congr 1;rw[HT.lexLt_cons,HT.lexLt_cons];by_cases q:s.i=t.i
  .have q':¬s.j=t.j:=fun z=>k ⟨q,z⟩;rw[A4 q,A5 q'];simp[Tie.lt,q]
  .rw[A5 q];simp[Tie.lt,q]
 .unfold f1 dH;rw[OK];simp only[beq_self_eq_true,Bool.and_true,if_true];unfold dH;rw[OK];simp only[beq_self_eq_true,Bool.and_true,if_true];rfl
noncomputable def f0(t:Tie):List PyData:=[.int t.i,.int t.j]
theorem rf0:HW f0:=by
 refine⟨fun t=>rfl,fun t=>rfl,fun us=>?_,fun s t h=>?_,fun s=>?_⟩
 .rw[Bool.or_eq_true];exact .inl (by unfold lX;rw[List.all_map];exact List.all_eq_true.mpr fun t _=>rfl)
 .have k:=key_ne h;show(if (s.i==t.i)=true then(if (s.j==t.j)=true then dH [] []else some (decide (s.j<t.j)))else some (decide (s.i<t.i)))=_;by_cases e:s.i=t.i
  .have e2:¬s.j=t.j:=fun q=>k ⟨e,q⟩;rw[A4 (by simpa using e),A5 (by simpa using e2)];congr 1;exact decide_eq_decide.mpr ⟨fun q=>.inr ⟨e,q⟩,fun q=>by rcases q with q|q<;>omega⟩
  .rw[A5 (by simpa using e)];congr 1;exact decide_eq_decide.mpr ⟨fun q=>.inl q,fun q=>by rcases q with q|q<;>omega⟩
 .show(if (s.i==s.i)=true then(if (s.j==s.j)=true then dH [] []else some (decide (s.j<s.j)))else some (decide (s.i<s.i))).isSome=true;simp only[beq_self_eq_true,if_true];rfl
theorem aEU(nd:(us.map Tie.key).Nodup){i j:Nat}(hi:i<us.length)(hj:j<us.length)(h:i≠j):us[i].key≠us[j].key:=fun q=>by
 have:=(List.getElem_inj (h₀:=by rw[A2];exact hi) (h₁:=by rw[A2];exact hj) nd).mp (by rw[List.getElem_map,List.getElem_map];exact q);exact h this
theorem aKb{f:Tie->List PyData}(R:HW f)(nd:(us.map Tie.key).Nodup)(h2:2<=us.length)(h64:us.length<64):sortable (us.map f)=true:=by
 unfold sortable;rw[A2,C5 h2,C5 h64,R.hd us,Bool.true_and,Bool.true_and,Bool.and_true,B8];refine⟨List.all_eq_true.mpr fun r hr=>?_,List.all_eq_true.mpr fun i hi=>List.all_eq_true.mpr fun j hj=>?_⟩
 .obtain⟨t,_,rfl⟩:=List.mem_map.mp hr;rw[R.sh,R.on];rfl
 .have hi:=List.mem_range.mp hi;have hj:=List.mem_range.mp hj;rw[zF hi,zF hj];by_cases q:i=j
  .subst q;exact R.eq _
  .rw[R.lt _ _ (aEU nd hi hj q)];rfl
theorem aDI{f:Tie->List PyData}(R:HW f){i j:Nat}(hi:i<us.length)(hj:j<us.length)(k:us[i].key≠us[j].key):fV (us.map f) i j=decide (Tie.lt us[i] us[j]):=by
 unfold fV;rw[zF hi,zF hj,R.lt _ _ k];rfl
theorem CV{f:Tie->List PyData}(R:HW f)(nd:(us.map Tie.key).Nodup)(h64:us.length<64):∃vs:List Tie,vs.Perm us/\vs.Pairwise Tie.lt/\kK (us.map f)=some (vs.map fun t=>.tuple (f t))/\(2<=us.length->PL (us.map f)=vs.map fun t=>.tuple (f t))/\(us.length<2->vs=us):=by
 by_cases h2:2<=us.length
 .have ab:=aKb R nd h2 h64;have pm:=qU (n:=(us.map f).length) (fV (us.map f)) (by rw[A2];omega);have so:=CG ab;rw[A2]at pm so;have mem:∀i∈dW (fV (us.map f)) us.length,i<us.length:=fun i hi=>List.mem_range.mp (pm.mem_iff.mp hi)
  have sd:PL (us.map f)=((dW (fV (us.map f)) us.length).map fun i=>us.getD i t0).map fun t=>.tuple (f t):=by
   unfold PL;rw[A2,B6];refine O0 fun i hi=>?_;show PyData.tuple ((us.map f).getD i [])=.tuple (f (us.getD i t0));rw[zF (mem i hi),MV (mem i hi)]
  refine⟨(dW (fV (us.map f)) us.length).map fun i=>us.getD i t0,?_,?_,?_,fun _=>sd,fun q=>by omega⟩
  .have:=pm.map fun i=>us.getD i t0
   rwa [UV]at this
  .rw[List.pairwise_map];have nd2:(dW (fV (us.map f)) us.length).Nodup:=pm.nodup_iff.mpr List.nodup_range;have len:(dW (fV (us.map f)) us.length).length=us.length:=by rw[pm.length_eq,List.length_range]
   rw[List.pairwise_iff_getElem];intro a b ha hb hab;have hx:=mem _ (S4 ha);have hy:=mem _ (S4 hb)
   have g:∀c (hc:c<(dW (fV (us.map f)) us.length).length),(US (fV (us.map f)) (PySem.W.kas_sort us.length)).getD c 0=(dW (fV (us.map f)) us.length)[c]:=fun c hc=>by
    unfold dW at hc ⊢;rw[L8]at hc;simp[Array.getD,hc]
   have s1:=so a b hab (by rw[<- len];exact hb);rw[g a ha,g b hb]at s1
   have ne:(dW (fV (us.map f)) us.length)[b]≠(dW (fV (us.map f)) us.length)[a]:=fun q=>by
    have:=(List.getElem_inj nd2).mp q;omega
   have kn:=aEU nd hy hx ne;rw[aDI R hy hx kn]at s1;rw[MV hx,MV hy];exact Tie.lt_tot (F7 kn) (F5 s1)
  .unfold kK;rw[ab,A4 rfl,sd]
 .have hl:us.length<2:=by omega
  refine⟨us,.refl _,?_,?_,fun q=>absurd q h2,fun _=>rfl⟩
  .match us,hl with
   |[],_=>exact .nil
   |[t],_=>exact List.pairwise_singleton _ _
  .unfold kK
   have:sortable (us.map f)=false:=by
    unfold sortable;rw[A2,C7 h2];rfl
   rw[this,A5 A7,A2,A4 hl,B6];rfl
noncomputable abbrev Inn(n:Nat)(p:Int):Prop:=0<=p/\p<n
theorem rB{α:Type}{xs:List α}{k:Nat}{x:α}(h:xs[k]?=some x):atI xs (k:Int)=some x:=by
 have hk:k<xs.length:=(List.getElem?_eq_some_iff.mp h).1;unfold atI ixN;rw[A4 (Int.natCast_nonneg k),A4 (by omega),A1,O8,h]
theorem aW{f g:SF}(h:f γ M=some (.nx γ',M')):bG f g γ M=g γ' M':=by
 unfold bG;rw[h,A1]
theorem bX{i:Nat}{x:CD}(h:f γ M=some (x,M')):bB f (hName i) γ M=some (.nx (γ.set i (some x)),M'):=by
 unfold bB;rw[h,A1];rfl
theorem eR{ps N:Nat}{b:SF}{x:CD}(h:xs.length=ps)(hb:b (xs.map some++List.replicate (N-xs.length) none) M=some (.rt x,M')):fnF ps N b xs M=some (x,M'):=by
 unfold fnF;rw[A4 h,hb,A1]
theorem vF{f:AF}{g:GF}{b:SF}{M1:Sto}{r:Option (Out×Sto)}(h:f γ M=some (xs,M1))(hb:uJ g b xs γ M1=r):AU f g b γ M=r:=by
 unfold AU;rw[h,A1];exact hb
theorem tP{g:GF}{b:SF}{x:CD}{γ1 γ2:Ga}{M1 M2:Sto}(h:g x γ M=some (γ1,M1))(hb:b γ1 M1=some (.nx γ2,M2)):uJ g b (x::xs) γ M=uJ g b xs γ2 M2:=by
 conv=>lhs;unfold uJ
 rw[h,A1];dsimp only;rw[hb,A1]
theorem sl_tup{lo hi:Option Int}:slF (.d (.tuple ds)) lo hi M=some (.d (.tuple (mY ds lo hi)),M):=rfl
theorem aBK{xs:List PyData}(hl:xs.length+ys.length<=1000):dX (.d (.tuple xs)) (.d (.tuple ys)) M=some (.d (.tuple (xs++ys)),M):=by
 cases xs with
 |nil=>rfl
 |cons x xs=>
  have h:(x::xs:List PyData)≠[]/\(x::xs).length+ys.length<=sizeLine:=⟨by simp,sz hl⟩;show(if (x::xs:List PyData)≠[]/\(x::xs).length+ys.length<=sizeLine then some (CD.d (.tuple (x::xs++ys)),M)else none)=_;rw[A4 h]
theorem tU{α:Type}{ds:List α}{k m:Int}(hm:0<m)(hl:(ds.length:Int)=m):∃d,atI ds (k % m)=some d/\d∈ds:=by
 have h1:=C4 k (show m≠0 by omega);have h2:=C1 k hm;have hk:(k % m).toNat<ds.length:=by omega
 obtain⟨q,hq⟩:∃q:Nat,k % m=(q:Nat):=⟨(k % m).toNat,by omega⟩;rw[hq]at hk ⊢;rw[O8]at hk;exact⟨ds[q],rB (B9 hk),S4 hk⟩
noncomputable abbrev cI(xs:List Int):Cell:=.lst (xs.map fun i=>I i)
noncomputable def Li(M:Sto)(c:Nat)(xs:List Int):Prop:=M[c]?=some (cI xs)
structure Oth(c:Nat)(M M':Sto):Prop where
 len:M'.length=M.length
 at_:∀i,i≠c->M'[i]?=M[i]?
theorem Li.lt{xs:List Int}(h:Li M c xs):c<M.length:=(List.getElem?_eq_some_iff.mp h).1
theorem Li.set{xs ys:List Int}(h:Li M c xs):Li (M.set c (cI ys)) c ys/\Oth c M (M.set c (cI ys)):=
 ⟨by unfold Li;rw[D8 h.lt],by rw[O6],fun i hi=>by rw[J1 (F7 hi)]⟩
theorem Li.oth{d:Nat}{xs:List Int}(h:Li M c xs)(o:Oth d M M')(ne:c≠d):Li M' c xs:=by unfold Li;rw[o.at_ c ne];exact h
theorem Li.app{xs:List Int}(h:Li M c xs):Li (M++L) c xs:=by unfold Li;rw[S6 h.lt];exact h
theorem Li.ty{xs:List Int}(h:Li M c xs):tyB "list" M (.c c)=true:=by
 unfold Li at h;simp only[tyB,h];decide
theorem Li.ln{xs:List Int}(h:Li M c xs):iS [.c c] M=some (I xs.length,M):=by
 unfold Li at h;simp only[iS,h,List.length_map]
theorem aJM{α:Type}{xs:List α}(h:Inn xs.length p):∃z,atI xs p=some z/\z∈xs:=by
 obtain⟨q,rfl⟩:∃q:Nat,p=(q:Nat):=⟨p.toNat,by omega⟩;have hk:q<xs.length:=by omega
 exact⟨xs[q],rB (B9 hk),S4 hk⟩
theorem Li.ix{xs:List Int}(h:Li M c xs)(hp:Inn xs.length p):∃z,ixF (.c c) (I p) M=some (I z,M):=by
 obtain⟨z,h1,h2⟩:=aJM (xs:=xs.map fun i=>I i) (p:=p) (by rw[A2];exact hp);obtain⟨y,_,rfl⟩:=List.mem_map.mp h2;refine⟨y,?_⟩;unfold Li at h;simp only[ixF,h,h1,Option.bind_some]
theorem Li.put{xs:List Int}(h:Li M c xs)(hp:Inn xs.length p):∃ys,ys.length=xs.length/\GY (.c c) (I p) (I z) M=some (M.set c (cI ys)):=by
 obtain⟨q,rfl⟩:∃q:Nat,p=(q:Nat):=⟨p.toNat,by omega⟩;refine⟨xs.set q z,by rw[O6],?_⟩
 have hn:ixN (xs.map fun i=>I i).length (q:Int)=some q:=by
  unfold ixN;rw[A4 (Int.natCast_nonneg q),A4 (by rw[A2];omega),O8]
 unfold Li at h;simp only[GY,h,hn,Option.bind_some,cI,List.map_set]
theorem Li.push{xs:List Int}(h:Li M c xs)(hl:xs.length<1000):iJ (.c c) [I z] M=some (.d .none,M.set c (cI (xs++[z]))):=by
 have l:(xs.map fun i=>I i).length<sizeLine:=by rw[A2,F0];omega
 unfold Li at h;simp only[iJ,h,if_pos l,cI,List.map_append,List.map_singleton]
theorem Li.pop{xs:List Int}(h:Li M c (xs++[z])):eE (.c c) [] M=some (I z,M.set c (cI xs)):=by
 have e1:((xs++[z]).map fun i=>I i)[((xs++[z]).map fun i=>I i).length-1]?=some (I z):=by
  rw[A2,C0,E7,Nat.add_sub_cancel,D2,E1 (A8 _),S5];rfl
 have e2:((xs++[z]).map fun i=>I i).dropLast=xs.map fun i=>I i:=by
  rw[E5,List.map_singleton,List.dropLast_concat]
 unfold Li at h;simp only[eE,h,e1,e2,Option.bind_some]
noncomputable def Rn(x:Int):Prop:=0<=x/\x<2147483647
theorem aBe(h:0<b)(hb:b<=2147483647):Rn (y % b):=⟨C4 _ (by omega),Int.lt_of_lt_of_le (C1 _ h) hb⟩
noncomputable def Dk(M:Sto)(c m:Nat):Prop:=∃xs,Li M c xs/\m<=xs.length/\∀x∈xs,Rn x
theorem Dk.app(h:Dk M c m):Dk (M++L) c m:=let⟨xs,a,b⟩:=h;⟨xs,a.app,b⟩
theorem Dk.pop(h:Dk M c (m+1)):∃z M',eE (.c c) [] M=some (I z,M')/\Dk M' c m/\Oth c M M'/\Rn z:=by
 obtain⟨xs,a,b,r⟩:=h;rcases List.eq_nil_or_concat xs with rfl|⟨ys,z,rfl⟩
 .simp at b
 .rw[List.concat_eq_append]at a b r;rw[C0,E7]at b;exact⟨z,_,a.pop,⟨ys,(a.set).1,by omega,fun x hx=>r x (E4 _ hx)⟩,(a.set).2,r z (by simp)⟩
theorem Dk.ty(h:Dk M c m):tyB "list" M (.c c)=true:=let⟨_,a,_⟩:=h;a.ty
theorem LF(lo:Int)(n:Nat):mF lo (n+1)=I lo::mF (lo+1) n:=by
 unfold mF;rw[List.range_succ_eq_map,B2,B6];refine congr (O1 List.cons ?_) (O0 fun k _=>?_)
 .show CD.d (.int (lo+((0:Nat):Int)))=I lo;rw[show lo+((0:Nat):Int)=lo by omega]
 .show CD.d (.int (lo+((k+1:Nat):Int)))=.d (.int (lo+1+(k:Nat)));rw[show lo+((k+1:Nat):Int)=lo+1+(k:Nat)by omega]
theorem aAZ(h:i.natAbs<2 ^ 64):mZ i j=true:=by unfold mZ;rw[C5 h];rfl
theorem mul_r(h:j.natAbs<2 ^ 64):mZ i j=true:=by unfold mZ;rw[C5 h,Bool.or_true];rfl
theorem nab(h0:0<=z)(h1:z<b)(hb:b<=2 ^ 62):z.natAbs<2 ^ 64:=by omega
noncomputable abbrev GD(s many:CD)(r d:Nat)(o:Int)(k at_ one:Option CD):Ga:=[some s,some many,some (.c r),some (I o),some (.c d),k,at_,one]
theorem VG{s many:CD}{r d:Nat}{o k:Int}{xs ds:List Int}{g6 g7:Option CD}(hr:Li M r xs)(hd:Li M d ds)(ne:r≠d)(x0:0<xs.length)(hl:ds.length<1000)(k0:0<=k)(k1:k<1000)(rd:∀x∈ds,Rn x):
 ∃xs' ds' g6' g7' M',eB (GD s many r d o (some (I k)) g6 g7) M=some (.nx (GD s many r d o (some (I k)) g6' g7'),M')/\Li M' r xs'/\Li M' d ds'/\xs'.length=xs.length/\ds'.length=ds.length+1/\∀x∈ds',Rn x:=by
 have rapp:∀y,Rn y->∀x∈ds++[y],Rn x:=fun y hy x hx=>by
  rcases List.mem_append.mp hx with h|h
  .exact rd x h
  .rw[List.mem_singleton.mp h];exact hy
 have ln:=hr.ln;have p1:=C4 k (show(xs.length:Int)≠0 by omega);have p2:=C1 k (show(0:Int)<xs.length by omega);obtain⟨z,ix⟩:=hr.ix (p:=k % xs.length) ⟨p1,p2⟩;have m1:qN k xs.length=true:=iH (by omega);have m2:∀y,qN y 1000000=true:=fun y=>iH (by decide);have m3:∀y,qN y 2147483629=true:=fun y=>iH (by decide);have m4:∀y,qN y 2147483647=true:=fun y=>iH (by decide);have m5:∀y,qN y 4=true:=fun y=>iH (by decide);have dv:∀y,wI y 1000000=true:=fun y=>yF (by decide) (wsm (by decide) (by decide));obtain⟨ys,yl,st⟩:=hr.put (p:=k % xs.length) (z:=z / 1000000) ⟨p1,p2⟩;generalize (xs.length:Int)=J at ln p1 p2 ix m1 st;cases h:(o==0)with
 |true=>
  obtain⟨c,hc,hcm⟩:=tU (ds:=([.int 48271,.int 69621,.int 39373,.int 40692]:List PyData)) (k:=k) (m:=4) (by decide) rfl
  obtain⟨cv,rfl,hcv⟩:∃v:Int,c=.int v/\v.natAbs<2 ^ 64:=by
   simp only[List.mem_cons,List.not_mem_nil,or_false]at hcm;rcases hcm with rfl|rfl|rfl|rfl<;>exact⟨_,rfl,by decide⟩
  have xk:ixF (.d (.list [.int 48271,.int 69621,.int 39373,.int 40692])) (I (k % 4)) M=some (I cv,M):=by
   show(atI [PyData.int 48271,.int 69621,.int 39373,.int 40692] (k % 4)).bind _=_;rw[hc];rfl
  have q1:mZ k k=true:=aAZ (nab k0 (b:=1000) k1 (by decide));have q2:mZ (k*k) 16807=true:=mul_r (by decide);have q3:mZ 3 k=true:=aAZ (by decide);have q4:∀y,mZ y cv=true:=fun y=>mul_r hcv;have a1:∀i j:Int,dX (I i) (I j) M=some (I (i+j),M):=fun i j=>rfl;have q5:∀y,mZ (y % 2147483647) (y % 2147483647)=true:=fun y=>aAZ (nab (C4 _ (by decide)) (C1 _ (by decide)) (by decide));generalize hv:(z+k*k*16807+3*k) % 2147483629=v1;have pu:=fun y=>hd.push (z:=y) hl;refine⟨xs,ds++[(v1*cv+7) % 2147483647*((v1*cv+7) % 2147483647) % 2147483629],some (I (k % J)),some (I ((v1*cv+7) % 2147483647*((v1*cv+7) % 2147483647) % 2147483629)),_,?_,hr.oth (hd.set).2 ne,(hd.set).1,rfl,by rw[C0,E7],rapp _ (aBe (by decide) (by decide))⟩;simp![eB,ln,m1,m2,ix,UF,h,q1,q2,q3,a1,m3,hv,yQ,m5,xk,q4,m4,q5,aZ,hd.ty,pu]
 |false=>
  have hr':=hr.set (ys:=ys);have hd':=hd.oth hr'.2 (F7 ne);have pu:=hd'.push (z:=z % 1000000) hl;refine⟨ys,ds++[z % 1000000],some (I (k % J)),some (I (z % 1000000)),_,?_,hr'.1.oth (hd'.set).2 ne,(hd'.set).1,yl,by rw[C0,E7],rapp _ (aBe (by decide) (by decide))⟩;simp![eB,ln,m1,m2,ix,UF,h,dv,st,aZ,hd'.ty,pu]
theorem CU{s many:CD}{r d:Nat}{o:Int}:∀(m:Nat)(k:Int)(M:Sto)(xs ds:List Int)(g5 g6 g7:Option CD),Li M r xs->Li M d ds->r≠d->0<xs.length->0<=k->k+m<900->ds.length+m<900->(∀x∈ds,Rn x)->
 ∃ds' g5' g6' g7' M',uJ (hName 5) eB (mF k m) (GD s many r d o g5 g6 g7) M=some (.nx (GD s many r d o g5' g6' g7'),M')/\Li M' d ds'/\ds'.length=ds.length+m/\∀x∈ds',Rn x
 |0=>fun k M xs ds g5 g6 g7 hr hd ne x0 k0 _ _ rd=>⟨ds,g5,g6,g7,M,rfl,hd,rfl,rd⟩
 |m+1=>fun k M xs ds g5 g6 g7 hr hd ne x0 k0 hk hl rd=>by
  obtain⟨xs1,ds1,a6,a7,M1,t,h1,h2,h3,h4,r1⟩:=VG (s:=s) (many:=many) (o:=o) (g6:=g6) (g7:=g7) hr hd ne x0 (by omega) k0 (show k<1000 by omega) rd;obtain⟨ds',b5,b6,b7,M',l,h5,h6,r2⟩:=CU (s:=s) (many:=many) (o:=o) m (k+1) M1 xs1 ds1 (some (I k)) a6 a7 h1 h2 ne (by omega) (by omega) (by omega) (by omega) r1;refine⟨ds',b5,b6,b7,M',?_,h5,by omega,r2⟩;rw[LF,tP (show hName 5 (I k) (GD s many r d o g5 g6 g7) M=some (GD s many r d o (some (I k)) g6 g7,M)from rfl) t];exact l
theorem BN(n:Nat)(M:Sto):∀ns:List Int,qS n M (ns.map fun i=>I i)=some (ns.map .int)
 |[]=>by unfold qS;rfl
 |i::ns=>by
  rw[B2];unfold qS;rw[XO,A1,BN n M ns];rfl
theorem wJ:∀ns:List Int,PyData.canLayAll0 (ns.map .int)=true
 |[]=>rfl
 |n::ns=>by show(true&&PyData.canLayAll0 (ns.map .int))=true;rw[wJ ns];rfl
theorem AZ:∀ns:List Int,PyData.depthAll (ns.map .int)=0
 |[]=>rfl
 |n::ns=>by show max 0 (PyData.depthAll (ns.map .int))=0;rw[AZ ns];rfl
theorem shaped_ints(ns:List Int):SeqAt.shaped (.list (ns.map .int))=true:=by
 unfold SeqAt.shaped;have e1:PyData.canLay0 (.list (ns.map .int))=true:=wJ ns;have e2:PyData.depth (.list (ns.map .int))=1:=by show PyData.depthAll (ns.map .int)+1=1;rw[AZ]
 rw[e1,e2];rfl
theorem aCr(h:Li M c ns):eqY false (.c c) (.d (.list [])) M=some (B ns.isEmpty,M):=by
 have s1:snap 5 M (.c c)=some (.list (ns.map .int)):=by
  unfold Li at h;unfold snap;rw[h];show(qS 4 M (ns.map fun i=>I i)).bind _=_;rw[BN];rfl
 have s2:snap 5 M (.d (.list []))=some (.list []):=by rw[XO]
 show eqC false (.c c) (.d (.list [])) M=_;unfold eqC;rw[s1,A1,s2,A1,shaped_ints,show SeqAt.shaped (.list [])=true from rfl];cases ns<;>rfl
theorem aIZ{x:CD}(sm:jL J=true):gT (aB (aD 1) aH) (x::some (I J)::γ) M=some (mF 0 J.toNat,M):=by
 simp![gT,sm]
theorem aFZ(ns:List Int):∃c M,lM [.d (.list (ns.map .int)),I 180] []=some (.c c,M)/\Dk M c 180:=by
 have s0:(0:Nat)<=sizeLine:=F8 _;have s1:(1:Nat)<=sizeLine:=by decide
 have st:∀(r:Nat)(M:Sto)(xs:List Int),Li M r xs->0<xs.length->∃c M',(bG (bB (fOp bC (fOp ixF (aD 2) (fC (.int 0))) (fC (.int 2))) (hName 3))
 (bG (bB (fOp bS (fOp ixF (aD 2) (fC (.int 0))) (fC (.int 2))) (hSub (aD 2) (fC (.int 0)) GY))
 (bG (bB (vL aH) (hName 4))
 (bG (AU (gT (aB (aD 1) aH)) (hName 5) eB)
 (bG (rP (aZ "list" kF (aD 4) aH))
 (bO (aD 4))))))) [some (.d (.list (ns.map .int))),some (I 180),some (.c r),none,none,none,none,none] M=some (.rt (.c c),M')/\Dk M' c 180:=by
  intro r M xs hr x0;obtain⟨z,ix⟩:=hr.ix (p:=0) ⟨by decide,by omega⟩;have m2:∀y,qN y 2=true:=fun y=>iH (by decide);have d2:∀y,wI y 2=true:=fun y=>yF (by decide) (wsm (by decide) (by decide));obtain⟨ys,yl,pt⟩:=hr.put (p:=0) (z:=z / 2) ⟨by decide,by omega⟩;have hr1:=(hr.set (ys:=ys)).1;have hr2:=hr1.app (L:=[Cell.lst []]);have ml:(M.set r (cI ys)).length=M.length:=by rw[O6]
  have hd:Li (M.set r (cI ys)++[Cell.lst []]) M.length []:=by
   unfold Li;rw[<- ml,E1 (A8 _),S5];rfl
  have rl:=hr.lt;obtain⟨ds,a5,a6,a7,M',lp,hd',hl,rr⟩:=CU (s:=.d (.list (ns.map .int))) (many:=I 180) (o:=z % 2) 180 0 _ ys [] none none none hr2 hd (by omega) (by omega) (by decide) (by decide) (by decide) (fun x hx=>by simp at hx);have rg:gT (aB (aD 1) aH) (GD (.d (.list (ns.map .int))) (I 180) r M.length (z % 2) none none none) (M.set r (cI ys)++[Cell.lst []])=some (mF 0 180,M.set r (cI ys)++[Cell.lst []]):=aIZ (J:=180) (by decide);have sf:=vF rg lp
  have rv:kF (.c M.length) [] M'=some (.d .none,M'.set M.length (cI ds.reverse)):=by
   have:=hd';unfold Li at this;simp only[kF,this];rw[cI,List.map_reverse]
  refine⟨M.length,M'.set M.length (cI ds.reverse),?_,ds.reverse,(hd'.set).1,by rw[List.length_reverse,hl];exact A8 _,fun x hx=>rr x (List.mem_reverse.mp hx)⟩
  have a1:bB (fOp bC (fOp ixF (aD 2) (fC (.int 0))) (fC (.int 2))) (hName 3) [some (.d (.list (ns.map .int))),some (I 180),some (.c r),none,none,none,none,none] M=some (.nx [some (.d (.list (ns.map .int))),some (I 180),some (.c r),some (I (z % 2)),none,none,none,none],M):=by
   simp![ix,m2]
  have a2:bB (fOp bS (fOp ixF (aD 2) (fC (.int 0))) (fC (.int 2))) (hSub (aD 2) (fC (.int 0)) GY) [some (.d (.list (ns.map .int))),some (I 180),some (.c r),some (I (z % 2)),none,none,none,none] M=some (.nx [some (.d (.list (ns.map .int))),some (I 180),some (.c r),some (I (z % 2)),none,none,none,none],M.set r (cI ys)):=by
   simp![ix,d2,pt]
  have a3:bB (vL aH) (hName 4) [some (.d (.list (ns.map .int))),some (I 180),some (.c r),some (I (z % 2)),none,none,none,none] (M.set r (cI ys))=some (.nx (GD (.d (.list (ns.map .int))) (I 180) r M.length (z % 2) none none none),M.set r (cI ys)++[Cell.lst []]):=by
   simp![s0,ml]
  rw[aW a1,aW a2,aW a3,aW sf];simp![aZ,hd'.ty,rv]
 have l0:DO [.d (.list (ns.map .int))] []=some (.c 0,[cI ns]):=by
  show some (CD.c 0,[]++[Cell.lst ((ns.map PyData.int).map .d)])=_;rw[B6];rfl
 have h0:Li [cI ns] 0 ns:=rfl;have eq:=aCr h0
 have b1:bB (aK DO (aB (aD 0) aH)) (hName 2) [some (.d (.list (ns.map .int))),some (I 180),none,none,none,none,none,none] []=some (.nx [some (.d (.list (ns.map .int))),some (I 180),some (.c 0),none,none,none,none,none],[cI ns]):=by
  simp![l0]
 cases he:ns.isEmpty with
 |true=>
  rw[he]at eq;obtain⟨c,M',h1,h2⟩:=st 1 ([cI ns]++[cI [4]]) [4] rfl (by decide);refine⟨c,M',eR rfl ?_,h2⟩
  have b2:sIf (gB (fOp (eqY false) (aD 2) (dO aH))) (bB (vL (aB (fC (.int 4)) aH)) (hName 2)) cP [some (.d (.list (ns.map .int))),some (I 180),some (.c 0),none,none,none,none,none] [cI ns]=some (.nx [some (.d (.list (ns.map .int))),some (I 180),some (.c 1),none,none,none,none,none],[cI ns]++[cI [4]]):=by
   simp![s0,s1,eq];rfl
  unfold lO;show bG _ _ [some (.d (.list (ns.map .int))),some (I 180),none,none,none,none,none,none] []=_;rw[aW b1,aW b2];exact h1
 |false=>
  rw[he]at eq;obtain⟨c,M',h1,h2⟩:=st 0 [cI ns] ns rfl (by cases ns with|nil=>cases he|cons _ _=>simp);refine⟨c,M',eR rfl ?_,h2⟩
  have b2:sIf (gB (fOp (eqY false) (aD 2) (dO aH))) (bB (vL (aB (fC (.int 4)) aH)) (hName 2)) cP [some (.d (.list (ns.map .int))),some (I 180),some (.c 0),none,none,none,none,none] [cI ns]=some (.nx [some (.d (.list (ns.map .int))),some (I 180),some (.c 0),none,none,none,none,none],[cI ns]):=by
   simp![s0,s1,eq]
  unfold lO;show bG _ _ [some (.d (.list (ns.map .int))),some (I 180),none,none,none,none,none,none] []=_;rw[aW b1,aW b2];exact h1
theorem Dk.le{n:Nat}(h:Dk M c m)(l:n<=m):Dk M c n:=let⟨xs,a,b,r⟩:=h;⟨xs,a,C9 l b,r⟩
theorem Dk.lt(h:Dk M c m):c<M.length:=let⟨_,a,_⟩:=h;a.lt
theorem Dk.put{j:Nat}{x:Cell}(h:Dk M c m)(n:j≠c):Dk (M.set j x) c m:=let⟨xs,a,b⟩:=h;⟨xs,by unfold Li;rw[J1 n];exact a,b⟩
theorem pop_at(hv:γ[v]?=some (some (.c c)))(ty:tyB "list" M (.c c)=true)(h:eE (.c c) [] M=some (I z,M')):aZ "list" eE (aD v) aH γ M=some (I z,M'):=by
 simp only[aZ,aD,hv,aH,Option.bind_some,ty,if_true,h]
theorem xT{g:GF}{b:SF}{n:Nat}{Inv:Nat->Ga->Sto->Prop}(step:∀k,k<n->∀γ M,Inv k γ M->∃γ1 γ' M',g (I (k:Nat)) γ M=some (γ1,M)/\b γ1 M=some (.nx γ',M')/\Inv (k+1) γ' M'):
 ∀(m k:Nat)(γ:Ga)(M:Sto),k+m=n->Inv k γ M->∃γ' M',uJ g b (mF (k:Nat) m) γ M=some (.nx γ',M')/\Inv n γ' M'
 |0=>fun k γ M h i=>⟨γ,M,rfl,by rw[<- h];exact i⟩
 |m+1=>fun k γ M h i=>by
  obtain⟨γ1,γ2,M1,e1,e2,i1⟩:=step k (by omega) γ M i;obtain⟨γ',M',e3,i2⟩:=xT step m (k+1) γ2 M1 (by omega) i1;refine⟨γ',M',?_,i2⟩;rw[LF,tP e1 e2,show((k:Nat):Int)+1=((k+1:Nat):Int)by omega];exact e3
theorem RB(lo:Int)(n:Nat):(mF lo n).length=n:=by unfold mF;rw[A2,List.length_range]
theorem MY(h:fa γ M=some ([I J],M))(sm:jL J=true):gT fa γ M=some (mF 0 J.toNat,M):=by
 simp only[gT,h,Option.bind_some,sm,if_true]
theorem QP(h0:-1000<=i)(h1:i<=1000):jL i=true:=by
 unfold jL;rw[B8];exact⟨C5 (by omega),C5 (by omega)⟩
theorem iQ{cap:List (Option Nat)}{f:AF}{g:GF}{c:TF}{M1 M2:Sto}(it:f γ M=some (xs,M1))(hl:xs.length<=1000)(l:lcF g c e xs (jO cap γ) M1=some (ds.map .d,M2))(hy:ds.length<=1000):fLc cap f g c e γ M=some (.d (.list ds),M2):=yK it (sz hl) l (sz hy)
theorem aEB{c:TF}{a b:SF}(h:c γ M=some (true,M')):sIf c a b γ M=a γ M':=by simp only[sIf,h,Option.bind_some,if_true]
theorem uA{c:TF}{a b:SF}(h:c γ M=some (false,M')):sIf c a b γ M=b γ M':=by simp only[sIf,h,Option.bind_some,Bool.false_eq_true,if_false]
noncomputable abbrev S(x:Str):CD:=.d (.str x)
noncomputable def sI(i:Int):Str:=toString i
noncomputable def Bd(i:Int):Prop:=i.natAbs<2 ^ 1900
theorem Bd.of(h0:0<=i)(h:i<2 ^ 200):Bd i:=by
 show i.natAbs<2 ^ 1900;have h1:i.natAbs<2 ^ 200:=by omega
 exact B7 h1 (Nat.pow_le_pow_right (by decide) (by decide))
theorem kD(h:Bd i):(sI i).length<=2000:=aBW h
theorem nY(h:Bd i):iL [I i] M=some (S (sI i),M):=by
 have:i.natAbs.log2<1920:=O4 (PV h) (by decide);simp only[iL,if_pos this];rfl
theorem gJ(x y:Str):(x++y).length=x.length+y.length:=Str.length_append x y
theorem szl:sizeLine=16777216:=F0
theorem mG{y:Str}(h:x.length+y.length<=sizeLine):fR (S x) (S y) M=some (S (x++y),M):=by
 have e:dX (S x) (S y) M=none:=rfl;simp only[fR,zO,e,aDP,if_pos h]
noncomputable def fU(a b:Int):Str:=if (b==1)=true then sI a else sI a++"/"++sI b
theorem sl1:(("/":Str)).length=1:=by decide
theorem sp1:((" ":Str)).length=1:=by decide
theorem JF(ha:Bd a)(hb:Bd b):(fU a b).length<=4001:=by
 have h1:=kD ha;have h2:=kD hb;unfold fU;split
 .omega
 .rw[gJ,gJ,sl1];omega
theorem aAw{k:Bool}(ha:Bd a)(hb:Bd b):fE [.d (P k a b)] M=some (S (fU a b),M):=by
 have h1:=kD ha;have h2:=kD hb;have z1:fR (S (sI a)) (S "/") M=some (S (sI a++"/"),M):=mG (by rw[sl1,szl];omega);have z2:fR (S (sI a++"/")) (S (sI b)) M=some (S (sI a++"/"++sI b),M):=mG (by rw[gJ,sl1,szl];omega);cases c:(b==1)with
 |true=>simp![fE,iD,aAQ,aDT,UF,c,nY ha,fU,if_true]
 |false=>simp![fE,iD,aAQ,aDT,UF,c,nY ha,nY hb,z1,z2,fU,Bool.false_eq_true,if_false]
noncomputable def HN(w:Str)(i j a b:Int):Str:=w++" "++sI i++" "++sI j++" "++fU a b
theorem SR(hw:w.length<=100)(hi:Bd i)(hj:Bd j)(ha:Bd a)(hb:Bd b):(HN w i j a b).length<=8200:=by
 have h1:=kD hi;have h2:=kD hj;have h3:=JF ha hb;unfold HN;rw[gJ,gJ,gJ,gJ,gJ,gJ,sp1];omega
theorem aJT(w x y z:Str):Txt.join " " [w,x,y,z]=w++" "++x++" "++y++" "++z:=by
 show Builtin.Str.glued " " [w,x,y,z]=_;rfl
theorem OI{k k':Bool}(hw:w.length<=100)(hi:Bd i)(hj:Bd j)(ha:Bd a)(hb:Bd b):dR [S w,.d (R3 k (.int i) (.int j) (P k' a b))] M=some (S (HN w i j a b),M):=by
 have h1:=kD hi;have h2:=kD hj;have h3:=JF ha hb;obtain⟨x0,x1,x2⟩:=ix3 k (.int i) (.int j) (P k' a b) M;have nm:=aAw (k:=k') (M:=M) ha hb
 have js:jG " " [w,sI i,sI j,fU a b]<=16777216:=by
  show([w,sI i,sI j,fU a b].map (·.length)).sum+4*(" ":Str).length<=_;rw[sp1];simp only[List.map_cons,List.map_nil,List.sum_cons,List.sum_nil];omega
 have sd:BV [.str w,.str (sI i),.str (sI j),.str (fU a b)]=some [w,sI i,sI j,fU a b]:=rfl;have s4:(4:Nat)<=sizeLine:=by decide
 have jf:jB (S " ") [.d (.list [.str w,.str (sI i),.str (sI j),.str (fU a b)])] M=some (S (HN w i j a b),M):=by
  simp only[jB,sd,Option.bind_some,if_pos js,aJT];rfl
 have ty:tyB "str" M (S " ")=true:=rfl;have al:kU [S w,S (sI i),S (sI j),S (fU a b)]=some [.str w,.str (sI i),.str (sI j),.str (fU a b)]:=rfl;have ln:([PyData.str w,.str (sI i),.str (sI j),.str (fU a b)]:List PyData).length<=sizeLine:=s4;simp![dR,pR,aZ,x0,x1,x2,nY hi,nY hj,nm,ty,al,s4,if_true,jf]
theorem lH{α:Type}{e:EF}{M:Sto}(f:α->CD)(h:α->PyData):∀(xs:List α)(g:Option CD),(∀x∈xs,e [some (f x)] M=some (.d (h x),M))->lcF (hName 0) eM e (xs.map f) [g] M=some ((xs.map h).map .d,M)
 |[]=>fun _ _=>rfl
 |x::xs=>fun g he=>by
  have ih:=lH (M:=M) (e:=e) f h xs (some (f x)) fun y hy=>he y (B1 _ hy);have e1:=he x B0;rw[B2,B2,B2];show(hName 0 (f x) [g] M).bind _=_;rw[show hName 0 (f x) [g] M=some ([some (f x)],M)from rfl,A1];show(eM _ M).bind _=_;rw[show eM [some (f x)] M=some (true,M)from rfl,A1,A4 rfl,e1,A1];dsimp only;rw[ih,A1]
noncomputable def nl(l:Str):Str:=l++"\n"
theorem nl1:(("\n":Str)).length=1:=by decide
theorem OD{n:Nat}:∀{ls:List Nat},(∀l∈ls,l<=n)->ls.sum<=ls.length*n
 |[]=>fun _=>by simp
 |l::ls=>fun h=>by
  have:=OD (n:=n) (ls:=ls) fun x hx=>h x (B1 _ hx);have h1:=h l B0;rw[List.sum_cons,B4,Nat.succ_mul];omega
theorem vO:∀ls:List Str,BV (ls.map .str)=some ls
 |[]=>rfl
 |l::ls=>by
  show(BV (ls.map .str)).bind _=_;rw[vO ls];rfl
theorem aDO{ls:List Str}{n:Nat}(h:∀l∈ls,l.length<=n)(hn:ls.length*n+ls.length*sep.length<=16777216):jB (S sep) [.d (.list (ls.map .str))] M=some (S (Txt.join sep ls),M):=by
 have js:jG sep ls<=16777216:=by
  unfold jG
  have:=OD (n:=n) (ls:=ls.map (·.length)) fun x hx=>by
   obtain⟨l,hl,rfl⟩:=List.mem_map.mp hx;exact h l hl
  rw[A2]at this;omega
 simp only[jB,vO,Option.bind_some,if_pos js]
theorem RU{c:EF}{ls:List Str}{n:Nat}(hc:c γ M=some (.d (.list (ls.map .str)),M'))(h:∀l∈ls,l.length<=n)(hn:ls.length*n+ls.length*sep.length<=16777216):aZ "str" jB (fC (.str sep)) (aB c aH) γ M=some (S (Txt.join sep ls),M'):=by
 have ty:tyB "str" M (S sep)=true:=rfl;have j:=aDO (M:=M') h hn;simp![aZ,ty,hc,j]
noncomputable def cQ(k:Bool)(t:Tie):PyData:=R3 k (.int t.i) (.int t.j) (P k t.a t.b)
noncomputable def BdT(t:Tie):Prop:=Bd t.i/\Bd t.j/\Bd t.a/\Bd t.b
noncomputable def nA(w:Str)(t:Tie):Str:=HN w t.i t.j t.a t.b
theorem XG{x:PyData}{k:Bool}{ts:List Tie}(hv:γ[v]?=some (some (.d x)))(hx:bZ x=some (ts.map (cQ k))):aX (aD v) γ M=some (ts.map (fun t=>.d (cQ k t)),M):=by
 simp only[aX,aD,hv,Option.bind_some,hx,List.map_map];rfl
noncomputable def sqK(k:Bool)(ns:List Int):PyData:=if k then .list (ns.map .int)else .tuple (ns.map .int)
theorem ZV(k:Bool)(ns:List Int):bZ (sqK k ns)=some (ns.map .int):=by cases k<;>rfl
noncomputable def qE(ns:List Int):Str:=Txt.join " " ("side"::ns.map sI)
theorem yE{xs:List PyData}(hl:xs.length+ys.length<=1000):dX (.d (.list xs)) (.d (.list ys)) M=some (.d (.list (xs++ys)),M):=by
 have h:xs.length+ys.length<=sizeLine:=sz hl;have e1:aGC (.d (.list xs)) (.d (.list ys)) M=none:=rfl
 have e2:aFH (.d (.list xs)) (.d (.list ys)) M=some (.d (.list (xs++ys)),M):=by
  have a:kU (xs.map CD.d++ys.map CD.d)=some (xs++ys):=by rw[<- E5];exact tI _
  show(kU (xs.map CD.d++ys.map CD.d)).bind _=_;rw[a,A1,A4 (by rw[C0];exact h)]
 simp only[dX,zO,e1,e2]
theorem TZ{f:AF}{ns:List Int}{cap:List (Option Nat)}(it:f γ M=some (ns.map (fun i=>I i),M))(hb:∀n∈ns,Bd n)(hl:ns.length<=100)(hc:jO cap γ=[none]):
 fLc cap f (hName 0) eM (aK iL (aB (aD 0) aH)) γ M=some (.d (.list ((ns.map sI).map .str)),M):=by
 refine iQ it (by rw[A2];omega) ?_ (by rw[A2,A2];omega);rw[hc];refine(lH (fun i=>I i) (fun i=>.str (sI i)) ns none fun n hn=>?_).trans (by simp only[List.map_map];rfl);have e:=nY (M:=M) (hb n hn);simp![e]
theorem sd4:(("side":Str)).length=4:=by decide
theorem VF{K c:EF}{ns:List Int}(hK:K γ M=some (.d (.list [.str "side"]),M))(hc:c γ M=some (.d (.list ((ns.map sI).map .str)),M))(hb:∀n∈ns,Bd n)(hl:ns.length<=20):
 aZ "str" jB (fC (.str " ")) (aB (fOp dX K c) aH) γ M=some (S (qE ns),M):=by
 have ad:=yE (M:=M) (xs:=[.str "side"]) (ys:=(ns.map sI).map .str) (by rw[A2,A2];show 1+ns.length<=1000;omega)
 have e:fOp dX K c γ M=some (.d (.list (((("side":Str)::ns.map sI)).map .str)),M):=by
  simp only[fOp,hK,hc,Option.bind_some,ad];rfl
 refine RU (n:=2000) e (fun l hl'=>?_) (by rw[B4,A2,sp1];omega);rcases List.mem_cons.mp hl' with rfl|h
 .decide
 .obtain⟨n,hn,rfl⟩:=List.mem_map.mp h;exact kD (hb n hn)
theorem aBD{k:Bool}:aX (aD 0) (some (.d (sqK k ns))::γ) M=some (ns.map (fun i=>I i),M):=by
 simp only[aX,aD,List.getElem?_cons_zero,Option.bind_some,ZV,List.map_map];rfl
theorem ZL{x:PyData}{k:Bool}{ss:List (List Int)}(hv:γ[v]?=some (some (.d x)))(hx:bZ x=some (ss.map (sqK k))):aX (aD v) γ M=some (ss.map (fun t=>.d (sqK k t)),M):=by
 simp only[aX,aD,hv,Option.bind_some,hx,List.map_map];rfl
theorem s9{n:Nat}(h:n<=9):n<=sizeLine:=sz (by omega)
theorem aKr{f1 f2:EF}(h1:f1 γ M=some (I a,M))(h2:f2 γ M=some (I b,M)):dO (aB f1 (aB f2 aH)) γ M=some (.d (.list ([a,b].map .int)),M):=by
 have e:aB f1 (aB f2 aH) γ M=some ([I a,I b],M):=by simp only[aB,aH,h1,h2,Option.bind_some]
 unfold dO;rw[e,A1];show(some ([a,b].map PyData.int)).bind _=_;rw[A1];exact A4 (s9 (show(2:Nat)<=9 by decide))
theorem aKl{f1 f2:EF}{c d:Int}(h1:f1 γ M=some (I a,M))(h2:f2 γ M=some (I b,M))(h3:f3 γ M=some (I c,M))(h4:f4 γ M=some (I d,M)):dO (aB f1 (aB f2 (aB f3 (aB f4 aH)))) γ M=some (.d (.list ([a,b,c,d].map .int)),M):=by
 have e:aB f1 (aB f2 (aB f3 (aB f4 aH))) γ M=some ([I a,I b,I c,I d],M):=by simp only[aB,aH,h1,h2,h3,h4,Option.bind_some]
 unfold dO;rw[e,A1];show(some ([a,b,c,d].map PyData.int)).bind _=_;rw[A1];exact A4 (s9 (show(4:Nat)<=9 by decide))
theorem aJZ{f1 f2 f5 f6:EF}{c d e f:Int}(h1:f1 γ M=some (I a,M))(h2:f2 γ M=some (I b,M))(h3:f3 γ M=some (I c,M))(h4:f4 γ M=some (I d,M))(h5:f5 γ M=some (I e,M))(h6:f6 γ M=some (I f,M)):dO (aB f1 (aB f2 (aB f3 (aB f4 (aB f5 (aB f6 aH)))))) γ M=some (.d (.list ([a,b,c,d,e,f].map .int)),M):=by
 have ee:aB f1 (aB f2 (aB f3 (aB f4 (aB f5 (aB f6 aH))))) γ M=some ([I a,I b,I c,I d,I e,I f],M):=by simp only[aB,aH,h1,h2,h3,h4,h5,h6,Option.bind_some]
 unfold dO;rw[ee,A1];show(some ([a,b,c,d,e,f].map PyData.int)).bind _=_;rw[A1];exact A4 (s9 (show(6:Nat)<=9 by decide))
theorem uW{m:Int}(hm:0<m)(hl:(ns.length:Int)=m):∃v,v∈ns/\ixF (.d (.list (ns.map .int))) (I (z % m)) M=some (I v,M):=by
 obtain⟨d,hd,hm'⟩:=tU (ds:=ns.map PyData.int) (k:=z) hm (by rw[A2];exact hl);obtain⟨v,hv,rfl⟩:=List.mem_map.mp hm';refine⟨v,hv,?_⟩;show(atI (ns.map PyData.int) (z % m)).bind _=_;rw[hd];rfl
theorem bV{k:F2}{c:Int}(h1:f γ M=some (I a,M))(h2:g γ M=some (I b,M))(h:k (I a) (I b) M=some (I c,M)):fOp k f g γ M=some (I c,M):=by
 simp only[fOp,h1,h2,Option.bind_some,h]
theorem bK{k:F2}{a b c:CD}(h1:f γ M=some (a,M))(h2:g γ M=some (b,M))(h:k a b M=some (c,M)):fOp k f g γ M=some (c,M):=by
 simp only[fOp,h1,h2,Option.bind_some,h]
theorem bP:fC (.int i) γ M=some (I i,M):=rfl
theorem dF(h:0<b):bC (I a) (I b) M=some (I (a % b),M):=by
 have:qN a b=true:=iH h;simp![this]
theorem rJ(h:0<b)(h2:b<1000000):bS (I a) (I b) M=some (I (a / b),M):=by
 have w:(1000000:Int)<2 ^ 200:=by decide
 have:wI a b=true:=yF h (wsm (by omega) (by omega));simp![this]
theorem aJu(h:b.natAbs<2 ^ 64):AY (I a) (I b) M=some (I (a*b),M):=by
 have:mZ a b=true:=mul_r h;simp![this]
theorem QL:vS (I a) (I b) M=some (I (a-b),M):=rfl
theorem aJq:uR (I 10) (I 30) M=some (I 1000000000000000000000000000000,M):=rfl
theorem aKc:uR (I 10) (I 12) M=some (I 1000000000000,M):=rfl
theorem Oth.trans{M1 M2:Sto}(a:Oth c M M1)(b:Oth c M1 M2):Oth c M M2:=⟨b.len.trans a.len,fun i h=>(b.at_ i h).trans (a.at_ i h)⟩
theorem uZ:(10000000000000000000000000000000000000000:Int)<2 ^ 200:=by decide
structure RdT(t:Tie):Prop where
 i:0<=t.i/\t.i<100
 j:0<=t.j/\t.j<100
 a:0<=t.a/\t.a<10 ^ 30
 b:1<=t.b/\t.b<10 ^ 30
 g:Int.gcd t.a t.b=1
structure WT(x y:Int):Prop where
 a:0<=x/\x<10 ^ 30
 b:1<=y/\y<10 ^ 30
 g:Int.gcd x y=1
theorem JS:(10:Int) ^ 30=1000000000000000000000000000000:=by decide
theorem WT.bd(h:WT a b):Bd a/\Bd b:=by
 obtain⟨⟨a0,a1⟩,⟨b0,b1⟩,_⟩:=h;have t:=uZ;rw[JS]at a1 b1;exact⟨Bd.of a0 (by omega),Bd.of (by omega) (by omega)⟩
theorem RdT.bd{t:Tie}(h:RdT t):BdT t:=by
 obtain⟨⟨i0,i1⟩,⟨j0,j1⟩,a,b,g⟩:=h;have q:=WT.bd ⟨a,b,g⟩;have t:=uZ;exact⟨Bd.of i0 (by omega),Bd.of j0 (by omega),q.1,q.2⟩
theorem aKf(ha:0<=a)(ha2:a<1000000000000000000000000000000)(hb:1<=b)(hb2:b<1000000000000000000000000000000):WT (a / (Int.gcd a b:Int)) (b / (Int.gcd a b:Int)):=by
 have g:=RT (a:=a) hb;have h1:a / (Int.gcd a b:Int)<=a:=Int.ediv_le_self _ ha;have h2:b / (Int.gcd a b:Int)<=b:=Int.ediv_le_self _ (by omega);have gd:((Int.gcd a b:Int)) ∣ b:=Int.gcd_dvd_right a b;have h3:0<b / (Int.gcd a b:Int):=Int.ediv_pos_of_pos_of_dvd (by omega) (by omega) gd;have h4:a / (Int.gcd a b:Int)<10 ^ 30:=by rw[JS];exact Int.lt_of_le_of_lt h1 ha2
 have h5:b / (Int.gcd a b:Int)<10 ^ 30:=by rw[JS];exact Int.lt_of_le_of_lt h2 hb2
 have g2:Int.gcd a b≠0:=fun z=>by rw[z]at g;exact absurd g (by decide)
 exact⟨⟨Int.ediv_nonneg ha (by omega),h4⟩,⟨h3,h5⟩,Int.gcd_ediv_gcd_ediv_gcd (Nat.pos_of_ne_zero g2)⟩
theorem aJS(dk:Dk M c (m+2)):∃a b M',nJ [.c c] M=some (.d (.tuple [.int a,.int b]),M')/\WT a b/\Dk M' c m/\Oth c M M':=by
 obtain⟨z,M1,p1,d1,o1,r1⟩:=dk.pop;obtain⟨y,M2,p2,d2,o2,r2⟩:=d1.pop;obtain⟨z0,z1⟩:=r1;obtain⟨y0,y1⟩:=r2;have a1:bB (aZ "list" eE (aD 0) aH) (hName 1) [some (.c c),none,none,none,none] M=some (.nx [some (.c c),some (I z),none,none,none],M1):=bX (pop_at rfl dk.ty p1);have a2:bB (aZ "list" eE (aD 0) aH) (hName 2) [some (.c c),some (I z),none,none,none] M1=some (.nx [some (.c c),some (I z),some (I y),none,none],M2):=bX (pop_at rfl d1.ty p2);have v1:∀g3 g4,aD 1 [some (.c c),some (I z),some (I y),g3,g4] M2=some (I z,M2):=fun _ _=>rfl;have v2:∀g3 g4,aD 2 [some (.c c),some (I z),some (I y),g3,g4] M2=some (I y,M2):=fun _ _=>rfl;have n1:=C4 (z / 7) (show(10:Int)≠0 by decide);have n2:=C1 (z / 7) (show(0:Int)<10 by decide);have n3:=C4 (z / 7) (show(1000:Int)≠0 by decide);have n4:=C1 (z / 7) (show(0:Int)<1000 by decide);have n5:=C4 (z / 7) (show(50:Int)≠0 by decide);have n6:=C1 (z / 7) (show(0:Int)<50 by decide);have n7:=C4 (y / 5) (show(40:Int)≠0 by decide);have n8:=C1 (y / 5) (show(0:Int)<40 by decide);have n9:=C4 (y / 5) (show(30:Int)≠0 by decide);have n10:=C1 (y / 5) (show(0:Int)<30 by decide);obtain⟨a,ha,xa⟩:=uW (M:=M2) (ns:=[z / 7 % 10,z / 7 % 1000,1000000000000000000000000000000-1-z / 7 % 50,z*1000000000000+y]) (z:=z) (m:=4) (by decide) rfl;obtain⟨b,hb,xb⟩:=uW (M:=M2) (ns:=[1,1,1+y / 5 % 40,55440,1000000000000000000000000000000-1-y / 5 % 30,1+y]) (z:=y) (m:=6) (by decide) rfl
 have a3:∀g3 g4,bB (fOp ixF (dO (aB (fOp bC (fOp bS (aD 1) (fC (.int 7))) (fC (.int 10))) (aB (fOp bC (fOp bS (aD 1) (fC (.int 7))) (fC (.int 1000))) (aB (fOp vS (fOp vS (fOp uR (fC (.int 10)) (fC (.int 30))) (fC (.int 1))) (fOp bC (fOp bS (aD 1) (fC (.int 7))) (fC (.int 50)))) (aB (fOp dX (fOp AY (aD 1) (fOp uR (fC (.int 10)) (fC (.int 12)))) (aD 2)) aH))))) (fOp bC (aD 1) (fC (.int 4)))) (hName 3) [some (.c c),some (I z),some (I y),g3,g4] M2=some (.nx [some (.c c),some (I z),some (I y),some (I a),g4],M2):=fun g3 g4=>by
  have dv:=bV (k:=bS) (v1 g3 g4) (bP (i:=7)) (rJ (by decide) (by decide));have l:=aKl (bV dv (bP (i:=10)) (dF (by decide))) (bV dv (bP (i:=1000)) (dF (by decide))) (bV (bV (bV bP bP aJq) (bP (i:=1)) QL) (bV dv (bP (i:=50)) (dF (by decide))) QL) (bV (bV (v1 g3 g4) (bV bP bP aKc) (aJu (by decide))) (v2 g3 g4) DQ);have mm:=bV (k:=bC) (v1 g3 g4) (bP (i:=4)) (dF (by decide));exact bX (bK l mm xa)
 have a4:∀g3 g4,bB (fOp ixF (dO (aB (fC (.int 1)) (aB (fC (.int 1)) (aB (fOp dX (fC (.int 1)) (fOp bC (fOp bS (aD 2) (fC (.int 5))) (fC (.int 40)))) (aB (fC (.int 55440)) (aB (fOp vS (fOp vS (fOp uR (fC (.int 10)) (fC (.int 30))) (fC (.int 1))) (fOp bC (fOp bS (aD 2) (fC (.int 5))) (fC (.int 30)))) (aB (fOp dX (fC (.int 1)) (aD 2)) aH))))))) (fOp bC (aD 2) (fC (.int 6)))) (hName 4) [some (.c c),some (I z),some (I y),g3,g4] M2=some (.nx [some (.c c),some (I z),some (I y),g3,some (I b)],M2):=fun g3 g4=>by
  have dv:=bV (k:=bS) (v2 g3 g4) (bP (i:=5)) (rJ (by decide) (by decide));have l:=aJZ (bP (i:=1)) (bP (i:=1)) (bV (bP (i:=1)) (bV dv (bP (i:=40)) (dF (by decide))) DQ) (bP (i:=55440)) (bV (bV (bV bP bP aJq) (bP (i:=1)) QL) (bV dv (bP (i:=30)) (dF (by decide))) QL) (bV (bP (i:=1)) (v2 g3 g4) DQ);have mm:=bV (k:=bC) (v2 g3 g4) (bP (i:=6)) (dF (by decide));exact bX (bK l mm xb)
 have ba:0<=a/\a<1000000000000000000000000000000:=by
  simp only[List.mem_cons,List.not_mem_nil,or_false]at ha;rcases ha with rfl|rfl|rfl|rfl<;>omega
 have bb:1<=b/\b<1000000000000000000000000000000:=by
  simp only[List.mem_cons,List.not_mem_nil,or_false]at hb;rcases hb with rfl|rfl|rfl|rfl|rfl|rfl<;>omega
 have t:=uZ;have lo:=aAx (a:=a) (b:=b) M2 ba.1 bb.1 (wsm (by omega) (by omega));refine⟨_,_,M2,eR rfl ?_,aKf ba.1 ba.2 bb.1 bb.2,d2,o1.trans o2⟩;unfold sR;show bG _ _ [some (.c c),none,none,none,none] M=_;rw[aW a1,aW a2,aW (a3 none none),aW (a4 (some (I a)) none)];simp only[bO,aK,aB,aD,aH,List.getElem?_cons_zero,List.getElem?_cons_succ,Option.bind_some,lo]
theorem yX{c:Cell}:(M++[c])[M.length]?=some c:=by rw[E1 (A8 _),S5];rfl
theorem PQ{f:Nat}{y:CD}(h:M[f]?=some (.lst xs))(hl:xs.length<=500):iJ (.c f) [y] M=some (.d .none,M.set f (.lst (xs++[y]))):=by
 have:xs.length<sizeLine:=by rw[szl];omega
 simp only[iJ,h,if_pos this]
theorem aEI{f:Nat}(h:M[f]?=some (.lst xs)):tyB "list" M (.c f)=true:=by
 simp only[tyB,h];rfl
theorem aI{g:AF}{M1 M2:Sto}{x:CD}(h1:f γ M=some (x,M1))(h2:g γ M1=some (xs,M2)):aB f g γ M=some (x::xs,M2):=by
 simp only[aB,h1,h2,Option.bind_some]
theorem aQ:aH γ M=some ([],M):=rfl
theorem mP{M1:Sto}(h:fa γ M=some (xs,M1))(hd:kU xs=some ds)(hl:ds.length<=500):eV fa γ M=some (.d (.tuple ds),M1):=by
 have:ds.length<=sizeLine:=sz (by omega);simp only[eV,h,Option.bind_some,hd,if_pos this]
theorem tW{T:String}{h:FM}{M1 M2 M3:Sto}{x z:CD}{ys:List CD}(hf:f γ M=some (x,M1))(ty:tyB T M1 x=true)(ha:fa γ M1=some (ys,M2))(hh:h x ys M2=some (z,M3)):aZ T h f fa γ M=some (z,M3):=by
 simp only[aZ,hf,Option.bind_some,ty,if_true,ha,hh]
theorem PD{M1:Sto}{x:CD}(h:f γ M=some (x,M1)):rP f γ M=some (.nx γ,M1):=by simp only[rP,h,Option.bind_some]
theorem aU{F:FN}{M1 M2:Sto}{y:CD}(ha:fa γ M=some (xs,M1))(h:F xs M1=some (y,M2)):aK F fa γ M=some (y,M2):=by simp only[aK,ha,Option.bind_some,h]
theorem ZJ{f:Nat}{x:Cell}(h:M[f]?=some x):f<M.length:=(List.getElem?_eq_some_iff.mp h).1
theorem NU{f:Nat}{n k:Int}{g4:Option CD}(dk:Dk M c (m+3))(hf:M[f]?=some (.lst xs))(ne:f≠c)(hl:xs.length<=500):
 ∃t g M',gK [some (.c c),some (I n),some (.c f),some (I k),g4] M=some (.nx [some (.c c),some (I n),some (.c f),some (I k),g],M')/\RdT t/\M'[f]?=some (.lst (xs++[.d (cQ false t)]))/\Dk M' c m:=by
 obtain⟨z,M1,p1,d1,o1,z0,z1⟩:=dk.pop;obtain⟨a,b,M2,ea,ba,d2,o2⟩:=aJS d1;have a1:bB (aZ "list" eE (aD 0) aH) (hName 4) [some (.c c),some (I n),some (.c f),some (I k),g4] M=some (.nx [some (.c c),some (I n),some (.c f),some (I k),some (I z)],M1):=bX (pop_at rfl dk.ty p1);have v4:aD 4 [some (.c c),some (I n),some (.c f),some (I k),some (I z)] M1=some (I z,M1):=rfl;have v3:aD 3 [some (.c c),some (I n),some (.c f),some (I k),some (I z)] M1=some (I k,M1):=rfl;have dv:=bV (k:=bS) v4 (bP (i:=100)) (rJ (by decide) (by decide));have l:=aKr (bV dv (bP (i:=100)) (dF (by decide))) (bV dv (bP (i:=10)) (dF (by decide)));obtain⟨j,hj,xj⟩:=uW (M:=M1) (ns:=[z / 100 % 100,z / 100 % 10]) (z:=k) (m:=2) (by decide) rfl;have ej:=bK l (bV (k:=bC) v3 (bP (i:=2)) (dF (by decide))) xj;have ei:=bV (k:=bC) v4 (bP (i:=100)) (dF (by decide));have f1:M1[f]?=some (.lst xs):=by rw[o1.at_ f ne];exact hf
 have f2:M2[f]?=some (.lst xs):=by rw[o2.at_ f ne];exact f1
 have e3:=aU (F:=nJ) (aI (show aD 0 [some (CD.c c),some (I n),some (.c f),some (I k),some (I z)] M1=some (.c c,M1)from rfl) aQ) ea;have et:=mP (aI ei (aI ej (aI e3 aQ))) (ds:=[.int (z % 100),.int j,.tuple [.int a,.int b]]) rfl (show(3:Nat)<=500 by decide);have n1:=C4 z (show(100:Int)≠0 by decide);have n2:=C1 z (show(0:Int)<100 by decide);have n3:=C4 (z / 100) (show(100:Int)≠0 by decide);have n4:=C1 (z / 100) (show(0:Int)<100 by decide);have n5:=C4 (z / 100) (show(10:Int)≠0 by decide);have n6:=C1 (z / 100) (show(0:Int)<10 by decide)
 have bj:0<=j/\j<100:=by
  simp only[List.mem_cons,List.not_mem_nil,or_false]at hj;rcases hj with rfl|rfl<;>omega
 refine⟨⟨z % 100,j,a,b⟩,some (I z),M2.set f (.lst (xs++[.d (cQ false ⟨z % 100,j,a,b⟩)])),?_,⟨⟨n1,n2⟩,bj,ba.a,ba.b,ba.g⟩,D8 (ZJ f2),d2.put ne⟩;unfold gK;rw[aW a1];have pu:=PQ (y:=.d (cQ false ⟨z % 100,j,a,b⟩)) f2 hl;exact PD (tW (show aD 2 [some (CD.c c),some (I n),some (.c f),some (I k),some (I z)] M1=some (.c f,M1)from rfl) (aEI f1) (aI et aQ) pu)
theorem IT{α:Type}{P:α->Prop}{xs:List α}{y:α}(h:∀x∈xs,P x)(hy:P y):∀x∈xs++[y],P x:=fun x hx=>by
 rcases List.mem_append.mp hx with q|q
 .exact h x q
 .rw[List.mem_singleton.mp q];exact hy
theorem aCh(n0:0<=n)(n6:n<=6)(dk:Dk M c (m+18)):∃(f:Nat)(ts:List Tie)(M':Sto),jT [.c c,I n] M=some (.c f,M')/\M'[f]?=some (.lst (ts.map fun t=>.d (cQ false t)))/\ts.length<=6/\(∀t∈ts,RdT t)/\Dk M' c m/\f≠c:=by
 obtain⟨N,hN⟩:∃N:Nat,n.toNat=N:=⟨_,rfl⟩;have N6:N<=6:=by omega
 have cl:=dk.lt;have ne:M.length≠c:=by omega
 have a1:bB (vL aH) (hName 2) [some (.c c),some (I n),none,none,none] M=some (.nx [some (.c c),some (I n),some (.c M.length),none,none],M++[.lst []]):=by
  have s0:(0:Nat)<=sizeLine:=F8 _;simp![s0]
 have rg:gT (aB (aD 1) aH) [some (.c c),some (I n),some (.c M.length),none,none] (M++[.lst []])=some (mF 0 N,M++[.lst []]):=by
  rw[<- hN];exact MY (J:=n) rfl (QP (by omega) (by omega))
 obtain⟨γ',M',lp,ts,g3,g4,rfl,h2,h3,h4,h5⟩:=xT (g:=hName 3) (b:=gK) (n:=N) (Inv:=fun k γ M1=>∃(ts:List Tie)(g3 g4:Option CD),γ=[some (.c c),some (I n),some (.c M.length),g3,g4]/\M1[M.length]?=some (.lst (ts.map fun t=>.d (cQ false t)))/\ts.length=k/\(∀t∈ts,RdT t)/\Dk M1 c (m+3*(N-k)))
  (fun k hk γ M1 i=>by
   obtain⟨ts,g3,g4,rfl,h2,h3,h4,h5⟩:=i;obtain⟨t,g,M2,e,bt,h6,h7⟩:=NU (n:=n) (k:=(k:Nat)) (g4:=g4) (m:=m+3*(N-(k+1))) (h5.le (by omega)) h2 ne (by rw[A2];omega);exact⟨_,_,M2,rfl,e,ts++[t],_,_,rfl,by rw[h6,E5];rfl,by rw[C0,h3];rfl,IT h4 bt,h7⟩)
  N 0 [some (.c c),some (I n),some (.c M.length),none,none] (M++[.lst []]) (by omega) ⟨[],none,none,rfl,yX,rfl,fun t h=>by simp at h,(dk.app).le (by omega)⟩
 refine⟨M.length,ts,M',eR rfl ?_,h2,by omega,h4,h5.le (by omega),ne⟩;unfold nO;show bG _ _ [some (.c c),some (I n),none,none,none] M=_;rw[aW a1,aW (vF rg lp)];rfl
theorem zI{k:F2}{M1:Sto}{a b c:CD}(h1:f γ M=some (a,M1))(h2:g γ M1=some (b,M1))(h:k a b M1=some (c,M1)):fOp k f g γ M=some (c,M1):=by
 simp only[fOp,h1,h2,Option.bind_some,h]
noncomputable def RdS(ns:List Int):Prop:=ns≠[]/\(∀k∈ns,0<=k/\k<100)/\ns.length<=20
theorem FF{g:GF}{e:EF}{E:CD->Prop}{Inv:Nat->Ga->Sto->Prop}
 (step:∀m x γ M,Inv (m+1) γ M->∃γ1,g x γ M=some (γ1,M)/\∃y M3,e γ1 M=some (y,M3)/\E y/\Inv m γ1 M3):
 ∀(xs:List CD)(γ:Ga)(M:Sto),Inv xs.length γ M->∃ys γ' M',lcF g eM e xs γ M=some (ys,M')/\(∀y∈ys,E y)/\ys.length=xs.length/\Inv 0 γ' M'
 |[]=>fun γ M i=>⟨[],γ,M,rfl,fun y h=>by simp at h,rfl,i⟩
 |x::xs=>fun γ M i=>by
  obtain⟨γ1,e1,y,M3,e4,hy,i3⟩:=step _ x γ M i;obtain⟨ys,γ',M',e3,h1,h2,h3⟩:=FF step xs γ1 M3 i3;refine⟨y::ys,γ',M',?_,fun z hz=>?_,by rw[B4,B4,h2],h3⟩
  .simp only[lcF,e1,Option.bind_some,eM,if_true,e4,e3]
  .rcases List.mem_cons.mp hz with rfl|hz
   .exact hy
   .exact h1 z hz
theorem IB:∀{ys:List CD},(∀y∈ys,∃i,y=I i/\(0<=i/\i<100))->∃ns:List Int,ys=(ns.map PyData.int).map .d/\∀n∈ns,0<=n/\n<100
 |[]=>fun _=>⟨[],rfl,fun n h=>by simp at h⟩
 |y::ys=>fun h=>by
  obtain⟨i,rfl,hi⟩:=h y B0;obtain⟨ns,rfl,hn⟩:=IB (ys:=ys) fun z hz=>h z (B1 _ hz);refine⟨i::ns,rfl,fun n hn'=>?_⟩;rcases List.mem_cons.mp hn' with rfl|q
  .exact hi
  .exact hn n q
theorem WG{g:Option CD}(dk:Dk M c (m+1)):∃i M1,fOp bC (aZ "list" eE (aD 0) aH) (fOp ixF fN (fOp bC (fOp bS (aD 1) (fC (.int 9))) (fC (.int 3)))) [some (.c c),some (I z),g] M=some (I i,M1)/\(0<=i/\i<100)/\Dk M1 c m/\Oth c M M1:=by
 obtain⟨y,M1,p1,d1,o1,y0,y1⟩:=dk.pop;have v1:aD 1 [some (.c c),some (I z),g] M1=some (I z,M1):=rfl;have dv:=bV (k:=bS) v1 (bP (i:=9)) (rJ (by decide) (by decide));have mm:=bV (k:=bC) dv (bP (i:=3)) (dF (by decide));obtain⟨v,hv,xv⟩:=uW (M:=M1) (ns:=[100,10,40]) (z:=z / 9) (m:=3) (by decide) rfl;have ek:=bK (k:=ixF) (uV [some (.c c),some (I z),g] M1) mm xv
 have bv:0<v/\v<=100:=by
  simp only[List.mem_cons,List.not_mem_nil,or_false]at hv;rcases hv with rfl|rfl|rfl<;>omega
 have n1:=C4 y (show v≠0 by omega);have n2:=C1 y (show 0<v by omega);exact⟨y % v,M1,zI (pop_at rfl dk.ty p1) ek (dF bv.1),⟨n1,by omega⟩,d1,o1⟩
theorem KL{f:Nat}{n k z:Int}(dk:Dk M c (m+6))(hf:M[f]?=some (.lst xs))(ne:f≠c):
 ∃ns M1,iU [some (.c c),some (I n),some (.c f),some (I k),some (I z)] M=some (.d (.list (ns.map .int)),M1)/\RdS ns/\M1[f]?=some (.lst xs)/\Dk M1 c m:=by
 have n1:=C4 z (show(6:Int)≠0 by decide);have n2:=C1 z (show(0:Int)<6 by decide)
 have rg:gT (aB (fOp dX (fC (.int 1)) (fOp bC (aD 4) (fC (.int 6)))) aH) [some (.c c),some (I n),some (.c f),some (I k),some (I z)] M=some (mF 0 (1+z % 6).toNat,M):=
  MY (J:=1+z % 6) (aI (bV bP (bV (k:=bC) (show aD 4 [some (CD.c c),some (I n),some (.c f),some (I k),some (I z)] M=some (I z,M)from rfl) (bP (i:=6)) (dF (by decide))) DQ) aQ) (QP (by omega) (by omega))
 have hlen:(mF 0 (1+z % 6).toNat).length<=6:=by rw[RB];omega
 obtain⟨ys,γ',M1,e,hy,hl,h1,h2,h3⟩:=FF (g:=hName 2) (e:=fOp bC (aZ "list" eE (aD 0) aH) (fOp ixF fN (fOp bC (fOp bS (aD 1) (fC (.int 9))) (fC (.int 3))))) (E:=fun y=>∃i,y=I i/\(0<=i/\i<100)) (Inv:=fun p γ M1=>(∃g,γ=[some (.c c),some (I z),g])/\Dk M1 c (m+p)/\M1[f]?=some (.lst xs))
  (fun p x γ M1 i=>by
   obtain⟨⟨g,rfl⟩,d1,f1⟩:=i;refine⟨[some (.c c),some (I z),some x],rfl,?_⟩;obtain⟨i,M2,e,bi,d2,o2⟩:=WG (m:=m+p) (z:=z) (g:=some x) d1;exact⟨_,M2,e,⟨i,rfl,bi⟩,⟨_,rfl⟩,d2,by rw[o2.at_ f ne];exact f1⟩)
  (mF 0 (1+z % 6).toNat) [some (.c c),some (I z),none] M ⟨⟨none,rfl⟩,dk.le (by omega),hf⟩
 obtain⟨ns,rfl,hn⟩:=IB hy;rw[A2,A2,RB]at hl;refine⟨ns,M1,?_,⟨fun q=>by rw[q,U7]at hl;omega,hn,by omega⟩,h3,h2⟩;unfold iU;exact iQ rg (by omega) e (by rw[A2];omega)
theorem KZ{f:Nat}{n k:Int}{g4:Option CD}(dk:Dk M c (m+7))(hf:M[f]?=some (.lst xs))(ne:f≠c)(hl:xs.length<=500):
 ∃ns g M',fL [some (.c c),some (I n),some (.c f),some (I k),g4] M=some (.nx [some (.c c),some (I n),some (.c f),some (I k),g],M')/\RdS ns/\M'[f]?=some (.lst (xs++[.d (sqK false ns)]))/\Dk M' c m:=by
 obtain⟨z,M1,p1,d1,o1,z0,z1⟩:=dk.pop;have f1:M1[f]?=some (.lst xs):=by rw[o1.at_ f ne];exact hf
 have a1:bB (aZ "list" eE (aD 0) aH) (hName 4) [some (.c c),some (I n),some (.c f),some (I k),g4] M=some (.nx [some (.c c),some (I n),some (.c f),some (I k),some (I z)],M1):=bX (pop_at rfl dk.ty p1);obtain⟨ns,M2,ec,bs,f2,d2⟩:=KL (n:=n) (k:=k) (z:=z) (m:=m) d1 f1 ne;have et:=aU (F:=eC) (aI ec aQ) (show eC [.d (.list (ns.map .int))] M2=some (.d (sqK false ns),M2)from rfl);have pu:=PQ (y:=.d (sqK false ns)) f2 hl;refine⟨ns,some (I z),M2.set f (.lst (xs++[.d (sqK false ns)])),?_,bs,D8 (ZJ f2),d2.put ne⟩;unfold fL;rw[aW a1];exact PD (tW (show aD 2 [some (CD.c c),some (I n),some (.c f),some (I k),some (I z)] M1=some (.c f,M1)from rfl) (aEI f1) (aI et aQ) pu)
theorem aBi(n0:0<=n)(n6:n<=5)(dk:Dk M c (m+35)):∃(f:Nat)(ss:List (List Int))(M':Sto),hZ [.c c,I n] M=some (.c f,M')/\M'[f]?=some (.lst (ss.map fun t=>.d (sqK false t)))/\ss.length<=5/\(∀t∈ss,RdS t)/\Dk M' c m/\f≠c:=by
 obtain⟨N,hN⟩:∃N:Nat,n.toNat=N:=⟨_,rfl⟩;have N6:N<=5:=by omega
 have cl:=dk.lt;have ne:M.length≠c:=by omega
 have a1:bB (vL aH) (hName 2) [some (.c c),some (I n),none,none,none] M=some (.nx [some (.c c),some (I n),some (.c M.length),none,none],M++[.lst []]):=by
  have s0:(0:Nat)<=sizeLine:=F8 _;simp![s0]
 have rg:gT (aB (aD 1) aH) [some (.c c),some (I n),some (.c M.length),none,none] (M++[.lst []])=some (mF 0 N,M++[.lst []]):=by
  rw[<- hN];exact MY (J:=n) rfl (QP (by omega) (by omega))
 obtain⟨γ',M',lp,ss,g3,g4,rfl,h2,h3,h4,h5⟩:=xT (g:=hName 3) (b:=fL) (n:=N) (Inv:=fun k γ M1=>∃(ss:List (List Int))(g3 g4:Option CD),γ=[some (.c c),some (I n),some (.c M.length),g3,g4]/\M1[M.length]?=some (.lst (ss.map fun t=>.d (sqK false t)))/\ss.length=k/\(∀t∈ss,RdS t)/\Dk M1 c (m+7*(N-k)))
  (fun k hk γ M1 i=>by
   obtain⟨ss,g3,g4,rfl,h2,h3,h4,h5⟩:=i;obtain⟨t,g,M2,e,bt,h6,h7⟩:=KZ (n:=n) (k:=(k:Nat)) (g4:=g4) (m:=m+7*(N-(k+1))) (h5.le (by omega)) h2 ne (by rw[A2];omega);exact⟨_,_,M2,rfl,e,ss++[t],_,_,rfl,by rw[h6,E5];rfl,by rw[C0,h3];rfl,IT h4 bt,h7⟩)
  N 0 [some (.c c),some (I n),some (.c M.length),none,none] (M++[.lst []]) (by omega) ⟨[],none,none,rfl,yX,rfl,fun t h=>by simp at h,(dk.app).le (by omega)⟩
 refine⟨M.length,ss,M',eR rfl ?_,h2,by omega,h4,h5.le (by omega),ne⟩;unfold mJ;show bG _ _ [some (.c c),some (I n),none,none,none] M=_;rw[aW a1,aW (vF rg lp)];rfl
noncomputable def OkV(n:Int)(us:List Tie):Prop:=(∀t∈us,gW t.a t.b=true/\0<=t.i/\t.i<t.j/\t.j<n)/\(us.map Tie.key).Nodup
theorem aFI(ok:OkV n us)(h0:0<=i)(h1:i<j)(h2:j<n)(hw:gW a b=true):∃vs,putD (bE us) [.inl i,.inl j] (.d (.tuple [.int a,.int b]))=bE vs/\OkV n vs/\vs.length<=us.length+1:=by
 unfold putD;by_cases c:((bE us).any fun kv=>decide (kv.1=[.inl i,.inl j]))=true
 .rw[A4 c];refine⟨us.map fun t=>if t.key=[.inl i,.inl j]then⟨t.i,t.j,a,b⟩else t,?_,⟨fun t ht=>?_,?_⟩,by rw[A2];omega⟩
  .unfold bE;rw[B6,B6];refine O0 fun t _=>?_;show(if t.key=_ then(t.key,CD.d (.tuple [.int a,.int b]))else(t.key,t.val))=_;by_cases q:t.key=[.inl i,.inl j]
   .rw[A4 q];show(t.key,CD.d (.tuple [.int a,.int b]))=((if t.key=[.inl i,.inl j]then(⟨t.i,t.j,a,b⟩:Tie)else t).key,(if t.key=[.inl i,.inl j]then(⟨t.i,t.j,a,b⟩:Tie)else t).val);rw[A4 q];rfl
   .rw[A5 q];show(t.key,t.val)=((if t.key=[.inl i,.inl j]then(⟨t.i,t.j,a,b⟩:Tie)else t).key,(if t.key=[.inl i,.inl j]then(⟨t.i,t.j,a,b⟩:Tie)else t).val);rw[A5 q]
  .obtain⟨s,hs,rfl⟩:=List.mem_map.mp ht;obtain⟨a1,a2,a3,a4⟩:=ok.1 s hs;split
   .exact⟨hw,a2,a3,a4⟩
   .exact⟨a1,a2,a3,a4⟩
  .rw[B6,show us.map (Tie.key ∘ fun t=>if t.key=[.inl i,.inl j]then(⟨t.i,t.j,a,b⟩:Tie)else t)=us.map Tie.key from O0 fun t _=>by
    show(if t.key=[.inl i,.inl j]then(⟨t.i,t.j,a,b⟩:Tie)else t).key=t.key;split<;>rfl]
   exact ok.2
 .rw[A5 c];refine⟨us++[⟨i,j,a,b⟩],by unfold bE;rw[E5];rfl,⟨fun t ht=>?_,?_⟩,by rw[C0,E7];omega⟩
  .rcases List.mem_append.mp ht with h|h
   .exact ok.1 t h
   .rw[List.mem_singleton.mp h];exact⟨hw,h0,h1,h2⟩
  .rw[E5,List.map_singleton];refine List.nodup_append.mpr ⟨ok.2,by simp,fun k hk l hl q=>?_⟩;rw[List.mem_singleton.mp hl]at q;subst q;obtain⟨t,ht,e⟩:=List.mem_map.mp hk;refine c (List.any_eq_true.mpr ⟨(t.key,t.val),List.mem_map.mpr ⟨t,ht,rfl⟩,?_⟩);rw[e];exact C5 rfl
theorem aHo:CN [I i,I j] M=some (I (if j<i then j else i),M):=rfl
theorem aHN:DR [I i,I j] M=some (I (if j > i then j else i),M):=rfl
theorem s2:(2:Nat)<=sizeLine:=by decide
theorem aCk{fo fv:EF}{fk:KF}{M1 M2:Sto}{v o:CD}{k:KY}(hv:fv γ M=some (v,M1))(ho:fo γ M1=some (o,M1))(hk:fk γ M1=some (k,M1))(hs:yZ M1 o k v=some M2):sZ fo fk fv γ M=some (.nx γ,M2):=by
 simp only[sZ,hv,ho,hk,hs,Option.bind_some]
noncomputable def DU(z:Int):List PyData:=[.tuple [.int 1,.int 1],.tuple [.int 1,.int 2],.tuple [.int 3,.int 4],.tuple [.int 1000000000000,.int 1],.tuple [.int 1,.int 55440],.tuple [.int 5,.int 12],.tuple [.int 999999999997,.int 7],.tuple [.int 0,.int 1],.tuple [.int (z / 9 % 99),.int 1]]
theorem aBJ{x:Int}(h0:0<=x)(h1:x<99):gW x 1=true:=by
 unfold gW;have g:Int.gcd x 1=1:=Int.gcd_one_right x;rw[C5 h0,g,C5 (show x<=1000000000000 by omega)];rfl
theorem XI(h:d∈DU z):∃a b,d=.tuple [.int a,.int b]/\gW a b=true:=by
 have n1:=C4 (z / 9) (show(99:Int)≠0 by decide);have n2:=C1 (z / 9) (show(0:Int)<99 by decide);simp only[DU,List.mem_cons,List.not_mem_nil,or_false]at h;rcases h with rfl|rfl|rfl|rfl|rfl|rfl|rfl|rfl|rfl
 all_goals first
  |exact⟨_,_,rfl,aBJ n1 n2⟩
  |exact⟨_,_,rfl,by decide +kernel⟩
noncomputable abbrev GT(c:Nat)(n:Int)(d:Nat)(g3 g4 g5 g6 g7:Option CD):Ga:=[some (.c c),some (I n),some (.c d),g3,g4,g5,g6,g7]
theorem SL{d L:Nat}{k:Int}{g4 g5 g6 g7:Option CD}(n0:0<n)(dk:Dk M c (m+1))(hd:M[d]?=some (.dt (bE us)))(ok:OkV n us)(hl:us.length<=500)(ne:d≠c):
 ∃g4' g5' g6' g7' M' vs,iE (GT c n d (some (I k)) g4 g5 g6 g7) M=some (.nx (GT c n d (some (I k)) g4' g5' g6' g7'),M')/\Dk M' c m/\M'[d]?=some (.dt (bE vs))/\OkV n vs/\vs.length<=us.length+1:=by
 obtain⟨z,M1,p1,d1,o1,z0,z1⟩:=dk.pop;have u1:M1[d]?=some (.dt (bE us)):=by rw[o1.at_ d ne];exact hd
 have a1:bB (aZ "list" eE (aD 0) aH) (hName 4) (GT c n d (some (I k)) g4 g5 g6 g7) M=some (.nx (GT c n d (some (I k)) (some (I z)) g5 g6 g7),M1):=bX (pop_at rfl dk.ty p1);have v4:∀a b e,aD 4 (GT c n d (some (I k)) (some (I z)) a b e) M1=some (I z,M1):=fun _ _ _=>rfl;have v1:∀a b e,aD 1 (GT c n d (some (I k)) (some (I z)) a b e) M1=some (I n,M1):=fun _ _ _=>rfl;have a2:bB (fOp bC (aD 4) (aD 1)) (hName 5) (GT c n d (some (I k)) (some (I z)) g5 g6 g7) M1=some (.nx (GT c n d (some (I k)) (some (I z)) (some (I (z % n))) g6 g7),M1):=bX (bV (v4 _ _ _) (v1 _ _ _) (dF n0));have a3:bB (fOp bC (fOp bS (aD 4) (fC (.int 41))) (aD 1)) (hName 6) (GT c n d (some (I k)) (some (I z)) (some (I (z % n))) g6 g7) M1=some (.nx (GT c n d (some (I k)) (some (I z)) (some (I (z % n))) (some (I (z / 41 % n))) g7),M1):=bX (bV (bV (v4 _ _ _) (bP (i:=41)) (rJ (by decide) (by decide))) (v1 _ _ _) (dF n0));have a4:=bX (i:=7) (yY (GT c n d (some (I k)) (some (I z)) (some (I (z % n))) (some (I (z / 41 % n))) g7) M1);have i0:=C4 z (show n≠0 by omega);have i1:=C1 z n0;have j0:=C4 (z / 41) (show n≠0 by omega);have j1:=C1 (z / 41) n0;unfold iE;rw[aW a1,aW a2,aW a3,aW a4];generalize hi:z % n=i at i0 i1;generalize hj:z / 41 % n=j at j0 j1;generalize hK:CD.d (PyData.list [.tuple [.int 1,.int 1],.tuple [.int 1,.int 2],.tuple [.int 3,.int 4],.tuple [.int 1000000000000,.int 1],.tuple [.int 1,.int 55440],.tuple [.int 5,.int 12],.tuple [.int 999999999997,.int 7],.tuple [.int 0,.int 1]])=KK;show ∃g4' g5' g6' g7' M' vs,sIf (gB (fOp (eqX true) (aD 5) (aD 6))) _ cP (GT c n d (some (I k)) (some (I z)) (some (I i)) (some (I j)) (some KK)) M1=_/\_
 have tA:gB (fOp (eqX true) (aD 5) (aD 6)) (GT c n d (some (I k)) (some (I z)) (some (I i)) (some (I j)) (some KK)) M1=some (!(i==j),M1):=by
  simp![aGz]
 cases h:(!(i==j))with
 |false=>
  rw[uA (tA.trans (by rw[h]))];exact⟨_,_,_,_,M1,us,rfl,d1,u1,ok,by omega⟩
 |true=>
  rw[aEB (tA.trans (by rw[h]))];have nij:i≠j:=by simpa using h
  obtain⟨w,hw,hm⟩:=tU (ds:=DU z) (k:=z / 1700) (m:=9) (by decide) rfl;obtain⟨a,b,rfl,wg⟩:=XI hm
  have e1:dO (aB (eV (aB (fOp bC (fOp bS (aD 4) (fC (.int 9))) (fC (.int 99))) (aB (fC (.int 1)) aH))) aH) (GT c n d (some (I k)) (some (I z)) (some (I i)) (some (I j)) (some KK)) M1=some (.d (.list [.tuple [.int (z / 9 % 99),.int 1]]),M1):=by
   have t:=mP (aI (bV (k:=bC) (bV (k:=bS) (v4 (some (I i)) (some (I j)) (some KK)) (bP (i:=9)) (rJ (by decide) (by decide))) (bP (i:=99)) (dF (by decide))) (aI (bP (i:=1)) aQ)) (ds:=[.int (z / 9 % 99),.int 1]) rfl (show(2:Nat)<=500 by decide);unfold dO;rw[aI t aQ,A1];show(some [PyData.tuple [.int (z / 9 % 99),.int 1]]).bind _=_;rw[A1];exact A4 (s9 (show(1:Nat)<=9 by decide))
  have e2:fOp dX (aD 7) (dO (aB (eV (aB (fOp bC (fOp bS (aD 4) (fC (.int 9))) (fC (.int 99))) (aB (fC (.int 1)) aH))) aH)) (GT c n d (some (I k)) (some (I z)) (some (I i)) (some (I j)) (some KK)) M1=some (.d (.list (DU z)),M1):=by
   refine bK (a:=KK) rfl e1 ?_;subst hK;exact yE (show(8+1:Nat)<=1000 by decide)
  have ev:=bK (k:=ixF) e2 (bV (k:=bC) (bV (k:=bS) (v4 (some (I i)) (some (I j)) (some KK)) (bP (i:=1700)) (rJ (by decide) (by decide))) (bP (i:=9)) (dF (by decide))) (show ixF (.d (.list (DU z))) (I (z / 1700 % 9)) M1=some (.d (.tuple [.int a,.int b]),M1)by
   show(atI (DU z) (z / 1700 % 9)).bind _=_;rw[hw];rfl)
  obtain⟨vs,w1,w2,w3⟩:=aFI (i:=if j<i then j else i) (j:=if j > i then j else i) ok (by split<;>omega) (by split<;>split<;>omega) (by split<;>omega) wg;have ll:(bE us).length<sizeLine:=by unfold bE;rw[A2,F0];omega
  have sd:yZ M1 (.c d) (.inr [.inl (if j<i then j else i),.inl (if j > i then j else i)]) (.d (.tuple [.int a,.int b]))=some (M1.set d (.dt (bE vs))):=by
   simp only[yZ,u1,if_pos ll,w1]
  have ek:xP (aB (aK CN (aB (aD 5) (aB (aD 6) aH))) (aB (aK DR (aB (aD 5) (aB (aD 6) aH))) aH)) (GT c n d (some (I k)) (some (I z)) (some (I i)) (some (I j)) (some KK)) M1=some (.inr [.inl (if j<i then j else i),.inl (if j > i then j else i)],M1):=by
   simp![xP,aHo,aHN,keysOf,keyOf,s2]
  exact⟨_,_,_,_,M1.set d (.dt (bE vs)),vs,aCk ev rfl ek sd,d1.put ne,D8 (ZJ u1),w2,w3⟩
theorem aJB{t:Tie}(nd:(us.map Tie.key).Nodup)(ht:t∈us):lkC (bE us) t.key=some t.val:=by
 unfold lkC bE;rw[List.find?_map]
 have:us.find? ((fun kv:List Key×CD=>decide (kv.1=t.key)) ∘ fun t=>(t.key,t.val))=some t:=by
  induction us with
  |nil=>simp at ht
  |cons s us ih=>
   rw[B2,List.nodup_cons]at nd;by_cases e:s.key=t.key
   .rcases List.mem_cons.mp ht with rfl|h
    .rw[List.find?_cons_of_pos (by simp)]
    .exact absurd (List.mem_map.mpr ⟨t,h,e.symm⟩) nd.1
   .rw[List.find?_cons_of_neg (by simpa using e)];rcases List.mem_cons.mp ht with rfl|h
    .exact absurd rfl e
    .exact ih nd.2 h
 rw[this];rfl
theorem JY{α:Type}{e:EF}{M:Sto}{x0:Option CD}(f:α->CD)(h:α->PyData):∀(xs:List α)(g:Option CD),(∀x∈xs,e [x0,some (f x)] M=some (.d (h x),M))->lcF (hName 1) eM e (xs.map f) [x0,g] M=some ((xs.map h).map .d,M)
 |[]=>fun _ _=>rfl
 |x::xs=>fun g he=>by
  have ih:=JY (M:=M) (e:=e) (x0:=x0) f h xs (some (f x)) fun y hy=>he y (B1 _ hy);have e1:=he x B0;rw[B2,B2,B2];show(hName 1 (f x) [x0,g] M).bind _=_;rw[show hName 1 (f x) [x0,g] M=some ([x0,some (f x)],M)from rfl,A1];show(eM _ M).bind _=_;rw[show eM [x0,some (f x)] M=some (true,M)from rfl,A1,A4 rfl,e1,A1];dsimp only;rw[ih,A1]
theorem VD{c d:Nat}{n:Int}{g3 g4 g5 g6 g7:Option CD}(hd:M[d]?=some (.dt (bE us)))(nd:(us.map Tie.key).Nodup)(hl:us.length<=20):
 ∃vs:List Tie,vs.Perm us/\vs.Pairwise Tie.lt/\mD (GT c n d g3 g4 g5 g6 g7) M=some (.d (.list (bA vs)),M):=by
 obtain⟨vs,pm,pw,sr,_⟩:=CV rf0 nd (by omega);have lv:vs.length=us.length:=pm.length_eq;refine⟨vs,pm,pw,?_⟩
 have sk:pP [.c d] M=some (.d (.list (vs.map fun t=>.tuple (f0 t))),M):=by
  have e:(bE us).map (fun kv=>kv.1.map xG)=us.map f0:=by unfold bE;rw[B6];rfl
  simp only[pP,hd,e,sr,Option.bind_some]
 have it:aX (aK pP (aB (aD 2) aH)) (GT c n d g3 g4 g5 g6 g7) M=some (vs.map fun t=>.d (.tuple (f0 t)),M):=by
  have:=aU (F:=pP) (aI (show aD 2 (GT c n d g3 g4 g5 g6 g7) M=some (.c d,M)from rfl) aQ) sk;unfold aX;rw[this,A1];show(some (vs.map fun t=>PyData.tuple (f0 t))).bind _=_;rw[A1,B6];rfl
 unfold mD;refine iQ it (by rw[A2];omega) ?_ (by unfold bA;rw[A2];omega);rw[show jO [some 2,none] (GT c n d g3 g4 g5 g6 g7)=[some (.c d),none]from rfl];refine JY (x0:=some (.c d)) (fun t=>.d (.tuple (f0 t))) (fun t=>.tuple (f2 t)) vs none fun t ht=>?_
 have lk:atD M (.c d) (.inr [.inl t.i,.inl t.j])=some (some t.val):=by
  simp only[atD,hd];exact O1 some (aJB nd (pm.mem_iff.mp ht))
 have g:EN (aD 0) (aD 1) [some (.c d),some (.d (.tuple (f0 t)))] M=some (t.val,M):=by
  show((keysOf ((f0 t).map CD.d)).bind fun ks=>(atD M (.c d) (.inr ks)).bind fun r=>r.bind fun x=>some (x,M))=_;rw[show keysOf ((f0 t).map CD.d)=some [.inl t.i,.inl t.j]from rfl,A1,lk];rfl
 have tt:=mP (aI g aQ) (ds:=[.tuple [.int t.a,.int t.b]]) rfl (show(1:Nat)<=500 by decide);exact bK (show aD 1 [some (CD.c d),some (.d (.tuple (f0 t)))] M=some (.d (.tuple (f0 t)),M)from rfl) tt (aBK (show(2+1:Nat)<=1000 by decide))
theorem aHr(n0:1<=n)(dk:Dk M c (m+9)):∃(vs:List Tie)(M':Sto),lF [.c c,I n] M=some (.d (.list (bA vs)),M')/\OkV n vs/\vs.Pairwise Tie.lt/\vs.length<=8/\Dk M' c m:=by
 have cl:=dk.lt;have ne:M.length≠c:=by omega
 have a1:bB uY (hName 2) [some (.c c),some (I n),none,none,none,none,none,none] M=some (.nx (GT c n M.length none none none none none),M++[.dt []]):=rfl;have dk1:=dk.app (L:=[Cell.dt []]);obtain⟨z,M1,p1,d1,o1,z0,z1⟩:=dk1.pop;have u1:M1[M.length]?=some (.dt (bE [])):=by rw[o1.at_ _ ne];exact yX
 have n1:=C4 z (show(9:Int)≠0 by decide);have n2:=C1 z (show(0:Int)<9 by decide);obtain⟨N,hN⟩:∃N:Nat,(z % 9).toNat=N:=⟨_,rfl⟩;have N8:N<=8:=by omega
 have rg:gT (aB (fOp bC (aZ "list" eE (aD 0) aH) (fC (.int 9))) aH) (GT c n M.length none none none none none) (M++[.dt []])=some (mF 0 N,M1):=by
  have e:=aI (zI (pop_at (γ:=GT c n M.length none none none none none) (v:=0) rfl dk1.ty p1) (bP (i:=9)) (dF (by decide))) aQ;have sm:jL (z % 9)=true:=QP (by omega) (by omega);unfold gT;rw[e,A1];dsimp only;rw[A4 sm,hN]
 obtain⟨γ',M',lp,us,g3,g4,g5,g6,g7,rfl,h2,h3,h4,h5⟩:=xT (g:=hName 3) (b:=iE) (n:=N) (Inv:=fun k γ M2=>∃(us:List Tie)(g3 g4 g5 g6 g7:Option CD),γ=GT c n M.length g3 g4 g5 g6 g7/\M2[M.length]?=some (.dt (bE us))/\us.length<=k/\OkV n us/\Dk M2 c (m+(N-k)))
  (fun k hk γ M2 i=>by
   obtain⟨us,g3,g4,g5,g6,g7,rfl,h2,h3,h4,h5⟩:=i;obtain⟨q4,q5,q6,q7,M3,vs,e,e2,e3,e4,e5⟩:=SL (L:=0) (n:=n) (k:=(k:Nat)) (g4:=g4) (g5:=g5) (g6:=g6) (g7:=g7) (m:=m+(N-(k+1))) (by omega) (h5.le (by omega)) h2 h4 (by omega) ne;exact⟨_,_,M3,rfl,e,vs,_,_,_,_,_,rfl,e3,by omega,e4,e2⟩)
  N 0 (GT c n M.length none none none none none) M1 (by omega) ⟨[],none,none,none,none,none,rfl,u1,A8 _,⟨fun t h=>by simp at h,List.nodup_nil⟩,d1.le (by omega)⟩
 obtain⟨vs,pm,pw,cp⟩:=VD (c:=c) (n:=n) (g3:=g3) (g4:=g4) (g5:=g5) (g6:=g6) (g7:=g7) h2 h4.2 (by omega);refine⟨vs,M',eR rfl ?_,⟨fun t ht=>h4.1 t (pm.mem_iff.mp ht),(pm.map Tie.key).nodup_iff.mpr h4.2⟩,pw,by rw[pm.length_eq];omega,h5.le (by omega)⟩;unfold qT;show bG _ _ [some (.c c),some (I n),none,none,none,none,none,none] M=_;rw[aW a1,aW (vF rg lp)];simp only[bO,cp,Option.bind_some]
noncomputable def spl(c:Nat):List Nat->List (List Nat)
 |[]=>[[]]
 |a::r=>if a=c then[]::spl c r else match spl c r with
  |[]=>[[a]]
  |p::ps=>(a::p)::ps
noncomputable def DT(c:Nat):List (List Nat)->List Nat
 |[]=>[]
 |[p]=>p
 |p::q::ps=>p++c::DT c (q::ps)
theorem ET(c:Nat):∀xs,∃p ps,spl c xs=p::ps
 |[]=>⟨[],[],rfl⟩
 |a::r=>by
  unfold spl;by_cases h:a=c
  .rw[A4 h];exact⟨_,_,rfl⟩
  .rw[A5 h];obtain⟨p,ps,e⟩:=ET c r;rw[e];exact⟨_,_,rfl⟩
theorem tZ{c:Nat}:∀{xs:List Nat},c∉xs->spl c xs=[xs]
 |[]=>fun _=>rfl
 |a::r=>fun h=>by
  have h1:a≠c:=fun e=>h (by rw[e];exact B0);have h2:=tZ (c:=c) (xs:=r) fun q=>h (B1 _ q);unfold spl;rw[A5 h1,h2]
theorem PP{c:Nat}:∀{xs ys:List Nat},c∉xs->spl c (xs++c::ys)=xs::spl c ys
 |[],ys=>fun _=>by
  show spl c (c::ys)=_;rw[spl,A4 rfl]
 |a::r,ys=>fun h=>by
  have h1:a≠c:=fun e=>h (by rw[e];exact B0);have h2:=PP (c:=c) (xs:=r) (ys:=ys) fun q=>h (B1 _ q);show spl c (a::(r++c::ys))=_;rw[spl,A5 h1,h2]
theorem GB{c:Nat}:∀(xs ys:List Nat),spl c (xs++c::ys)=spl c xs++spl c ys
 |[]=>fun ys=>by
  show spl c (c::ys)=[]::spl c ys;rw[spl,A4 rfl]
 |a::r=>fun ys=>by
  have ih:=GB (c:=c) r ys;show spl c (a::(r++c::ys))=spl c (a::r)++_;rw[spl,spl,ih];by_cases h:a=c
  .rw[A4 h,A4 h];rfl
  .rw[A5 h,A5 h];obtain⟨p,ps,e⟩:=ET c r;rw[e];rfl
theorem AA{c:Nat}:∀{ps:List (List Nat)},ps≠[]->(∀p∈ps,c∉p)->spl c (DT c ps)=ps
 |[]=>fun h _=>absurd rfl h
 |[p]=>fun _ h=>tZ (h p B0)
 |p::q::ps=>fun _ h=>by
  show spl c (p++c::DT c (q::ps))=_;rw[PP (h p B0),AA (ps:=q::ps) (by simp) fun r hr=>h r (B1 _ hr)]
noncomputable abbrev sg(x:Str):List Nat:=x.cps.toList
theorem cU(x y:Str):sg (x++y)=sg x++sg y:=by
 show(x.cps++y.cps).toList=_;rw[Array.toList_append]
theorem FW(c:Nat):∀ps:List Str,sg (Str.join ⟨#[c]⟩ ps)=DT c (ps.map sg)
 |[]=>rfl
 |[p]=>rfl
 |p::q::ps=>by
  show sg (p++⟨#[c]⟩++Str.join ⟨#[c]⟩ (q::ps))=_;rw[cU,cU,FW c (q::ps)];show(sg p++[c])++_=sg p++c::DT c ((q::ps).map sg);rw[E8];rfl
theorem XJ(x:Str)(c:Nat):Txt.split x ⟨#[c]⟩≠[]:=by
 unfold Txt.split;split
 .simp
 .split
  .simp
  .intro h;have:=length_partsBetween x (Builtin.Str.occurrences x ⟨#[c]⟩ 0 x.length (x.length+1)) (⟨#[c]⟩:Str).length;rw[h]at this;simp at this
theorem qB(x:Str)(c:Nat):(Txt.split x ⟨#[c]⟩).map sg=spl c (sg x):=by
 have h1:Str.join ⟨#[c]⟩ (Txt.split x ⟨#[c]⟩)=x:=StrLaws.join_split x ⟨#[c]⟩;have h2:=StrLaws.split_free x c;have h3:=FW c (Txt.split x ⟨#[c]⟩);rw[h1]at h3
 rw[h3,AA (by intro q;exact XJ x c (List.map_eq_nil_iff.mp q)) fun p hp=>by
  obtain⟨q,hq,rfl⟩:=List.mem_map.mp hp;exact h2 q hq]
noncomputable def wds(xs:List Nat):List (List Nat):=(spl 32 xs).filter fun p=>!p.isEmpty
theorem FZ(xs ys:List Nat):wds (xs++32::ys)=wds xs++wds ys:=by
 unfold wds;rw[GB,List.filter_append]
theorem aDs:wds []=[]:=rfl
theorem IR{w:List Nat}(h:32∉w)(hn:w≠[]):wds w=[w]:=by
 unfold wds;rw[tZ h];cases w with
 |nil=>exact absurd rfl hn
 |cons a r=>rfl
theorem GN:∀(n:Nat)(ys:List Nat),wds (List.replicate n 32++ys)=wds ys
 |0=>fun _=>rfl
 |n+1=>fun ys=>by
  rw[List.replicate_succ];show wds ([]++32::(List.replicate n 32++ys))=_;rw[FZ,GN n ys];rfl
theorem aCO(xs:List Nat):∀n:Nat,wds (xs++List.replicate n 32)=wds xs
 |0=>by rw[List.replicate_zero,C3]
 |n+1=>by
  rw[List.replicate_succ,FZ];have:=GN n [];rw[C3]at this;rw[this,aDs,C3]
noncomputable def fZ(xs:List Nat):List (List (List Nat)):=((spl 10 xs).map wds).filter fun p=>!p.isEmpty
theorem qL(xs ys:List Nat):fZ (xs++10::ys)=fZ xs++fZ ys:=by
 unfold fZ;rw[GB,E5,List.filter_append]
theorem XA{xs:List Nat}(h:10∉xs):fZ xs=if (wds xs).isEmpty then[]else[wds xs]:=by
 unfold fZ;rw[tZ h];show[wds xs].filter _=_;cases q:(wds xs).isEmpty<;>simp[q]
theorem AL:fZ []=[]:=rfl
noncomputable def jn(n:Nat):List (List Nat)->List Nat
 |[]=>[]
 |[p]=>p
 |p::q::ps=>p++List.replicate (n+1) 32++jn n (q::ps)
theorem WW(n:Nat):∀{ws:List (List Nat)},(∀w∈ws,32∉w/\w≠[])->wds (jn n ws)=ws
 |[]=>fun _=>rfl
 |[p]=>fun h=>IR (h p B0).1 (h p B0).2
 |p::q::ps=>fun h=>by
  have ih:=WW n (ws:=q::ps) fun w hw=>h w (B1 _ hw);show wds (p++List.replicate (n+1) 32++jn n (q::ps))=_;rw[List.replicate_succ,E8,List.cons_append,FZ,IR (h p B0).1 (h p B0).2,GN,ih];rfl
noncomputable abbrev dg(m:Nat):List Nat:=(Nat.toDigits 10 m).map Char.toNat
theorem fY(m:Nat):sg (sI (m:Int))=dg m:=PySem.W.KIN.signs_num m
theorem oV(h:m<10):dg m=[48+m]:=by
 have:∀d:Nat,d<10->(Nat.toDigits 10 d).map Char.toNat=[48+d]:=by decide
 exact this m h
theorem FA(h:¬m<10):dg m=dg (m / 10)++[48+m % 10]:=by
 have hm:m % 10<10:=Nat.mod_lt m (by decide);have t:Nat.toDigits 10 (m / 10)++Nat.toDigits 10 (m % 10)=Nat.toDigits 10 (10*(m / 10)+m % 10):=Nat.toDigits_append_toDigits (by decide) (by omega) hm;rw[Nat.div_add_mod]at t;show(Nat.toDigits 10 m).map Char.toNat=_;rw[<- t,E5];show dg (m / 10)++dg (m % 10)=_;rw[oV hm]
theorem tE:∀(k m:Nat),m<10 ^ (k+1)->(dg m).length<=k+1/\0<(dg m).length
 |k,m,h=>by
  by_cases q:m<10
  .rw[oV q];exact⟨by show 1<=k+1;omega,by show 0<1;decide⟩
  .rw[FA q];cases k with
   |zero=>exact absurd h (by simpa using q)
   |succ k=>
    have h2:m / 10<10 ^ (k+1):=by
     refine Nat.div_lt_of_lt_mul ?_;rw[Nat.pow_succ]at h;omega
    have ih:=tE k (m / 10) h2;rw[C0];exact⟨by show _+1<=_;omega,by show 0<_+1;omega⟩
theorem tK(m:Nat):∀c∈dg m,48<=c/\c<=57:=by
 induction m using Nat.strongRecOn with
 |_ m ih=>
  intro c hc;by_cases q:m<10
  .rw[oV q]at hc;rw[List.mem_singleton.mp hc];omega
  .rw[FA q]at hc;rcases List.mem_append.mp hc with h|h
   .exact ih (m / 10) (by omega) c h
   .rw[List.mem_singleton.mp h];omega
theorem aDt(m:Nat)(h:0<m):∃c r,dg m=c::r/\c≠48:=by
 induction m using Nat.strongRecOn with
 |_ m ih=>
  by_cases q:m<10
  .exact⟨48+m,[],oV q,by omega⟩
  .obtain⟨c,r,e,n⟩:=ih (m / 10) (by omega) (by omega);exact⟨c,r++[48+m % 10],by rw[FA q,e];rfl,n⟩
theorem XN(m:Nat):NumText.digitsVal (dg m)=m:=PySem.W.KIN.val_back m
theorem str_len(x:Str):x.length=(sg x).length:=by
 show x.cps.size=_;rw[L8]
theorem VT{k:Nat}(h:m<10 ^ (k+1))(hk:k<=600):PySem.intText? (sI (m:Int))=some (m:Int):=by
 have l:=tE k m h
 have hd:NumText.AllDigits (sg (sI (m:Int))):=by
  rw[fY];exact tK m
 have hne:sg (sI (m:Int))≠[]:=by
  rw[fY];intro e;rw[e]at l;exact absurd l.2 (by decide)
 have e:=PySem.intText_digits hd hne (by rw[str_len,fY];omega);rw[show(sI (m:Int)).cps.toList=dg m from fY m,XN]at e;exact e
theorem AQ{α:Type}:∀l:List α,boolsOf (l.map fun _=>.bool true)=some (l.map fun _=>true)
 |[]=>rfl
 |_::l=>by
  show(boolsOf (l.map fun _=>.bool true)).bind _=_;rw[AQ l];rfl
theorem all_true{α:Type}(l:List α)(M:Sto):xM [.d (.list (l.map fun _=>.bool true))] M=some (B true,M):=by
 have:(l.map fun _=>true).all id=true:=by
  rw[List.all_map];exact List.all_eq_true.mpr fun _ _=>rfl
 simp only[xM,AQ,Option.bind_some,this]
theorem gE{M1:Sto}{b:Bool}(h:f γ M=some (B b,M1)):gB f γ M=some (b,M1):=by
 unfold gB;rw[h];rfl
theorem SX:sg ("0123456789":Str)=[48,49,50,51,52,53,54,55,56,57]:=by decide
theorem SM(h:48<=c/\c<=57):inS false (S ⟨#[c]⟩) (S "0123456789") M=some (B true,M):=by
 have e:(!(Builtin.Str.occurrences ("0123456789":Str) ⟨#[c]⟩ 0 ("0123456789":Str).length 1).isEmpty)=true:=by
  rw[StrLaws.found_one];refine C5 ?_;show c∈sg ("0123456789":Str);rw[SX];simp only[List.mem_cons,List.not_mem_nil,or_false];omega
 show some (CD.d (.bool (!(Builtin.Str.occurrences ("0123456789":Str) ⟨#[c]⟩ 0 ("0123456789":Str).length 1).isEmpty)),M)=_;rw[e]
theorem yA{y:Str}(h:sg x=sg y):x=y:=by
 obtain⟨⟨a⟩⟩:=x;obtain⟨⟨b⟩⟩:=y;have:a=b:=h;rw[this]
theorem VB(x:Str):AJ x=(sg x).map fun c=>S ⟨#[c]⟩:=rfl
theorem pA{k:Nat}(h:m<10 ^ (k+1))(hk:k<600):cE [S (sI (m:Int)),I ((k+1:Nat):Int)] M=some (I (m:Int),M):=by
 have l:=tE k m h;have ln:(sI (m:Int)).length=(dg m).length:=by rw[str_len,fY]
 obtain⟨J,hJ⟩:∃J:Int,J=((k+1:Nat):Int):=⟨_,rfl⟩;obtain⟨N,hN⟩:∃N:Int,N=((sI (m:Int)).length:Int):=⟨_,rfl⟩;rw[<- hJ]
 have asc:(sI (m:Int)).cps.all (·<128)=true:=by
  rw[<- Array.all_toList];refine List.all_eq_true.mpr fun c hc=>?_;have:=tK m c (by rw[<- fY];exact hc);exact C5 (by omega)
 have cp:fD [some (S (sI (m:Int))),some (I J)] M=some (.d (.list ((sg (sI (m:Int))).map fun _=>.bool true)),M):=by
  have it:BQ (aD 0) [some (S (sI (m:Int))),some (I J)] M=some ((sg (sI (m:Int))).map fun c=>S ⟨#[c]⟩,M):=by
   unfold BQ;rw[show aD 0 [some (S (sI (m:Int))),some (I J)] M=some (S (sI (m:Int)),M)from rfl,A1];dsimp only;rw[A4 asc,VB]
  unfold fD;refine iQ it (by rw[A2,fY];omega) ?_ (by rw[A2,fY];omega);rw[show jO [none] [some (S (sI (m:Int))),some (I J)]=[none]from rfl];refine lH (fun c=>S ⟨#[c]⟩) (fun _=>.bool true) (sg (sI (m:Int))) none fun c hc=>?_;exact bK (show aD 0 [some (S ⟨#[c]⟩)] M=some (S ⟨#[c]⟩,M)from rfl) (show fC (.str "0123456789") [some (S ⟨#[c]⟩)] M=some (S "0123456789",M)from rfl) (SM (tK m c (by rw[<- fY];exact hc)))
 have le:JT [S (sI (m:Int))] M=some (I N,M):=by
  have:(sI (m:Int)).length<=sizeLine:=by rw[ln,szl];omega
  simp only[JT,if_pos this,hN]
 have t1:gO (gB (nH ltI leI (fC (.int 0)) (aK JT (aB (aD 0) aH)) (aD 1))) [some (S (sI (m:Int))),some (I J)] M=some (false,M):=by
  have d1:decide ((0:Int)<N)=true:=C5 (by omega);have d2:decide (N<=J)=true:=C5 (by omega);simp![le,d1,d2]
 have t2:gO (gB (aK xM (aB fD aH))) [some (S (sI (m:Int))),some (I J)] M=some (false,M):=by
  have:=gE (aU (F:=xM) (aI cp aQ) (all_true _ M));unfold gO;rw[this];rfl
 have s1:sIf (gOr (gO (gB (nH ltI leI (fC (.int 0)) (aK JT (aB (aD 0) aH)) (aD 1)))) (gO (gB (aK xM (aB fD aH))))) (bO (fC .none)) cP [some (S (sI (m:Int))),some (I J)] M=some (.nx [some (S (sI (m:Int))),some (I J)],M):=by
  refine(uA ?_).trans rfl;unfold gOr;rw[t1];exact t2
 have ti:gOr (gB (fOp (eqX false) (aD 0) (fC (.str "0")))) (gB (fOp (eqX true) (fOp ixS (aD 0) (fC (.int 0))) (fC (.str "0")))) [some (S (sI (m:Int))),some (I J)] M=some (true,M):=by
  cases q:(sI (m:Int)==("0":Str))with
  |true=>
   have e:gB (fOp (eqX false) (aD 0) (fC (.str "0"))) [some (S (sI (m:Int))),some (I J)] M=some (true,M):=gE (bK (show aD 0 [some (S (sI (m:Int))),some (I J)] M=some (S (sI (m:Int)),M)from rfl) (show fC (.str "0") [some (S (sI (m:Int))),some (I J)] M=some (S "0",M)from rfl) (show eqX false (S (sI (m:Int))) (S "0") M=some (B true,M)by
    show some (CD.d (.bool (sI (m:Int)==("0":Str))),M)=_;rw[q]))
   unfold gOr;rw[e];rfl
  |false=>
   have e:gB (fOp (eqX false) (aD 0) (fC (.str "0"))) [some (S (sI (m:Int))),some (I J)] M=some (false,M):=gE (bK (show aD 0 [some (S (sI (m:Int))),some (I J)] M=some (S (sI (m:Int)),M)from rfl) (show fC (.str "0") [some (S (sI (m:Int))),some (I J)] M=some (S "0",M)from rfl) (show eqX false (S (sI (m:Int))) (S "0") M=some (B false,M)by
    show some (CD.d (.bool (sI (m:Int)==("0":Str))),M)=_;rw[q]))
   have m0:0<m:=by
    rcases Nat.eq_zero_or_pos m with z|z
    .subst z;exact absurd q (by decide)
    .exact z
   obtain⟨c,r,e1,n1⟩:=aDt m m0
   have ix:ixS (S (sI (m:Int))) (I 0) M=some (S ⟨#[c]⟩,M):=by
    have z:(sI (m:Int)).length<=sizeLine:=by rw[ln,szl];omega
    have at0:atI (sI (m:Int)).cps.toList 0=some c:=by
     rw[show(sI (m:Int)).cps.toList=dg m from fY m,e1];exact rB (xs:=c::r) (k:=0) rfl
    simp only[ixS,if_pos z,at0,Option.bind_some]
   have ne:(((⟨#[c]⟩:Str))==("0":Str))=false:=by
    refine beq_eq_false_iff_ne.mpr fun h=>n1 ?_;have h2:sg (⟨#[c]⟩:Str)=sg ("0":Str):=by rw[h]
    rw[show sg ("0":Str)=[48]by decide]at h2;injection h2
   have e2:=gE (bK (k:=eqX true) (bK (k:=ixS) (show aD 0 [some (S (sI (m:Int))),some (I J)] M=some (S (sI (m:Int)),M)from rfl) (bP (i:=0)) ix) (show fC (.str "0") [some (S (sI (m:Int))),some (I J)] M=some (S "0",M)from rfl) (show eqX true (S ⟨#[c]⟩) (S "0") M=some (B true,M)by
    show some (CD.d (.bool (!((⟨#[c]⟩:Str)==("0":Str)))),M)=_;rw[ne];rfl))
   unfold gOr;rw[e];exact e2
 have it:OV [S (sI (m:Int))] M=some (I (m:Int),M):=by
  have z:(sI (m:Int)).length<=640:=by rw[ln];omega
  simp only[OV,if_pos z,VT h (by omega),Option.bind_some]
 unfold cE;refine eR rfl ?_;show lT [some (S (sI (m:Int))),some (I J)] M=_;unfold lT;rw[aW s1];unfold bO fIf;rw[ti,A1];dsimp only;rw[A4 rfl,aU (F:=OV) (aI (show aD 0 [some (S (sI (m:Int))),some (I J)] M=some (S (sI (m:Int)),M)from rfl) aQ) it];rfl
theorem nI(h:m<100):cH [S (sI (m:Int))] M=some (I (m:Int),M):=by
 have e:=pA (m:=m) (k:=1) (M:=M) (by simpa using h) (by decide);unfold cH;refine eR rfl ?_;show nU [some (S (sI (m:Int)))] M=_;unfold nU bO;rw[aU (F:=cE) (aI (show aD 0 [some (S (sI (m:Int)))] M=some (S (sI (m:Int)),M)from rfl) (aI (bP (i:=2)) aQ)) e];rfl
theorem TL(h:c∉sg x):gS x ⟨#[c]⟩=[x,Str.empty,Str.empty]:=by
 unfold gS;rcases StrLaws.occ_head x ⟨#[c]⟩ 1 (by decide)with⟨e,_⟩|⟨i,r,e,ha,_⟩
 .rw[e]
 .have:=(StrLaws.subAt_one x c i).mp ha;exact absurd (S2 this) h
theorem aBH{a b:List Nat}(hx:sg x=a++c::b)(ha:c∉a):gS x ⟨#[c]⟩=[⟨a.toArray⟩,⟨#[c]⟩,⟨b.toArray⟩]:=by
 have at_:x.cps.toList[a.length]?=some c:=by
  show(sg x)[a.length]?=some c;rw[hx,E1 (A8 _),S5];rfl
 have lx:x.length=a.length+1+b.length:=by
  rw[str_len,hx,C0,B4];omega
 unfold gS;rcases StrLaws.occ_head x ⟨#[c]⟩ 1 (by decide)with⟨e,hn⟩|⟨i,r,e,hi,hn⟩
 .exact absurd ((StrLaws.subAt_one x c a.length).mpr at_) (hn a.length)
 .have h1:=(StrLaws.subAt_one x c i).mp hi
  have ia:i=a.length:=by
   rcases Nat.lt_trichotomy i a.length with q|q|q
   .have h1':(sg x)[i]?=some c:=h1;rw[hx,S6 q]at h1';exact absurd (S2 h1') ha
   .exact q
   .exact absurd ((StrLaws.subAt_one x c a.length).mpr at_) (hn a.length q)
  subst ia;rw[e]
  have p1:Builtin.Str.strSub x 0 a.length=⟨a.toArray⟩:=by
   apply yA
   show(Builtin.Str.strSub x 0 a.length).cps.toList=_;rw[StrLaws.strSub_toList,List.drop_zero,Nat.sub_zero];show(sg x).take a.length=_;rw[hx,List.take_left]
  have p2:Builtin.Str.strSub x (a.length+(⟨#[c]⟩:Str).length) x.length=⟨b.toArray⟩:=by
   apply yA
   show(Builtin.Str.strSub x (a.length+1) x.length).cps.toList=_;rw[StrLaws.strSub_toList];show((sg x).drop (a.length+1)).take (x.length-(a.length+1))=b;rw[hx,lx]
   have:(a++c::b).drop (a.length+1)=b:=by
    rw[show a++c::b=(a++[c])++b by simp,List.drop_left' (by simp)]
   rw[this];exact List.take_of_length_le (by omega)
  show[Builtin.Str.strSub x 0 a.length,_,_]=_;rw[p1,p2]
theorem HY(m:Nat):47∉dg m:=fun h=>by have:=tK m 47 h;omega
theorem aEP:("/":Str)=⟨#[47]⟩:=by decide
theorem aHs(h:sI (m:Int)="1"):m=1:=by
 have e:dg m=[49]:=by
  rw[<- fY,h];decide
 rw[<- XN m,e];decide
theorem aBh(m:Nat):(⟨(dg m).toArray⟩:Str)=sI (m:Int):=yA (by rw[fY])
theorem ZD{a:Nat}:gS (fU (a:Int) 1) "/"=[sI (a:Int),Str.empty,Str.empty]:=by
 have e:fU (a:Int) 1=sI (a:Int):=by unfold fU;exact A4 rfl
 rw[e,aEP];exact TL (by rw[fY];exact HY a)
theorem YQ{a b:Nat}(h:b≠1):gS (fU (a:Int) (b:Int)) "/"=[sI (a:Int),"/",sI (b:Int)]:=by
 have e:fU (a:Int) (b:Int)=sI (a:Int)++"/"++sI (b:Int):=by
  unfold fU;rw[A5 (by simp;omega)]
 have s:sg (fU (a:Int) (b:Int))=dg a++47::dg b:=by
  rw[e,cU,cU,fY,fY,E8];rfl
 have:=aBH (c:=47) s (HY a);rw[aEP,this,aBh,aBh]
theorem aFW{x:CD}(h:f γ M=some (B true,M))(hg:g γ M=some (x,M)):kT f g γ M=some (x,M):=by
 unfold kT;rw[h];exact hg
theorem GK(ha:0<=a)(hb:1<=b)(g:Int.gcd a b=1):fX [.d (.tuple [.int a,.int b])] M=some (B true,M):=by
 have n:pG (.tuple [.int a,.int b])=true:=by
  rw[show pG (.tuple [.int a,.int b])=(decide (0<=a)&&decide (1<=b))from rfl,C5 ha,C5 hb];rfl
 have e1:=cN (.tuple [.int a,.int b]) M;rw[n]at e1;have c:=HV (a:=a) (b:=b) M ha (by omega);rw[g]at c;have v:aD 0 [some (.d (.tuple [.int a,.int b]))] M=some (.d (.tuple [.int a,.int b]),M):=rfl;have q:=bK (k:=eqX false) (aU (F:=pF) (aI (bK (k:=ixF) v (bP (i:=0)) aIt) (aI (bK (k:=ixF) v (bP (i:=1)) aIJ) aQ)) c) (bP (i:=1)) (show eqX false (I ((1:Nat):Int)) (I 1) M=some (B true,M)from rfl);unfold fX;refine eR rfl ?_;show lJ [some (.d (.tuple [.int a,.int b]))] M=_;unfold lJ bO;rw[aFW (aU (F:=bM) (aI v aQ) e1) q];rfl
theorem aFz{g:GF}{M1 M2:Sto}{x:CD}(h:f γ M=some (x,M1))(hg:g x γ M1=some (γ',M2)):bB f g γ M=some (.nx γ',M2):=by
 simp only[bB,h,hg,Option.bind_some]
theorem aHH:(("/":Str).length==0)=false:=by decide
theorem aCR{a b k:Nat}(ha:a<10 ^ (k+1))(hb:b<10 ^ (k+1))(hk:k<600):(fU (a:Int) (b:Int)).length<=2000:=by
 have l1:=tE k a ha;have l2:=tE k b hb;have e1:(sI (a:Int)).length=(dg a).length:=by rw[str_len,fY]
 have e2:(sI (b:Int)).length=(dg b).length:=by rw[str_len,fY]
 unfold fU;split
 .omega
 .rw[gJ,gJ,sl1];omega
theorem QE(h:f γ M=some (S x,M))(hl:x.length<=10000):lD f γ M=some (((x.length:Int) != 0),M):=by
 have z:x.length<=sizeLine:=by rw[szl];omega
 simp only[lD,h,Option.bind_some,if_pos z]
theorem IM{a b:Nat}(ha:a<10 ^ 30)(hb:b<10 ^ 30)(b1:1<=b)(g:Int.gcd (a:Int) (b:Int)=1):iN [S (fU (a:Int) (b:Int))] M=some (.d (.tuple [.int (a:Int),.int (b:Int)]),M):=by
 have nl:=aCR (k:=29) ha hb (by decide);obtain⟨w,hw⟩:∃w,fU (a:Int) (b:Int)=w:=⟨_,rfl⟩;have na:=pA (m:=a) (k:=29) (M:=M) ha (by decide);have nb:=pA (m:=b) (k:=29) (M:=M) hb (by decide);have am:=GK (a:=(a:Int)) (b:=(b:Int)) (M:=M) (by omega) (by omega) g
 have lb:(sI (b:Int)).length<=10000:=by
  have l2:=tE 29 b hb;rw[str_len,fY];omega
 obtain⟨A,hA⟩:∃A:Int,(a:Int)=A:=⟨_,rfl⟩;obtain⟨C,hC⟩:∃C:Int,(b:Int)=C:=⟨_,rfl⟩
 have pf:∀p q r,gS w "/"=[p,q,r]->BW (S w) [S "/"] M=some (.d (.tuple [.str p,.str q,.str r]),M):=fun p q r e=>by
  have z:(("/":Str).length==0)=false/\w.length<=sizeLine:=⟨aHH,by rw[<- hw,szl];omega⟩;simp only[BW,if_pos z,e];rfl
 have step:∀p q r,gS w "/"=[p,q,r]->bB (aZ "str" BW (aD 0) (aB (fC (.str "/")) aH)) (gZ 3 (bI (hName 1) (bI (hName 2) (bI (hName 3) gV)))) [some (S w),none,none,none,none] M=some (.nx [some (S w),some (S p),some (S q),some (S r),none],M):=fun p q r e=>
  aFz (tW (show aD 0 [some (S w),none,none,none,none] M=some (S w,M)from rfl) rfl (aI (show fC (.str "/") [some (S w),none,none,none,none] M=some (S "/",M)from rfl) aQ) (pf p q r e)) rfl
 have fin:∀g1 g2 g3,bO (fIf (gB (aK fX (aB (aD 4) aH))) (aD 4) (fC .none)) [some (S w),g1,g2,g3,some (.d (.tuple [.int A,.int C]))] M=some (.rt (.d (.tuple [.int A,.int C])),M):=fun g1 g2 g3=>by
  have v4:aD 4 [some (S w),g1,g2,g3,some (.d (.tuple [.int A,.int C]))] M=some (.d (.tuple [.int A,.int C]),M):=rfl;rw[hA,hC]at am;have t:=gE (aU (F:=fX) (aI v4 aQ) am);unfold bO fIf;rw[t,A1];dsimp only;rw[A4 rfl,v4];rfl
 rw[hw,hA,hC];unfold iN;refine eR rfl ?_;show lU [some (S w),none,none,none,none] M=_;unfold lU;by_cases q:b=1
 .subst q;have e:gS w "/"=[sI (a:Int),Str.empty,Str.empty]:=by rw[<- hw];exact ZD
  rw[aW (step _ _ _ e)];have v2:∀g4,aD 2 [some (S w),some (S (sI (a:Int))),some (S Str.empty),some (S Str.empty),g4] M=some (S Str.empty,M):=fun _=>rfl;have t0:∀g4,lD (aD 2) [some (S w),some (S (sI (a:Int))),some (S Str.empty),some (S Str.empty),g4] M=some (false,M):=fun g4=>(QE (v2 g4) (by decide)).trans rfl
  have s1:sIf (vN (lD (aD 2)) (gB (fOp (eqX false) (aD 3) (fC (.str "1"))))) (bO (fC .none)) cP [some (S w),some (S (sI (a:Int))),some (S Str.empty),some (S Str.empty),none] M=some (.nx [some (S w),some (S (sI (a:Int))),some (S Str.empty),some (S Str.empty),none],M):=by
   refine(uA ?_).trans rfl;unfold vN;rw[t0];rfl
  rw[aW s1];have n1:=aU (F:=cE) (aI (show aD 1 [some (S w),some (S (sI (a:Int))),some (S Str.empty),some (S Str.empty),none] M=some (S (sI (a:Int)),M)from rfl) (aI (bP (i:=30)) aQ)) na
  have n2:fIf (lD (aD 2)) (aK cE (aB (aD 3) (aB (fC (.int 30)) aH))) (fC (.int 1)) [some (S w),some (S (sI (a:Int))),some (S Str.empty),some (S Str.empty),none] M=some (I ((1:Nat):Int),M):=by
   unfold fIf;rw[t0];rfl
  have a3:=bX (i:=4) (mP (aI n1 (aI n2 aQ)) (ds:=[.int (a:Int),.int ((1:Nat):Int)]) rfl (show(2:Nat)<=500 by decide));rw[aW a3,hA,hC];exact fin _ _ _
 .have e:gS w "/"=[sI (a:Int),"/",sI (b:Int)]:=by rw[<- hw];exact YQ q
  rw[aW (step _ _ _ e)];have v2:∀g4,aD 2 [some (S w),some (S (sI (a:Int))),some (S "/"),some (S (sI (b:Int))),g4] M=some (S "/",M):=fun _=>rfl;have t0:∀g4,lD (aD 2) [some (S w),some (S (sI (a:Int))),some (S "/"),some (S (sI (b:Int))),g4] M=some (true,M):=fun g4=>(QE (v2 g4) (by decide)).trans rfl;have ne:(sI (b:Int)==("1":Str))=false:=beq_eq_false_iff_ne.mpr fun h=>q (aHs h)
  have s1:sIf (vN (lD (aD 2)) (gB (fOp (eqX false) (aD 3) (fC (.str "1"))))) (bO (fC .none)) cP [some (S w),some (S (sI (a:Int))),some (S "/"),some (S (sI (b:Int))),none] M=some (.nx [some (S w),some (S (sI (a:Int))),some (S "/"),some (S (sI (b:Int))),none],M):=by
   refine(uA ?_).trans rfl;unfold vN;rw[t0]
   exact gE (bK (show aD 3 [some (S w),some (S (sI (a:Int))),some (S "/"),some (S (sI (b:Int))),none] M=some (S (sI (b:Int)),M)from rfl) (show fC (.str "1") [some (S w),some (S (sI (a:Int))),some (S "/"),some (S (sI (b:Int))),none] M=some (S "1",M)from rfl) (show eqX false (S (sI (b:Int))) (S "1") M=some (B false,M)by
    show some (CD.d (.bool (sI (b:Int)==("1":Str))),M)=_;rw[ne]))
  rw[aW s1];have n1:=aU (F:=cE) (aI (show aD 1 [some (S w),some (S (sI (a:Int))),some (S "/"),some (S (sI (b:Int))),none] M=some (S (sI (a:Int)),M)from rfl) (aI (bP (i:=30)) aQ)) na
  have n2:fIf (lD (aD 2)) (aK cE (aB (aD 3) (aB (fC (.int 30)) aH))) (fC (.int 1)) [some (S w),some (S (sI (a:Int))),some (S "/"),some (S (sI (b:Int))),none] M=some (I (b:Int),M):=by
   unfold fIf;rw[t0,A1];dsimp only;rw[A4 rfl];exact aU (F:=cE) (aI (show aD 3 [some (S w),some (S (sI (a:Int))),some (S "/"),some (S (sI (b:Int))),none] M=some (S (sI (b:Int)),M)from rfl) (aI (bP (i:=30)) aQ)) nb
  have a3:=bX (i:=4) (mP (aI n1 (aI n2 aQ)) (ds:=[.int (a:Int),.int (b:Int)]) rfl (show(2:Nat)<=500 by decide));rw[aW a3,hA,hC];exact fin _ _ _
theorem QD:eqX true (S x) (S x) M=some (B false,M):=by
 show some (CD.d (.bool (!(x==x))),M)=_;rw[beq_self_eq_true];rfl
theorem aFE{f g:SF}{x:CD}(h:f γ M=some (.rt x,M')):bG f g γ M=some (.rt x,M'):=by simp only[bG,h,Option.bind_some]
noncomputable def mO(w:Str)(t:Tie):List Str:=[w,sI t.i,sI t.j,fU t.a t.b]
theorem LL{t:Tie}(h:RdT t):gF [.d (.list ((mO w t).map .str)),S w] M=some (.d (cQ false t),M):=by
 obtain⟨i,j,a,b⟩:=t;obtain⟨⟨i0,i1⟩,⟨j0,j1⟩,⟨a0,a1⟩,⟨b0,b1⟩,g⟩:=h;dsimp only at i0 i1 j0 j1 a0 a1 b0 b1 g;obtain⟨i,rfl⟩:=F4 i0;obtain⟨j,rfl⟩:=F4 j0;obtain⟨a,rfl⟩:=F4 a0;obtain⟨b,rfl⟩:=F4 (show 0<=b by omega);have ei:=nI (m:=i) (M:=M) (by omega);have ej:=nI (m:=j) (M:=M) (by omega);have ea:=IM (a:=a) (b:=b) (M:=M) (by omega) (by omega) (by omega) g;obtain⟨W,hW⟩:∃W,CD.d (.list ((mO w ⟨(i:Int),(j:Int),(a:Int),(b:Int)⟩).map .str))=W:=⟨_,rfl⟩;have x0:ixF W (I 0) M=some (S w,M):=by rw[<- hW];rfl
 have x1:ixF W (I 1) M=some (S (sI (i:Int)),M):=by rw[<- hW];rfl
 have x2:ixF W (I 2) M=some (S (sI (j:Int)),M):=by rw[<- hW];rfl
 have x3:ixF W (I 3) M=some (S (fU (a:Int) (b:Int)),M):=by rw[<- hW];rfl
 have le:iS [W] M=some (I 4,M):=by rw[<- hW];rfl
 obtain⟨zi,hi⟩:∃z:Int,(i:Int)=z:=⟨_,rfl⟩;obtain⟨zj,hj⟩:∃z:Int,(j:Int)=z:=⟨_,rfl⟩;obtain⟨za,ha⟩:∃z:Int,(a:Int)=z:=⟨_,rfl⟩;obtain⟨zb,hb⟩:∃z:Int,(b:Int)=z:=⟨_,rfl⟩;rw[hW];rw[hi]at ei x1;rw[hj]at ej x2;rw[ha,hb]at ea x3;rw[hi,hj,ha,hb];have v0:∀g2,aD 0 [some W,some (S w),g2] M=some (W,M):=fun _=>rfl;have v1:∀g2,aD 1 [some W,some (S w),g2] M=some (S w,M):=fun _=>rfl
 have s1:sIf (gOr (gB (fOp (eqX true) (aK iS (aB (aD 0) aH)) (fC (.int 4)))) (gB (fOp (eqX true) (fOp ixF (aD 0) (fC (.int 0))) (aD 1)))) (bO (fC .none)) cP [some W,some (S w),none] M=some (.nx [some W,some (S w),none],M):=by
  refine(uA ?_).trans rfl;have t1:=gE (bK (k:=eqX true) (aU (F:=iS) (aI (v0 none) aQ) le) (bP (i:=4)) (show eqX true (I 4) (I 4) M=some (B false,M)from rfl));have t2:=gE (bK (k:=eqX true) (bK (k:=ixF) (v0 none) (bP (i:=0)) x0) (v1 none) QD);unfold gOr;rw[t1];exact t2
 have p1:=aU (F:=cH) (aI (bK (k:=ixF) (v0 none) (bP (i:=1)) x1) aQ) ei;have p2:=aU (F:=cH) (aI (bK (k:=ixF) (v0 none) (bP (i:=2)) x2) aQ) ej;have p3:=aU (F:=iN) (aI (bK (k:=ixF) (v0 none) (bP (i:=3)) x3) aQ) ea;have a2:=bX (i:=2) (mP (aI p1 (aI p2 (aI p3 aQ))) (ds:=[.int zi,.int zj,.tuple [.int za,.int zb]]) rfl (show(3:Nat)<=500 by decide));have v2:aD 2 [some W,some (S w),some (.d (.tuple [.int zi,.int zj,.tuple [.int za,.int zb]]))] M=some (.d (.tuple [.int zi,.int zj,.tuple [.int za,.int zb]]),M):=rfl
 have nn:gB (fOp (inD false) (fC .none) (aD 2)) [some W,some (S w),some (.d (.tuple [.int zi,.int zj,.tuple [.int za,.int zb]]))] M=some (false,M):=
  gE (bK (k:=inD false) (show fC .none _ M=some (.d .none,M)from rfl) v2 (show inD false (.d .none) (.d (.tuple [.int zi,.int zj,.tuple [.int za,.int zb]])) M=some (B false,M)from rfl))
 unfold gF;refine eR rfl ?_;show uG [some W,some (S w),none] M=_;unfold uG;rw[aW s1,aW a2];show bO _ [some W,some (S w),some (.d (.tuple [.int zi,.int zj,.tuple [.int za,.int zb]]))] M=_;unfold bO fIf;rw[nn,A1];dsimp only;rw[A5 A7,v2];rfl
theorem JG{α:Type}(x:α)(r:List α):mY (x::r) (some 1) none=r:=by
 unfold mY
 have h1:HT.sIx (x::r).length 0 (some 1)=1:=by
  unfold HT.sIx;simp
  try omega
 have h2:HT.sIx (x::r).length (x::r).length none=r.length+1:=rfl;rw[h1,h2,List.drop_one,List.tail_cons];exact List.take_of_length_le (by omega)
theorem NQ(ns:List Int):(ns.map PyData.int).all SeqAt.shaped=true:=by
 rw[List.all_map];exact List.all_eq_true.mpr fun _ _=>rfl
theorem aCv(ns:List Int):((ns.map PyData.int).any fun d=>PyData.eqv d .none)=false:=by
 rw[List.any_map]
 exact List.any_eq_false.mpr fun k _=>by
  show ¬(PyData.eqv (.int k) .none=true);exact A7
theorem aEj:inD false (.d .none) (.d (sqK false ns)) M=some (B false,M):=by
 show(if (SeqAt.shaped .none&&(ns.map PyData.int).all SeqAt.shaped)=true then some (CD.d (.bool ((ns.map PyData.int).any fun d=>PyData.eqv d .none)),M)else none)=_;rw[NQ,aCv];rfl
noncomputable def lN(ns:List Int):List Str:="side"::ns.map sI
theorem RX{n:Int}{ns:List Int}(h:∀k∈n::ns,0<=k/\k<100)(hl:ns.length<=50):jX [.d (.list ((lN (n::ns)).map .str))] M=some (.d (sqK false (n::ns)),M):=by
 obtain⟨W,hW⟩:∃W,CD.d (.list ((lN (n::ns)).map .str))=W:=⟨_,rfl⟩
 have x0:ixF W (I 0) M=some (S "side",M):=by
  rw[<- hW];show(atI (PyData.str "side"::((n::ns).map sI).map PyData.str) ((0:Nat):Int)).bind _=_;rw[rB (k:=0) (x:=PyData.str "side") rfl];rfl
 obtain⟨N,hN⟩:∃N:Int,(((lN (n::ns)).map PyData.str).length:Int)=N:=⟨_,rfl⟩
 have N2:¬N<2:=by
  rw[<- hN];unfold lN;rw[A2,B4,A2,B4];omega
 have le:iS [W] M=some (I N,M):=by rw[<- hW,<- hN];rfl
 have sl:slF W (some 1) none M=some (.d (.list (((n::ns).map sI).map .str)),M):=by
  rw[<- hW];show some (CD.d (.list (mY (.str "side"::((n::ns).map sI).map PyData.str) (some 1) none)),M)=_;rw[JG]
 rw[hW];have v0:∀g1,aD 0 [some W,g1] M=some (W,M):=fun _=>rfl
 have cp:kW [some W,none] M=some (.d (.list ((n::ns).map .int)),M):=by
  have it:aX (fSl (aD 0) (gL (fC (.int 1))) dM) [some W,none] M=some ((n::ns).map (fun k=>S (sI k)),M):=by
   have e:fSl (aD 0) (gL (fC (.int 1))) dM [some W,none] M=some (.d (.list (((n::ns).map sI).map .str)),M):=by
    unfold fSl;rw[v0,A1];exact sl
   unfold aX;rw[e,A1];show(some (((n::ns).map sI).map PyData.str)).bind _=_;rw[A1,B6,B6];rfl
  unfold kW;refine iQ it (by rw[A2,B4];omega) ?_ (by rw[A2,B4];omega);rw[show jO [none] [some W,none]=[none]from rfl];refine lH (fun k=>S (sI k)) (fun k=>.int k) (n::ns) none fun k hk=>?_;obtain⟨k0,k1⟩:=h k hk;obtain⟨m,rfl⟩:=F4 k0;exact aU (F:=cH) (aI (show aD 0 [some (S (sI ((m:Nat):Int)))] M=some (S (sI ((m:Nat):Int)),M)from rfl) aQ) (nI (by omega))
 have s1:sIf (gOr (gB (fOp ltI (aK iS (aB (aD 0) aH)) (fC (.int 2)))) (gB (fOp (eqX true) (fOp ixF (aD 0) (fC (.int 0))) (fC (.str "side"))))) (bO (fC .none)) cP [some W,none] M=some (.nx [some W,none],M):=by
  refine(uA ?_).trans rfl
  have t1:=gE (bK (k:=ltI) (aU (F:=iS) (aI (v0 none) aQ) le) (bP (i:=2)) (show ltI (I N) (I 2) M=some (B false,M)by
   show some (CD.d (.bool (decide (N<2))),M)=_;rw[C7 N2]))
  have t2:=gE (bK (k:=eqX true) (bK (k:=ixF) (v0 none) (bP (i:=0)) x0) (show fC (.str "side") [some W,none] M=some (S "side",M)from rfl) QD);unfold gOr;rw[t1];exact t2
 have a2:bB (aK eC (aB kW aH)) (hName 1) [some W,none] M=some (.nx [some W,some (.d (sqK false (n::ns)))],M):=bX (aU (F:=eC) (aI cp aQ) (show eC [.d (.list ((n::ns).map .int))] M=some (.d (sqK false (n::ns)),M)from rfl));have v1:aD 1 [some W,some (.d (sqK false (n::ns)))] M=some (.d (sqK false (n::ns)),M):=rfl;have nn:=gE (bK (k:=inD false) (show fC .none [some W,some (.d (sqK false (n::ns)))] M=some (.d .none,M)from rfl) v1 aEj);unfold jX;refine eR rfl ?_;show qZ [some W,none] M=_;unfold qZ;rw[aW s1,aW a2];unfold bO fIf;rw[nn,A1];dsimp only;rw[A5 A7,v1];rfl
theorem WL(h:x.length<=1000000):rC x ⟨#[c]⟩=true:=by
 have o:=StrLaws.occ_length_le_len x ⟨#[c]⟩ 0 x.length (x.length+1)
 have p:(Builtin.Str.partsBetween x (Builtin.Str.occurrences x ⟨#[c]⟩ 0 x.length (x.length+1)) (⟨#[c]⟩:Str).length).length<=sizeLine:=by
  rw[length_partsBetween,szl];omega
 have q:(Txt.split x ⟨#[c]⟩).length<=sizeLine:=by
  unfold Txt.split;split
  .show(1:Nat)<=_;rw[szl];decide
  .split
   .show(1:Nat)<=_;rw[szl];decide
   .exact p
 unfold rC;rw[C5 (show x.length<=sizeLine by rw[szl];omega),C5 p,C5 q];rfl
theorem lR:(Txt.split x ⟨#[c]⟩).length<=x.length+2:=by
 have o:=StrLaws.occ_length_le_len x ⟨#[c]⟩ 0 x.length (x.length+1);unfold Txt.split;split
 .show(1:Nat)<=_;omega
 .split
  .show(1:Nat)<=_;omega
  .rw[length_partsBetween];omega
theorem yP(hf:f γ M=some (S x,M))(hg:g γ M=some (S ⟨#[c]⟩,M))(h:x.length<=1000000):aZ "str" iW f (aB g aH) γ M=some (.d (.list ((Txt.split x ⟨#[c]⟩).map .str)),M):=by
 refine tW hf rfl (aI hg aQ) ?_;simp only[iW,WL h,if_true]
theorem FQ{α:Type}{c:TF}{e:EF}{M:Sto}(f:α->CD)(p:α->Bool)(h:α->PyData):∀(xs:List α)(g:Option CD),(∀x∈xs,c [some (f x)] M=some (p x,M)/\e [some (f x)] M=some (.d (h x),M))->lcF (hName 0) c e (xs.map f) [g] M=some (((xs.filter p).map h).map .d,M)
 |[]=>fun _ _=>rfl
 |x::xs=>fun g he=>by
  have ih:=FQ (M:=M) (c:=c) (e:=e) f p h xs (some (f x)) fun y hy=>he y (B1 _ hy);obtain⟨e1,e2⟩:=he x B0;rw[B2];show(hName 0 (f x) [g] M).bind _=_;rw[show hName 0 (f x) [g] M=some ([some (f x)],M)from rfl,A1];dsimp only;rw[e1,A1];cases q:p x with
  |true=>
   dsimp only;rw[A4 rfl,e2,A1];dsimp only;rw[ih,A1,O2 q];rfl
  |false=>
   dsimp only;rw[A5 A7,ih,O3 (by rw[q];exact A7)]
noncomputable def wdS(x:Str):List Str:=(Txt.split x ⟨#[32]⟩).filter fun p=>((p.length:Int) != 0)
theorem WV(x:Str):(wdS x).map sg=wds (sg x):=by
 unfold wdS wds;rw[<- qB,List.filter_map];congr 1;refine List.filter_congr fun p _=>?_;show((p.length:Int) != 0)=!(sg p).isEmpty;rw[str_len];cases sg p with
 |nil=>rfl
 |cons a r=>simp;omega
theorem IG{c:Nat}:∀(xs:List Nat),(∀p∈spl c xs,p.length<=xs.length)/\(spl c xs).length<=xs.length+1
 |[]=>⟨fun p hp=>by rw[List.mem_singleton.mp hp];exact A8 _,A8 _⟩
 |a::r=>by
  obtain⟨h1,h2⟩:=IG (c:=c) r;unfold spl;by_cases q:a=c
  .rw[A4 q];refine⟨fun p hp=>?_,by rw[B4,B4];omega⟩;rcases List.mem_cons.mp hp with rfl|hp
   .exact F8 _
   .exact Nat.le_succ_of_le (h1 p hp)
  .rw[A5 q];obtain⟨p,ps,e⟩:=ET c r;rw[e]at h1 h2 ⊢;refine⟨fun p' hp=>?_,by show(_::_).length<=(_::_).length+1;rw[B4,B4];rw[B4]at h2;omega⟩;rcases List.mem_cons.mp hp with rfl|hp
   .exact Nat.succ_le_succ (h1 p B0)
   .exact Nat.le_succ_of_le (h1 p' (B1 _ hp))
theorem yT{x:Str}{c:Nat}:∀p∈Txt.split x ⟨#[c]⟩,p.length<=x.length:=fun p hp=>by
 rw[str_len,str_len];refine(IG (c:=c) (sg x)).1 (sg p) ?_;rw[<- qB];exact List.mem_map.mpr ⟨p,hp,rfl⟩
theorem szM{n:Nat}(h:n<=1000010):n<=sizeLine:=by rw[szl];omega
theorem aBU(h:x.length<=1000000):kS [some (S x)] M=some (.d (.list ((wdS x).map .str)),M):=by
 have it:aX (aZ "str" iW (aD 0) (aB (fC (.str " ")) aH)) [some (S x)] M=some ((Txt.split x ⟨#[32]⟩).map (fun p=>S p),M):=by
  unfold aX;rw[yP (c:=32) (x:=x) (show aD 0 [some (S x)] M=some (S x,M)from rfl) rfl h,A1];show(some ((Txt.split x ⟨#[32]⟩).map PyData.str)).bind _=_;rw[A1,B6];rfl
 have sc:=lR (x:=x) (c:=32);have fl:(wdS x).length<=(Txt.split x ⟨#[32]⟩).length:=L4 ..;unfold kS;refine yK it (by rw[A2];exact szM (by omega)) ?_ (by rw[A2];exact szM (by omega));rw[show jO [none] [some (S x)]=[none]from rfl];refine(FQ (fun p=>S p) (fun p=>((p.length:Int) != 0)) (fun p=>.str p) (Txt.split x ⟨#[32]⟩) none fun p hp=>⟨?_,rfl⟩);have:p.length<=sizeLine:=szM (C9 (yT p hp) (by omega));unfold lD;rw[show aD 0 [some (S p)] M=some (S p,M)from rfl,A1];exact A4 this
noncomputable def lnS(x:Str):List (List Str):=(Txt.split x ⟨#[10]⟩).map wdS
theorem aDD(hv:γ[0]?=some (some (S x)))(h:x.length<=1000000):gC γ M=some (.d (.list ((lnS x).map fun ws=>.list (ws.map .str))),M):=by
 have it:aX (aZ "str" iW (aD 0) (aB (fC (.str "\n")) aH)) γ M=some ((Txt.split x ⟨#[10]⟩).map (fun p=>S p),M):=by
  unfold aX;rw[yP (c:=10) (x:=x) (show aD 0 γ M=some (S x,M)by simp only[aD,hv]) rfl h,A1];show(some ((Txt.split x ⟨#[10]⟩).map PyData.str)).bind _=_;rw[A1,B6];rfl
 have sc:=lR (x:=x) (c:=10);unfold gC;refine yK it (by rw[A2];exact szM (by omega)) ?_ (by unfold lnS;rw[A2,A2];exact szM (by omega));rw[show jO [none] γ=[none]from rfl];refine(lH (fun p=>S p) (fun p=>.list ((wdS p).map .str)) (Txt.split x ⟨#[10]⟩) none fun p hp=>aBU (C9 (yT p hp) h)).trans ?_;unfold lnS;rw[B6,B6,B6];rfl
theorem yU{α:Type}{c:TF}{e:EF}{M:Sto}(f1 f2:α->PyData)(p:α->Bool)(h:α->PyData):∀(xs:List α)(g0 g1:Option CD),(∀x∈xs,c [some (.d (f1 x)),some (.d (f2 x))] M=some (p x,M)/\(p x=true->e [some (.d (f1 x)),some (.d (f2 x))] M=some (.d (h x),M)))->lcF (gZ 2 (bI (hName 0) (bI (hName 1) gV))) c e (xs.map fun x=>.d (.tuple [f1 x,f2 x])) [g0,g1] M=some (((xs.filter p).map h).map .d,M)
 |[]=>fun _ _ _=>rfl
 |x::xs=>fun g0 g1 he=>by
  have ih:=yU (M:=M) (c:=c) (e:=e) f1 f2 p h xs (some (.d (f1 x))) (some (.d (f2 x))) fun y hy=>he y (B1 _ hy);obtain⟨e1,e2⟩:=he x B0;rw[B2];show(gZ 2 (bI (hName 0) (bI (hName 1) gV)) (.d (.tuple [f1 x,f2 x])) [g0,g1] M).bind _=_;rw[show gZ 2 (bI (hName 0) (bI (hName 1) gV)) (.d (.tuple [f1 x,f2 x])) [g0,g1] M=some ([some (.d (f1 x)),some (.d (f2 x))],M)from rfl,A1];dsimp only;rw[e1,A1];cases q:p x with
  |true=>
   dsimp only;rw[A4 rfl,e2 q,A1];dsimp only;rw[ih,A1,O2 q];rfl
  |false=>
   dsimp only;rw[A5 A7,ih,O3 (by rw[q];exact A7)]
noncomputable def sdS(x:Str):List (List Str×Nat):=(lnS x).zipIdx.filter fun p=>!p.1.isEmpty
noncomputable def wD(ws:List Str):PyData:=.list (ws.map .str)
noncomputable def sdD(p:List Str×Nat):PyData:=.tuple [.int (p.2:Nat),wD p.1]
theorem zip_map{α β:Type}(f:α->β):∀(l:List α)(k:Nat),(l.map f).zipIdx k=(l.zipIdx k).map fun p=>(f p.1,p.2)
 |[]=>fun _=>rfl
 |a::l=>fun k=>by
  rw[B2,List.zipIdx_cons,List.zipIdx_cons,zip_map f l,B2]
theorem aBb:(lnS x).length<=x.length+2:=by
 unfold lnS;rw[A2];exact lR
theorem aFk:(sdS x).length<=x.length+2:=by
 have:=aBb (x:=x);have h2:(sdS x).length<=(lnS x).zipIdx.length:=L4 ..;rw[List.length_zipIdx]at h2;omega
theorem uL(h:x.length<=1000000):cK [S x] M=some (.d (.list ((sdS x).map sdD)),M):=by
 have a1:bB gC (hName 1) [some (S x),none] M=some (.nx [some (S x),some (.d (.list ((lnS x).map wD)))],M):=bX (aDD (γ:=[some (S x),none]) rfl h);have ll:=aBb (x:=x);have sl:=aFk (x:=x)
 have it:wZ (aB (aD 1) aH) [some (S x),some (.d (.list ((lnS x).map wD)))] M=some ((lnS x).zipIdx.map (fun p=>.d (.tuple [.int (p.2:Nat),wD p.1])),M):=by
  unfold wZ;rw[aI (show aD 1 [some (S x),some (.d (.list ((lnS x).map wD)))] M=some (.d (.list ((lnS x).map wD)),M)from rfl) aQ,A1];show(some ((lnS x).map wD)).bind _=_;rw[A1];unfold zA;rw[zip_map,B6];rfl
 have cp:kI [some (S x),some (.d (.list ((lnS x).map wD)))] M=some (.d (.list ((sdS x).map sdD)),M):=by
  unfold kI;refine yK it (by rw[A2,List.length_zipIdx];exact szM (by omega)) ?_ (by rw[A2];exact szM (by omega));rw[show jO [none,none] [some (S x),some (.d (.list ((lnS x).map wD)))]=[none,none]from rfl];refine yU (fun p=>.int (p.2:Nat)) (fun p=>wD p.1) (fun p=>!p.1.isEmpty) sdD (lnS x).zipIdx none none fun p hp=>⟨?_,fun _=>?_⟩
  .obtain⟨J,hJ⟩:∃J:Int,((p.2:Nat):Int)=J:=⟨_,rfl⟩;rw[hJ];show some (!(p.1.map PyData.str).isEmpty,M)=_;rw[show(p.1.map PyData.str).isEmpty=p.1.isEmpty by cases p.1<;>rfl]
  .unfold sdD;obtain⟨J,hJ⟩:∃J:Int,((p.2:Nat):Int)=J:=⟨_,rfl⟩;rw[hJ];exact mP (aI (show aD 0 [some (I J),some (.d (wD p.1))] M=some (I J,M)from rfl) (aI (show aD 1 [some (I J),some (.d (wD p.1))] M=some (.d (wD p.1),M)from rfl) aQ)) (ds:=[.int J,wD p.1]) rfl (show(2:Nat)<=500 by decide)
 unfold cK;refine eR rfl ?_;show jS [some (S x),none] M=_;unfold jS;rw[aW a1];simp only[bO,cp,Option.bind_some]
theorem BL{α:Type}(q:α->Bool):∀(l:List α)(k:Nat),((l.zipIdx k).filter fun p=>q p.1).map (·.1)=l.filter q
 |[]=>fun _=>rfl
 |a::l=>fun k=>by
  rw[List.zipIdx_cons];cases h:q a with
  |true=>rw[O2 (by exact h),O2 h,B2,BL q l]
  |false=>rw[O3 (by rw[h];exact A7),O3 (by rw[h];exact A7),BL q l]
theorem aGe(x:Str):((sdS x).map (·.1)).map (·.map sg)=fZ (sg x):=by
 unfold sdS fZ;rw[BL (fun ws:List Str=>!ws.isEmpty),<- qB,B6];unfold lnS;rw[List.filter_map,List.filter_map,B6]
 have e:(fun ws:List Str=>!ws.isEmpty) ∘ wdS=(fun p=>!p.isEmpty) ∘ (wds ∘ sg):=by
  funext p;show(!(wdS p).isEmpty)=!(wds (sg p)).isEmpty;rw[<- WV];cases wdS p<;>rfl
 rw[e];refine O0 fun p _=>?_;exact WV p
theorem sJ:∀{xs ys:List Str},xs.map sg=ys.map sg->xs=ys
 |[],[]=>fun _=>rfl
 |[],_::_=>fun h=>by simp at h
 |_::_,[]=>fun h=>by simp at h
 |x::xs,y::ys=>fun h=>by
  rw[B2,B2]at h;injection h with h1 h2
  rw[yA h1,sJ h2]
theorem DG{W:List (List Str)}(h:fZ (sg x)=W.map (·.map sg)):(sdS x).map (·.1)=W:=by
 rw[<- aGe]at h;revert h;generalize (sdS x).map (·.1)=V;intro h
 induction V generalizing W with
 |nil=>cases W with
  |nil=>rfl
  |cons _ _=>simp at h
 |cons v V ih=>cases W with
  |nil=>simp at h
  |cons w W=>
   rw[B2,B2]at h;injection h with h1 h2
   rw[sJ h1,ih h2]
theorem GG{k:F2}{M1 M2:Sto}{a b c:CD}(h1:f γ M=some (a,M1))(h2:g γ M1=some (b,M2))(h:k a b M2=some (c,M2)):fOp k f g γ M=some (c,M2):=by
 simp only[fOp,h1,h2,Option.bind_some,h]
theorem QR{c:Nat}:∀(xs:List Nat),((spl c xs).map (·.length)).sum<=xs.length
 |[]=>A8 _
 |a::r=>by
  have ih:=QR (c:=c) r;unfold spl;by_cases q:a=c
  .rw[A4 q,B2,List.sum_cons,B4,U7];omega
  .rw[A5 q];obtain⟨p,ps,e⟩:=ET c r;rw[e]at ih ⊢;rw[B2,List.sum_cons]at ih;show(((a::p)::ps).map (·.length)).sum<=_;rw[B2,List.sum_cons,B4,B4];omega
theorem VC:((Txt.split x ⟨#[c]⟩).map (·.length)).sum<=x.length:=by
 have h:=QR (c:=c) (sg x);rw[<- qB,B6]at h;rw[str_len];refine C9 (Nat.le_of_eq ?_) h;exact O1 List.sum (O0 fun p _=>str_len p)
theorem blanks:∀k:Nat,k<=3->Txt.mul " " (k:Int)=⟨(List.replicate k 32).toArray⟩
 |0=>fun _=>by decide
 |1=>fun _=>by decide
 |2=>fun _=>by decide
 |3=>fun _=>by decide
 |k+4=>fun h=>by omega
theorem aIG(k:Nat):sg (⟨(List.replicate k 32).toArray⟩:Str)=List.replicate k 32:=rfl
theorem aFb(n:Nat):∀ps:List Str,sg (Str.join ⟨(List.replicate (n+1) 32).toArray⟩ ps)=jn n (ps.map sg)
 |[]=>rfl
 |[p]=>rfl
 |p::q::ps=>by
  show sg (p++⟨(List.replicate (n+1) 32).toArray⟩++Str.join ⟨(List.replicate (n+1) 32).toArray⟩ (q::ps))=_;rw[cU,cU,aFb n (q::ps)];rfl
structure JQ(x:Str)(W:List Str):Prop where
 ne:W≠[]
 wd:∀w∈W,32∉sg w/\10∉sg w/\sg w≠[]
 is:sg x=DT 32 (W.map sg)
 len:x.length<=10000
theorem JQ.split{W:List Str}(h:JQ x W):Txt.split x ⟨#[32]⟩=W:=by
 refine sJ ?_;rw[qB,h.is];refine AA (fun e=>h.ne (List.map_eq_nil_iff.mp e)) fun p hp=>?_;obtain⟨w,hw,rfl⟩:=List.mem_map.mp hp;exact(h.wd w hw).1
theorem RJ{n:Nat}:∀{ws:List (List Nat)},(∀w∈ws,10∉w)->10∉jn n ws
 |[]=>fun _=>by simp[jn]
 |[p]=>fun h=>h p B0
 |p::q::ps=>fun h=>by
  have ih:=RJ (n:=n) (ws:=q::ps) fun w hw=>h w (B1 _ hw);show 10∉p++List.replicate (n+1) 32++jn n (q::ps);intro m;rcases List.mem_append.mp m with m|m
  .rcases List.mem_append.mp m with m|m
   .exact h p B0 m
   .have:=List.eq_of_mem_replicate m;omega
  .exact ih m
theorem TU{W:List (List Nat)}(ne:W≠[])(h:∀w∈W,32∉w/\10∉w/\w≠[])(a n b:Nat)(zs:List Nat):fZ (List.replicate a 32++jn n W++List.replicate b 32++10::zs)=W::fZ zs:=by
 have w1:wds (List.replicate a 32++jn n W++List.replicate b 32)=W:=by
  rw[aCO,GN];exact WW n fun w hw=>⟨(h w hw).1,(h w hw).2.2⟩
 have nf:10∉List.replicate a 32++jn n W++List.replicate b 32:=by
  intro m;rcases List.mem_append.mp m with m|m
  .rcases List.mem_append.mp m with m|m
   .have:=List.eq_of_mem_replicate m;omega
   .exact RJ (fun w hw=>(h w hw).2.1) m
  .have:=List.eq_of_mem_replicate m;omega
 rw[qL,XA nf,w1];cases W with
 |nil=>exact absurd rfl ne
 |cons w W=>rfl
theorem aAA{p:PyData}(h:p∈[PyData.str "",.str "\n",.str "   \n",.str " \n\n"]):∃s:Str,p=.str s/\s.length<=4/\∀zs,fZ (sg s++zs)=fZ zs:=by
 simp only[List.mem_cons,List.not_mem_nil,or_false]at h
 have n1:∀zs,fZ ([10]++zs)=fZ zs:=fun zs=>by
  show fZ ([]++10::zs)=_;rw[qL];rfl
 rcases h with rfl|rfl|rfl|rfl
 .exact⟨_,rfl,by decide,fun zs=>rfl⟩
 .exact⟨_,rfl,by decide,n1⟩
 .refine⟨_,rfl,by decide,fun zs=>?_⟩;show fZ ([32,32,32]++10::zs)=_;rw[qL];rfl
 .refine⟨_,rfl,by decide,fun zs=>?_⟩;show fZ ([32]++10::([10]++zs))=_;rw[qL,n1];rfl
structure OkX(x:Str)(D:List (List (List Nat)))(k:Nat):Prop where
 sd:∀zs,fZ (sg x++zs)=D++fZ zs
 en:sg x=[]\/∃y,sg x=y++[10]
 len:x.length<=k*41010
theorem aDE:OkX "" [] 0:=⟨fun zs=>rfl,.inl rfl,by decide⟩
theorem YV{pre w b1 b2:Str}{D:List (List (List Nat))}{k n a b:Nat}{W:List (List Nat)}(h:OkX x D k)(hp:∀zs,fZ (sg pre++zs)=fZ zs)(lp:pre.length<=4)(e1:sg b1=List.replicate a 32)(ha:a<=3)(e2:sg b2=List.replicate b 32)(hb:b<=3)(ew:sg w=jn n W)(lw:w.length<=40999)(ne:W≠[])(hw:∀w∈W,32∉w/\10∉w/\w≠[]):OkX (x++pre++b1++w++b2++"\n") (D++[W]) (k+1):=by
 have nl:sg ("\n":Str)=[10]:=by decide
 refine⟨fun zs=>?_,.inr ⟨sg (x++pre++b1++w++b2),by rw[cU,nl]⟩,?_⟩
 .have:sg (x++pre++b1++w++b2++"\n")++zs=sg x++(sg pre++(List.replicate a 32++jn n W++List.replicate b 32++10::zs)):=by
   rw[cU,cU,cU,cU,cU,e1,e2,ew,nl];simp only[List.append_assoc,List.cons_append,List.nil_append]
  rw[this,h.sd,hp,TU ne hw,E8];rfl
 .have l1:b1.length=a:=by rw[str_len,e1,L0]
  have l2:b2.length=b:=by rw[str_len,e2,L0]
  have l3:=h.len;rw[gJ,gJ,gJ,gJ,gJ,nl1,l1,l2,Nat.succ_mul];omega
noncomputable abbrev GS(c:Nat)(L:CD)(x:Str)(g3 g4 g5:Option CD):Ga:=[some (.c c),some L,some (S x),g3,g4,g5]
theorem PX{m:Int}(hm:0<m)(h4:m<=4):∃k:Nat,z % m=(k:Int)/\k<=3:=by
 have h1:=C4 z (show m≠0 by omega);have h2:=C1 z hm;exact⟨(z % m).toNat,by omega,by omega⟩
theorem LR{k:Nat}(h:k<=3):rG (S " ") (I (k:Int)) M=some (S ⟨(List.replicate k 32).toArray⟩,M):=by
 have c:((k:Int)<1000/\-1000<(k:Int)/\(" ":Str).length<=1000):=⟨by omega,by omega,by decide⟩;show(if ((k:Int)<1000/\-1000<(k:Int)/\(" ":Str).length<=1000)then some (CD.d (.str (Txt.mul " " (k:Int))),M)else none)=_;rw[A4 c,blanks k h]
theorem aAE{ls:List Str}(h:jG sep ls<=16777216):jB (S sep) [.d (.list (ls.map .str))] M=some (S (Txt.join sep ls),M):=by
 simp only[jB,vO,Option.bind_some,if_pos h]
theorem YH:∃n:Nat,n<=2/\ixF (.d (.list [.int 1,.int 1,.int 3,.int 2])) (I (z % 4)) M=some (I ((n+1:Nat):Int),M):=by
 obtain⟨v,hv,e⟩:=uW (ns:=[1,1,3,2]) (z:=z) (m:=4) (M:=M) (by decide) rfl;simp only[List.mem_cons,List.not_mem_nil,or_false]at hv;rcases hv with rfl|rfl|rfl|rfl
 .exact⟨0,by omega,e⟩
 .exact⟨0,by omega,e⟩
 .exact⟨2,by omega,e⟩
 .exact⟨1,by omega,e⟩
theorem KR{k:Nat}{L:CD}{l:Str}{W:List Str}{D:List (List (List Nat))}{g4 g5:Option CD}(dk:Dk M c (m+1))(ok:OkX x D k)(hk:k<=20)(ln:JQ l W):
 ∃x' g4' g5' M',fI (GS c L x (some (S l)) g4 g5) M=some (.nx (GS c L x' (some (S l)) g4' g5'),M')/\OkX x' (D++[W.map sg]) (k+1)/\Dk M' c m/\Oth c M M':=by
 obtain⟨z,M1,p1,d1,o1,z0,z1⟩:=dk.pop;have a1:bB (aZ "list" eE (aD 0) aH) (hName 4) (GS c L x (some (S l)) g4 g5) M=some (.nx (GS c L x (some (S l)) (some (I z)) g5),M1):=bX (pop_at rfl dk.ty p1);have v4:∀y e,aD 4 (GS c L y (some (S l)) (some (I z)) e) M1=some (I z,M1):=fun _ _=>rfl;obtain⟨n,hn,ek⟩:=YH (z:=z) (M:=M1);obtain⟨wt,hwt⟩:∃wt,Txt.join ⟨(List.replicate (n+1) 32).toArray⟩ W=wt:=⟨_,rfl⟩
 have jl:jG ⟨(List.replicate (n+1) 32).toArray⟩ W<=40999:=by
  have h1:=VC (x:=l) (c:=32);have h2:=lR (x:=l) (c:=32);rw[ln.split]at h1 h2;have h3:=ln.len;have h4:(⟨(List.replicate (n+1) 32).toArray⟩:Str).length=n+1:=by rw[str_len,aIG,L0]
  have h5:W.length*(n+1)<=10002*3:=Nat.mul_le_mul (by omega) (by omega);unfold jG;rw[h4];omega
 have sw:sg wt=jn n (W.map sg):=by
  rw[<- hwt];show sg (Builtin.Str.glued _ W)=_;rw[Y0,aFb]
 have lw:wt.length<=40999:=by
  rw[<- hwt];show(Builtin.Str.glued _ W).length<=_;rw[Y0];exact C9 (StrLaws.join_length_le _ _) jl
 have e2:aZ "str" jB (fOp rG (fC (.str " ")) (fOp ixF fM (fOp bC (aD 4) (fC (.int 4))))) (aB (aZ "str" iW (aD 3) (aB (fC (.str " ")) aH)) aH) (GS c L x (some (S l)) (some (I z)) g5) M1=some (S wt,M1):=by
  have s1:=bK (k:=rG) (γ:=GS c L x (some (S l)) (some (I z)) g5) (show fC (.str " ") _ M1=some (S " ",M1)from rfl) (bK (k:=ixF) (vJ _ M1) (bV (k:=bC) (v4 x g5) (bP (i:=4)) (dF (by decide))) ek) (LR (by omega));have s2:=yP (c:=32) (x:=l) (γ:=GS c L x (some (S l)) (some (I z)) g5) (show aD 3 _ M1=some (S l,M1)from rfl) (show fC (.str " ") _ M1=some (S ⟨#[32]⟩,M1)from rfl) (C9 ln.len (by decide));rw[ln.split]at s2;rw[<- hwt];exact tW s1 rfl (aI s2 aQ) (aAE (C9 jl (by decide)))
 have a2:bB (aZ "str" jB (fOp rG (fC (.str " ")) (fOp ixF fM (fOp bC (aD 4) (fC (.int 4))))) (aB (aZ "str" iW (aD 3) (aB (fC (.str " ")) aH)) aH)) (hName 5) (GS c L x (some (S l)) (some (I z)) g5) M1=some (.nx (GS c L x (some (S l)) (some (I z)) (some (S wt))),M1):=bX e2;obtain⟨pd,hpd,hpm⟩:=tU (ds:=[PyData.str "",.str "\n",.str "   \n",.str " \n\n"]) (k:=z / 4) (m:=4) (by decide) rfl;obtain⟨pre,rfl,lp,sp⟩:=aAA hpm;obtain⟨a,ea,la⟩:=PX (z:=z / 16) (m:=3) (by decide) (by decide);obtain⟨b,eb,lb⟩:=PX (z:=z / 48) (m:=2) (by decide) (by decide);obtain⟨b1,h1⟩:∃b1:Str,⟨(List.replicate a 32).toArray⟩=b1:=⟨_,rfl⟩;obtain⟨b2,h2⟩:∃b2:Str,⟨(List.replicate b 32).toArray⟩=b2:=⟨_,rfl⟩;have s1:sg b1=List.replicate a 32:=by rw[<- h1]
 have s2:sg b2=List.replicate b 32:=by rw[<- h2]
 have l1:b1.length=a:=by rw[str_len,s1,L0]
 have l2:b2.length=b:=by rw[str_len,s2,L0]
 have lx:=ok.len;have kx:k*41010<=20*41010:=Nat.mul_le_mul_right _ hk
 have q1:fOp rG (fC (.str " ")) (fOp bC (fOp bS (aD 4) (fC (.int 16))) (fC (.int 3))) (GS c L x (some (S l)) (some (I z)) (some (S wt))) M1=some (S b1,M1):=by
  have m1:=LR (k:=a) (M:=M1) la;rw[h1,<- ea]at m1;exact bK (k:=rG) (show fC (.str " ") _ M1=some (S " ",M1)from rfl) (bV (k:=bC) (bV (k:=bS) (v4 x (some (S wt))) (bP (i:=16)) (rJ (by decide) (by decide))) (bP (i:=3)) (dF (by decide))) m1
 have q0:fOp ixF fJ (fOp bC (fOp bS (aD 4) (fC (.int 4))) (fC (.int 4))) (GS c L x (some (S l)) (some (I z)) (some (S wt))) M1=some (S pre,M1):=by
  refine bK (k:=ixF) (vR _ M1) (bV (k:=bC) (bV (k:=bS) (v4 x (some (S wt))) (bP (i:=4)) (rJ (by decide) (by decide))) (bP (i:=4)) (dF (by decide))) ?_;show(atI [PyData.str "",.str "\n",.str "   \n",.str " \n\n"] (z / 4 % 4)).bind _=_;rw[hpd];rfl
 have a3:bB (fOp fR (fOp fR (fOp fR (aD 2) (fOp ixF fJ (fOp bC (fOp bS (aD 4) (fC (.int 4))) (fC (.int 4))))) (fOp rG (fC (.str " ")) (fOp bC (fOp bS (aD 4) (fC (.int 16))) (fC (.int 3))))) (aD 5)) (hName 2) (GS c L x (some (S l)) (some (I z)) (some (S wt))) M1=some (.nx (GS c L (x++pre++b1++wt) (some (S l)) (some (I z)) (some (S wt))),M1):=
  bX (bK (k:=fR) (bK (k:=fR) (bK (k:=fR) (show aD 2 _ M1=some (S x,M1)from rfl) q0 (mG (by rw[szl];omega))) q1 (mG (by rw[gJ,szl];omega))) (show aD 5 _ M1=some (S wt,M1)from rfl) (mG (by rw[gJ,gJ,szl];omega)))
 have q2:fOp rG (fC (.str " ")) (fOp bC (fOp bS (aD 4) (fC (.int 48))) (fC (.int 2))) (GS c L (x++pre++b1++wt) (some (S l)) (some (I z)) (some (S wt))) M1=some (S b2,M1):=by
  have m1:=LR (k:=b) (M:=M1) lb;rw[h2,<- eb]at m1;exact bK (k:=rG) (show fC (.str " ") _ M1=some (S " ",M1)from rfl) (bV (k:=bC) (bV (k:=bS) (v4 (x++pre++b1++wt) (some (S wt))) (bP (i:=48)) (rJ (by decide) (by decide))) (bP (i:=2)) (dF (by decide))) m1
 have a4:bB (fOp fR (fOp fR (aD 2) (fOp rG (fC (.str " ")) (fOp bC (fOp bS (aD 4) (fC (.int 48))) (fC (.int 2))))) (fC (.str "\n"))) (hName 2) (GS c L (x++pre++b1++wt) (some (S l)) (some (I z)) (some (S wt))) M1=some (.nx (GS c L (x++pre++b1++wt++b2++"\n") (some (S l)) (some (I z)) (some (S wt))),M1):=
  bX (bK (k:=fR) (bK (k:=fR) (show aD 2 _ M1=some (S (x++pre++b1++wt),M1)from rfl) q2 (mG (by rw[gJ,gJ,gJ,szl];omega))) (show fC (.str "\n") _ M1=some (S "\n",M1)from rfl) (mG (by rw[gJ,gJ,gJ,gJ,nl1,szl];omega)))
 refine⟨x++pre++b1++wt++b2++"\n",some (I z),some (S wt),M1,?_,YV ok sp lp s1 la s2 lb sw lw (fun e=>ln.ne (List.map_eq_nil_iff.mp e)) (fun w hw=>?_),d1,o1⟩
 .unfold fI;rw[aW a1,aW a2,aW a3];exact a4
 .obtain⟨v,hv,rfl⟩:=List.mem_map.mp hw;exact ln.wd v hv
theorem wU{c m:Nat}{L:CD}:∀(ls:List (Str×List Str))(x:Str)(D:List (List (List Nat)))(k:Nat)(g3 g4 g5:Option CD)(M:Sto),(∀p∈ls,JQ p.1 p.2)->Dk M c (m+ls.length)->OkX x D k->k+ls.length<=20->
 ∃x' g3' g4' g5' M',uJ (hName 3) fI (ls.map fun p=>S p.1) (GS c L x g3 g4 g5) M=some (.nx (GS c L x' g3' g4' g5'),M')/\OkX x' (D++ls.map fun p=>p.2.map sg) (k+ls.length)/\Dk M' c m/\Oth c M M'
 |[]=>fun x D k g3 g4 g5 M _ dk ok _=>⟨x,g3,g4,g5,M,rfl,by rw[List.map_nil,C3];exact ok,dk,⟨rfl,fun _ _=>rfl⟩⟩
 |p::ls=>fun x D k g3 g4 g5 M h dk ok hk=>by
  rw[B4]at hk dk;obtain⟨x1,q4,q5,M1,e1,ok1,d1,o1⟩:=KR (L:=L) (g4:=g4) (g5:=g5) (m:=m+ls.length) dk ok (by omega) (h p B0);obtain⟨x2,q3,r4,r5,M2,e2,ok2,d2,o2⟩:=wU ls x1 (D++[p.2.map sg]) (k+1) (some (S p.1)) q4 q5 M1 (fun q hq=>h q (B1 _ hq)) d1 ok1 (by omega);refine⟨x2,q3,r4,r5,M2,?_,?_,d2,o1.trans o2⟩
  .rw[B2,tP (show hName 3 (S p.1) (GS c L x g3 g4 g5) M=some (GS c L x (some (S p.1)) g4 g5,M)from rfl) e1];exact e2
  .rw[E8]at ok2;rw[B2,B4,show k+(ls.length+1)=k+1+ls.length by omega];exact ok2
theorem UP{xs:List Nat}{D:List (List (List Nat))}(sd:∀zs,fZ (xs++zs)=D++fZ zs)(en:xs=[]\/∃y,xs=y++[10]):fZ (xs.take (xs.length-1))=D:=by
 have h0:=sd [];rw[C3,AL,C3]at h0;rcases en with rfl|⟨y,rfl⟩
 .exact h0
 .rw[C0,E7,Nat.add_sub_cancel,List.take_left];rw[qL y [],AL,C3]at h0;exact h0
theorem MN(x:Str):sg (Txt.slice x none (some (-1)))=(sg x).take ((sg x).length-1):=by
 by_cases h:x.length=0
 .have e:sg x=[]:=List.length_eq_zero_iff.mp (by rw[<- str_len];exact h);have l:=Txt.slice_le x none (some (-1));rw[h]at l;have e2:sg (Txt.slice x none (some (-1)))=[]:=List.length_eq_zero_iff.mp (by rw[<- str_len];omega);rw[e,e2];rfl
 .have:=StrLaws.sliceText_to_neg (x:=x) (j:=-1) (by decide) (by omega);show sg (StrLaws.sliceText x none (some (-1)))=_;rw[this];show(List.take (-1+(x.length:Int)-0).toNat (List.drop 0 (sg x)))=_;rw[List.drop_zero,<- str_len];congr 1;omega
theorem aEn{D:List (List (List Nat))}{k:Nat}(h:OkX x D k)(hd:d∈[PyData.str x,.str (Txt.slice x none (some (-1))),.str (x++"  "),.str (x++"\n \n")]):∃y:Str,d=.str y/\fZ (sg y)=D/\y.length<=x.length+3:=by
 simp only[List.mem_cons,List.not_mem_nil,or_false]at hd;rcases hd with rfl|rfl|rfl|rfl
 .refine⟨_,rfl,?_,by omega⟩;have:=h.sd [];rw[C3,AL,C3]at this;exact this
 .refine⟨_,rfl,?_,C9 (Txt.slice_le ..) (by omega)⟩;rw[MN];exact UP h.sd h.en
 .refine⟨_,rfl,?_,by rw[gJ,show("  ":Str).length=2 by decide];omega⟩;rw[cU,h.sd,show fZ (sg ("  ":Str))=[]by decide,C3]
 .refine⟨_,rfl,?_,by rw[gJ,show("\n \n":Str).length=3 by decide];omega⟩;rw[cU,h.sd,show fZ (sg ("\n \n":Str))=[]by decide,C3]
theorem aJd{f1 f2:EF}{a b c:PyData}(h1:f1 γ M=some (.d a,M))(h2:f2 γ M=some (.d b,M))(h3:f3 γ M=some (.d c,M))(h4:f4 γ M=some (.d d,M)):dO (aB f1 (aB f2 (aB f3 (aB f4 aH)))) γ M=some (.d (.list [a,b,c,d]),M):=by
 unfold dO;rw[aI h1 (aI h2 (aI h3 (aI h4 aQ))),A1];show(some [a,b,c,d]).bind _=_;rw[A1];exact A4 (s9 (show(4:Nat)<=9 by decide))
theorem zW{ls:List (Str×List Str)}(h:∀p∈ls,JQ p.1 p.2)(hl:ls.length<=20)(dk:Dk M c (m+ls.length+1)):
 ∃(x:Str)(M':Sto),bW [.c c,.d (.list (ls.map fun p=>.str p.1))] M=some (S x,M')/\(sdS x).map (·.1)=ls.map (·.2)/\x.length<=1000000/\Dk M' c m/\Oth c M M':=by
 obtain⟨L,hL⟩:∃L,CD.d (.list (ls.map fun p=>.str p.1))=L:=⟨_,rfl⟩;have a1:bB (fC (.str "")) (hName 2) [some (.c c),some L,none,none,none,none] M=some (.nx (GS c L "" none none none),M):=rfl
 have it:aX (aD 1) (GS c L "" none none none) M=some (ls.map (fun p=>S p.1),M):=by
  rw[<- hL];unfold aX;rw[show aD 1 (GS c (CD.d (.list (ls.map fun p=>.str p.1))) "" none none none) M=some (CD.d (.list (ls.map fun p=>.str p.1)),M)from rfl,A1];show(some (ls.map fun p=>PyData.str p.1)).bind _=_;rw[A1,B6];rfl
 obtain⟨x,g3,g4,g5,M1,lp,ok,d1,o1⟩:=wU (L:=L) (m:=m+1) ls "" [] 0 none none none M h (dk.le (by omega)) aDE (by omega);rw[U8,Nat.zero_add]at ok;have lx:=ok.len;have kx:ls.length*41010<=20*41010:=Nat.mul_le_mul_right _ hl;obtain⟨z,M2,p2,d2,o2,_⟩:=d1.pop;have e1:aD 2 (GS c L x g3 g4 g5) M1=some (S x,M1):=rfl
 have e2:WQ (aD 2) dM (gL (fUn ZH (fC (.int 1)))) (GS c L x g3 g4 g5) M1=some (S (Txt.slice x none (some (-1))),M1):=by
  unfold WQ;rw[e1,A1];show(if x.length<=sizeLine then some (S (Txt.slice x none (some (-1))),M1)else none)=_;exact A4 (szM (by omega))
 have e3:=bK (k:=fR) e1 (show fC (.str "  ") (GS c L x g3 g4 g5) M1=some (S "  ",M1)from rfl) (mG (by rw[show("  ":Str).length=2 by decide,szl];omega));have e4:=bK (k:=fR) e1 (show fC (.str "\n \n") (GS c L x g3 g4 g5) M1=some (S "\n \n",M1)from rfl) (mG (by rw[show("\n \n":Str).length=3 by decide,szl];omega));obtain⟨d,hd,hm⟩:=tU (ds:=[PyData.str x,.str (Txt.slice x none (some (-1))),.str (x++"  "),.str (x++"\n \n")]) (k:=z) (m:=4) (by decide) rfl;obtain⟨y,rfl,sy,ly⟩:=aEn ok hm
 have rt:=GG (k:=ixF) (aJd e1 e2 e3 e4) (zI (k:=bC) (pop_at (γ:=GS c L x g3 g4 g5) (v:=0) rfl d1.ty p2) (bP (i:=4)) (dF (by decide))) (show ixF (.d (.list [PyData.str x,.str (Txt.slice x none (some (-1))),.str (x++"  "),.str (x++"\n \n")])) (I (z % 4)) M2=some (S y,M2)by
  show(atI [PyData.str x,.str (Txt.slice x none (some (-1))),.str (x++"  "),.str (x++"\n \n")] (z % 4)).bind _=_;rw[hd];rfl)
 refine⟨y,M2,?_,DG (by rw[sy,B6];rfl),by omega,d2,o1.trans o2⟩;rw[hL];unfold bW;refine eR rfl ?_;show iA [some (.c c),some L,none,none,none,none] M=_;unfold iA;rw[aW a1,aW (vF it lp)];simp only[bO,rt,Option.bind_some]
noncomputable abbrev LG(n:Int)(x:CD)(c k:Nat)(r:PyData):Ga:=[some (I n),some x,some (.c c),some (I (k:Nat)),some (.d r)]
noncomputable def zH(k:Nat)(l:List PyData):List CD:=(l.zipIdx k).map fun p=>.d (.tuple [.int (p.2:Nat),p.1])
noncomputable abbrev G2:GF:=gZ 2 (bI (hName 3) (bI (hName 4) gV))
theorem aJI{x:CD}{k:Nat}{g3 g4:Option CD}:G2 (.d (.tuple [.int (k:Nat),r])) [some (I n),some x,some (.c c),g3,g4] M=some (LG n x c k r,M):=rfl
theorem aKt{w:PyData}(h:bZ w=some [.int a,.int b])(M:Sto):eC [.d w] M=some (.d (.tuple [.int a,.int b]),M):=by
 cases w<;>first|(cases h;rfl)|cases h
theorem aFm{t:Tie}(h:gW t.a t.b=true/\0<=t.i/\t.i<t.j/\t.j<n):jA n (.tuple (f2 t))=some t:=
 PJ (w:=.tuple [.int t.a,.int t.b]) rfl rfl ⟨h.2.1,h.2.2.1,h.2.2.2,h.1⟩
theorem RW{x:CD}{M:Sto}{k:Nat}{ts:List Tie}{t:Tie}(hl:ts.length<1000)(ht:jA n (.tuple (f2 t))=some t)(nk:∀s∈ts,s.key≠t.key):
 fG (LG n x M.length k (.tuple (f2 t))) (M++[.dt (bE ts)])=some (.o (.nx (LG n x M.length k (.tuple (f2 t)))),M++[.dt (bE (ts++[t]))]):=by
 have ti:=aBE n (.tuple (f2 t)) (M++[.dt (bE ts)]);rw[ht,Option.isSome_some]at ti;have x0:ixF (.d (.tuple (f2 t))) (I 0) (M++[.dt (bE ts)])=some (I t.i,M++[.dt (bE ts)]):=rfl;have x1:ixF (.d (.tuple (f2 t))) (I 1) (M++[.dt (bE ts)])=some (I t.j,M++[.dt (bE ts)]):=rfl;have x2:ixF (.d (.tuple (f2 t))) (I 2) (M++[.dt (bE ts)])=some (.d (.tuple [.int t.a,.int t.b]),M++[.dt (bE ts)]):=rfl;have tu:=aKt (w:=.tuple [.int t.a,.int t.b]) rfl (M++[.dt (bE ts)]);have hD:(M++[Cell.dt (bE ts)])[M.length]?=some (.dt (bE ts)):=yX;have kk':keysOf [I t.i,I t.j]=some t.key:=rfl;have l2:(Tie.key t).length<=sizeLine:=sz (show 2<=1000 by decide);have at_:atD (M++[.dt (bE ts)]) (.c M.length) (.inr t.key)=some none:=by simp only[atD,hD,aDF nk]
 have len:(bE ts).length<sizeLine:=by unfold bE;rw[A2,F0];omega
 have st:yZ (M++[.dt (bE ts)]) (.c M.length) (.inr t.key) (.d (.tuple [.int t.a,.int t.b]))=some (M++[.dt (bE (ts++[t]))]):=by
  have pn:putD (bE ts) t.key (.d (.tuple [.int t.a,.int t.b]))=bE (ts++[t]):=RL nk;simp only[yZ,hD,if_pos len,pn];rw[HH]
 simp![fG,ti,aCj,xP,x0,x1,x2,kk',if_pos l2,at_,sZ,tu,st,Option.isSome_none]
theorem DB{n:Int}{x:CD}{M:Sto}:∀(ws ts:List Tie)(k:Nat)(g3 g4:Option CD),((ts++ws).map Tie.key).Nodup->(∀t∈ws,jA n (.tuple (f2 t))=some t)->ts.length+ws.length<1000->
 ∃g3' g4',GM G2 fG (zH k (bA ws)) [some (I n),some x,some (.c M.length),g3,g4] (M++[.dt (bE ts)])=some (.o (.nx [some (I n),some x,some (.c M.length),g3',g4']),M++[.dt (bE (ts++ws))])
 |[]=>fun ts k g3 g4 _ _ _=>⟨g3,g4,by rw[C3];rfl⟩
 |t::ws=>fun ts k g3 g4 nd ok hl=>by
  have nk:∀s∈ts,s.key≠t.key:=fun s hs e=>by
   rw[E5,List.nodup_append]at nd;exact nd.2.2 _ (List.mem_map_of_mem hs) _ (List.mem_map_of_mem (B0 ..)) e
  rw[B4]at hl;have tn:=RW (n:=n) (x:=x) (M:=M) (k:=k) (ts:=ts) (t:=t) (by omega) (ok t (B0 ..)) nk;have e:ts++t::ws=ts++[t]++ws:=by simp
  rw[e]at nd ⊢;obtain⟨a,b,h⟩:=DB (n:=n) (x:=x) (M:=M) ws (ts++[t]) (k+1) (some (I (k:Nat))) (some (.d (.tuple (f2 t)))) nd (fun s hs=>ok s (B1 _ hs)) (by rw[C0,E7];omega);refine⟨a,b,?_⟩;rw[<- h];show GM G2 fG (.d (.tuple [.int (k:Nat),.tuple (f2 t)])::zH (k+1) (bA ws)) _ _=_
  conv=>lhs;unfold GM
  rw[aJI,A1];dsimp only;rw[tn,A1]
theorem aCH{l:List PyData}{c:CD}(hd:bZ d=some l):wZ (aB (aD 1) aH) [some (I n),some (.d d),some c,none,none] M=some (zH 0 l,M):=by
 simp![wZ,hd];rfl
theorem aDa{M:Sto}(ok:Ok n us):
 ∃vs:List Tie,vs.Perm us/\vs.Pairwise Tie.lt/\iP [I n,.d (.list (bA us))] M=some (.v (.d (.tuple (dJ vs))),M++[.dt (bE us)]):=by
 obtain⟨o1,nd,h64⟩:=ok;obtain⟨g3,g4,lp⟩:=DB (n:=n) (x:=.d (.list (bA us))) (M:=M) us [] 0 none none (by rw[U8];exact nd) (fun t ht=>aFm (o1 t ht)) (by rw[U7];omega);rw[U8]at lp;obtain⟨vs,pm,pw,sr,_⟩:=CV rf1 nd h64;refine⟨vs,pm,pw,?_⟩;have rw1:WR (.list (bA us))=true:=rfl;have m0:(M++[Cell.dt []])=M++[.dt (bE [])]:=rfl;have hD:(M++[Cell.dt (bE us)])[M.length]?=some (.dt (bE us)):=yX;have lv:vs.length<64:=by rw[pm.length_eq];exact h64
 have it:aX (vX (aD 2)) [some (I n),some (.d (.list (bA us))),some (.c M.length),g3,g4] (M++[.dt (bE us)])=some (vs.map fun t=>.d (.tuple (f1 t)),M++[.dt (bE us)]):=by
  have s1:vX (aD 2) [some (I n),some (.d (.list (bA us))),some (.c M.length),g3,g4] (M++[.dt (bE us)])=some (.d (.list (vs.map fun t=>.tuple (f1 t))),M++[.dt (bE us)]):=by
   simp![vX,hD,JO,aEe,sr]
  unfold aX;rw[s1,A1];show(some (vs.map fun t=>PyData.tuple (f1 t))).bind _=_;rw[A1,B6];rfl
 have cp:mT [some (I n),some (.d (.list (bA us))),some (.c M.length),g3,g4] (M++[.dt (bE us)])=some (.d (.list (dJ vs)),M++[.dt (bE us)]):=by
  unfold mT;exact yK it (sz (by rw[A2];omega)) (DM vs none none none) (aAJ (by omega))
 have tf:eC [.d (.list (dJ vs))] (M++[.dt (bE us)])=some (.d (.tuple (dJ vs)),M++[.dt (bE us)]):=rfl;have hi:bZ (.list (bA us))=some (bA us):=rfl;simp![iP,oZ,aAp,rw1,uY,m0,QZ,aCH hi,lp,cp,tf]
theorem aCd{M:Sto}(ok:Ok n us)(n1:1<=n)(n40:n<=40):
 ∃vs:List Tie,vs.Perm us/\vs.Pairwise Tie.lt/\iO [.c M.length,I n,.d (.list (bA us))] (M++[.obj "Web" []])=some (.v (.d .none),M++FO M.length n us vs):=by
 obtain⟨vs,pm,pw,k1⟩:=aDa (M:=M++[.obj "Web" [("many",I n)]]) ok;obtain⟨o1,nd,h64⟩:=ok;refine⟨vs,pm,pw,?_⟩;have w1:fQ [I n] (M++[.obj "Web" []])=some (B true,M++[.obj "Web" []]):=kR _ _;have c1:decide (n<1)=false:=C7 (by omega);have c2:decide (n > 40)=false:=C7 (by omega);have o1:objOf "Web" (M++[.obj "Web" []]) (.c M.length)=some (M.length,[]):=EV;have s1:(M++[Cell.obj "Web" []]).set M.length (.obj "Web" (vB "many" (I n) []))=M++[.obj "Web" [("many",I n)]]:=HH
 have k1:iP [I n,.d (.list (bA us))] (M++[.obj "Web" [("many",I n)]])=some (.v (.d (.tuple (dJ vs))),M++[.obj "Web" [("many",I n)],.dt (bE us)]):=by
  rw[k1,E8];rfl
 have o2:objOf "Web" (M++[.obj "Web" [("many",I n)],.dt (bE us)]) (.c M.length)=some (M.length,([("many",I n)]:List (Str×CD))):=EV;have p2:vB "ties" (.d (.tuple (dJ vs))) ([("many",I n)]:List (Str×CD))=([("many",I n),("ties",.d (.tuple (dJ vs)))]:List (Str×CD)):=rfl;have s2:(M++[Cell.obj "Web" [("many",I n)],.dt (bE us)]).set M.length (.obj "Web" [("many",I n),("ties",.d (.tuple (dJ vs)))])=M++[.obj "Web" [("many",I n),("ties",.d (.tuple (dJ vs)))],.dt (bE us)]:=HH;have o3:∀L,objOf "Web" (M++(.obj "Web" [("many",I n),("ties",.d (.tuple (dJ vs)))]::L)) (.c M.length)=some (M.length,([("many",I n),("ties",.d (.tuple (dJ vs)))]:List (Str×CD))):=fun L=>EV;have lk:List.lookup ("ties":Str) [("many",I n),("ties",.d (.tuple (dJ vs)))]=some (.d (.tuple (dJ vs))):=rfl
 have it:aX (rH "Web" "ties" (aD 0)) [some (.c M.length),some (I n),some (.d (.list (bA us)))] (M++[.obj "Web" [("many",I n),("ties",.d (.tuple (dJ vs)))],.dt (bE us)])=some ((bA (vs.filter big)).map .d,M++[.obj "Web" [("many",I n),("ties",.d (.tuple (dJ vs)))],.dt (bE us)]):=by
  have:rH "Web" "ties" (aD 0) [some (.c M.length),some (I n),some (.d (.list (bA us)))] (M++[.obj "Web" [("many",I n),("ties",.d (.tuple (dJ vs)))],.dt (bE us)])=some (.d (.tuple (dJ vs)),M++[.obj "Web" [("many",I n),("ties",.d (.tuple (dJ vs)))],.dt (bE us)]):=by
   simp![rH,o3,lk]
  unfold aX;rw[this];rfl
 have fl:(vs.filter big).length<=vs.length:=L4 ..;have lv:vs.length<64:=by rw[pm.length_eq];exact h64
 have nv:(vs.map Tie.key).Nodup:=(pm.map Tie.key).nodup_iff.mpr nd;have ln:(M++[Cell.obj "Web" [("many",I n),("ties",.d (.tuple (dJ vs)))],.dt (bE us)]).length=M.length+2:=by rw[C0];rfl
 have wc:=JC (N:=M++[.obj "Web" [("many",I n),("ties",.d (.tuple (dJ vs)))],.dt (bE us)]) (vs.filter big) [] none none none (by rw[U8];exact MP nv) (by simp only[List.length_nil];omega);rw[U8]at wc
 have dc:mK [some (.c M.length),some (I n),some (.d (.list (bA us)))] (M++[.obj "Web" [("many",I n),("ties",.d (.tuple (dJ vs)))],.dt (bE us)])=some (.c (M.length+2),M++[.obj "Web" [("many",I n),("ties",.d (.tuple (dJ vs)))],.dt (bE us),.dt (bE (vs.filter big))]):=by
  unfold mK fDc;rw[it,A1];dsimp only;rw[show jO [none,none,none] [some (CD.c M.length),some (I n),some (.d (.list (bA us)))]=[none,none,none]from rfl,show(M++[Cell.obj "Web" [("many",I n),("ties",CD.d (.tuple (dJ vs)))],.dt (bE us)]++[Cell.dt []])=M++[Cell.obj "Web" [("many",I n),("ties",CD.d (.tuple (dJ vs)))],.dt (bE us)]++[Cell.dt (bE [])]from rfl,wc,A1,ln,E8];rfl
 have p3:vB "weights" (.c (M.length+2)) ([("many",I n),("ties",.d (.tuple (dJ vs)))]:List (Str×CD))=([("many",I n),("ties",.d (.tuple (dJ vs))),("weights",.c (M.length+2))]:List (Str×CD)):=rfl;have s3:(M++[Cell.obj "Web" [("many",I n),("ties",.d (.tuple (dJ vs)))],.dt (bE us),.dt (bE (vs.filter big))]).set M.length (.obj "Web" [("many",I n),("ties",.d (.tuple (dJ vs))),("weights",.c (M.length+2))])=M++FO M.length n us vs:=HH;have q0:([]:List (Str×CD)).length<1000:=by decide
 have q1:([("many",I n)]:List (Str×CD)).length<1000:=by show 1<1000;decide
 have q2:([("many",I n),("ties",.d (.tuple (dJ vs)))]:List (Str×CD)).length<1000:=by show 2<1000;decide
 simp![iO,pW,w1,c1,c2,IK,RQ,o1,s1,k1,o2,p2,s2,dc,o3,p3,s3,if_true,if_pos q0,if_pos q1,if_pos q2,show(0:Nat)<1000 from by decide,show(0+1:Nat)<1000 from by decide,show(1:Nat)<1000 from by decide,show(2:Nat)<1000 from by decide,show(0+1+1:Nat)<1000 from by decide]
theorem tR{α β γ:Type}{f:γ->α}:∀{ps:List (α×β)}{ts:List γ},ps.map (·.1)=ts.map f->∃qs:List (γ×β),qs.map (·.1)=ts/\ps=qs.map fun q=>(f q.1,q.2)
 |[],[]=>fun _=>⟨[],rfl,rfl⟩
 |[],_::_=>fun h=>by simp at h
 |_::_,[]=>fun h=>by simp at h
 |p::ps,t::ts=>fun h=>by
  rw[B2,B2]at h;injection h with h1 h2
  obtain⟨qs,e1,e2⟩:=tR h2;refine⟨(t,p.2)::qs,by rw[B2,e1],?_⟩;rw[B2,<- e2,<- h1]
theorem yN{α:Type}(xs:List α):(xs.filter fun _=>true)=xs:=List.filter_eq_self.mpr fun _ _=>rfl
noncomputable abbrev HP:GF:=gZ 2 (bI (hName 0) (bI (hName 1) gV))
noncomputable def vU{α:Type}(r:α->PyData)(q:α×Nat):PyData:=.tuple [.int (q.2:Nat),r q.1]
theorem yJ{α:Type}{f:AF}{f1:α->List Str}{r:α->PyData}{qs:List (α×Nat)}(hf:f γ M=some (qs.map fun q=>.d (.tuple [.int (q.2:Nat),wD (f1 q.1)]),M))(hl:qs.length<=1000)(he:∀q∈qs,∀J:Int,e [some (I J),some (.d (wD (f1 q.1)))] M=some (.d (.tuple [.int J,r q.1]),M)):
 fLc [none,none] f HP eM e γ M=some (.d (.list (qs.map (vU r))),M):=by
 refine iQ hf (by rw[A2];exact hl) ?_ (by rw[A2];exact hl);rw[show jO [none,none] γ=[none,none]from rfl];refine(yU (c:=eM) (M:=M) (fun q=>.int (q.2:Nat)) (fun q=>wD (f1 q.1)) (fun _=>true) (vU r) qs none none fun q hq=>⟨rfl,fun _=>he q hq _⟩).trans ?_;rw[yN]
theorem tS{α:Type}{r:α->PyData}{L:CD}{M:Sto}:∀(qs:List (α×Nat))(g1 g2:Option CD),(∀q∈qs,nF (.d (r q.1))=false)->∃g1' g2',uJ (gZ 2 (bI (hName 1) (bI (hName 2) gV))) iI (qs.map fun q=>.d (vU r q)) [some L,g1,g2] M=some (.nx [some L,g1',g2'],M)
 |[]=>fun g1 g2 _=>⟨g1,g2,rfl⟩
 |q::qs=>fun g1 g2 h=>by
  obtain⟨a,b,ih⟩:=tS (r:=r) (L:=L) (M:=M) qs (some (I (q.2:Nat))) (some (.d (r q.1))) fun p hp=>h p (B1 _ hp);refine⟨a,b,?_⟩
  have t:iI [some L,some (I (q.2:Nat)),some (.d (r q.1))] M=some (.nx [some L,some (I (q.2:Nat)),some (.d (r q.1))],M):=by
   unfold iI;obtain⟨J,hJ⟩:∃J:Int,((q.2:Nat):Int)=J:=⟨_,rfl⟩;rw[hJ];refine(uA (gE (bK (k:=xI false) (show aD 2 [some L,some (I J),some (.d (r q.1))] M=some (.d (r q.1),M)from rfl) (show fC .none [some L,some (I J),some (.d (r q.1))] M=some (.d .none,M)from rfl) ?_))).trans rfl;show some (CD.d (.bool (nF (.d (r q.1)))),M)=_;rw[h q B0]
  rw[B2,tP (show gZ 2 (bI (hName 1) (bI (hName 2) gV)) (.d (vU r q)) [some L,g1,g2] M=some ([some L,some (I (q.2:Nat)),some (.d (r q.1))],M)from rfl) t];exact ih
theorem qR{α:Type}{r:α->PyData}{qs:List (α×Nat)}(h:∀q∈qs,nF (.d (r q.1))=false)(hl:qs.length<=1000):dE [.d (.list (qs.map (vU r)))] M=some (.d (.tuple ((qs.map (·.1)).map r)),M):=by
 obtain⟨L,hL⟩:∃L,CD.d (.list (qs.map (vU r)))=L:=⟨_,rfl⟩;obtain⟨g1,g2,lp⟩:=tS (r:=r) (L:=L) (M:=M) qs none none h
 have it:∀a b,aX (aD 0) [some L,a,b] M=some (qs.map (fun q=>.d (vU r q)),M):=fun a b=>by
  rw[<- hL];unfold aX;rw[show aD 0 [some (CD.d (.list (qs.map (vU r)))),a,b] M=some (CD.d (.list (qs.map (vU r))),M)from rfl,A1];show(some (qs.map (vU r))).bind _=_;rw[A1,B6];rfl
 have cp:mI [some L,g1,g2] M=some (.d (.list ((qs.map (·.1)).map r)),M):=by
  unfold mI;refine iQ (it g1 g2) (by rw[A2];exact hl) ?_ (by rw[A2,A2];exact hl);rw[show jO [none,none] [some L,g1,g2]=[none,none]from rfl];refine(yU (c:=eM) (M:=M) (fun q=>.int (q.2:Nat)) (fun q=>r q.1) (fun _=>true) (fun q=>r q.1) qs none none fun q hq=>⟨rfl,fun _=>?_⟩).trans ?_
  .obtain⟨J,hJ⟩:∃J:Int,((q.2:Nat):Int)=J:=⟨_,rfl⟩;rw[hJ];rfl
  .rw[yN,B6,B6,B6];rfl
 rw[hL];unfold dE;refine eR rfl ?_;show lA [some L,none,none] M=_;unfold lA;rw[aW (vF (it none none) lp)];simp only[bO,aU (F:=eC) (aI cp aQ) (show eC [.d (.list ((qs.map (·.1)).map r))] M=some (.d (.tuple ((qs.map (·.1)).map r)),M)from rfl),Option.bind_some]
theorem sG{α:Type}{f1:α->List Str}{qs:List (α×Nat)}(h:x.length<=1000000)(e:sdS x=qs.map fun q=>(f1 q.1,q.2)):aX (aK cK (aB (aD 0) aH)) [some (S x)] M=some (qs.map fun q=>.d (.tuple [.int (q.2:Nat),wD (f1 q.1)]),M):=by
 unfold aX;rw[aU (F:=cK) (aI (show aD 0 [some (S x)] M=some (S x,M)from rfl) aQ) (uL h),A1,e,B6];show(some (qs.map _)).bind _=_;rw[A1,B6];rfl
theorem WC{t:Tie}(h:RdT t):eV (aB (aD 0) (aB (aK gF (aB (aD 1) (aB (fC (.str w)) aH))) aH)) [some (I J),some (.d (wD (mO w t)))] M=some (.d (.tuple [.int J,cQ false t]),M):=
 mP (aI (show aD 0 [some (I J),some (.d (wD (mO w t)))] M=some (I J,M)from rfl) (aI (aU (F:=gF) (aI (show aD 1 [some (I J),some (.d (wD (mO w t)))] M=some (.d (.list ((mO w t).map .str)),M)from rfl) (aI (show fC (.str w) [some (I J),some (.d (wD (mO w t)))] M=some (S w,M)from rfl) aQ)) (LL h)) aQ)) (ds:=[.int J,cQ false t]) rfl (show(2:Nat)<=500 by decide)
theorem wG{ts:List Tie}(h:x.length<=1000000)(e:(sdS x).map (·.1)=ts.map (mO "branch"))(hr:∀t∈ts,RdT t)(hl:ts.length<=1000):eL [S x] M=some (.d (.tuple (ts.map (cQ false))),M):=by
 obtain⟨qs,q1,q2⟩:=tR e;have ql:qs.length<=1000:=by rw[<- q1,A2]at hl;exact hl
 have qr:∀q∈qs,RdT q.1:=fun q hq=>hr q.1 (by rw[<- q1];exact List.mem_map.mpr ⟨q,hq,rfl⟩);have cp:rV [some (S x)] M=some (.d (.list (qs.map (vU (cQ false)))),M):=yJ (sG h q2) ql fun q hq J=>WC (qr q hq);have rr:=qR (r:=cQ false) (qs:=qs) (M:=M) (fun q _=>rfl) ql;rw[q1]at rr;unfold eL;refine eR rfl ?_;show lE [some (S x)] M=_;unfold lE;simp only[bO,aU (F:=dE) (aI cp aQ) rr,Option.bind_some]
theorem wQ{ts:List Tie}(h:x.length<=1000000)(e:(sdS x).map (·.1)=ts.map (mO "flow"))(hr:∀t∈ts,RdT t)(hl:ts.length<=1000):eQ [S x] M=some (.d (.tuple (ts.map (cQ false))),M):=by
 obtain⟨qs,q1,q2⟩:=tR e;have ql:qs.length<=1000:=by rw[<- q1,A2]at hl;exact hl
 have qr:∀q∈qs,RdT q.1:=fun q hq=>hr q.1 (by rw[<- q1];exact List.mem_map.mpr ⟨q,hq,rfl⟩);have cp:rY [some (S x)] M=some (.d (.list (qs.map (vU (cQ false)))),M):=yJ (sG h q2) ql fun q hq J=>WC (qr q hq);have rr:=qR (r:=cQ false) (qs:=qs) (M:=M) (fun q _=>rfl) ql;rw[q1]at rr;unfold eQ;refine eR rfl ?_;show kZ [some (S x)] M=_;unfold kZ;simp only[bO,aU (F:=dE) (aI cp aQ) rr,Option.bind_some]
theorem aCS(h:RdS ns):jX [.d (.list ((lN ns).map .str))] M=some (.d (sqK false ns),M):=by
 obtain⟨h1,h2,h3⟩:=h;cases ns with
 |nil=>exact absurd rfl h1
 |cons n ns=>exact RX h2 (by rw[B4]at h3;omega)
theorem tN{ss:List (List Int)}(h:x.length<=1000000)(e:(sdS x).map (·.1)=ss.map lN)(hr:∀t∈ss,RdS t)(hl:ss.length<=1000):dU [S x] M=some (.d (.tuple (ss.map (sqK false))),M):=by
 obtain⟨qs,q1,q2⟩:=tR e;have ql:qs.length<=1000:=by rw[<- q1,A2]at hl;exact hl
 have qr:∀q∈qs,RdS q.1:=fun q hq=>hr q.1 (by rw[<- q1];exact List.mem_map.mpr ⟨q,hq,rfl⟩)
 have cp:pS [some (S x)] M=some (.d (.list (qs.map (vU (sqK false)))),M):=yJ (sG h q2) ql fun q hq J=>
  mP (aI (show aD 0 [some (I J),some (.d (wD (lN q.1)))] M=some (I J,M)from rfl) (aI (aU (F:=jX) (aI (show aD 1 [some (I J),some (.d (wD (lN q.1)))] M=some (.d (.list ((lN q.1).map .str)),M)from rfl) aQ) (aCS (qr q hq))) aQ)) (ds:=[.int J,sqK false q.1]) rfl (show(2:Nat)<=500 by decide)
 have rr:=qR (r:=sqK false) (qs:=qs) (M:=M) (fun q _=>rfl) ql;rw[q1]at rr;unfold dU;refine eR rfl ?_;show jJ [some (S x)] M=_;unfold jJ;simp only[bO,aU (F:=dE) (aI cp aQ) rr,Option.bind_some]
theorem aJw(h0:0<=n)(h1:n<100):cH [S (sI n)] M=some (I n,M):=by
 obtain⟨m,rfl⟩:=F4 h0;exact nI (by omega)
theorem UN(n1:1<=n)(n40:n<=40):nG [.d (wD ["places",sI n])] M=some (I n,M):=by
 obtain⟨W,hW⟩:∃W,CD.d (wD ["places",sI n])=W:=⟨_,rfl⟩;have x0:ixF W (I 0) M=some (S "places",M):=by rw[<- hW];rfl
 have x1:ixF W (I 1) M=some (S (sI n),M):=by rw[<- hW];rfl
 have le:iS [W] M=some (I 2,M):=by rw[<- hW];rfl
 rw[hW];have v0:∀g1,aD 0 [some W,g1] M=some (W,M):=fun _=>rfl;have eq1:eqX false (S "places") (S "places") M=some (B true,M):=rfl;have t1:=gE (bK (k:=eqX false) (aU (F:=iS) (aI (v0 none) aQ) le) (bP (i:=2)) (show eqX false (I 2) (I 2) M=some (B true,M)from rfl));have t2:=gE (bK (k:=eqX false) (bK (k:=ixF) (v0 none) (bP (i:=0)) x0) (show fC (.str "places") [some W,none] M=some (S "places",M)from rfl) eq1)
 have e1:fIf (vN (gB (fOp (eqX false) (aK iS (aB (aD 0) aH)) (fC (.int 2)))) (gB (fOp (eqX false) (fOp ixF (aD 0) (fC (.int 0))) (fC (.str "places"))))) (aK cH (aB (fOp ixF (aD 0) (fC (.int 1))) aH)) (fC .none) [some W,none] M=some (I n,M):=by
  have ta:vN (gB (fOp (eqX false) (aK iS (aB (aD 0) aH)) (fC (.int 2)))) (gB (fOp (eqX false) (fOp ixF (aD 0) (fC (.int 0))) (fC (.str "places")))) [some W,none] M=some (true,M):=by
   unfold vN;rw[t1];exact t2
  unfold fIf;rw[ta,A1];dsimp only;rw[A4 rfl];exact aU (F:=cH) (aI (bK (k:=ixF) (v0 none) (bP (i:=1)) x1) aQ) (aJw (by omega) (by omega))
 have a1:bB _ (hName 1) [some W,none] M=some (.nx [some W,some (I n)],M):=bX e1;have d1:decide (1<=n)=true:=C5 n1;have d2:decide (n<=40)=true:=C5 n40;have nn:xI true (I n) (.d .none) M=some (B true,M):=rfl;unfold nG;refine eR rfl ?_;show qV [some W,none] M=_;unfold qV;rw[aW a1];simp![nn,d1,d2]
theorem NG{us:List Tie}{M:Sto}(h:x.length<=1000000)(e:(sdS x).map (·.1)=((["places",sI n]:List Str)::us.map (mO "tie")))(hr:∀t∈us,RdT t)(ok:Ok n us)(n1:1<=n)(n40:n<=40):
 ∃vs:List Tie,vs.Perm us/\vs.Pairwise Tie.lt/\hV [S x] M=some (.c M.length,M++FO M.length n us vs):=by
 obtain⟨vs,pm,pw,ini⟩:=aCd (M:=M) ok n1 n40;refine⟨vs,pm,pw,?_⟩;have sl:=uL (x:=x) (M:=M) h;cases hs:sdS x with
 |nil=>rw[hs]at e;simp at e
 |cons p ps=>
  rw[hs,B2]at e;injection e with e0 e1
  obtain⟨qs,q1,q2⟩:=tR e1
  have ql:qs.length<=1000:=by
   have:=ok.2.2;rw[<- q1,A2]at this;omega
  have qr:∀q∈qs,RdT q.1:=fun q hq=>hr q.1 (by rw[<- q1];exact List.mem_map.mpr ⟨q,hq,rfl⟩);obtain⟨J,hJ⟩:∃J:Int,((p.2:Nat):Int)=J:=⟨_,rfl⟩;obtain⟨R,hR⟩:∃R,ps.map sdD=R:=⟨_,rfl⟩;obtain⟨W,hW⟩:∃W,wD ["places",sI n]=W:=⟨_,rfl⟩;rw[hs,B2,hR,show sdD p=.tuple [.int J,W]by unfold sdD;rw[hJ,<- hW,<- e0]]at sl;have a1:bB (aK cK (aB (aD 0) aH)) (hName 1) [some (S x),none,none,none] M=some (.nx [some (S x),some (.d (.list (.tuple [.int J,W]::R))),none,none],M):=bX (aU (aI (show aD 0 [some (S x),none,none,none] M=some (S x,M)from rfl) aQ) sl);have v1:∀a b,aD 1 [some (S x),some (.d (.list (.tuple [.int J,W]::R))),a,b] M=some (.d (.list (.tuple [.int J,W]::R)),M):=fun _ _=>rfl;have a2:sIf (gO (CB (aD 1))) sH cP [some (S x),some (.d (.list (.tuple [.int J,W]::R))),none,none] M=some (.nx [some (S x),some (.d (.list (.tuple [.int J,W]::R))),none,none],M):=rfl
  have i0:ixF (.d (.list (.tuple [.int J,W]::R))) (I 0) M=some (.d (.tuple [.int J,W]),M):=by
   show(atI (PyData.tuple [.int J,W]::R) ((0:Nat):Int)).bind _=_;rw[rB (k:=0) (x:=PyData.tuple [.int J,W]) rfl];rfl
  have i1:ixF (.d (.tuple [.int J,W])) (I 1) M=some (.d W,M):=rfl;have mi:=UN (M:=M) n1 n40;rw[hW]at mi;have a3:bB (aK nG (aB (fOp ixF (fOp ixF (aD 1) (fC (.int 0))) (fC (.int 1))) aH)) (hName 2) [some (S x),some (.d (.list (.tuple [.int J,W]::R))),none,none] M=some (.nx [some (S x),some (.d (.list (.tuple [.int J,W]::R))),some (I n),none],M):=bX (aU (aI (bK (k:=ixF) (bK (k:=ixF) (v1 none none) (bP (i:=0)) i0) (bP (i:=1)) i1) aQ) mi);have a4:sIf (gB (fOp (xI false) (aD 2) (fC .none))) sH cP [some (S x),some (.d (.list (.tuple [.int J,W]::R))),some (I n),none] M=some (.nx [some (S x),some (.d (.list (.tuple [.int J,W]::R))),some (I n),none],M):=rfl
  have it:aX (fSl (aD 1) (gL (fC (.int 1))) dM) [some (S x),some (.d (.list (.tuple [.int J,W]::R))),some (I n),none] M=some (qs.map fun q=>.d (.tuple [.int (q.2:Nat),wD (mO "tie" q.1)]),M):=by
   have e:fSl (aD 1) (gL (fC (.int 1))) dM [some (S x),some (.d (.list (.tuple [.int J,W]::R))),some (I n),none] M=some (.d (.list R),M):=by
    unfold fSl;rw[v1,A1];show some (CD.d (.list (mY (.tuple [.int J,W]::R) (some 1) none)),M)=_;rw[JG]
   unfold aX;rw[e,A1];show(some R).bind _=_;rw[A1,<- hR,q2,B6,B6];rfl
  have cp:jM [some (S x),some (.d (.list (.tuple [.int J,W]::R))),some (I n),none] M=some (.d (.list (bA us)),M):=by
   unfold jM;refine iQ it (by rw[A2];exact ql) ?_ (by unfold bA;rw[A2,<- q1,A2];exact ql);rw[show jO [none,none] [some (S x),some (.d (.list (.tuple [.int J,W]::R))),some (I n),none]=[none,none]from rfl];refine(yU (c:=eM) (M:=M) (fun q=>.int (q.2:Nat)) (fun q=>wD (mO "tie" q.1)) (fun _=>true) (fun q=>cQ false q.1) qs none none fun q hq=>⟨rfl,fun _=>?_⟩).trans ?_
   .obtain⟨J',hJ'⟩:∃J':Int,((q.2:Nat):Int)=J':=⟨_,rfl⟩;rw[hJ'];exact aU (F:=gF) (aI (show aD 1 [some (I J'),some (.d (wD (mO "tie" q.1)))] M=some (.d (.list ((mO "tie" q.1).map .str)),M)from rfl) (aI (show fC (.str "tie") [some (I J'),some (.d (wD (mO "tie" q.1)))] M=some (S "tie",M)from rfl) aQ)) (LL (qr q hq))
   .rw[yN,<- q1];unfold bA;rw[B6,B6,B6];rfl
  have mk:IQ "Web" iO (aB (aD 2) (aB jM aH)) [some (S x),some (.d (.list (.tuple [.int J,W]::R))),some (I n),none] M=some (.v (.c M.length),M++FO M.length n us vs):=by
   unfold IQ;rw[aI (show aD 2 [some (S x),some (.d (.list (.tuple [.int J,W]::R))),some (I n),none] M=some (I n,M)from rfl) (aI cp aQ),A1,ini,A1];rfl
  have tr:nR [some (S x),some (.d (.list (.tuple [.int J,W]::R))),some (I n),none] M=some (.o (.rt (.c M.length)),M++FO M.length n us vs):=by
   unfold nR KN;rw[mk,A1]
  unfold hV;refine eR rfl ?_;show nV [some (S x),none,none,none] M=_;unfold nV;rw[aW a1,aW a2,aW a3,aW a4];unfold aAy;rw[tr,A1]
noncomputable def Wd(w:Str):Prop:=32∉sg w/\10∉sg w/\sg w≠[]
theorem aAk{w:Str}(h1:∀c∈sg w,47<=c)(h2:sg w≠[]):Wd w:=⟨fun h=>by have:=h1 _ h;omega,fun h=>by have:=h1 _ h;omega,h2⟩
theorem zT(h:(sg w).all (fun c=>decide (47<=c))=true/\(sg w).isEmpty=false):Wd w:=aAk (fun c hc=>D4 (List.all_eq_true.mp h.1 c hc)) fun e=>by
 have:=h.2;rw[e]at this;cases this
theorem xQ{n:Int}(h:0<=n):(∀c∈sg (sI n),47<=c)/\sg (sI n)≠[]:=by
 obtain⟨m,rfl⟩:=F4 h;rw[fY];refine⟨fun c hc=>by have:=tK m c hc;omega,?_⟩;by_cases q:m<10
 .rw[oV q];simp
 .rw[FA q];simp
theorem LK(h:0<=n):Wd (sI n):=aAk (xQ h).1 (xQ h).2
theorem aFy(ha:0<=a)(hb:0<=b):Wd (fU a b):=by
 unfold fU;split
 .exact LK ha
 .have h1:=xQ ha;have h2:=xQ hb;refine aAk (fun c hc=>?_) fun e=>?_
  .rw[cU,cU,show sg ("/":Str)=[47]by decide]at hc;rcases List.mem_append.mp hc with h|h
   .rcases List.mem_append.mp h with h|h
    .exact h1.1 c h
    .rw[List.mem_singleton.mp h];exact A8 _
   .exact h2.1 c h
  .rw[cU,cU]at e;have:=(List.append_eq_nil_iff.mp e).2;exact h2.2 this
theorem aKh:sg (" ":Str)=[32]:=by decide
theorem aAP{t:Tie}(hw:Wd w)(lw:w.length<=100)(h:RdT t):JQ (nA w t) (mO w t):=by
 obtain⟨b1,b2,b3,b4⟩:=h.bd;refine⟨by simp[mO],fun x hx=>?_,?_,C9 (SR lw b1 b2 b3 b4) (by decide)⟩
 .simp only[mO,List.mem_cons,List.not_mem_nil,or_false]at hx;rcases hx with rfl|rfl|rfl|rfl
  .exact hw
  .exact LK h.i.1
  .exact LK h.j.1
  .exact aFy h.a.1 (by have:=h.b.1;omega)
 .show sg (w++" "++sI t.i++" "++sI t.j++" "++fU t.a t.b)=sg w++32::(sg (sI t.i)++32::(sg (sI t.j)++32::sg (fU t.a t.b)));rw[cU,cU,cU,cU,cU,cU,aKh];simp only[List.append_assoc,List.cons_append,List.nil_append]
theorem NB{ns:List Int}(h:∀k∈ns,0<=k/\k<100)(hl:ns.length<=20):(qE ns).length<=10000:=by
 have g:=StrLaws.join_length_le " " ("side"::ns.map sI)
 have h2:=OD (n:=2) (ls:=(ns.map sI).map (·.length)) fun x hx=>by
  rw[B6]at hx;obtain⟨n,hn,rfl⟩:=List.mem_map.mp hx;obtain⟨n0,n1⟩:=h n hn;obtain⟨m,rfl⟩:=F4 n0;show(sI ((m:Nat):Int)).length<=2;rw[str_len,fY];exact(tE 1 m (by omega)).1
 rw[A2,A2]at h2;rw[B2,List.sum_cons,B4,A2,sp1,sd4]at g;show(Builtin.Str.glued " " ("side"::ns.map sI)).length<=_;rw[Y0];refine C9 g ?_;omega
theorem aCn(h:RdS ns):JQ (qE ns) (lN ns):=by
 refine⟨by simp[lN],fun x hx=>?_,?_,NB h.2.1 h.2.2⟩
 .rcases List.mem_cons.mp hx with rfl|hx
  .exact zT (by decide)
  .obtain⟨n,hn,rfl⟩:=List.mem_map.mp hx;exact LK (h.2.1 n hn).1
 .show sg (Builtin.Str.glued " " (lN ns))=_;rw[Y0];exact FW 32 (lN ns)
noncomputable def pl(n:Int):Str:="places "++sI n
theorem UL(h0:0<=n)(h1:n<100):JQ (pl n) ["places",sI n]:=by
 have t:=uZ;have b:Bd n:=Bd.of h0 (by omega);have l:=kD b;refine⟨by simp,fun x hx=>?_,?_,by unfold pl;rw[gJ,show("places ":Str).length=7 by decide];omega⟩
 .rcases List.mem_cons.mp hx with rfl|hx
  .exact zT (by decide)
  .rw[List.mem_singleton.mp hx];exact LK h0
 .unfold pl;rw[cU,show sg ("places ":Str)=sg ("places":Str)++[32]by decide,E8];rfl
structure Sm(k:Nat)(d:PyData):Prop where
 eq:PyData.eqv d d=true
 lay:PyData.canLay0 d=true
 dp:d.depth<=k
theorem yR(i:Int):Sm 0 (.int i):=⟨by show(i==i)=true;exact beq_self_eq_true i,rfl,A8 _⟩
theorem OB{k:Nat}:∀{ds:List PyData},(∀d∈ds,Sm k d)->PyData.eqvAll ds ds=true/\PyData.canLayAll0 ds=true/\PyData.depthAll ds<=k
 |[]=>fun _=>⟨rfl,rfl,F8 _⟩
 |d::ds=>fun h=>by
  obtain⟨h1,h2,h3⟩:=OB (k:=k) (ds:=ds) fun x hx=>h x (B1 _ hx);obtain⟨g1,g2,g3⟩:=h d B0;refine⟨?_,?_,Nat.max_le.mpr ⟨g3,h3⟩⟩
  .show(PyData.eqv d d&&PyData.eqvAll ds ds)=true;rw[g1,h1];rfl
  .show(d.canLay0&&PyData.canLayAll0 ds)=true;rw[g2,h2];rfl
theorem OH{k:Nat}{ds:List PyData}(h:∀d∈ds,Sm k d):Sm (k+1) (.tuple ds):=by
 obtain⟨h1,h2,h3⟩:=OB h;exact⟨h1,h2,Nat.succ_le_succ h3⟩
theorem aDf{k:Nat}{ds:List PyData}(h:∀d∈ds,Sm k d):Sm (k+1) (.list ds):=by
 obtain⟨h1,h2,h3⟩:=OB h;exact⟨h1,h2,Nat.succ_le_succ h3⟩
theorem Sm.mono{k:Nat}(h:Sm k d)(l:k<=m):Sm m d:=⟨h.1,h.2,C9 h.3 l⟩
theorem aAa(t:Tie):Sm 2 (cQ false t):=OH (k:=1) (ds:=[.int t.i,.int t.j,.tuple [.int t.a,.int t.b]]) fun d hd=>by
 simp only[List.mem_cons,List.not_mem_nil,or_false]at hd;rcases hd with rfl|rfl|rfl
 .exact(yR _).mono (by decide)
 .exact(yR _).mono (by decide)
 .refine OH (k:=0) fun d hd=>?_;simp only[List.mem_cons,List.not_mem_nil,or_false]at hd;rcases hd with rfl|rfl
  .exact yR _
  .exact yR _
theorem aCe(ns:List Int):Sm 2 (sqK false ns):=(OH (k:=0) (ds:=ns.map .int) fun d hd=>by
 obtain⟨i,_,rfl⟩:=List.mem_map.mp hd;exact yR i).mono (by decide)
theorem eq_list{k:Nat}{ds:List PyData}(h:∀d∈ds,Sm k d)(hk:k<=60):eqX false (.d (.list ds)) (.d (.list ds)) M=some (B true,M):=by
 obtain⟨e,l,p⟩:=aDf h
 have s:SeqAt.shaped (.list ds)=true:=by
  unfold SeqAt.shaped;rw[l,C5 (show(PyData.list ds).depth<=64 by omega)];rfl
 have e1:eqS false (.d (.list ds)) (.d (.list ds)) M=none:=rfl
 have e2:eqD false (.d (.list ds)) (.d (.list ds)) M=some (B true,M):=by
  show(if (SeqAt.shaped (.list ds)&&SeqAt.shaped (.list ds))=true then some (CD.d (.bool (PyData.eqv (.list ds) (.list ds))),M)else none)=_;rw[s,e];rfl
 simp only[eqX,zO,e1,e2]
noncomputable def Pl(n:Nat)(d:PyData):Prop:=∀M,cJ n [.d d] M=some (B true,M)
theorem zY(n:Nat)(i:Int):Pl (n+1) (.int i):=fun M=>rfl
theorem GE{n:Nat}{ds:List PyData}(h:∀d∈ds,Pl n d)(hl:ds.length<=1000):Pl (n+1) (.tuple ds):=fun M=>by
 have it:aX (aD 0) [some (.d (.tuple ds))] M=some (ds.map fun d=>.d d,M):=rfl
 have cp:kB (cJ n) [some (.d (.tuple ds))] M=some (.d (.list (ds.map fun _=>.bool true)),M):=by
  unfold kB;refine iQ it (by rw[A2];exact hl) ?_ (by rw[A2];exact hl);rw[show jO [none] [some (CD.d (.tuple ds))]=[none]from rfl];exact lH (fun d=>.d d) (fun _=>.bool true) ds none fun d hd=>aU (F:=cJ n) (aI (show aD 0 [some (CD.d d)] M=some (.d d,M)from rfl) aQ) (h d hd M)
 show fnF 1 1 (gG (cJ n)) [.d (.tuple ds)] M=_;refine eR rfl ?_;show gG (cJ n) [some (.d (.tuple ds))] M=_;unfold gG;refine aFE ?_;rw[aEB (show gB (sY "tuple" (aD 0)) [some (CD.d (.tuple ds))] M=some (true,M)from rfl)];simp only[bO,aU (F:=xM) (aI cp aQ) (all_true ds M),Option.bind_some]
theorem aBA{n:Nat}(t:Tie):Pl (n+3) (cQ false t):=GE (n:=n+2) (ds:=[.int t.i,.int t.j,.tuple [.int t.a,.int t.b]]) (fun d hd=>by
 simp only[List.mem_cons,List.not_mem_nil,or_false]at hd;rcases hd with rfl|rfl|rfl
 .exact zY _ _
 .exact zY _ _
 .refine GE (n:=n+1) (fun d hd=>?_) (show(2:Nat)<=1000 by decide);simp only[List.mem_cons,List.not_mem_nil,or_false]at hd;rcases hd with rfl|rfl
  .exact zY _ _
  .exact zY _ _) (show(3:Nat)<=1000 by decide)
theorem aCc{n:Nat}(hl:ns.length<=1000):Pl (n+2) (sqK false ns):=GE (n:=n+1) (ds:=ns.map .int) (fun d hd=>by
 obtain⟨i,_,rfl⟩:=List.mem_map.mp hd;exact zY _ i) (by rw[A2];exact hl)
theorem aHp{ds:List PyData}(h1:∀d∈ds,Sm 2 d)(h2:∀d∈ds,Pl 8 d)(hl:ds.length<=1000):dD [.d (.tuple ds),.d (.list ds)] M=some (B true,M):=by
 have e1:=eq_list (M:=M) h1 (by decide);have e2:=GE h2 hl M;have e3:zD [.d (.tuple ds)] M=some (.d (.list ds),M):=rfl;have e4:sY "tuple" (aD 0) [some (CD.d (.tuple ds)),some (.d (.list ds))] M=some (B true,M):=rfl;have r1:=bK (k:=eqX false) (aU (F:=zD) (aI (show aD 0 [some (CD.d (.tuple ds)),some (.d (.list ds))] M=some (.d (.tuple ds),M)from rfl) aQ) e3) (show aD 1 [some (CD.d (.tuple ds)),some (.d (.list ds))] M=some (.d (.list ds),M)from rfl) e1;have r2:=aU (F:=cJ 9) (aI (show aD 0 [some (CD.d (.tuple ds)),some (.d (.list ds))] M=some (.d (.tuple ds),M)from rfl) aQ) e2;unfold dD;refine eR rfl ?_;show lP [some (.d (.tuple ds)),some (.d (.list ds))] M=_;unfold lP;simp only[bO,kT,e4,r1,r2,asB,Option.bind_some,if_true]
theorem DS{M1:Sto}{i:Nat}(h:f γ M=some (.c i,M1))(hi:M1[i]?=some (.lst (ds.map .d))):lB f γ M=some (.d (.list ds),M1.set i .dead):=by
 simp only[lB,h,Option.bind_some,hi,tI]
theorem vZ{f:AF}{ts:List Tie}(it:f γ M=some (ts.map (fun t=>.d (cQ false t)),M))(hw:w.length<=100)(hb:∀t∈ts,RdT t)(hl:ts.length<=1000)(hc:jO [none] γ=[none]):
 fLc [none] f (hName 0) eM (aK dR (aB (fC (.str w)) (aB (aD 0) aH))) γ M=some (.d (.list (ts.map fun t=>.str (nA w t))),M):=by
 refine iQ it (by rw[A2];exact hl) ?_ (by rw[A2];exact hl);rw[hc];refine lH (fun t=>.d (cQ false t)) (fun t=>.str (nA w t)) ts none fun t ht=>?_;obtain⟨b1,b2,b3,b4⟩:=(hb t ht).bd;exact aU (F:=dR) (aI (show fC (.str w) [some (.d (cQ false t))] M=some (S w,M)from rfl) (aI (show aD 0 [some (CD.d (cQ false t))] M=some (.d (cQ false t),M)from rfl) aQ)) (OI (k:=false) (k':=false) hw b1 b2 b3 b4)
theorem aBn(h:gW a b=true)(e:a=0):b=1:=by
 subst e;unfold gW at h;simp only[Bool.and_eq_true,decide_eq_true_eq,beq_iff_eq]at h;have:Int.gcd 0 b=b.natAbs:=Int.gcd_zero_left b;omega
theorem aFU(h:gW a b=true):eqX true (.d (.tuple [.int a,.int b])) (.d (.tuple [.int 0,.int 1])) M=some (B (decide (a > 0)),M):=by
 have e:eqX true (.d (.tuple [.int a,.int b])) (.d (.tuple [.int 0,.int 1])) M=some (B (!(a==0&&(b==1&&true))),M):=rfl;rw[e];obtain⟨w1,w2,w3,w4⟩:=aEE h;by_cases q:a=0
 .rw[aBn h q,q];rfl
 .rw[show(a==0)=false by simpa using q,C5 (show a > 0 by omega)];rfl
theorem JU{t:Tie}(n40:n<=40)(h:gW t.a t.b=true/\0<=t.i/\t.i<t.j/\t.j<n):RdT t:=by
 obtain⟨h1,h2,h3,h4⟩:=h;obtain⟨w1,w2,w3,w4⟩:=aEE h1
 have g:Int.gcd t.a t.b=1:=by
  unfold gW at h1;simp only[Bool.and_eq_true,decide_eq_true_eq,beq_iff_eq]at h1;exact h1.1.2
 exact⟨⟨h2,by omega⟩,⟨by omega,by omega⟩,⟨w1,by rw[JS];omega⟩,⟨w3,by rw[JS];omega⟩,g⟩
theorem YJ{n:Int}{vs:List Tie}(hv:γ[3]?=some (some (.d (.list (bA vs)))))(ok:∀t∈vs,gW t.a t.b=true)(hl:vs.length<=90):FT γ M=some (.d (.list (dJ vs)),M):=by
 have it:aX (aD 3) γ M=some (vs.map (fun t=>.d (cQ false t)),M):=by
  simp only[aX,aD,hv,Option.bind_some];show(some (bA vs)).bind _=_;rw[A1];unfold bA;rw[B6];rfl
 have fl:(vs.filter big).length<=vs.length:=L4 ..;unfold FT;refine iQ it (by rw[A2];omega) ?_ (by unfold dJ;rw[A2];omega);rw[show jO [none] γ=[none]from rfl];refine(FQ (fun t=>.d (cQ false t)) big (fun t=>cQ false t) vs none fun t ht=>⟨?_,rfl⟩).trans ?_
 .have x2:=(ix3 false (.int t.i) (.int t.j) (P false t.a t.b) M).2.2;exact gE (bK (k:=eqX true) (bK (k:=ixF) (show aD 0 [some (CD.d (cQ false t))] M=some (.d (cQ false t),M)from rfl) (bP (i:=2)) x2) (ZO [some (.d (cQ false t))] M) (aFU (M:=M) (ok t ht)))
 .unfold dJ;rfl
theorem ZR{α:Type}{xs:List α}(h0:0<=z):mY xs (some z) none=xs.drop (min z.toNat xs.length):=by
 unfold mY HT.sIx;dsimp only;rw[A5 (by omega),List.take_of_length_le];rw[List.length_drop];omega
theorem aBy{α:Type}{xs:List α}(h0:0<=z):mY xs none (some z)=xs.take (min z.toNat xs.length):=by
 unfold mY HT.sIx;dsimp only;rw[A5 (by omega),List.drop_zero,Nat.sub_zero]
theorem IY{n:Int}{vs:List Tie}{M:Sto}(h3:γ[3]?=some (some (.d (.list (bA vs)))))(h4:γ[4]?=some (some (I z)))(z0:0<=z)(hl:vs.length<=90)(hb:∀t∈vs,RdT t)(hc:jO [none] γ=[none]):
 ∃us:List Tie,us.Perm vs/\HG γ M=some (.d (.list (us.map fun t=>.str (nA "tie" t))),M):=by
 obtain⟨k,hk⟩:∃k,min z.toNat (bA vs).length=k:=⟨_,rfl⟩;have pm:(vs.drop k++vs.take k).Perm vs:=(List.perm_append_comm).trans (by rw[List.take_append_drop]);refine⟨vs.drop k++vs.take k,pm,?_⟩;have v3:aD 3 γ M=some (.d (.list (bA vs)),M):=by simp only[aD,h3]
 have v4:aD 4 γ M=some (I z,M):=by simp only[aD,h4]
 have pt:gL (aD 4) γ M=some (some z,M):=by
  unfold gL;rw[v4,A1];rfl
 have e1:fSl (aD 3) (gL (aD 4)) dM γ M=some (.d (.list ((bA vs).drop k)),M):=by
  unfold fSl;rw[v3,A1];dsimp only;rw[pt,A1];show some (CD.d (.list (mY (bA vs) (some z) none)),M)=_;rw[ZR z0,hk]
 have e2:fSl (aD 3) dM (gL (aD 4)) γ M=some (.d (.list ((bA vs).take k)),M):=by
  unfold fSl;rw[v3,A1];show((gL (aD 4) γ M).bind _)=_;rw[pt,A1];show some (CD.d (.list (mY (bA vs) none (some z))),M)=_;rw[aBy z0,hk]
 have lr:(bA vs).length=vs.length:=by unfold bA;rw[A2]
 have ad:=bK (k:=dX) e1 e2 (yE (by rw[List.length_drop,List.length_take,lr];omega))
 have it:aX (fOp dX (fSl (aD 3) (gL (aD 4)) dM) (fSl (aD 3) dM (gL (aD 4)))) γ M=some ((vs.drop k++vs.take k).map (fun t=>.d (cQ false t)),M):=by
  unfold aX;rw[ad,A1];show(some ((bA vs).drop k++(bA vs).take k)).bind _=_;rw[A1];unfold bA;rw[<- List.map_drop,<- List.map_take,<- E5,B6];rfl
 exact vZ it (by decide) (fun t ht=>hb t (pm.mem_iff.mp ht)) (by rw[pm.length_eq];omega) hc
theorem ON{ss:List (List Int)}(hv:γ[8]?=some (some (.d (.list (ss.map (sqK false))))))(h:∀s∈ss,RdS s)(hl:ss.length<=90):xS γ M=some (.d (.list (ss.map fun s=>.str (qE s))),M):=by
 have it:=ZL (k:=false) (ss:=ss) (M:=M) hv rfl;unfold xS;refine iQ it (by rw[A2];omega) ?_ (by rw[A2];omega);rw[show jO [none] γ=[none]from rfl];refine lH (fun s=>.d (sqK false s)) (fun s=>.str (qE s)) ss none fun s hs=>?_;obtain⟨h1,h2,h3⟩:=h s hs;have t:=uZ;have bd:∀k∈s,Bd k:=fun k hk=>Bd.of (h2 k hk).1 (by have:=(h2 k hk).2;omega);have c4:RC [some (.d (sqK false s))] M=some (.d (.list ((s.map sI).map .str)),M):=TZ (f:=aX (aD 0)) aBD bd (by omega) rfl;exact VF (aAW _ M) c4 bd h3
noncomputable abbrev GL(g0 g1 g2 g3 g4 g5 g6 g7 g8:Option CD):Ga:=[g0,g1,g2,g3,g4,g5,g6,g7,g8]
theorem FD{ds:List PyData}{M1 M2:Sto}(hf:f γ M=some (.d (.tuple ds),M1))(hg:g γ M1=some (.d (.list ds),M2))(h1:∀d∈ds,Sm 2 d)(h2:∀d∈ds,Pl 8 d)(hl:ds.length<=1000):
 sIf (gO (gB (aK dD (aB f (aB g aH))))) (bO (fC (.bool false))) cP γ M=some (.nx γ,M2):=by
 have e:=gE (aU (F:=dD) (aI hf (aI hg aQ)) (aHp (M:=M2) h1 h2 hl));refine(uA (M':=M2) ?_).trans rfl;unfold gO;rw[e];rfl
theorem AC{α:Type}(f:α->Str)(g:α->List Str)(ts:List α):(ts.map fun t=>(f t,g t)).map (fun p=>PyData.str p.1)=ts.map fun t=>.str (f t):=by rw[B6];rfl
theorem CQ{F:FN}{ts:List Tie}(v1:aD 1 γ M=some (.c c,M))(hC:C γ M=some (.d (.list (ts.map fun t=>.str (nA w t))),M))(hw:Wd w)(lw:w.length<=100)(hr:∀t∈ts,RdT t)(hl:ts.length<=6)(dk:Dk M c (m+7))
 (hF:∀(x:Str)(M:Sto),x.length<=1000000->(sdS x).map (·.1)=ts.map (mO w)->F [S x] M=some (.d (.tuple (ts.map (cQ false))),M)):
 ∃M1,aK F (aB (aK bW (aB (aD 1) (aB C aH))) aH) γ M=some (.d (.tuple (ts.map (cQ false))),M1)/\Dk M1 c m:=by
 obtain⟨x,M1,e,sx,lx,d1,o1⟩:=zW (c:=c) (m:=m) (M:=M) (ls:=ts.map fun t=>(nA w t,mO w t)) (fun p hp=>by
  obtain⟨t,ht,rfl⟩:=List.mem_map.mp hp;exact aAP hw lw (hr t ht)) (by rw[A2];omega) (dk.le (by rw[A2];omega))
 rw[AC]at e;refine⟨M1,aU (aI (aU (aI v1 (aI hC aQ)) e) aQ) (hF x M1 lx ?_),d1⟩;rw[sx,B6];rfl
theorem NH{ss:List (List Int)}(v1:aD 1 γ M=some (.c c,M))(v5:aD 5 γ M=some (.d (.list (ss.map fun s=>.str (qE s))),M))(hr:∀t∈ss,RdS t)(hl:ss.length<=5)(dk:Dk M c (m+6)):
 ∃M1,aK dU (aB (aK bW (aB (aD 1) (aB (aD 5) aH))) aH) γ M=some (.d (.tuple (ss.map (sqK false))),M1)/\Dk M1 c m:=by
 obtain⟨x,M1,e,sx,lx,d1,o1⟩:=zW (c:=c) (m:=m) (M:=M) (ls:=ss.map fun t=>(qE t,lN t)) (fun p hp=>by
  obtain⟨t,ht,rfl⟩:=List.mem_map.mp hp;exact aCn (hr t ht)) (by rw[A2];omega) (dk.le (by rw[A2];omega))
 rw[AC]at e;refine⟨M1,aU (aI (aU (aI v1 (aI v5 aQ)) e) aQ) (tN lx ?_ hr (by omega)),d1⟩;rw[sx,B6];rfl
theorem TR(n0:0<=n)(n40:n<=40)(v2:aD 2 γ M=some (I n,M))(hC:C γ M=some (.d (.list (us.map fun t=>.str (nA "tie" t))),M))(hl:us.length<=90):
 fOp dX (dO (aB (fOp fR (fC (.str "places ")) (aK iL (aB (aD 2) aH))) aH)) C γ M=some (.d (.list (.str (pl n)::us.map fun t=>.str (nA "tie" t))),M):=by
 have t:=uZ;have b:Bd n:=Bd.of n0 (by omega);have l:=kD b;have e1:=bK (k:=fR) (show fC (.str "places ") γ M=some (S "places ",M)from rfl) (aU (F:=iL) (aI v2 aQ) (nY b)) (mG (by rw[show("places ":Str).length=7 by decide,szl];omega))
 have e2:dO (aB (fOp fR (fC (.str "places ")) (aK iL (aB (aD 2) aH))) aH) γ M=some (.d (.list [.str (pl n)]),M):=by
  unfold dO;rw[aI e1 aQ,A1];show(some [PyData.str (pl n)]).bind _=_;rw[A1];exact A4 (s9 (show(1:Nat)<=9 by decide))
 exact bK e2 hC (yE (by rw[A2];show 1+_<=1000;omega))
theorem WM(n1:1<=n)(n40:n<=40)(v1:aD 1 γ M=some (.c c,M))(v5:aD 5 γ M=some (.d (.list (.str (pl n)::us.map fun t=>.str (nA "tie" t))),M))(ok:Ok n us)(hl:us.length<=8)(dk:Dk M c (m+10)):
 ∃vs M1,vs.Perm us/\vs.Pairwise Tie.lt/\aK hV (aB (aK bW (aB (aD 1) (aB (aD 5) aH))) aH) γ M=some (.c M1.length,M1++FO M1.length n us vs)/\Dk (M1++FO M1.length n us vs) c m:=by
 have rd:∀t∈us,RdT t:=fun t ht=>JU n40 (ok.1 t ht)
 obtain⟨x,M1,e,sx,lx,d1,o1⟩:=zW (c:=c) (m:=m) (M:=M) (ls:=(pl n,["places",sI n])::us.map fun t=>(nA "tie" t,mO "tie" t)) (fun p hp=>by
  rcases List.mem_cons.mp hp with rfl|hp
  .exact UL (by omega) (by omega)
  .obtain⟨t,ht,rfl⟩:=List.mem_map.mp hp;exact aAP (zT (by decide)) (by decide) (rd t ht)) (by rw[B4,A2];omega) (dk.le (by rw[B4,A2];omega))
 rw[B2,AC]at e;rw[B2,B6]at sx;obtain⟨vs,pm,pw,rw_⟩:=NG (n:=n) (us:=us) (M:=M1) lx sx rd ok n1 n40;exact⟨vs,M1,pm,pw,aU (aI (aU (aI v1 (aI v5 aQ)) e) aQ) rw_,d1.app⟩
theorem yV(h:fZ (sg x)=[]):(sdS x).map (·.1)=([]:List (List Str)):=DG h
theorem main(ns:List Int)(hl:ns.length<=63):∃M',F_law [.d (.list (ns.map .int))] []=some (.d (.bool true),M'):=by
 obtain⟨c,M0,e0,d0⟩:=aFZ ns;generalize hs:some (CD.d (PyData.list (ns.map PyData.int)))=s0
 have a1:bB (aK lM (aB (aD 0) (aB (fC (.int 180)) aH))) (hName 1) (GL s0 none none none none none none none none) []=some (.nx (GL s0 (some (.c c)) none none none none none none none),M0):=by
  subst hs;exact bX (aU (aI (show aD 0 (GL (some (CD.d (PyData.list (ns.map PyData.int)))) none none none none none none none none) []=some (.d (.list (ns.map .int)),[])from rfl) (aI bP aQ)) e0)
 have d0:Dk M0 c ((((((((6+7+7+35)+1)+18)+1)+10)+1)+9)+1+1):=d0.le (by decide);obtain⟨z,M1,p1,d1,o1,z0,z1⟩:=d0.pop;obtain⟨y,M2,p2,d2,o2,y0,y1⟩:=d1.pop;obtain⟨n,hn,xn⟩:=uW (M:=M2) (ns:=[1,2,40,2+z % 30]) (z:=y) (m:=4) (by decide) rfl;have n1:=C4 z (show(30:Int)≠0 by decide);have n2:=C1 z (show(0:Int)<30 by decide)
 have bn:1<=n/\n<=40:=by
  simp only[List.mem_cons,List.not_mem_nil,or_false]at hn;rcases hn with rfl|rfl|rfl|rfl<;>omega
 have a2:bB (fOp ixF (dO (aB (fC (.int 1)) (aB (fC (.int 2)) (aB (fC (.int 40)) (aB (fOp dX (fC (.int 2)) (fOp bC (aZ "list" eE (aD 1) aH) (fC (.int 30)))) aH))))) (fOp bC (aZ "list" eE (aD 1) aH) (fC (.int 4)))) (hName 2) (GL s0 (some (.c c)) none none none none none none none) M0=some (.nx (GL s0 (some (.c c)) (some (I n)) none none none none none none),M2):=by
  have l:dO (aB (fC (.int 1)) (aB (fC (.int 2)) (aB (fC (.int 40)) (aB (fOp dX (fC (.int 2)) (fOp bC (aZ "list" eE (aD 1) aH) (fC (.int 30)))) aH)))) (GL s0 (some (.c c)) none none none none none none none) M0=some (.d (.list (([1,2,40,2+z % 30]:List Int).map .int)),M1):=by
   have e:=aI (γ:=GL s0 (some (.c c)) none none none none none none none) (M:=M0) (bP (i:=1)) (aI (bP (i:=2)) (aI (bP (i:=40)) (aI (GG (k:=dX) (bP (i:=2)) (zI (k:=bC) (pop_at (γ:=GL s0 (some (.c c)) none none none none none none none) (v:=1) rfl d0.ty p1) (bP (i:=30)) (dF (by decide))) DQ) aQ)));unfold dO;rw[e,A1];show(some (([1,2,40,2+z % 30]:List Int).map PyData.int)).bind _=_;rw[A1];exact A4 (s9 (show(4:Nat)<=9 by decide))
  exact bX (GG l (zI (k:=bC) (pop_at (γ:=GL s0 (some (.c c)) none none none none none none none) (v:=1) rfl d1.ty p2) (bP (i:=4)) (dF (by decide))) xn)
 obtain⟨vs,M3,e3,okv,pw,l8,d3⟩:=aHr (n:=n) bn.1 d2;have a3:bB (aK lF (aB (aD 1) (aB (aD 2) aH))) (hName 3) (GL s0 (some (.c c)) (some (I n)) none none none none none none) M2=some (.nx (GL s0 (some (.c c)) (some (I n)) (some (.d (.list (bA vs)))) none none none none none),M3):=bX (aU (aI (show aD 1 (GL s0 (some (.c c)) (some (I n)) none none none none none none) M2=some (.c c,M2)from rfl) (aI (show aD 2 (GL s0 (some (.c c)) (some (I n)) none none none none none none) M2=some (I n,M2)from rfl) aQ)) e3);obtain⟨w,M4,p4,d4,o4,w0,w1⟩:=d3.pop;obtain⟨J,hJ⟩:∃J:Int,((bA vs).length:Int)=J:=⟨_,rfl⟩;have J0:0<J+1:=by omega
 have le:iS [.d (.list (bA vs))] M4=some (I J,M4):=by
  rw[<- hJ];rfl
 have a4:bB (fOp bC (aZ "list" eE (aD 1) aH) (fOp dX (aK iS (aB (aD 3) aH)) (fC (.int 1)))) (hName 4) (GL s0 (some (.c c)) (some (I n)) (some (.d (.list (bA vs)))) none none none none none) M3=some (.nx (GL s0 (some (.c c)) (some (I n)) (some (.d (.list (bA vs)))) (some (I (w % (J+1)))) none none none none),M4):=
  bX (GG (k:=bC) (pop_at rfl d3.ty p4) (bV (k:=dX) (aU (F:=iS) (aI (show aD 3 (GL s0 (some (.c c)) (some (I n)) (some (.d (.list (bA vs)))) none none none none none) M4=some (.d (.list (bA vs)),M4)from rfl) aQ) le) (bP (i:=1)) DQ) (dF J0))
 generalize hT:w % (J+1)=tt at a4;have t0:0<=tt:=by rw[<- hT];exact C4 w (by omega)
 obtain⟨us,pm,c0⟩:=IY (n:=n) (z:=tt) (vs:=vs) (γ:=GL s0 (some (.c c)) (some (I n)) (some (.d (.list (bA vs)))) (some (I tt)) none none none none) (M:=M4) rfl rfl t0 (by omega) (fun t ht=>JU bn.2 (okv.1 t ht)) rfl;have lu:us.length<=8:=by rw[pm.length_eq];exact l8
 have oku:Ok n us:=⟨fun t ht=>okv.1 t (pm.mem_iff.mp ht),(pm.map Tie.key).nodup_iff.mpr okv.2,by omega⟩;have a5:bB (fOp dX (dO (aB (fOp fR (fC (.str "places ")) (aK iL (aB (aD 2) aH))) aH)) HG) (hName 5) (GL s0 (some (.c c)) (some (I n)) (some (.d (.list (bA vs)))) (some (I tt)) none none none none) M4=some (.nx (GL s0 (some (.c c)) (some (I n)) (some (.d (.list (bA vs)))) (some (I tt)) (some (.d (.list (.str (pl n)::us.map fun t=>.str (nA "tie" t))))) none none none),M4):=bX (TR (by omega) bn.2 rfl c0 (by omega));obtain⟨ws,M5,pm2,pw2,e6,d6⟩:=WM (c:=c) (n:=n) (us:=us) (γ:=GL s0 (some (.c c)) (some (I n)) (some (.d (.list (bA vs)))) (some (I tt)) (some (.d (.list (.str (pl n)::us.map fun t=>.str (nA "tie" t))))) none none none) (M:=M4) bn.1 bn.2 rfl rfl oku lu d4;have ew:ws=vs:=zG pw2 pw (pm2.trans pm);subst ew;have ob:objOf "Web" (M5++FO M5.length n us ws) (.c M5.length)=some (M5.length,([("many",I n),("ties",.d (.tuple (dJ ws))),("weights",.c (M5.length+2))]:List (Str×CD))):=EV;generalize hM6:M5++FO M5.length n us ws=M6 at e6 d6 ob;generalize hWb:CD.c M5.length=wb at e6 ob;generalize hL5:some (CD.d (.list (.str (pl n)::us.map fun t=>.str (nA "tie" t))))=G5 at a5 e6;have a6:bB (aK hV (aB (aK bW (aB (aD 1) (aB (aD 5) aH))) aH)) (hName 6) (GL s0 (some (.c c)) (some (I n)) (some (.d (.list (bA ws)))) (some (I tt)) G5 none none none) M4=some (.nx (GL s0 (some (.c c)) (some (I n)) (some (.d (.list (bA ws)))) (some (I tt)) G5 (some wb) none none),M6):=bX e6
 have f1:rH "Web" "many" (aD 6) (GL s0 (some (.c c)) (some (I n)) (some (.d (.list (bA ws)))) (some (I tt)) G5 (some wb) none none) M6=some (I n,M6):=by
  unfold rH;rw[show aD 6 (GL s0 (some (.c c)) (some (I n)) (some (.d (.list (bA ws)))) (some (I tt)) G5 (some wb) none none) M6=some (wb,M6)from rfl,A1];dsimp only;rw[ob];rfl
 have f2:rH "Web" "ties" (aD 6) (GL s0 (some (.c c)) (some (I n)) (some (.d (.list (bA ws)))) (some (I tt)) G5 (some wb) none none) M6=some (.d (.tuple (dJ ws)),M6):=by
  unfold rH;rw[show aD 6 (GL s0 (some (.c c)) (some (I n)) (some (.d (.list (bA ws)))) (some (I tt)) G5 (some wb) none none) M6=some (wb,M6)from rfl,A1];dsimp only;rw[ob];rfl
 have c7:sIf (gOr (gO (gB (CW "Web" (aD 6)))) (gOr (gB (fOp (eqX true) (rH "Web" "many" (aD 6)) (aD 2))) (gB (sY "bool" (rH "Web" "many" (aD 6)))))) (bO (fC (.bool false))) cP (GL s0 (some (.c c)) (some (I n)) (some (.d (.list (bA ws)))) (some (I tt)) G5 (some wb) none none) M6=some (.nx (GL s0 (some (.c c)) (some (I n)) (some (.d (.list (bA ws)))) (some (I tt)) G5 (some wb) none none),M6):=by
  refine(uA (M':=M6) ?_).trans rfl
  have q1:gO (gB (CW "Web" (aD 6))) (GL s0 (some (.c c)) (some (I n)) (some (.d (.list (bA ws)))) (some (I tt)) G5 (some wb) none none) M6=some (false,M6):=by
   unfold gO gB CW;rw[show aD 6 (GL s0 (some (.c c)) (some (I n)) (some (.d (.list (bA ws)))) (some (I tt)) G5 (some wb) none none) M6=some (wb,M6)from rfl,A1];dsimp only;rw[ob];rfl
  have q2:=gE (bK (k:=eqX true) f1 (show aD 2 (GL s0 (some (.c c)) (some (I n)) (some (.d (.list (bA ws)))) (some (I tt)) G5 (some wb) none none) M6=some (I n,M6)from rfl) (show eqX true (I n) (I n) M6=some (B false,M6)by rw[aGz,beq_self_eq_true];rfl))
  have q3:gB (sY "bool" (rH "Web" "many" (aD 6))) (GL s0 (some (.c c)) (some (I n)) (some (.d (.list (bA ws)))) (some (I tt)) G5 (some wb) none none) M6=some (false,M6):=by
   refine gE ?_;unfold sY;rw[f1];rfl
  unfold gOr;rw[q1];show(gB _ _ M6).bind _=_;rw[q2];exact q3
 have c1:=YJ (n:=n) (vs:=ws) (γ:=GL s0 (some (.c c)) (some (I n)) (some (.d (.list (bA ws)))) (some (I tt)) G5 (some wb) none none) (M:=M6) rfl (fun t ht=>(okv.1 t ht).1) (by omega);have fl:(ws.filter big).length<=ws.length:=L4 ..
 have c8:=FD (ds:=dJ ws) f2 c1 (fun d hd=>by
  obtain⟨t,_,rfl⟩:=List.mem_map.mp hd;exact aAa t) (fun d hd=>by
  obtain⟨t,_,rfl⟩:=List.mem_map.mp hd;exact aBA t) (by unfold dJ;rw[A2];omega)
 generalize hR:some (CD.d (.list (bA ws)))=R at a3 a4 a5 a6 c7 c8;obtain⟨v,M7,p7,d7,o7,v0,v1⟩:=d6.pop;have i0:=C4 v (show(7:Int)≠0 by decide);have i1:=C1 v (show(0:Int)<7 by decide);obtain⟨f,ts,M8,e8,f8,l6,b8,d8,ne8⟩:=aCh (c:=c) (n:=v % 7) i0 (by omega) d7
 have a9:bB (lB (aK jT (aB (aD 1) (aB (fOp bC (aZ "list" eE (aD 1) aH) (fC (.int 7))) aH)))) (hName 7) (GL s0 (some (.c c)) (some (I n)) R (some (I tt)) G5 (some wb) none none) M6=some (.nx (GL s0 (some (.c c)) (some (I n)) R (some (I tt)) G5 (some wb) (some (.d (.list (ts.map (cQ false))))) none),M8.set f .dead):=
  bX (DS (aU (aI (show aD 1 (GL s0 (some (.c c)) (some (I n)) R (some (I tt)) G5 (some wb) none none) M6=some (.c c,M6)from rfl) (aI (zI (k:=bC) (pop_at rfl d6.ty p7) (bP (i:=7)) (dF (by decide))) aQ)) e8) (by rw[f8,B6];rfl))
 have d8:=d8.put (x:=.dead) ne8;generalize hM9:M8.set f .dead=M9 at a9 d8;obtain⟨u,M10,p10,d10,o10,u0,u1⟩:=d8.pop;have j0:=C4 u (show(6:Int)≠0 by decide);have j1:=C1 u (show(0:Int)<6 by decide);obtain⟨f',ss,M11,e11,f11,l5,b11,d11,ne11⟩:=aBi (c:=c) (n:=u % 6) j0 (by omega) d10
 have a10:bB (lB (aK hZ (aB (aD 1) (aB (fOp bC (aZ "list" eE (aD 1) aH) (fC (.int 6))) aH)))) (hName 8) (GL s0 (some (.c c)) (some (I n)) R (some (I tt)) G5 (some wb) (some (.d (.list (ts.map (cQ false))))) none) M9=some (.nx (GL s0 (some (.c c)) (some (I n)) R (some (I tt)) G5 (some wb) (some (.d (.list (ts.map (cQ false))))) (some (.d (.list (ss.map (sqK false)))))),M11.set f' .dead):=
  bX (DS (aU (aI (show aD 1 (GL s0 (some (.c c)) (some (I n)) R (some (I tt)) G5 (some wb) (some (.d (.list (ts.map (cQ false))))) none) M9=some (.c c,M9)from rfl) (aI (zI (k:=bC) (pop_at rfl d8.ty p10) (bP (i:=6)) (dF (by decide))) aQ)) e11) (by rw[f11,B6];rfl))
 have d11:=d11.put (x:=.dead) ne11;generalize hM12:M11.set f' .dead=M12 at a10 d11;generalize hG2:some (I n)=G2 at *;generalize hG4:some (I tt)=G4 at *;generalize hG6:some wb=G6 at *;have it7:∀M,aX (aD 7) (GL s0 (some (.c c)) G2 R G4 G5 G6 (some (.d (.list (ts.map (cQ false))))) (some (.d (.list (ss.map (sqK false)))))) M=some (ts.map (fun t=>.d (cQ false t)),M):=fun M=>XG (k:=false) rfl rfl;have c2:RK (GL s0 (some (.c c)) G2 R G4 G5 G6 (some (.d (.list (ts.map (cQ false))))) (some (.d (.list (ss.map (sqK false)))))) M12=_:=vZ (it7 M12) (by decide) b8 (by omega) rfl;obtain⟨M13,e13,d13⟩:=CQ (F:=eL) (c:=c) (w:="branch") (ts:=ts) rfl c2 (zT (by decide)) (by decide) b8 l6 d11 fun x M hx h=>wG hx h b8 (by omega)
 have sm7:∀d∈ts.map (cQ false),Sm 2 d:=fun d hd=>by
  obtain⟨t,_,rfl⟩:=List.mem_map.mp hd;exact aAa t
 have pl7:∀d∈ts.map (cQ false),Pl 8 d:=fun d hd=>by
  obtain⟨t,_,rfl⟩:=List.mem_map.mp hd;exact aBA t
 have c11:=FD e13 (show aD 7 (GL s0 (some (.c c)) G2 R G4 G5 G6 (some (.d (.list (ts.map (cQ false))))) (some (.d (.list (ss.map (sqK false)))))) M13=some (.d (.list (ts.map (cQ false))),M13)from rfl) sm7 pl7 (by rw[A2];omega);have c3:RH (GL s0 (some (.c c)) G2 R G4 G5 G6 (some (.d (.list (ts.map (cQ false))))) (some (.d (.list (ss.map (sqK false)))))) M13=_:=vZ (it7 M13) (by decide) b8 (by omega) rfl;obtain⟨M14,e14,d14⟩:=CQ (F:=eQ) (c:=c) (w:="flow") (ts:=ts) rfl c3 (zT (by decide)) (by decide) b8 l6 d13 fun x M hx h=>wQ hx h b8 (by omega);have c12:=FD e14 (show aD 7 (GL s0 (some (.c c)) G2 R G4 G5 G6 (some (.d (.list (ts.map (cQ false))))) (some (.d (.list (ss.map (sqK false)))))) M14=some (.d (.list (ts.map (cQ false))),M14)from rfl) sm7 pl7 (by rw[A2];omega);have a13:bB xS (hName 5) (GL s0 (some (.c c)) G2 R G4 G5 G6 (some (.d (.list (ts.map (cQ false))))) (some (.d (.list (ss.map (sqK false)))))) M14=some (.nx (GL s0 (some (.c c)) G2 R G4 (some (.d (.list (ss.map fun s=>.str (qE s))))) G6 (some (.d (.list (ts.map (cQ false))))) (some (.d (.list (ss.map (sqK false)))))),M14):=bX (ON rfl b11 (by omega));obtain⟨M15,e15,d15⟩:=NH (c:=c) (m:=0) (ss:=ss) (γ:=GL s0 (some (.c c)) G2 R G4 (some (.d (.list (ss.map fun s=>.str (qE s))))) G6 (some (.d (.list (ts.map (cQ false))))) (some (.d (.list (ss.map (sqK false)))))) (M:=M14) rfl rfl b11 l5 (d14.le (by omega))
 have c14:=FD e15 (show aD 8 (GL s0 (some (.c c)) G2 R G4 (some (.d (.list (ss.map fun s=>.str (qE s))))) G6 (some (.d (.list (ts.map (cQ false))))) (some (.d (.list (ss.map (sqK false)))))) M15=some (.d (.list (ss.map (sqK false))),M15)from rfl) (fun d hd=>by
  obtain⟨s,_,rfl⟩:=List.mem_map.mp hd;exact aCe s) (fun d hd=>by
  obtain⟨s,hs,rfl⟩:=List.mem_map.mp hd;exact aCc (by have:=(b11 s hs).2.2;omega)) (by rw[A2];omega)
 have q1:=wG (x:="") (ts:=[]) (M:=M15) (by decide) (yV (by decide)) (fun t h=>by simp at h) (by decide);have q2:=wQ (x:="  \n") (ts:=[]) (M:=M15) (by decide) (yV (by decide)) (fun t h=>by simp at h) (by decide);have q3:=tN (x:="\n\n") (ss:=[]) (M:=M15) (by decide) (yV (by decide)) (fun t h=>by simp at h) (by decide);have rt:=bK (k:=eqX false) (γ:=GL s0 (some (.c c)) G2 R G4 (some (.d (.list (ss.map fun s=>.str (qE s))))) G6 (some (.d (.list (ts.map (cQ false))))) (some (.d (.list (ss.map (sqK false)))))) (mP (aI (aU (F:=eL) (aI (show fC (.str "") _ M15=some (S "",M15)from rfl) aQ) q1) (aI (aU (F:=eQ) (aI (show fC (.str "  \n") _ M15=some (S "  \n",M15)from rfl) aQ) q2) (aI (aU (F:=dU) (aI (show fC (.str "\n\n") _ M15=some (S "\n\n",M15)from rfl) aQ) q3) aQ))) (ds:=[.tuple [],.tuple [],.tuple []]) rfl (show(3:Nat)<=500 by decide)) (aBB _ M15) (show eqX false (.d (.tuple [.tuple [],.tuple [],.tuple []])) (.d (.tuple [.tuple [],.tuple [],.tuple []])) M15=some (B true,M15)from rfl);refine⟨M15,eR rfl ?_⟩;show PU (GL (some (CD.d (PyData.list (ns.map PyData.int)))) none none none none none none none none) []=_;rw[hs];unfold PU;rw[aW a1,aW a2,aW a3,aW a4,aW a5,aW a6,aW c7,aW c8,aW a9,aW a10,aW c11,aW c12,aW a13,aW c14];simp only[bO,rt,Option.bind_some]
end Q69
end
end
open PySem PySem.W PyProof.Rows
set_option maxRecDepth 100000 in
set_option maxHeartbeats 0 in
theorem PySem.Challenge.cw_cutstree_k69_read_holds : PySem.Challenge.rw_cutstree_k69_read.Holds := by
 refine Q69.k_top ?_
 k_fill
 refine L2.law_walk (l:=PySem.Challenge.rw_cutstree_k69_read) (F:=Q69.F_law) (k:=12) (p:="_law_script") (by decide +kernel) rfl rfl ⟨fun _=>rfl,by decide,by decide,rfl⟩ (fun w h Y=>PySem.W.kIn_of Y) ?T Q69.main
 case T=>
  intro w mg h KX G;refine Q69.fn_law (K:=_) (mg:=mg) ?TT
  refine' Q69.txt_mk KX G ?v0 ?v1 ?v2 ?v3 ?v4 ?v5 ?v6 ?v7 ?v8 ?v9 ?v10 ?v11 ?v12 ?v13 ?v14 ?v15 ?v16 ?v17 ?v18 ?v19 ?v20 ?v21 ?v22 ?v23 ?v24 ?v25 ?v26 ?v27 ?v28 ?v29 ?v30 ?v31 ?v32 ?v33 ?v34 ?v35 ?v36 ?v37 ?v38 ?v39 ?v40 ?v41 ?v42 ?v43 ?v44 ?v45 ?v46 ?v47 ?v48 ?v49 ?v50 ?v51 ?v52 ?v53 ?v54 ?v55 ?v56 ?v57 ?v58 ?v59 ?v60 ?v61 ?v62 ?v63 ?v64 ?v65 ?v66 ?v67 ?v68 ?v69 ?v70 ?v71 ?v72 ?v73 ?v74 ?v75 ?v76 ?v77 ?v78 ?v79 ?v80 ?v81 ?v82 ?v83 ?v84 ?v85 ?v86 ?v87 ?v88 ?v89 ?v90 ?v91 ?v92 ?v93 ?v94 ?v95 ?v96 ?v97 ?v98 ?v99 ?v100 ?v101 ?v102 ?v103 ?v104
  (case v0|v1|v2|v3|v4|v5|v6|v7|v8|v9|v10|v11|v12|v13|v14|v15|v16|v17|v18|v19|v20|v21|v22|v24|v25|v26|v27|v28|v31|v35|v36|v40|v41|v42|v43|v44|v46|v47|v51|v52|v54|v55|v56|v57|v60|v61|v62|v63|v64|v67=>k_is)
  (case v23|v29|v30|v32|v33|v34|v37|v38|v39|v45|v48|v49|v50|v53|v58|v59|v65|v66=>kernel_rfl)
  (case v68|v69|v70|v71|v72|v73|v74|v75|v76|v77|v78|v79|v80|v81|v82|v83|v84|v85|v86|v87|v88|v89|v90|v91|v92|v93|v94|v95|v96|v97|v98|v99|v100|v101|v102|v103|v104=>exact L2.def_mk KX G (by k_is) (by k_is) (by k_is) (by k_is))