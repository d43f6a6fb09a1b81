import PyProof.Rows.All
import OpenK.KLine
import OpenK.KWalk
import OpenK.KMore
import OpenK.KOwn
import OpenK.KRaise
import KE.KSortTup
import PyProof.EqAt
import PyProof.EqKinds
import PyProof.TupleCall
import KE.KIsAll
import PyProof.ExcArgsOwn
import PyProof.NsDelKeeps
import KE.KTryMore
import PyProof.InstStoreFacts
import PyProof.ExcInit
import PyProof.ExcClass2
import PyProof.Rows.ListMul
import PyProof.Draws
import PyProof.EnumMake
import PyProof.Rows.EnumRows
import KE.KItemsList
import PyProof.DictCompW
import PyProof.ListRange
import PyProof.ZipIter
import PyProof.AttrMissHeap
import KE.KDictOf
import PySem.Challenge.RW_cutstree_k22_trees_told
set_option Elab.async false
section
set_option maxRecDepth 100000
set_option maxHeartbeats 0
namespace Q22
open PySem
noncomputable def qv:Program:={ PySem.Challenge.rw_cutstree_k22_trees_told.prog with main:={ PySem.Challenge.rw_cutstree_k22_trees_told.prog.main with body:=((((PySem.Challenge.rw_cutstree_k22_trees_told.prog.main.body.eraseIdx 17).eraseIdx 13).eraseIdx 8).eraseIdx 0) } }
end Q22
open PySem PySem.W PyProof.Rows
local macro_rules | `(tactic| o_head $H) => `(tactic| (
 refine holds_open (r:=PySem.Challenge.rw_cutstree_k22_trees_told.row) (q:=Q22.qv) (loose:=[]) (Xt:=fun s=>xlAt Q22.qv [] s&&recOk (RowW.records (OpenRow.toRowW PySem.Challenge.rw_cutstree_k22_trees_told.row)) s) (XP:=XL Q22.qv []) (Yf:=Hook.obs $H) (Ya:=Hook.val $H) (YP:=Hook.says $H) (N:=6100) ?hl (Hook.of $H) (Hook.keeps $H) (fun s e=>xl_of s (Bool.and_eq_true_iff.mp e).1) XL.keeps (by rfl) (by rfl) (by rfl) (fun s e=>recFacts_of (Bool.and_eq_true_iff.mp e).2) (by rfl) (by first|assumption|decide +kernel) (by decide +kernel) ⟨rfl,rfl,rfl,rfl,rfl,by decide +kernel⟩ ?hw ?hc
 (case hl=>intro w;kernel_rfl)))
open_top Q22.k_top for PySem.Challenge.rw_cutstree_k22_trees_told
end
section
set_option linter.all false
set_option maxRecDepth 100000
set_option maxHeartbeats 4000000
noncomputable abbrev Fg:=PySem.W.Frag
noncomputable section
abbrev A0:=@PySem.wpAny_bind
abbrev A1:=@List.length_map
abbrev A2:=@Option.bind_some
abbrev A3:=@PySem.Heap.get?_push_of_some
abbrev A4:=@if_pos
abbrev A6:=@if_neg
abbrev A7:=@Nat.le_refl
abbrev A8:=@Bool.false_ne_true
abbrev A9:=@List.getD_eq_getElem?_getD
abbrev B0:=@List.length_append
abbrev B1:=@List.mem_cons_of_mem
abbrev B2:=@Bool.and_eq_true
abbrev B3:=@PySem.wpAny_pure
abbrev B4:=@List.getElem?_eq_getElem
abbrev B5:=@PySem.Heap.lt_size
abbrev B6:=@List.mem_cons_self
abbrev B7:=@decide_eq_true
abbrev B8:=@List.map_cons
abbrev B9:=@Nat.lt_of_lt_of_le
abbrev C0:=@List.size_toArray
abbrev C1:=@List.getElem?_append_right
abbrev C2:=@List.mem_append_right
abbrev C3:=@decide_eq_false
abbrev C4:=@List.length_singleton
abbrev C5:=@Nat.ne_of_lt
abbrev C6:=@List.getElem?_map
abbrev C7:=@PySem.Heap.get?_push_size
abbrev C8:=@List.length_cons
abbrev C9:=@Option.some.inj
abbrev D0:=@List.lookup_cons
abbrev D1:=@List.append_nil
abbrev D2:=@List.mem_append_left
abbrev D3:=@of_decide_eq_true
abbrev D4:=@Array.getD_eq_getD_getElem?
abbrev D5:=@List.mem_singleton
abbrev D6:=@PySem.W.mg_none_of
abbrev D7:=@PySem.wpAny_newObj_type
abbrev D8:=@PyProof.Rows.callWith_type1
abbrev D9:=@List.append_assoc
abbrev E1:=@PyProof.Rows.slot_tuple_getitem
abbrev E2:=@of_decide_eq_false
abbrev E3:=@List.map_append
abbrev E4:=@Bool.true_and
abbrev E5:=@Nat.le_trans
abbrev E6:=@PySem.sizeLine_eq
abbrev E7:=@PySem.PassesOwn.never
abbrev E8:=@PySem.mem_of_lookup
abbrev E9:=@Nat.zero_le
abbrev F0:=@Nat.lt_irrefl
abbrev F4:=@congrArg
abbrev F5:=@Int.emod_lt_of_pos
abbrev F6:=@Nat.add_sub_cancel_left
abbrev F7:=@decide_eq_true_eq
abbrev F8:=@Nat.sub_self
abbrev F9:=@beq_eq_false_iff_ne
abbrev I0:=@Nat.le_add_right
abbrev J1:=@List.map_singleton
abbrev J2:=@Int.toNat_natCast
abbrev J3:=@List.reverse_cons
abbrev J4:=@Int.emod_nonneg
abbrev J5:=@PySem.wpAny_truthy_bool
abbrev J6:=@Nat.lt_succ_self
abbrev J7:=@List.getElem_mem
abbrev J8:=@Bool.false_and
abbrev J9:=@List.set_append_right
abbrev L3:=@PySem.wpAny_holding
abbrev L4:=@List.getElem?_append_left
abbrev L5:=@PySem.wpAny_call_entry
abbrev L6:=@List.filterMap_cons
abbrev L7:=@PySem.wpAny_loadPart'
abbrev L8:=@List.length_reverse
abbrev L9:=@List.getElem?_set_self
abbrev O0:=@Bool.eq_iff_iff
abbrev O1:=@PySem.wpAny_callSpecial?_slot
abbrev O2:=@Array.getElem?_toList
abbrev O3:=@Ne.symm
abbrev O4:=@PySem.wpAny_field
abbrev O5:=@List.length_range
abbrev O6:=@List.getElem?_set_ne
abbrev O7:=@PySem.wpAny_passesOwn
abbrev O8:=@List.mapM_cons
abbrev O9:=@List.length_take
abbrev S0:=@List.map_map
abbrev S1:=@List.map_congr_left
abbrev S2:=@PySem.wpAny_mono
abbrev S3:=@List.any_cons
abbrev S4:=@PySem.F.slot_tuple_iterator_next
abbrev S5:=@List.length_set
abbrev S6:=@List.zip_cons_cons
abbrev S7:=@beq_iff_eq
abbrev S8:=@List.getElem?_replicate
abbrev S9:=@PySem.Heap.get?_update_ne
abbrev U0:=@Int.le_trans
abbrev U1:=@List.length_drop
abbrev U2:=@List.all_cons
abbrev U3:=@Nat.le_succ
abbrev U4:=@PySem.SeqAt.canLay_of_shaped
abbrev U5:=@PyProof.Rows.get?_update_seq
abbrev U6:=@List.foldl_cons
abbrev U7:=@Array.length_toList
abbrev U8:=@Nat.le_of_lt
abbrev U9:=@PySem.PyData.eqvAll.eq_def
abbrev Y0:=@List.nodup_iff_pairwise_ne
abbrev Y1:=@PyProof.Rows.boot_tuple
abbrev Y2:=@PySem.wpAny_Call_Name_kw
abbrev Y3:=@PySem.wpAny_pyIter_tuple
namespace L2
variable{H:Hp}{s:Shared}{σ:St}{K:Fg}{A:Around}{pos:Pos}
open PySem PySem.Spec PyProof.Rows
noncomputable abbrev Key:=Sum Int Str
noncomputable def sR:Key->Value->Bool
 |.inl k,v=>Value.isInt k v
 |.inr x,v=>Value.isStrOf x v
noncomputable def aBT(w:World):Key->Int
 |.inl k=>hashInt k
 |.inr x=>hashStr w x
theorem cN:∀{k:Key}{v:Value},sR k v=true->(∃i t,k=Sum.inl i/\v=Value.int i t)\/(∃x t,k=Sum.inr x/\v=Value.str x t)
 |.inl i,v=>fun h=>by
  obtain⟨t,e⟩:=Value.isInt_shape (k:=i) (v:=v) h;exact .inl ⟨i,t,rfl,e⟩
 |.inr x,v=>fun h=>by
  obtain⟨t,e⟩:=Value.isStrOf_shape (x:=x) (v:=v) h;exact .inr ⟨x,t,rfl,e⟩
theorem GZ(i:Int)(t:Tok):sR (.inl i) (.int i t)=true:=by simp[sR,Value.isInt]
theorem HN(x:Str)(t:Tok):sR (.inr x) (.str x t)=true:=by simp[sR,Value.isStrOf]
theorem UX(a b:Int):decide ((Sum.inl a:Key)=Sum.inl b)=(a==b):=by
 by_cases e:a=b
 .subst e;simp
 .have h:¬(Sum.inl a:Key)=Sum.inl b:=fun q=>e (Sum.inl.inj q);rw[C3 h];exact(beq_eq_false_iff_ne.mpr e).symm
theorem VF(a b:Str):decide ((Sum.inr a:Key)=Sum.inr b)=decide (a=b):=by
 by_cases e:a=b
 .subst e;simp
 .have h:¬(Sum.inr a:Key)=Sum.inr b:=fun q=>e (Sum.inr.inj q);rw[C3 h,C3 e]
theorem UH(a:Int)(b:Str):decide ((Sum.inl a:Key)=Sum.inr b)=false:=C3 (fun q=>nomatch q)
theorem ZP(a:Str)(b:Int):decide ((Sum.inr a:Key)=Sum.inl b)=false:=C3 (fun q=>nomatch q)
noncomputable def cW(prog:Program)(w:World):PySem.KeyKind prog w Key where
 is:=sR
 hash:=aBT w
 inj:=fun v a b ha hb=>by
  rcases cN ha with⟨i,t,rfl,rfl⟩|⟨x,t,rfl,rfl⟩
  .rcases cN hb with⟨j,u,rfl,e⟩|⟨y,u,rfl,e⟩
   .injection e with e1 _;rw[e1]
   .exact nomatch e
  .rcases cN hb with⟨j,u,rfl,e⟩|⟨y,u,rfl,e⟩
   .exact nomatch e
   .injection e with e1 _;rw[e1]
 byValue:=fun k v h=>by
  rcases cN h with⟨i,t,rfl,rfl⟩|⟨x,t,rfl,rfl⟩<;>rfl
 pyHash:=fun hv h=>by
  rcases cN hv with⟨i,t,rfl,rfl⟩|⟨x,t,rfl,rfl⟩
  .exact wpAny_pyHash_int h
  .exact wpAny_pyHash_str h
 eqBool:=fun hu hv h=>by
  rcases cN hu with⟨i,t,rfl,rfl⟩|⟨x,t,rfl,rfl⟩
  .rcases cN hv with⟨j,u,rfl,rfl⟩|⟨y,u,rfl,rfl⟩
   .rw[UX]at h;exact wpAny_eqBool_int h
   .rw[UH]at h;exact SeqAt.EqAt.int_str i t y u _ _ _ _ h
  .rcases cN hv with⟨j,u,rfl,rfl⟩|⟨y,u,rfl,rfl⟩
   .rw[ZP]at h;exact SeqAt.EqAt.str_int x t j u _ _ _ _ h
   .rw[VF]at h;exact wpAny_eqBool_str h
 «strs»:=fun k x t v h=>by
  rcases cN h with⟨i,u,rfl,e⟩|⟨y,u,rfl,e⟩
  .exact nomatch e
  .injection e with e1 _
   subst e1;cases v<;>rfl
theorem AL(prog:Program)(w:World)(i:Int)(t:Tok):(cW prog w).is (.inl i) (.int i t)=true:=GZ i t
theorem AA(prog:Program)(w:World)(x:Str)(t:Tok):(cW prog w).is (.inr x) (.str x t)=true:=HN x t
inductive V where
 |non|bl (b:Bool)|int (i:Int)|str (x:Str)|byt (b:Array UInt8)|flt (b:UInt64)|ref (a:Addr)|ty (n:String)
 deriving DecidableEq
noncomputable def RelV:V->Value->Prop
 |.non,u=>u=Value.none
 |.bl b,u=>u=Value.bool b
 |.int i,u=>∃t,u=Value.int i t
 |.str x,u=>∃t,u=Value.str x t
 |.byt b,u=>∃t,u=Value.bytes b t
 |.flt b,u=>∃t,u=Value.float b t
 |.ref a,u=>u=Value.ref a
 |.ty n,u=>u=Value.type n
noncomputable abbrev bB:List V->List Value->Prop:=Paired RelV
theorem bB.length{xs:List V}{us:List Value}(r:bB xs us):xs.length=us.length:=Paired.length r
theorem bB.get:∀{xs:List V}{us:List Value}{i:Nat}{x:V},bB xs us->xs[i]?=some x->∃u,us[i]?=some u/\RelV x u
 |_,_,_,_,.nil=>fun e=>by simp at e
 |_,_,0,_,.cons r _=>fun e=>by simp at e;subst e;exact⟨_,rfl,r⟩
 |_,_,i+1,x,.cons _ t=>fun e=>by
  obtain⟨u,h1,h2⟩:=bB.get (i:=i) (x:=x) t (by simpa using e);exact⟨u,by simpa using h1,h2⟩
theorem bB.set{x:V}{u:Value}(r:RelV x u):∀{xs:List V}{us:List Value}(i:Nat),bB xs us->bB (xs.set i x) (us.set i u)
 |_,_,_,.nil=>.nil
 |_,_,0,.cons _ t=>.cons r t
 |_,_,i+1,.cons q t=>.cons q (bB.set r i t)
theorem bB.append:∀{xs ys:List V}{us ws:List Value},bB xs us->bB ys ws->bB (xs++ys) (us++ws)
 |_,_,_,_,.nil=>fun s=>s
 |_,_,_,_,.cons r t=>fun s=>.cons r (bB.append t s)
theorem bB.take:∀{xs:List V}{us:List Value}(n:Nat),bB xs us->bB (xs.take n) (us.take n)
 |_,_,0,_=>.nil
 |_,_,_+1,.nil=>.nil
 |_,_,n+1,.cons r t=>.cons r (bB.take n t)
theorem bB.drop:∀{xs:List V}{us:List Value}(n:Nat),bB xs us->bB (xs.drop n) (us.drop n)
 |_,_,0,r=>r
 |_,_,_+1,.nil=>.nil
 |_,_,n+1,.cons _ t=>bB.drop n t
noncomputable def GO:Option V->Option Value->Prop
 |some v,some u=>RelV v u
 |none,none=>True
 |_,_=>False
noncomputable def KV{κ:Type}:List (κ×V)->List (κ×Value)->Prop:=Paired fun(p:κ×V)(q:κ×Value)=>p.1=q.1/\RelV p.2 q.2
noncomputable def kV:Key->V
 |.inl i=>.int i
 |.inr x=>.str x
inductive HO where
 |lst (xs:List V)
 |tup (xs:List V)
 |dK (kvs:List (Key×V))|dT (kvs:List (List Key×V))
 |set (S:Int->Bool) (n:Nat)
 |ins (C dx:Addr) (fs:List (Str×V))
 |own (x:Addr)
 |xd (fs:List (Str×V))
 |met (f x:Addr)
 |rng (lo hi:Int)
 |frz (o:Obj) (u:HO)
 |tbl (ps:Array Value)
 |ext (φ:Heap->Prop)
noncomputable abbrev Hp:=Addr->Option HO
noncomputable def upd(H:Hp)(a:Addr)(o:HO):Hp:=fun b=>if b=a then some o else H b
theorem aT{a:Addr}{o:HO}:upd H a o a=some o:=by unfold upd;rw[A4 rfl]
theorem aU{a b:Addr}{o:HO}(h:b≠a):upd H a o b=H b:=by unfold upd;rw[A6 h]
theorem aBz{a b:Addr}{o u:HO}(h:H a=some o)(h':H b=some u)(d:o≠u):a≠b:=by
 intro e;subst e;rw[h]at h';exact d (C9 h')
theorem aQ{a b:Addr}{o:HO}(h:H a=some o)(h':H b=none):a≠b:=by
 intro e;subst e;rw[h]at h';cases h'
section
variable(P:Program)(w:World)
noncomputable def cZ(H:Hp)(h:Heap)(a:Addr):HO->Prop
 |.lst xs=>xs.length<=sizeLine/\∃(its:List Value)(n:Nat),bB xs its/\h.get? a=some { cls:=.type "list",data:=.seq its.toArray n }
 |.tup xs=>xs.length<=sizeLine/\∃its:List Value,bB xs its/\IsTup h a its.toArray
 |.dK kvs=>kvs.length<=sizeLine/\(a==sysModules)=false/\∃vs,KV kvs vs/\h.DictOf (cW P w) a vs
 |.dT kvs=>kvs.length<=sizeLine/\(a==sysModules)=false/\∃xs:List (List Key×Addr×Value),
  Paired (fun(p:List Key×V)(q:List Key×Addr×Value)=>p.1=q.1/\H q.2.1=some (.tup (p.1.map kV))/\RelV p.2 q.2.2) kvs xs /\
  ∃o es ep,h.get? a=some o/\o.ExactDict/\o.data=.dict es ep/\es.toList=xs.map (entryOfKey (tupleKind (cW P w)))/\(xs.map (·.1)).Nodup
 |.set S n=>h.SetOf (intKind P w) a S n
 |.ins C dx fs=>H dx=some (.own a)/\fs.length<=1000/\dx≠a/\h.get? a=some (PySem.W.instObj C dx) /\
  ∃mA,h.Ns1 dx mA/\(∀f,GO (fs.lookup f) (mA f))/\PySem.Within mA (fs.map (·.1))
 |.own _=>∃o,h.get? a=some o
 |.xd fs=>∃mA,h.Ns1 a mA/\∀f,GO (fs.lookup f) (mA f)
 |.rng lo hi=>∃t u v,h.get? a=some { cls:=.type "range",data:=.fields #[.int lo t,.int hi u,.int 1 v] }
 |.frz o u=>h.get? a=some o/\cZ H h a u
 |.tbl ps=>h.get? a=some { cls:=.none,data:=.fields ps }
 |.met f x=>h.get? a=some (PySem.W.methodObj (.ref f) (.ref x))
 |.ext φ=>φ h/\(∃o,h.get? a=some o)/\∀h1 h2:Heap,φ h1->(∀o,h1.get? a=some o->h2.get? a=some o)->φ h2
noncomputable def HOk(H:Hp)(h:Heap):Prop:=∀a o,H a=some o->cZ P w H h a o
end
section
variable{P:Program}{w:World}{H H':Hp}{h h':Heap}{a:Addr}{o:HO}
theorem cZ.lt(x:cZ P w H h a o):a<h.objs.size:=by
 cases o with
 |lst xs=>obtain⟨_,_,_,_,e⟩:=x;exact B5 e
 |tup xs=>obtain⟨_,_,_,p⟩:=x;exact p.lt
 |dK kvs=>obtain⟨_,_,_,_,o,_,_,e,_⟩:=x;exact B5 e
 |dT kvs=>obtain⟨_,_,_,_,o,_,_,e,_⟩:=x;exact B5 e
 |set S n=>obtain⟨o,_,_,_,e,_⟩:=x;exact B5 e
 |ins C dx fs=>obtain⟨_,_,_,e,_⟩:=x;exact B5 e
 |own y=>obtain⟨_,e⟩:=x;exact B5 e
 |xd fs=>obtain⟨_,⟨_,_,_,e,_⟩,_⟩:=x;exact B5 e
 |rng lo hi=>obtain⟨_,_,_,e⟩:=x;exact B5 e
 |frz ob u=>obtain⟨e,_⟩:=x;exact B5 e
 |tbl ps=>exact B5 (show h.get? a=some _ from x)
 |met f y=>exact B5 (show h.get? a=some _ from x)
 |ext φ=>obtain⟨_,⟨_,e⟩,_⟩:=x;exact B5 e
theorem Paired.mapP{α β:Type}{F G:α->β->Prop}:∀{l₁:List α}{l₂:List β},Paired F l₁ l₂->(∀a b,F a b->G a b)->Paired G l₁ l₂
 |_,_,.nil=>fun _=>.nil
 |_,_,.cons r t=>fun f=>.cons (f _ _ r) (Paired.mapP t f)
theorem cZ.stay(x:cZ P w H h a o)(k:∀b u,(b=a\/H b=some (.own a))->h.get? b=some u->h'.get? b=some u)
 (ho:∀b,H b=some (.own a)->H' b=some (.own a)) (ht:∀b xs,H b=some (.tup xs)->H' b=some (.tup xs)):cZ P w H' h' a o:=by
 induction o with
 |lst xs=>obtain⟨z,its,n,r,e⟩:=x;exact⟨z,its,n,r,k _ _ (.inl rfl) e⟩
 |tup xs=>obtain⟨z,its,r,ob,e,c⟩:=x;exact⟨z,its,r,ob,k _ _ (.inl rfl) e,c⟩
 |dK kvs=>obtain⟨z,y,vs,r,ob,es,ep,e,c⟩:=x;exact⟨z,y,vs,r,ob,es,ep,k _ _ (.inl rfl) e,c⟩
 |dT kvs=>
  obtain⟨z,y,xs,r,ob,es,ep,e,c⟩:=x;exact⟨z,y,xs,Paired.mapP r fun p q z=>⟨z.1,ht _ _ z.2.1,z.2.2⟩,ob,es,ep,k _ _ (.inl rfl) e,c⟩
 |set S n=>obtain⟨ob,es,ep,t,e,c⟩:=x;exact⟨ob,es,ep,t,k _ _ (.inl rfl) e,c⟩
 |ins C dx fs=>
  obtain⟨d,z,ne,e,mA,⟨od,es,ep,e2,c⟩,r⟩:=x;exact⟨ho _ d,z,ne,k _ _ (.inl rfl) e,mA,⟨od,es,ep,k _ _ (.inr d) e2,c⟩,r⟩
 |own y=>obtain⟨ob,e⟩:=x;exact⟨ob,k _ _ (.inl rfl) e⟩
 |xd fs=>obtain⟨mA,⟨od,es,ep,e,c⟩,r⟩:=x;exact⟨mA,⟨od,es,ep,k _ _ (.inl rfl) e,c⟩,r⟩
 |rng lo hi=>obtain⟨t,u,v,e⟩:=x;exact⟨t,u,v,k _ _ (.inl rfl) e⟩
 |frz ob u ih=>obtain⟨e,q⟩:=x;exact⟨k _ _ (.inl rfl) e,ih q⟩
 |tbl ps=>
  have e:h.get? a=some { cls:=.none,data:=.fields ps }:=x;show h'.get? a=some { cls:=.none,data:=.fields ps };exact k a _ (.inl rfl) e
 |met f y=>
  have e:h.get? a=some (PySem.W.methodObj (.ref f) (.ref y)):=x;show h'.get? a=some (PySem.W.methodObj (.ref f) (.ref y));exact k a _ (.inl rfl) e
 |ext φ=>obtain⟨p,⟨o,e⟩,st⟩:=x;exact⟨st _ _ p fun o q=>k _ _ (.inl rfl) q,⟨o,k _ _ (.inl rfl) e⟩,st⟩
theorem HOk.lt(x:HOk P w H h)(e:H a=some o):a<h.objs.size:=(x a o e).lt
theorem HOk.fresh(x:HOk P w H h)(e:h.objs.size<=a):H a=none:=by
 cases q:H a with
 |none=>rfl
 |some u=>exact absurd (B9 (x.lt q) e) (F0 _)
theorem HOk.kept(x:HOk P w H h)(k:∀b u,h.get? b=some u->h'.get? b=some u):HOk P w H h':=fun a o e=>
 (x a o e).stay (fun b u _ q=>k b u q) (fun _ q=>q) fun _ _ q=>q
theorem HOk.laid(x:HOk P w H h)(k:∀b u,h.get? b=some u->h'.get? b=some u)(hp:h.objs.size<=a)(new:cZ P w (upd H a o) h' a o):HOk P w (upd H a o) h':=fun b u e=>by
 have hn:=x.fresh hp;by_cases hb:b=a
 .subst hb;rw[aT]at e;cases e;exact new
 .rw[aU hb]at e;exact(x b u e).stay (fun c v _ q=>k c v q) (fun c q=>by rw[aU (aQ q hn)];exact q) fun c xs q=>by rw[aU (aQ q hn)];exact q
end
noncomputable def Rd(H:Hp)(a:Addr)(u:HO):Prop:=H a=some u\/∃o,H a=some (.frz o u)
theorem Rd.ok{P:Program}{w:World}{h:Heap}{a:Addr}{u:HO}(r:Rd H a u)(x:HOk P w H h):cZ P w H h a u:=by
 rcases r with r|⟨o,r⟩
 .exact x a u r
 .obtain⟨_,q⟩:=x a _ r;exact q
noncomputable def Mut:Option HO->Prop
 |some (.lst _)=>True
 |some (.dK _)=>True
 |some (.dT _)=>True
 |some (.set _ _)=>True
 |some (.ins _ _ _)=>True
 |some (.ext _)=>True
 |_=>False
section
variable{P:Program}{w:World}{H:Hp}{h h':Heap}{x e:Addr}{o':HO}
theorem HOk.write(ok:HOk P w H h)(mu:Mut (H x))(he:e=x\/H e=some (.own x))(k:∀b u,b≠e->h.get? b=some u->h'.get? b=some u)(heo:∃u,h'.get? e=some u)
 (new:cZ P w (upd H x o') h' x o'):HOk P w (upd H x o') h':=fun b u q=>by
 have nown:∀c y,H c=some (.own y)->c≠x:=fun c y r z=>by subst z;rw[r]at mu;exact mu
 have ntup:∀c xs,H c=some (.tup xs)->c≠x:=fun c xs r z=>by subst z;rw[r]at mu;exact mu
 by_cases hb:b=x
 .subst hb;rw[aT]at q;cases q;exact new
 .rw[aU hb]at q;by_cases hbe:b=e
  .have q':H b=some (.own x):=by
    rcases he with z|z
    .exact absurd (hbe.trans z) hb
    .rw[hbe];exact z
   rw[q]at q';cases q';obtain⟨v,hv⟩:=heo;exact⟨v,by rw[hbe];exact hv⟩
  .refine(ok b u q).stay (fun c v hc r=>k c v ?_ r) (fun c r=>by rw[aU (nown c b r)];exact r) fun c xs r=>by rw[aU (ntup c xs r)];exact r
   rcases hc with rfl|hc
   .exact hbe
   .rintro rfl;rcases he with z|z
    .exact nown c b hc z
    .rw[hc]at z;cases z;exact hb rfl
end
structure Un(fs ex:List Addr)(H H':Hp)(h h':Heap):Prop where
 keep:∀b o,h.get? b=some o->H b=none->b∉fs->b∉ex->h'.get? b=some o
 slot:∀b o,h.get? b=some o->H b=none->b∈fs->b∉ex->∃sl,h'.get? b=some { o with slots:=sl }
 free:∀b o,h.get? b=some o->H b=none->b∉ex->H' b=none
 there:∀b o,h.get? b=some o->b∉ex->∃o',h'.get? b=some o'
 tups:∀b xs,H b=some (.tup xs)->H' b=some (.tup xs)
 frzs:∀b o u,H b=some (.frz o u)->H' b=some (.frz o u)
 tbls:∀b ps,H b=some (.tbl ps)->∃more,H' b=some (.tbl (ps++more))
section
variable{fs fs' ex ex':List Addr}{H H1 H2:Hp}{h h1 h2 h':Heap}{a x e:Addr}{o:HO}
theorem Un.any(u:Un fs ex H H1 h h1){b:Addr}{ob:Obj}(q:h.get? b=some ob)(n:H b=none)(hx:b∉ex):∃sl,h1.get? b=some { ob with slots:=sl }:=by
 by_cases hb:b∈fs
 .exact u.slot b ob q n hb hx
 .exact⟨ob.slots,u.keep b ob q n hb hx⟩
theorem Un.kept(k:∀b u,h.get? b=some u->h'.get? b=some u):Un fs ex H H h h':=
 ⟨fun b ob q _ _ _=>k b ob q,fun b ob q _ _ _=>⟨ob.slots,k b ob q⟩,fun _ _ _ n _=>n,fun b ob q _=>⟨ob,k b ob q⟩,fun _ _ q=>q,fun _ _ _ q=>q,fun _ ps q=>⟨#[],by rw[q];simp⟩⟩
theorem Un.refl:Un fs ex H H h h:=Un.kept fun _ _ q=>q
theorem Un.laid(k:∀b u,h.get? b=some u->h'.get? b=some u)(hp:h.objs.size<=a)(hn:H a=none):Un fs ex H (upd H a o) h h' where
 keep:=fun b u q _ _ _=>k b u q
 slot:=fun b u q _ _ _=>⟨u.slots,k b u q⟩
 free:=fun b u q n _=>by rw[aU (C5 (B9 (B5 q) hp))];exact n
 there:=fun b u q _=>⟨u,k b u q⟩
 tups:=fun b xs q=>by rw[aU (aQ q hn)];exact q
 frzs:=fun b u xs q=>by rw[aU (aQ q hn)];exact q
 tbls:=fun b ps q=>⟨#[],by rw[aU (aQ q hn),q];simp⟩
theorem Un.write(mu:Mut (H x))(he:e=x\/H e=some (.own x))(k:∀b u,b≠e->h.get? b=some u->h'.get? b=some u)(heo:∃u,h'.get? e=some u):Un fs ex H (upd H x o) h h':=by
 have hx:∀b,H b=none->b≠x:=fun b n z=>by subst z;rw[n]at mu;exact mu
 have hb:∀b,H b=none->b≠e:=fun b n z=>by
  subst z;rcases he with r|r
  .exact hx b n r
  .rw[n]at r;cases r
 have hm:∀b u,H b=some u->¬Mut (some u)->b≠x:=fun b u q nm z=>by subst z;rw[q]at mu;exact nm mu
 refine⟨fun b u q n _ _=>k b u (hb b n) q,fun b u q n _ _=>⟨u.slots,k b u (hb b n) q⟩,fun b u q n _=>by rw[aU (hx b n)];exact n,fun b u q _=>?_,
  fun b xs q=>by rw[aU (hm b _ q fun z=>z)];exact q,fun b u xs q=>by rw[aU (hm b _ q fun z=>z)];exact q,fun b ps q=>⟨#[],by rw[aU (hm b _ q fun z=>z),q];simp⟩⟩
 by_cases hbe:b=e
 .subst hbe;exact heo
 .exact⟨u,k b u hbe q⟩
end
noncomputable def trk(h:Heap)(H:Hp):List Addr:=(List.range h.objs.size).filter fun a=>(H a).isSome
noncomputable def yF(h:Heap)(H:Hp):Heap:=PySem.W.hideAll h (trk h H)
theorem FL(h:Heap)(H:Hp):(yF h H).objs.size=h.objs.size:=PySem.W.hideAll_size _ _
theorem IX{h:Heap}{b:Addr}{o:Obj}(e:h.get? b=some o)(n:H b=none):(yF h H).get? b=some o:=
 PySem.W.hideAll_get _ e fun hm=>by
  have q:(H b).isSome=true:=(List.mem_filter.mp hm).2;rw[n]at q;simp at q
theorem QH{h:Heap}{b:Addr}{o:Obj}(e:(yF h H).get? b=some o):h.get? b=some o/\H b=none:=by
 have e':h.get? b=some o:=PySem.W.of_hideAll (trk h H) e;refine⟨e',?_⟩;cases q:H b with
 |none=>rfl
 |some x=>
  have hm:b∈trk h H:=List.mem_filter.mpr ⟨List.mem_range.mpr (B5 e'),by simp[q]⟩;have z:(yF h H).get? b=none:=PySem.W.hideAll_none (trk h H) hm;rw[z]at e;cases e
noncomputable def iP(g h:Heap)(L:Addr):List (Addr×Obj):=(List.range h.objs.size).filterMap fun a=>if a=L\/(g.get? a).isSome=true then none else(h.get? a).map fun o=>(a,o)
theorem iW{g h:Heap}{L a:Addr}{o:Obj}(h1:a≠L)(h2:g.get? a=none)(h3:h.get? a=some o):(a,o)∈iP g h L:=
 List.mem_filterMap.mpr ⟨a,List.mem_range.mpr (B5 h3),by simp[h1,h2,h3]⟩
theorem tT{g h:Heap}{L:Addr}{p:Addr×Obj}(hp:p∈iP g h L):p.1≠L/\g.get? p.1=none/\h.get? p.1=some p.2:=by
 obtain⟨b,_,e⟩:=List.mem_filterMap.mp hp;split at e
 .cases e
 .rename_i hn;cases q:h.get? b with
  |none=>rw[q]at e;simp at e
  |some u=>
   rw[q]at e;simp only[Option.map_some,Option.some.injEq]at e;subst e;refine⟨fun z=>hn (.inl z),?_,q⟩;show g.get? b=none;cases r:g.get? b with
   |none=>rfl
   |some v=>exact(hn (.inr (by simp[r]))).elim
noncomputable def rest(g h:Heap)(L d:Addr):List (Addr×Obj):=(iP g h L).filter fun p=>decide (p.1≠d)
theorem zN{g h:Heap}{L:Addr}:News g L h (iP g h L):=fun p hp=>let⟨a,b,c⟩:=tT hp;⟨c,a,b⟩
structure Mod(K:Fg)(mg:Str->Option Value)(base:Heap):Prop where
 kin:K.In base
 glob:base.Ns mainGlobals mg
 blt:∃mb,base.Ns builtinsNs mb/\∀x:Str,x≠"__name__"->mb x=bootBuiltins x
 nolimit:base.NoLimit
 sysm:∃o es ep,base.get? sysModules=some o/\o.data=.dict es ep
structure Cx where
 prog:Program
 w:World
 K:Fg
 mg:Str->Option Value
 base:Heap
 A:Around
 N:List Str
 s₀:Shared
 H₀:Hp
 env:Env
 outer:List Env
 stack:List Env
 ex:List Addr
 fn:Str->Bool
 calm:Bool
 pn:List (Addr×Obj)
 xe:Value->Shared->Prop
noncomputable def frs(l:List Env):List Addr:=l.filterMap (·.frame)
noncomputable abbrev Cx.fs(X:Cx):List Addr:=frs X.outer
noncomputable def Vis(sc:Scope)(x:Str):Prop:=sc.names.lookup x=some .local\/sc.names.lookup x=some .cell\/sc.names.lookup x=some .free
noncomputable def Loc(sc:Scope)(x:Str):Prop:=sc.names.lookup x=some .local\/sc.names.lookup x=some .cell
noncomputable def Look(env:Env)(h:Heap)(m:Str->Option Value)(x:Str)(u:Value):Prop:=
 (env.kindOf x=some .local/\m x=some u)\/((env.kindOf x=some .cell\/env.kindOf x=some .free)/\∃c,env.cells.lookup x=some c/\h.IsCell c (some u))
structure Cx.Ok(X:Cx):Prop where
 mod:Mod X.K X.mg X.base
 kind:X.env.scope.kind=.function
 glob:X.env.globals=mainGlobals
 blt:X.env.builtins=builtinsNs
 above:X.s₀.heap.objs.size<=X.env.locals
 inj:∀x y c,X.env.cells.lookup x=some c->X.env.cells.lookup y=some c->x=y
 has:∀x,(X.env.kindOf x=some .cell\/X.env.kindOf x=some .free)->∃c,X.env.cells.lookup x=some c
 cab:∀x c,X.fn x=true->X.env.cells.lookup x=some c->X.s₀.heap.objs.size<=c
 hd:X.calm=true->X.A.handled=none
 frames:X.A.frames=some X.stack
 stk:X.stack=X.outer\/(X.stack=X.env::X.outer/\X.env.frame=some X.env.locals)
 exf:∀b∈X.ex,b≠X.env.locals/\∀x c,X.env.cells.lookup x=some c->c≠b
 bs:∀b o,X.base.get? b=some o->X.s₀.heap.get? b=some o/\X.H₀ b=none
 bsz:X.base.objs.size<=X.s₀.heap.objs.size
 noex:∀b o,X.base.get? b=some o->b∉X.ex
 exfs:∀b∈X.ex,b∉X.fs
 funs:X.s₀.heap.FunFrames X.base X.outer
 frf:∀b∈X.fs,X.H₀ b=none
structure Inv(X:Cx)(pins:List (Addr×Obj))(σ:List (Option V))(H:Hp)(s:Shared):Prop where
 ok:X.Ok
 os:s.os=X.s₀.os
 bare:AllBare s.gens
 base:Un X.fs X.ex X.H₀ H X.s₀.heap s.heap
 loc:∃m,s.heap.Ns X.env.locals m/\∀(i:Nat)(x:Str)(v:V),X.N[i]?=some x->σ[i]?=some (some v)->Vis X.env.scope x->∃u,RelV v u/\Look X.env s.heap m x u
 cell:∀x c,X.env.cells.lookup x=some c->∃v,s.heap.IsCell c v
 free:H X.env.locals=none
 freeC:∀x c,X.env.cells.lookup x=some c->H c=none
 pin:∀p∈X.pn++pins,s.heap.get? p.1=some p.2/\H p.1=none/\p.1≠X.env.locals/\p.1∉X.fs/\∀v,p.2.data≠.cell v
 hok:HOk X.prog X.w H s.heap
 len:σ.length=X.N.length
section
variable{X:Cx}{pins:List (Addr×Obj)}{σ:List (Option V)}{H H':Hp}{s:Shared}{h':Heap}
theorem Cx.Ok.nofr(ok:X.Ok){b:Addr}{o:Obj}(e:X.base.get? b=some o):b∉X.fs:=fun hb=>by
 have:=(ok.funs.mem hb).1;rw[e]at this;cases this
theorem Inv.bs(I:Inv X pins σ H s):∀b o,X.base.get? b=some o->s.heap.get? b=some o/\H b=none:=fun b o e=>
 ⟨I.base.keep b o (I.ok.bs b o e).1 (I.ok.bs b o e).2 (I.ok.nofr e) (I.ok.noex b o e),I.base.free b o (I.ok.bs b o e).1 (I.ok.bs b o e).2 (I.ok.noex b o e)⟩
theorem Inv.bk(I:Inv X pins σ H s):∀b o,X.base.get? b=some o->s.heap.get? b=some o:=fun b o e=>(I.bs b o e).1
theorem Inv.mod(I:Inv X pins σ H s):Mod X.K X.mg X.base:=I.ok.mod
theorem Inv.kIn(I:Inv X pins σ H s):X.K.In s.heap:=I.ok.mod.kin.keeps I.bk
theorem Inv.fr(I:Inv X pins σ H s):∃m,Fr X.base X.env.locals s.heap m:=
 let⟨m,hn,_⟩:=I.loc
 ⟨m,hn,I.bk,E5 I.ok.bsz I.ok.above⟩
theorem Inv.lt(I:Inv X pins σ H s):X.env.locals<s.heap.objs.size:=let⟨_,hn,_⟩:=I.loc;hn.lt
theorem Inv.sz(I:Inv X pins σ H s):X.s₀.heap.objs.size<=s.heap.objs.size:=E5 I.ok.above (U8 I.lt)
theorem Inv.nofs(I:Inv X pins σ H s){a:Addr}(h:s.heap.objs.size<=a):a∉X.fs:=fun hb=>by
 obtain⟨_,o,ho,_⟩:=I.ok.funs.mem hb;exact absurd (B9 (B5 ho) (E5 I.sz h)) (F0 _)
theorem Inv.cne(I:Inv X pins σ H s):∀x c,X.env.cells.lookup x=some c->c≠X.env.locals:=fun x c e z=>by
 obtain⟨v,o,ho,hd⟩:=I.cell x c e;obtain⟨m,⟨o',es,ep,ho',hd',_⟩,_⟩:=I.loc;rw[z,ho']at ho;cases ho;rw[hd']at hd;cases hd
theorem Inv.funs(I:Inv X pins σ H s):s.heap.FunFrames X.base X.outer:=by
 have all:∀(l:List Env),(∀b∈frs l,b∈X.fs)->X.s₀.heap.FunFrames X.base l->s.heap.FunFrames X.base l:=by
  intro l
  induction l with
  |nil=>intro _ _;trivial
  |cons env r ih=>
   intro hs hl;obtain⟨hk,⟨L,o,hf,hn,ho,hd⟩,hr⟩:=hl;have hL:L∈X.fs:=hs L (by unfold frs;rw[L6,hf];exact B6);obtain⟨sl,e⟩:=I.base.slot L o ho (I.ok.frf L hL) hL fun z=>I.ok.exfs L z hL;exact⟨hk,⟨L,_,hf,hn,e,hd⟩,ih (fun b hb=>hs b (by unfold frs;rw[L6,hf];exact B1 _ hb)) hr⟩
 exact all X.outer (fun _ hb=>hb) I.ok.funs
theorem Inv.stack(I:Inv X pins σ H s):s.heap.FunFrames X.base X.stack:=by
 rcases I.ok.stk with e|⟨e,hf⟩
 .rw[e];exact I.funs
 .rw[e];obtain⟨m,hn,_⟩:=I.loc;refine .cons (by rw[I.ok.kind];decide) hf hn ?_ I.funs;exact Heap.get?_none_of_le (E5 I.ok.bsz I.ok.above)
theorem Inv.stkSub(I:Inv X pins σ H s):∀b∈frs X.stack,b∈X.env.locals::X.fs:=fun b hb=>by
 rcases I.ok.stk with e|⟨e,hf⟩
 .rw[e]at hb;exact B1 _ hb
 .rw[e]at hb;unfold frs at hb;rw[L6,hf]at hb;exact hb
theorem Inv.stkFree(I:Inv X pins σ H s):∀b∈frs X.stack,H b=none:=fun b hb=>by
 rcases List.mem_cons.mp (I.stkSub b hb)with e|hb
 .rw[e];exact I.free
 .obtain⟨_,o,ho,_⟩:=I.ok.funs.mem hb;exact I.base.free b o ho (I.ok.frf b hb) fun z=>I.ok.exfs b z hb
theorem Inv.step{g':Array GenState}{t':Nat}{d':Drawn}{ch:List Addr}(I:Inv X pins σ H s)
 (hch:∀b∈ch,(b∈X.ex\/X.s₀.heap.objs.size<=b)/\b≠X.env.locals/\(∀x c,X.env.cells.lookup x=some c->c≠b)/\∀p∈X.pn++pins,p.1≠b)
 (keep:∀b o,b≠X.env.locals->b∉X.fs->b∉ch->s.heap.get? b=some o->H b=none->h'.get? b=some o)
 (slot:∀b o,b≠X.env.locals->b∈X.fs->b∉ch->s.heap.get? b=some o->H b=none->∃sl,h'.get? b=some { o with slots:=sl }) (free:∀b o,b∉ch->s.heap.get? b=some o->H b=none->H' b=none)
 (there:∀b o,b∉ch->s.heap.get? b=some o->∃o',h'.get? b=some o')
 (tups:∀b xs,H b=some (.tup xs)->H' b=some (.tup xs)) (frzs:∀b o u,H b=some (.frz o u)->H' b=some (.frz o u)) (tbls:∀b ps,H b=some (.tbl ps)->∃more,H' b=some (.tbl (ps++more)))
 (ns:∀m,s.heap.Ns X.env.locals m->h'.Ns X.env.locals m) (hok:HOk X.prog X.w H' h') (hg:AllBare g'):
 Inv X pins σ H' { s with heap:=h',gens:=g',drawn:=d',toks:=t' }:=by
 have neL:∀b o,X.s₀.heap.get? b=some o->b≠X.env.locals:=fun b o e=>C5 (B9 (B5 e) I.ok.above)
 have neC:∀b o,X.s₀.heap.get? b=some o->b∉X.ex->b∉ch:=fun b o e hx hb=>by
  rcases (hch b hb).1 with z|z
  .exact hx z
  .exact absurd (B9 (B5 e) z) (F0 _)
 have cellK:∀x c,X.env.cells.lookup x=some c->∀v,s.heap.IsCell c v->h'.IsCell c v:=fun x c e v ⟨o,ho,hd⟩=>by
  have nch:c∉ch:=fun z=>(hch c z).2.2.1 x c e rfl;by_cases hc:c∈X.fs
  .obtain⟨sl,q⟩:=slot c o (I.cne x c e) hc nch ho (I.freeC x c e);exact⟨_,q,hd⟩
  .exact⟨o,keep c o (I.cne x c e) hc nch ho (I.freeC x c e),hd⟩
 refine⟨I.ok,I.os,hg,⟨fun b o e n hb hx=>?_,fun b o e n hb hx=>?_,fun b o e n hx=>?_,fun b o e hx=>?_,fun b xs e=>tups b xs (I.base.tups b xs e),fun b o xs e=>frzs b o xs (I.base.frzs b o xs e),fun b ps e=>?_⟩,?_,fun x c e=>?_,?_,fun x c e=>?_,fun p hp=>?_,hok,I.len⟩
 .exact keep b o (neL b o e) hb (neC b o e hx) (I.base.keep b o e n hb hx) (I.base.free b o e n hx)
 .obtain⟨sl,e1⟩:=I.base.slot b o e n hb hx;obtain⟨sl',e2⟩:=slot b _ (neL b o e) hb (neC b o e hx) e1 (I.base.free b o e n hx);exact⟨sl',e2⟩
 .obtain⟨o',e1⟩:=I.base.there b o e hx;exact free b o' (neC b o e hx) e1 (I.base.free b o e n hx)
 .obtain⟨o',e1⟩:=I.base.there b o e hx;exact there b o' (neC b o e hx) e1
 .obtain⟨m1,e1⟩:=I.base.tbls b ps e;obtain⟨m2,e2⟩:=tbls b _ e1;exact⟨m1++m2,by rw[e2,Array.append_assoc]⟩
 .obtain⟨m,hn,hl⟩:=I.loc;refine⟨m,ns m hn,fun i x v e1 e2 e3=>?_⟩;obtain⟨u,r,l⟩:=hl i x v e1 e2 e3;refine⟨u,r,?_⟩;rcases l with l|⟨k,c,e,z⟩
  .exact .inl l
  .exact .inr ⟨k,c,e,cellK x c e _ z⟩
 .obtain⟨v,z⟩:=I.cell x c e;exact⟨v,cellK x c e v z⟩
 .obtain⟨m,⟨o,_,_,ho,_⟩,_⟩:=I.loc;exact free _ o (fun z=>(hch _ z).2.1 rfl) ho I.free
 .obtain⟨v,o,ho,hd⟩:=I.cell x c e;exact free c o (fun z=>(hch c z).2.2.1 x c e rfl) ho (I.freeC x c e)
 .obtain⟨e,n,ne,nf,d⟩:=I.pin p hp;have nch:p.1∉ch:=fun z=>(hch p.1 z).2.2.2 p hp rfl;exact⟨keep p.1 p.2 ne nf nch e n,free p.1 p.2 nch e n,ne,nf,d⟩
theorem Inv.un{t':Nat}(I:Inv X pins σ H s)(u:Un X.fs [] H H' s.heap h')(hok:HOk X.prog X.w H' h'):Inv X pins σ H' { s with heap:=h',toks:=t' }:=by
 obtain⟨m,⟨o,es,ep,ho,r⟩,_⟩:=id I.loc;obtain⟨sl,hL⟩:=u.any ho I.free (by simp)
 exact I.step (g':=s.gens) (d':=s.drawn) (ch:=[]) (fun _ z=>nomatch z) (fun b o _ hb _ e n=>u.keep b o e n hb (by simp)) (fun b o _ hb _ e n=>u.slot b o e n hb (by simp)) (fun b o _ e n=>u.free b o e n (by simp)) (fun b o _ e=>u.there b o e (by simp)) u.tups u.frzs u.tbls (fun m' hm=>by
  obtain⟨o',es',ep',ho',r'⟩:=hm;rw[ho]at ho';cases ho';exact⟨_,es',ep',hL,r'⟩) hok I.bare
theorem Inv.call{g':Array GenState}{t':Nat}{d':Drawn}{ch:List Addr}(I:Inv X pins σ H s)(u:Un (frs X.stack) ch H H' s.heap h')(hok:HOk X.prog X.w H' h')(hg:AllBare g')
 (hch:∀b∈ch,(b∈X.ex\/X.s₀.heap.objs.size<=b)/\b≠X.env.locals/\(∀x c,X.env.cells.lookup x=some c->c≠b)/\∀p∈X.pn++pins,p.1≠b):
 Inv X pins σ H' { s with heap:=h',gens:=g',drawn:=d',toks:=t' }:=by
 obtain⟨m,⟨o,es,ep,ho,r⟩,_⟩:=id I.loc;obtain⟨sl,hL⟩:=u.any ho I.free fun z=>(hch _ z).2.1 rfl
 exact I.step (ch:=ch) hch (fun b o hL hb hc e n=>u.keep b o e n (fun z=>(List.mem_cons.mp (I.stkSub b z)).elim hL hb) hc) (fun b o _ _ hc e n=>u.any e n hc) (fun b o hc e n=>u.free b o e n hc) (fun b o hc e=>u.there b o e hc) u.tups u.frzs u.tbls (fun m' hm=>by
  obtain⟨o',es',ep',ho',r'⟩:=hm;rw[ho]at ho';cases ho';exact⟨_,es',ep',hL,r'⟩) hok hg
theorem Inv.turned{t':Nat}{it:Addr}(I:Inv X pins σ H s)(k:∀b o,b≠it->s.heap.get? b=some o->h'.get? b=some o)(hn:H it=none)(hL:it≠X.env.locals)
 (h1:it∈X.ex\/X.s₀.heap.objs.size<=it) (h2:∀x c,X.env.cells.lookup x=some c->c≠it) (h3:∀p∈X.pn++pins,p.1≠it):Inv X pins σ H { s with heap:=h',toks:=t' }:=by
 have nit:∀b u,H b=some u->b≠it:=fun b u e z=>by rw[z,hn]at e;cases e
 refine I.step (g':=s.gens) (d':=s.drawn) (ch:=[it]) (fun b hb=>?_) (fun b o _ _ hc e _=>k b o (fun z=>hc (by simp[z])) e) (fun b o _ _ hc e _=>⟨o.slots,k b o (fun z=>hc (by simp[z])) e⟩) (fun _ _ _ _ n=>n)
  (fun b o hc e=>⟨o,k b o (fun z=>hc (by simp[z])) e⟩) (fun _ _ e=>e) (fun _ _ _ e=>e) (fun b ps e=>⟨#[],by rw[e];simp⟩) (fun m hm=>?_) (fun b u e=>?_) I.bare
 .have e:b=it:=by simpa using hb
  subst e;exact⟨h1,hL,h2,h3⟩
 .obtain⟨o,es,ep,ho,r⟩:=hm;exact⟨o,es,ep,k _ o (O3 hL) ho,r⟩
 .refine(I.hok b u e).stay (fun c v hc q=>k c v ?_ q) (fun _ q=>q) fun _ _ q=>q;rcases hc with z|z
  .rw[z];exact nit b u e
  .exact nit c _ z
theorem Inv.tok(I:Inv X pins σ H s)(t:Nat):Inv X pins σ H { s with toks:=t }:=I.un (h':=s.heap) (t':=t) Un.refl I.hok
theorem Inv.kept{t':Nat}(I:Inv X pins σ H s)(k:∀b u,s.heap.get? b=some u->h'.get? b=some u):Inv X pins σ H { s with heap:=h',toks:=t' }:=I.un (Un.kept k) (I.hok.kept k)
theorem Inv.laid{a:Addr}{o:HO}{t':Nat}(I:Inv X pins σ H s)(k:∀b u,s.heap.get? b=some u->h'.get? b=some u)(hp:s.heap.objs.size<=a)(new:cZ X.prog X.w (upd H a o) h' a o):
 Inv X pins σ (upd H a o) { s with heap:=h',toks:=t' }:=I.un (Un.laid k hp (I.hok.fresh hp)) (I.hok.laid k hp new)
theorem Inv.write{x e:Addr}{o:HO}{t':Nat}(I:Inv X pins σ H s)(mu:Mut (H x))(he:e=x\/H e=some (.own x))(k:∀b u,b≠e->s.heap.get? b=some u->h'.get? b=some u)(heo:∃u,h'.get? e=some u)
 (new:cZ X.prog X.w (upd H x o) h' x o):Inv X pins σ (upd H x o) { s with heap:=h',toks:=t' }:=I.un (Un.write mu he k heo) (I.hok.write mu he k heo new)
theorem Inv.pins_of{pins':List (Addr×Obj)}(I:Inv X pins σ H s)(h:∀p∈pins',s.heap.get? p.1=some p.2/\H p.1=none/\p.1≠X.env.locals/\p.1∉X.fs/\∀v,p.2.data≠.cell v):Inv X pins' σ H s:=
 ⟨I.ok,I.os,I.bare,I.base,I.loc,I.cell,I.free,I.freeC,fun p hp=>(List.mem_append.mp hp).elim (fun z=>I.pin p (D2 _ z)) (h p),I.hok,I.len⟩
theorem AI{N:List Str}(hN:N.Nodup){i j:Nat}{x:Str}(a:N[i]?=some x)(b:N[j]?=some x):i=j:=by
 obtain⟨h1,e1⟩:=List.getElem?_eq_some_iff.mp a;obtain⟨h2,e2⟩:=List.getElem?_eq_some_iff.mp b;exact(List.getElem_inj hN).mp (e1.trans e2.symm)
theorem vT{M:Model}{A:Around}{E:Value->Shared->Prop}{i:Nat}{x:Str}{v:V}{u:Value}{Q:Unit->Shared->Prop}(I:Inv X pins σ H s)(hN:X.N.Nodup)(hi:X.N[i]?=some x)(hx:Loc X.env.scope x)(r:RelV v u)
 (h:∀s',Inv X pins (σ.set i (some v)) H s'->(∃a,Heap.SameBut a s.heap s'.heap/\(a=X.env.locals\/X.env.cells.lookup x=some a))->Q () s') (hf:X.fn x=true\/X.env.scope.names.lookup x=some .local:=by first|exact .inl rfl|exact .inr rfl|assumption):wpAny M A (storeName X.env x u) Q E s:=by
 obtain⟨m,hn,hl⟩:=id I.loc;have hcls:(X.env.scope.kind==.class || (X.env.scope.kind==.module&&X.env.locals != X.env.globals))=false:=by rw[I.ok.kind];rfl
 have hiσ:i<σ.length:=by rw[I.len];exact(List.getElem?_eq_some_iff.mp hi).1
 have cne:=I.cne
 have tracked:∀{a:Addr}{h':Heap},(∃o,s.heap.get? a=some o/\H a=none)->Heap.SameBut a s.heap h'->HOk X.prog X.w H h':=fun{a h'} ha hs b ob e=>by
  obtain⟨_,_,hfree⟩:=ha;refine(I.hok b ob e).stay (fun c w' hc q=>(hs.2 c ?_).trans q) (fun _ q=>q) fun _ _ q=>q;rintro rfl;rcases hc with rfl|hc
  .rw[hfree]at e;cases e
  .rw[hfree]at hc;cases hc
 rcases hx with hk|hk
 .refine wpAny_storeName_local hk hn (fun h' hn' hs=>?_) hcls;obtain⟨oL,_,_,hoL,_⟩:=id hn;refine h _ ⟨I.ok,I.os,I.bare,⟨fun b o e n hb hx=>?_,fun b o e n hb hx=>?_,I.base.free,fun b o e hx=>?_,I.base.tups,I.base.frzs,I.base.tbls⟩,⟨_,hn',fun j y v' e1 e2 e3=>?_⟩,fun y c e=>?_,I.free,I.freeC,fun p hp=>?_,tracked ⟨oL,hoL,I.free⟩ hs,by simpa using I.len⟩ ⟨_,hs,.inl rfl⟩
  .exact(hs.2 b (C5 (B9 (B5 e) I.ok.above))).trans (I.base.keep b o e n hb hx)
  .obtain⟨sl,e1⟩:=I.base.slot b o e n hb hx;exact⟨sl,(hs.2 b (C5 (B9 (B5 e) I.ok.above))).trans e1⟩
  .obtain⟨o',e1⟩:=I.base.there b o e hx;exact⟨o',(hs.2 b (C5 (B9 (B5 e) I.ok.above))).trans e1⟩
  .by_cases hj:j=i
   .subst hj;rw[hi]at e1;cases e1;rw[L9 hiσ]at e2;cases e2;exact⟨u,r,.inl ⟨hk,by simp⟩⟩
   .rw[O6 (O3 hj)]at e2;obtain⟨u',r',q⟩:=hl j y v' e1 e2 e3;refine⟨u',r',?_⟩;rcases q with⟨k,e⟩|⟨k,c,e,z⟩
    .refine .inl ⟨k,?_⟩;have:y≠x:=fun e=>hj (AI hN e1 (e▸hi));simp[this,e]
    .exact .inr ⟨k,c,e,z.sameBut hs (cne y c e)⟩
  .obtain⟨w',z⟩:=I.cell y c e;exact⟨w',z.sameBut hs (cne y c e)⟩
  .obtain⟨e,n,ne,nf,d⟩:=I.pin p hp;exact⟨(hs.2 p.1 ne).trans e,n,ne,nf,d⟩
 .have hfn:X.fn x=true:=by
   rcases hf with z|z
   .exact z
   .rw[z]at hk;cases hk
  obtain⟨c,hc⟩:=I.ok.has x (.inl hk);obtain⟨w',z⟩:=I.cell x c hc;refine wpAny_storeName_cell I.ok.kind hk hc z (fun h' hc' hs=>?_);obtain⟨oc,hoc,hocd⟩:=id z;refine h { s with heap:=h' } ⟨I.ok,I.os,I.bare,⟨fun b o e n hb hx=>?_,fun b o e n hb hx=>?_,I.base.free,fun b o e hx=>?_,I.base.tups,I.base.frzs,I.base.tbls⟩,⟨m,hn.sameBut hs (O3 (cne x c hc)),fun j y v' e1 e2 e3=>?_⟩,fun y c' e=>?_,I.free,I.freeC,fun p hp=>?_,tracked ⟨oc,hoc,I.freeC x c hc⟩ hs,by simpa using I.len⟩ ⟨c,hs,.inr hc⟩
  .exact(hs.2 b (C5 (B9 (B5 e) (I.ok.cab x c hfn hc)))).trans (I.base.keep b o e n hb hx)
  .obtain⟨sl,e1⟩:=I.base.slot b o e n hb hx;exact⟨sl,(hs.2 b (C5 (B9 (B5 e) (I.ok.cab x c hfn hc)))).trans e1⟩
  .obtain⟨o',e1⟩:=I.base.there b o e hx;exact⟨o',(hs.2 b (C5 (B9 (B5 e) (I.ok.cab x c hfn hc)))).trans e1⟩
  .by_cases hj:j=i
   .subst hj;rw[hi]at e1;cases e1;rw[L9 hiσ]at e2;cases e2;exact⟨u,r,.inr ⟨.inl hk,c,hc,hc'⟩⟩
   .rw[O6 (O3 hj)]at e2;obtain⟨u',r',q⟩:=hl j y v' e1 e2 e3;refine⟨u',r',?_⟩;rcases q with q|⟨k,c',e,z'⟩
    .exact .inl q
    .refine .inr ⟨k,c',e,z'.sameBut hs ?_⟩;rintro rfl;exact hj (AI hN e1 (I.ok.inj _ _ _ e hc▸hi))
  .by_cases hcc:c'=c
   .subst hcc;exact⟨_,hc'⟩
   .obtain⟨w2,z2⟩:=I.cell y c' e;exact⟨w2,z2.sameBut hs hcc⟩
  .obtain⟨e,n,ne,nf,d⟩:=I.pin p hp;refine⟨(hs.2 p.1 ?_).trans e,n,ne,nf,d⟩;intro q;rw[q,hoc]at e;have q':oc=p.2:=C9 e;exact d w' (by rw[<- q'];exact hocd)
theorem oO{M:Model}{A:Around}{E:Value->Shared->Prop}{i:Nat}{x:Str}{v:V}{u:Value}{Q:Unit->Shared->Prop}(I:Inv X pins σ H s)(hN:X.N.Nodup)(hi:X.N[i]?=some x)(hx:Loc X.env.scope x)(r:RelV v u)
 (h:∀s',Inv X pins (σ.set i (some v)) H s'->Q () s') (hf:X.fn x=true\/X.env.scope.names.lookup x=some .local:=by first|exact .inl rfl|exact .inr rfl|assumption):wpAny M A (storeName X.env x u) Q E s:=
 vT I hN hi hx r (fun s' I' _=>h s' I') hf
end
noncomputable abbrev XK:=Value->Option Addr->Hp->Prop
noncomputable abbrev St:=List (Option V)
noncomputable abbrev VK:=V->Hp->Prop
noncomputable abbrev TE:=St->Hp->VK->Prop
noncomputable abbrev TT:=St->Hp->(Bool->Hp->Prop)->Prop
noncomputable abbrev TA:=St->Hp->(List V->Hp->Prop)->Prop
structure Ends where
 nx:St->Hp->Prop
 rt:VK
 bk:St->Hp->Prop:=fun _ _=>False
 ct:St->Hp->Prop:=fun _ _=>False
noncomputable abbrev TS:=Ends->St->Hp->Prop
noncomputable def EP(X:Cx)(pins:List (Addr×Obj))(σ:St)(Q:VK)(u:Value)(s':Shared):Prop:=∃v H',Inv X pins σ H' s'/\RelV v u/\Q v H'
noncomputable def TP(X:Cx)(pins:List (Addr×Obj))(σ:St)(Q:Bool->Hp->Prop)(b:Bool)(s':Shared):Prop:=∃H',Inv X pins σ H' s'/\Q b H'
noncomputable def AP(X:Cx)(pins:List (Addr×Obj))(σ:St)(Q:List V->Hp->Prop)(us:List Value)(s':Shared):Prop:=∃vs H',Inv X pins σ H' s'/\bB vs us/\Q vs H'
noncomputable def SP(X:Cx)(pins:List (Addr×Obj))(D:Ends)(f:Flow)(s':Shared):Prop:=
 match f with
 |.next=>∃σ' H',Inv X pins σ' H' s'/\D.nx σ' H'
 |.brk=>∃σ' H',Inv X pins σ' H' s'/\D.bk σ' H'
 |.cont=>∃σ' H',Inv X pins σ' H' s'/\D.ct σ' H'
 |.ret u=>∃v σ' H',Inv X pins σ' H' s'/\RelV v u/\D.rt v H'
noncomputable def PE(X:Cx)(e:Expr)(t:TE):Prop:=
 ∀(pins:List (Addr×Obj))(s:Shared)(σ:St)(H:Hp)(Q:VK),Inv X pins σ H s->t σ H Q->wpAny (model X.prog X.w) X.A (eval e X.env) (EP X pins σ Q) X.xe s
noncomputable def PT(X:Cx)(e:Expr)(t:TT):Prop:=
 ∀(pins:List (Addr×Obj))(s:Shared)(σ:St)(H:Hp)(Q:Bool->Hp->Prop),Inv X pins σ H s->t σ H Q->wpAny (model X.prog X.w) X.A (isTrue e X.env (eval e X.env)) (TP X pins σ Q) X.xe s
noncomputable def PW(X:Cx)(e:Expr)(t:TT):Prop:=
 ∀(whole:Sem Value)(pins:List (Addr×Obj))(s:Shared)(σ:St)(H:Hp)(Q:Bool->Hp->Prop),Inv X pins σ H s->t σ H Q->wpAny (model X.prog X.w) X.A (isTrue e X.env whole) (TP X pins σ Q) X.xe s
theorem PW.pt{X:Cx}{e:Expr}{t:TT}(h:PW X e t):PT X e t:=h _
noncomputable def PA(X:Cx)(es:List Expr)(t:TA):Prop:=
 ∀(pos:Pos)(pins:List (Addr×Obj))(s:Shared)(σ:St)(H:Hp)(Q:List V->Hp->Prop),Inv X pins σ H s->t σ H Q->wpAny (model X.prog X.w) X.A (spliced (backTo pos (starEach es X.env))) (AP X pins σ Q) X.xe s
noncomputable def PS(X:Cx)(st:Stmt)(t:TS):Prop:=
 ∀(pins:List (Addr×Obj))(s:Shared)(σ:St)(H:Hp)(D:Ends),Inv X pins σ H s->t D σ H->wpAny (model X.prog X.w) X.A (exec st X.env) (SP X pins D) X.xe s
noncomputable def PSs(X:Cx)(st:List Stmt)(t:TS):Prop:=
 ∀(pins:List (Addr×Obj))(s:Shared)(σ:St)(H:Hp)(D:Ends),Inv X pins σ H s->t D σ H->wpAny (model X.prog X.w) X.A (execs st X.env) (SP X pins D) X.xe s
theorem thn{α:Type}{t:Sem α}{Q Q':α->Shared->Prop}{M:Model}{E:Value->Shared->Prop}{s:Shared}(h:wpAny M A t Q E s)(hQ:∀a s,Q a s->Q' a s):wpAny M A t Q' E s:=S2 h hQ fun _ _ x=>x
section
variable{X:Cx}
theorem bin{a b:Expr}{ta tb:TE}(ha:PE X a ta)(hb:PE X b tb){pins:List (Addr×Obj)}{R:V->V->Hp->Prop}(I:Inv X pins σ H s)(h:ta σ H fun x H1=>tb σ H1 fun y H2=>R x y H2)
 {α:Type} {Q:α->Shared->Prop} {f:Value->Value->Sem α}
 (hf:∀v u s2 x y H2,Inv X pins σ H2 s2->RelV x v->RelV y u->R x y H2->wpAny (model X.prog X.w) X.A (f v u) Q X.xe s2):
 wpAny (model X.prog X.w) X.A (eval a X.env) (fun v s₁=>wpAny (model X.prog X.w) X.A (eval b X.env) (fun u s₂=>wpAny (model X.prog X.w) X.A (f v u) Q X.xe s₂) X.xe s₁) X.xe s:=by
 refine thn (ha pins s σ H _ I h) fun v s1 ⟨x,H1,I1,r1,q1⟩=>?_;refine thn (hb pins s1 σ H1 _ I1 q1) fun u s2 ⟨y,H2,I2,r2,q2⟩=>?_;exact hf v u s2 x y H2 I2 r1 r2 q2
noncomputable def aAf(i:Nat):TE:=fun σ H Q=>∃v,σ[i]?=some (some v)/\Q v H
noncomputable def tC(v:V):TE:=fun _ H Q=>Q v H
theorem VU{i:Nat}{x:Str}(hN:X.N[i]?=some x)(hv:Vis X.env.scope x)(hd:(x==("__debug__":Str))=false:=by decide)(hcd:(x==("__classdict__":Str))=false:=by decide):PE X (.Name x pos) (aAf i):=by
 intro pins s σ H Q I h;obtain⟨v,e,h⟩:=h;obtain⟨m,hn,hl⟩:=I.loc;obtain⟨u,r,l⟩:=hl i x v hN e hv;have fin:EP X pins σ Q u s:=⟨v,H,I,r,h⟩;rcases l with⟨hk,hm⟩|⟨hk,c,hc,hcell⟩
 .exact wpAny_Name (wpAny_loadName_local I.ok.kind hk hn hm fin) hd
 .rcases hk with hk|hk
  .exact wpAny_Name (wpAny_loadName_cell I.ok.kind hk hc hcell fin) hd
  .exact wpAny_Name (wpAny_loadName_free I.ok.kind hk hc hcell fin hcd) hd
theorem XU{i j pos}:PE X (.Constant (.int i) j pos) (tC (.int i)):=fun _ _ _ H _ I h=>wpAny_Constant_int ⟨.int i,H,I.tok _,⟨_,rfl⟩,h⟩
theorem aAE{b j pos}:PE X (.Constant (.bool b) j pos) (tC (.bl b)):=fun _ _ _ H _ I h=>Constant_bool ⟨.bl b,H,I,rfl,h⟩
theorem ZW{j pos}:PE X (.Constant .none j pos) (tC .non):=fun _ _ _ H _ I h=>Constant_none ⟨.non,H,I,rfl,h⟩
theorem WR{x j pos}:PE X (.Constant (.str x) j pos) (tC (.str x)):=fun _ _ _ H _ I h=>Calls.Constant_str ⟨.str x,H,I.tok _,⟨_,rfl⟩,h⟩
noncomputable def Gl(X:Cx)(x:Str):Prop:=X.env.kindOf x=some .globalImplicit
theorem EI{E:Value->Shared->Prop}{pins:List (Addr×Obj)}{x:Str}{u:Value}{pos:Pos}{Q:Value->Shared->Prop}(I:Inv X pins σ H s)(hg:Gl X x)(hm:X.mg x=some u)(h:Q u s)
 (hd:(x==("__debug__":Str))=false:=by decide):wpAny (model X.prog X.w) X.A (eval (.Name x pos) X.env) Q E s:=
 Calls.Name_function_global I.ok.kind hg (Calls.loadGlobal_global (by rw[I.ok.glob];exact I.mod.glob.keeps I.bk) hm h) hd
theorem kK{E:Value->Shared->Prop}{pins:List (Addr×Obj)}{x:Str}{u:Value}{pos:Pos}{Q:Value->Shared->Prop}(I:Inv X pins σ H s)(hg:Gl X x)(hm:X.mg x=none)(hv:bootBuiltins x=some u)(h:Q u s)
 (hn:x≠"__name__":=by decide) (hd:(x==("__debug__":Str))=false:=by decide):wpAny (model X.prog X.w) X.A (eval (.Name x pos) X.env) Q E s:=by
 obtain⟨mb,h1,h2⟩:=I.mod.blt;exact Calls.Name_function_global I.ok.kind hg (Calls.loadGlobal_builtin (by rw[I.ok.glob];exact I.mod.glob.keeps I.bk) hm (by rw[I.ok.blt];exact h1.keeps I.bk) ((h2 x hn).trans hv) h) hd
theorem RJ{x:Str}{v:V}{u:Value}(hg:Gl X x)(hm:X.mg x=some u)(r:RelV v u)(hd:(x==("__debug__":Str))=false:=by decide):PE X (.Name x pos) (tC v):=
 fun _ _ _ H _ I h=>EI I hg hm ⟨v,H,I,r,h⟩ hd
theorem xM{x:Str}{v:V}{u:Value}(hg:Gl X x)(hm:X.mg x=none)(hv:bootBuiltins x=some u)(r:RelV v u)(hn:x≠"__name__":=by decide)(hd:(x==("__debug__":Str))=false:=by decide):PE X (.Name x pos) (tC v):=
 fun _ _ _ H _ I h=>kK I hg hm hv ⟨v,H,I,r,h⟩ hn hd
variable{a b:Expr}{ta tb:TE}{pos:Pos}
noncomputable def PC(X:Cx)(op:CmpOp)(a b:Expr)(t:TE):Prop:=
 ∀(pins:List (Addr×Obj))(s:Shared)(σ:St)(H:Hp)(Q:VK),Inv X pins σ H s->t σ H Q->
  wpAny (model X.prog X.w) X.A (eval a X.env) (fun v s₁=>wpAny (model X.prog X.w) X.A (eval b X.env) (fun u s₂=>wpAny (model X.prog X.w) X.A (compareOp op v u) (EP X pins σ Q) X.xe s₂) X.xe s₁) X.xe s
theorem JO(b:Expr){op:CmpOp}(h:op≠.In)(h2:op≠.NotIn):behindInMarks op b=false:=by
 have e1:(op==CmpOp.In)=false:=by cases op<;>first|rfl|exact absurd rfl h
 have e2:(op==CmpOp.NotIn)=false:=by cases op<;>first|rfl|exact absurd rfl h2
 cases b<;>simp[behindInMarks,e1,e2]
noncomputable def tB(t:TE):TT:=fun σ H Q=>t σ H fun x H1=>∃c,x=.bl c/\Q c H1
theorem YS{op:CmpOp}{t:TE}(h:PC X op a b t)(h1:behindInMarks op b=false:=by first|exact JO _ (by decide) (by decide)|rfl):PT X (.Compare a [op] [b] pos) (tB t):=by
 intro pins s σ H Q I hw;refine wpAny_isTrue_Compare1 (thn (h pins s σ H _ I hw) fun v s1 h1=>thn h1 fun u s2 h2=>thn h2 fun c s3 ⟨x,H1,I1,r1,q1⟩=>?_) h1;obtain⟨d,rfl,q⟩:=q1;cases r1;exact J5 ⟨H1,I1,q⟩
theorem VD{e:Expr}{t:TE}(h:PE X e t)(he:∀whole,isTrue e X.env whole=(do let v <- whole;standAt e.pos;holding [v] (truthy v)):=by intro _;rfl):PT X e (tB t):=by
 intro pins s σ H Q I hw;refine isTrue_plain (thn (h pins s σ H _ I hw) fun v s1 ⟨x,H1,I1,r1,q1⟩=>?_) (he _);obtain⟨d,rfl,q⟩:=q1;cases r1;exact J5 ⟨H1,I1,q⟩
variable{tA tB':TT}{rest:List Expr}
noncomputable def tOr(t u:TT):TT:=fun σ H Q=>t σ H fun c H1=>if c=true then Q true H1 else u σ H1 Q
noncomputable def aAX(t:TT):TT:=fun σ H Q=>t σ H fun c H1=>Q (!c) H1
theorem XX(ha:PT X a tA):PW X (.BoolOp .Or [a] pos) tA:=by
 intro wh pins s σ H Q I h;refine isTrue_or (thn (ha pins s σ H Q I h) fun c s1 e=>?_);cases c with
 |false=>exact isTrue_or_nil e
 |true=>exact e
theorem aBA(ha:PT X a tA)(hb:PW X (.BoolOp .Or (b::rest) pos) tB'):PW X (.BoolOp .Or (a::b::rest) pos) (tOr tA tB'):=by
 intro wh pins s σ H Q I h;refine isTrue_or (thn (ha pins s σ H _ I h) fun c s1 ⟨H1,I1,q1⟩=>?_);cases c with
 |true=>exact⟨H1,I1,q1⟩
 |false=>exact hb wh pins s1 σ H1 Q I1 q1
theorem XE(ha:PT X a tA):PT X (.UnaryOp .Not a pos) (aAX tA):=by
 intro pins s σ H Q I h;exact isTrue_not (ha pins s σ H (fun c H1=>Q (!c) H1) I h)
noncomputable def TN(ta tb:TE):TE:=fun σ H Q=>ta σ H fun x H1=>∃c,x=.bl c/\if c=true then tb σ H1 Q else Q (.bl false) H1
noncomputable def SV(ta:TE):TE:=fun σ H Q=>ta σ H fun x H1=>∃c,x=.bl c/\Q (.bl (!c)) H1
theorem ZS{op}{t:TE}(h:PE X a t):PE X (.BoolOp op [a] pos) t:=fun pins s σ H Q I hw=>BoolOp_one (h pins s σ H Q I hw)
theorem YT(ha:PE X a ta)(hb:PE X (.BoolOp .And (b::rest) pos) tb):PE X (.BoolOp .And (a::b::rest) pos) (TN ta tb):=by
 intro pins s σ H Q I h;refine BoolOp_and (thn (ha pins s σ H _ I h) fun v s1 ⟨x,H1,I1,r1,q1⟩=>?_);obtain⟨c,rfl,q1⟩:=q1;cases r1;refine J5 ?_;cases c with
 |true=>exact hb pins s1 σ H1 Q I1 q1
 |false=>exact⟨.bl false,H1,I1,rfl,q1⟩
theorem UO(ha:PE X a ta):PE X (.UnaryOp .Not a pos) (SV ta):=by
 intro pins s σ H Q I h;refine UnaryOp_ (thn (ha pins s σ H _ I h) fun v s1 ⟨x,H1,I1,r1,q1⟩=>?_);obtain⟨c,rfl,q1⟩:=q1;cases r1;exact not_of (J5 ⟨.bl (!c),H1,I1,rfl,q1⟩)
end
noncomputable def SqL(K:Fg)(H:Hp)(a:Addr)(xs:List V):Prop:=
 Rd H a (.lst xs) \/
  ∃(o:Obj)(its:Array Value)(n:Nat),K.lookup a=some o/\o.cls=.type "list"/\o.dict=none/\o.data=.seq its n/\its.size<=sizeLine/\bB xs its.toList
noncomputable def SqT(K:Fg)(H:Hp)(a:Addr)(xs:List V):Prop:=
 Rd H a (.tup xs) \/
  ∃(o:Obj)(its:Array Value)(n:Nat),K.lookup a=some o/\o.cls=.type "tuple"/\o.data=.seq its n/\its.size<=sizeLine/\bB xs its.toList
noncomputable def aBN:Value->Option V
 |.none=>some .non
 |.bool b=>some (.bl b)
 |.int i _=>some (.int i)
 |.str x _=>some (.str x)
 |.bytes b _=>some (.byt b)
 |.float b _=>some (.flt b)
 |.ref a=>some (.ref a)
 |.type n=>some (.ty n)
 |_=>none
theorem RelV.abs{x:V}{u:Value}(r:RelV x u):aBN u=some x:=by
 cases x with
 |non=>cases r;rfl
 |bl _=>cases r;rfl
 |int _=>obtain⟨t,rfl⟩:=r;rfl
 |str _=>obtain⟨t,rfl⟩:=r;rfl
 |byt _=>obtain⟨t,rfl⟩:=r;rfl
 |flt _=>obtain⟨t,rfl⟩:=r;rfl
 |ref _=>cases r;rfl
 |ty _=>cases r;rfl
theorem RelV.inj{x y:V}{u:Value}(r:RelV x u)(q:RelV y u):x=y:=C9 (r.abs.symm.trans q.abs)
theorem bB.inj:∀{xs ys:List V}{us:List Value},bB xs us->bB ys us->xs=ys
 |_,_,_,.nil,.nil=>rfl
 |_,_,_,.cons r t,.cons r' t'=>by rw[r.inj r',bB.inj t t']
section
variable{X:Cx}{pins:List (Addr×Obj)}{σ:St}{H:Hp}{s:Shared}{a:Addr}{xs ys:List V}
theorem SqL.of(h:H a=some (.lst xs)):SqL K H a xs:=.inl (.inl h)
theorem SqT.of(h:H a=some (.tup xs)):SqT K H a xs:=.inl (.inl h)
theorem Inv.list(I:Inv X pins σ H s)(h:SqL X.K H a xs):∃its:List Value,bB xs its/\PlainL s.heap a its.toArray/\xs.length<=sizeLine:=by
 rcases h with h|⟨o,its,n,hk,hc,hd,hs,hz,r⟩
 .obtain⟨z,its,n,r,e⟩:=h.ok I.hok;exact⟨its,r,⟨_,n,e,rfl,rfl,rfl⟩,z⟩
 .refine⟨its.toList,r,⟨o,n,I.kIn a o hk,hc,hd,by simpa using hs⟩,?_⟩;have e:=r.length;simp only[Array.length_toList]at e;omega
theorem Inv.tuple(I:Inv X pins σ H s)(h:SqT X.K H a xs):∃its:List Value,bB xs its/\IsTup s.heap a its.toArray/\xs.length<=sizeLine:=by
 rcases h with h|⟨o,its,n,hk,hc,hs,hz,r⟩
 .obtain⟨z,its,r,p⟩:=h.ok I.hok;exact⟨its,r,p,z⟩
 .refine⟨its.toList,r,⟨o,I.kIn a o hk,hc,n,by simpa using hs⟩,?_⟩;have e:=r.length;simp only[Array.length_toList]at e;omega
theorem Inv.list_inj(I:Inv X pins σ H s)(h:SqL X.K H a xs)(h':SqL X.K H a ys):xs=ys:=by
 obtain⟨its,r,⟨o,n,e,_,_,d⟩,_⟩:=I.list h;obtain⟨its',r',⟨o',n',e',_,_,d'⟩,_⟩:=I.list h';rw[e]at e';cases e';rw[d]at d';injection d' with d1 _
 have:its=its':=by simpa using F4 Array.toList d1
 subst this;exact r.inj r'
theorem Inv.tuple_inj(I:Inv X pins σ H s)(h:SqT X.K H a xs)(h':SqT X.K H a ys):xs=ys:=by
 obtain⟨its,r,⟨o,e,_,n,d⟩,_⟩:=I.tuple h;obtain⟨its',r',⟨o',e',_,n',d'⟩,_⟩:=I.tuple h';rw[e]at e';cases e';rw[d]at d';injection d' with d1 _
 have:its=its':=by simpa using F4 Array.toList d1
 subst this;exact r.inj r'
end
noncomputable abbrev Cx.wish(X:Cx)(E:Value->Shared->Prop):Cx:={ X with xe:=E }
noncomputable abbrev Cx.nox(X:Cx):Cx:=X.wish fun _ _=>False
theorem Cx.Ok.wish{X:Cx}(ok:X.Ok)(E:Value->Shared->Prop):(X.wish E).Ok:=
 ⟨ok.mod,ok.kind,ok.glob,ok.blt,ok.above,ok.inj,ok.has,ok.cab,ok.hd,ok.frames,ok.stk,ok.exf,ok.bs,ok.bsz,ok.noex,ok.exfs,ok.funs,ok.frf⟩
theorem Cx.Ok.unwish{X:Cx}{E:Value->Shared->Prop}(ok:(X.wish E).Ok):X.Ok:=
 ⟨ok.mod,ok.kind,ok.glob,ok.blt,ok.above,ok.inj,ok.has,ok.cab,ok.hd,ok.frames,ok.stk,ok.exf,ok.bs,ok.bsz,ok.noex,ok.exfs,ok.funs,ok.frf⟩
section
variable{X:Cx}{pins:List (Addr×Obj)}{σ:St}{H:Hp}{s:Shared}{E:Value->Shared->Prop}
theorem Inv.wish(I:Inv X pins σ H s)(E:Value->Shared->Prop):Inv (X.wish E) pins σ H s:=⟨I.ok.wish E,I.os,I.bare,I.base,I.loc,I.cell,I.free,I.freeC,I.pin,I.hok,I.len⟩
theorem Inv.unwish(I:Inv (X.wish E) pins σ H s):Inv X pins σ H s:=⟨I.ok.unwish,I.os,I.bare,I.base,I.loc,I.cell,I.free,I.freeC,I.pin,I.hok,I.len⟩
theorem SP.unwish{D:Ends}{f:Flow}{s':Shared}(h:SP (X.wish E) pins D f s'):SP X pins D f s':=by
 cases f with
 |next=>obtain⟨σ',H',I,q⟩:=h;exact⟨σ',H',I.unwish,q⟩
 |brk=>obtain⟨σ',H',I,q⟩:=h;exact⟨σ',H',I.unwish,q⟩
 |cont=>obtain⟨σ',H',I,q⟩:=h;exact⟨σ',H',I.unwish,q⟩
 |ret u=>obtain⟨v,σ',H',I,r,q⟩:=h;exact⟨v,σ',H',I.unwish,r,q⟩
theorem PSs.nox{st:List Stmt}{t:TS}(h:PSs X.nox st t):PSs X st t:=fun pins s σ H D I hw=>
 S2 (h pins s σ H D (I.wish _) hw) (fun _ _ q=>q.unwish) fun _ _ z=>False.elim z
end
section
variable{X:Cx}{st:Stmt}{rest:List Stmt}{t u:TS}{e:Expr}{te:TE}{pos:Pos}
noncomputable def TM:TS:=fun D σ H=>D.nx σ H
noncomputable def aBp(t u:TS):TS:=fun D σ H=>t { D with nx:=u D } σ H
theorem OL:PSs X [] TM:=fun _ _ σ H _ I h=>wpAny_execs_nil ⟨σ,H,I,h⟩
theorem IT(h1:PS X st t)(h2:PSs X rest u):PSs X (st::rest) (aBp t u):=by
 intro pins s σ H D I h;refine wpAny_execs_cons (thn (h1 pins s σ H { D with nx:=u D } I h) fun f s1 q=>?_);cases f with
 |next=>
  obtain⟨σ',H',I',q⟩:=q;exact h2 pins s1 σ' H' D I' q
 |ret v=>exact q
 |brk=>exact q
 |cont=>exact q
theorem QZ(h1:PS X st t):PSs X [st] t:=by
 intro pins s σ H D I h;refine wpAny_execs_cons (thn (h1 pins s σ H D I h) fun f s1 q=>?_);cases f with
 |next=>exact wpAny_execs_nil q
 |ret v=>exact q
 |brk=>exact q
 |cont=>exact q
theorem Inv.quiet{pins:List (Addr×Obj)}(I:Inv X pins σ H s):interactive X.env=false:=by simp[interactive,I.ok.kind]
noncomputable def SX(te:TE):TS:=fun D σ H=>te σ H fun _ H1=>D.nx σ H1
theorem RT(he:PE X e te)(hs:swapsWith e none pos.line X.env=pure false:=by rfl):PS X (.Expr e pos) (SX te):=by
 intro pins s σ H D I h;exact wpAny_Expr_any (thn (he pins s σ H _ I h) fun v s1 ⟨x,H1,I1,r1,q1⟩=>⟨σ,H1,I1,q1⟩) I.quiet hs
noncomputable def aBe(te:TE):TS:=fun D σ H=>te σ H D.rt
theorem WJ(he:PE X e te):PS X (.Return (some e) pos) (aBe te):=by
 intro pins s σ H D I h;exact wpAny_Return_some (thn (he pins s σ H _ I h) fun v s1 ⟨x,H1,I1,r1,q1⟩=>⟨x,σ,H1,I1,r1,q1⟩)
noncomputable def aAW(c:TT)(t u:TS):TS:=fun D σ H=>c σ H fun b H1=>if b=true then t D σ H1 else u D σ H1
theorem aBy{c:Expr}{a b:List Stmt}{tc:TT}(hc:PT X c tc)(ha:PSs X a t)(hb:PSs X b u):PS X (.If c a b pos) (aAW tc t u):=by
 intro pins s σ H D I h;refine wpAny_If (thn (hc pins s σ H _ I h) fun d s1 ⟨H1,I1,q1⟩=>?_);cases d with
 |true=>exact ha pins s1 σ H1 D I1 q1
 |false=>exact hb pins s1 σ H1 D I1 q1
end
noncomputable abbrev TG:=V->St->Hp->(St->Hp->Prop)->Prop
noncomputable abbrev TGs:=List V->St->Hp->(St->Hp->Prop)->Prop
noncomputable def PG(X:Cx)(target:Expr)(t:TG):Prop:=
 ∀(pins:List (Addr×Obj))(s:Shared)(σ:St)(H:Hp)(v:V)(u:Value)(Q:St->Hp->Prop),Inv X pins σ H s->RelV v u->t v σ H Q->
  wpAny (model X.prog X.w) X.A (assign target X.env u) (fun _ s'=>∃σ' H',Inv X pins σ' H' s'/\Q σ' H') X.xe s
noncomputable def PGs(X:Cx)(ts:List Expr)(t:TGs):Prop:=
 ∀(pins:List (Addr×Obj))(s:Shared)(σ:St)(H:Hp)(vs:List V)(us:List Value)(Q:St->Hp->Prop),Inv X pins σ H s->bB vs us->t vs σ H Q->
  wpAny (model X.prog X.w) X.A (assignInOrder ((assignEach ts X.env).map (·.2)) us) (fun _ s'=>∃σ' H',Inv X pins σ' H' s'/\Q σ' H') X.xe s
noncomputable abbrev RY:=V->V->V->Hp->(Hp->Prop)->Prop
noncomputable def WW(X:Cx)(t:RY):Prop:=
 ∀(pins:List (Addr×Obj))(s:Shared)(σ:St)(H:Hp)(o i v:V)(ov iv u:Value)(Q:Hp->Prop),Inv X pins σ H s->RelV o ov->RelV i iv->RelV v u->t o i v H Q->
  wpAny (model X.prog X.w) X.A (setItem ov iv u) (fun _ s'=>∃H',Inv X pins σ H' s'/\Q H') X.xe s
section
variable{X:Cx}{pos:Pos}
noncomputable def yV(i:Nat):TG:=fun v σ H Q=>Q (σ.set i (some v)) H
theorem OQ{i:Nat}{x:Str}(hN:X.N.Nodup)(hi:X.N[i]?=some x)(hx:Loc X.env.scope x)(hf:X.fn x=true\/X.env.scope.names.lookup x=some .local:=by first|exact .inl rfl|exact .inr rfl|assumption):PG X (.Name x pos) (yV i):=by
 intro pins s σ H v u Q I r h;exact wpAny_assign_Name (oO I hN hi hx r (fun s' I'=>⟨_,H,I',h⟩) hf)
noncomputable def aBI:TGs:=fun vs σ H Q=>vs=[]/\Q σ H
noncomputable def UF(t:TG)(u:TGs):TGs:=fun vs σ H Q=>∃v r,vs=v::r/\t v σ H fun σ' H'=>u r σ' H' Q
theorem RV:PGs X [] aBI:=by
 intro pins s σ H vs us Q I r h;obtain⟨e,h⟩:=h;subst e;cases r;exact assignInOrder_nil ⟨σ,H,I,h⟩
theorem KL{e:Expr}{es:List Expr}{t:TG}{u:TGs}(h1:PG X e t)(h2:PGs X es u)
 (hs:(assignEach (e::es) X.env).map (·.2)=assign e X.env::(assignEach es X.env).map (·.2):=by rfl):PGs X (e::es) (UF t u):=by
 intro pins s σ H vs us Q I r h;obtain⟨v,vr,e1,h⟩:=h;subst e1;cases r with
 |cons r rr=>
  rw[hs];refine assignInOrder_cons (thn (h1 pins s σ H _ _ _ I r h) fun _ s1 ⟨σ1,H1,I1,q1⟩=>?_);exact h2 pins s1 σ1 H1 _ _ Q I1 rr q1
noncomputable def YD(K:Fg)(n:Nat)(t:TGs):TG:=fun v σ H Q=>∃a xs,v=.ref a/\SqT K H a xs/\xs.length=n/\t xs σ H Q
theorem WD{es:List Expr}{k:Nat}{t:TGs}{n:Nat}(hc:X.calm=true)(h:PGs X es t)
 (hn:(assignEach es X.env).length=n:=by rfl) (hst:(assignEach es X.env).findIdx? (·.1)=none:=by rfl):PG X (.Tuple es k pos) (YD X.K n t):=by
 intro pins s σ H v u Q I r hw;obtain⟨a,xs,e1,hq,hl,hw⟩:=hw;subst e1;cases r;obtain⟨its,rv,ht,hz⟩:=I.tuple hq;refine assign_Tuple_tuple (I.ok.hd hc) ht (by simp[hn,<- hl,rv.length]) hst fun h' hx=>?_;have I1:Inv X pins σ H { s with heap:=h' }:=I.kept (t':=s.toks) fun b o e=>hx b o (C5 (B5 e)) e;exact h pins _ σ H xs _ Q I1 (by simpa using rv) hw
noncomputable def aAO(to ti:TE)(t:RY):TG:=fun v σ H Q=>to σ H fun o H1=>ti σ H1 fun i H2=>t o i v H2 fun H3=>Q σ H3
theorem YX{o i:Expr}{to ti:TE}{t:RY}(ho:PE X o to)(hi:PE X i ti)(hs:WW X t)
 (ha:∀v,assign (.Subscript o i pos) X.env v=(do
  let ov <- holding [v] (eval o X.env);let iv <- holding [v,ov] (eval i X.env)
  standAt pos
  holding [v,ov,iv] (setItem ov iv v)
  release [v,ov,iv] []):=by intro _;rfl):PG X (.Subscript o i pos) (aAO to ti t):=by
 intro pins s σ H v u Q I r h;rw[ha];refine A0 (L3 (thn (ho pins s σ H _ I h) fun ov s1 ⟨x,H1,I1,r1,q1⟩=>?_));refine A0 (L3 (thn (hi pins s1 σ H1 _ I1 q1) fun iv s2 ⟨y,H2,I2,r2,q2⟩=>?_));refine A0 (wpAny_standAt (A0 (L3 (thn (hs pins s2 σ H2 x y v ov iv u _ I2 r1 r2 r q2) fun _ s3 ⟨H3,I3,q3⟩=>?_))));exact wpAny_release ⟨σ,H3,I3,q3⟩
noncomputable def OG(te:TE)(g:TG):TS:=fun D σ H=>te σ H fun x H1=>g x σ H1 D.nx
theorem UP{tg e:Expr}{te:TE}{g:TG}(he:PE X e te)(hg:PG X tg g)(hs:swapsWithSole [tg] e pos.line X.env=pure false:=by rfl)(hw:swappedStores [tg] e X.env=pure none:=by rfl)
 (h1:(assignEach [tg] X.env).map (·.2)=[assign tg X.env]:=by rfl):PS X (.Assign [tg] e pos) (OG te g):=by
 intro pins s σ H D I h;refine wpAny_Assign_stores (thn (he pins s σ H _ I h) fun v s1 ⟨x,H1,I1,r1,q1⟩=>?_) hs hw;rw[h1];exact thn (hg pins s1 σ H1 x v _ I1 r1 q1) fun _ s2 q=>q
theorem ZU{i:Nat}{x:Str}{e:Expr}{te:TE}{pos':Pos}(hN:X.N.Nodup)(hi:X.N[i]?=some x)(hx:Loc X.env.scope x)(he:PE X e te)(hs:swapsWith e (some (.Name x pos')) pos.line X.env=pure false:=by rfl)(hf:X.fn x=true\/X.env.scope.names.lookup x=some .local:=by first|exact .inl rfl|exact .inr rfl|assumption):
 PS X (.Assign [.Name x pos'] e pos) (OG te (yV i)):=by
 intro pins s σ H D I h;refine wpAny_Assign_Name (thn (he pins s σ H _ I h) fun v s1 ⟨y,H1,I1,r1,q1⟩=>?_) hs;exact oO I1 hN hi hx r1 (fun s2 I2=>⟨_,H1,I2,q1⟩) hf
noncomputable def aBn(i j:Nat)(ta:TA):TS:=fun D σ H=>ta σ H fun vs H1=>∃v w,vs=[v,w]/\D.nx ((σ.set i (some v)).set j (some w)) H1
theorem ZA{i j:Nat}{x y:Str}{a b:Expr}{ta:TA}{px py pt:Pos}{kt k2 pt2}(hc:X.calm=true)(hN:X.N.Nodup)(hi:X.N[i]?=some x)(hj:X.N[j]?=some y)(hij:i≠j)
 (hx:X.env.scope.names.lookup x=some .local) (hy:X.env.scope.names.lookup y=some .local) (ha:PA X [a,b] ta)
 (hw:swappedStores [.Tuple [.Name x px,.Name y py] kt pt] (.Tuple [a,b] k2 pt2) X.env=pure (some [x,y]))
 (hs:swapsWithSole [.Tuple [.Name x px,.Name y py] kt pt] (.Tuple [a,b] k2 pt2) pos.line X.env=pure false:=by rfl):
 PS X (.Assign [.Tuple [.Name x px,.Name y py] kt pt] (.Tuple [a,b] k2 pt2) pos) (aBn i j ta):=by
 intro pins s σ H D I h;rw[exec_Assign_arm];refine A0 (wpAny_standAt ?_);rw[hs];refine A0 (B3 ?_);rw[A6 (by decide)];refine A0 (Tuple_ (thn (ha _ pins s σ H _ I h) fun us s1 ⟨vs,H1,I1,r1,q1⟩=>?_));obtain⟨v,w,e1,q1⟩:=q1;subst e1
 obtain⟨u1,u2,rfl,rv,rw'⟩:∃u1 u2,us=[u1,u2]/\RelV v u1/\RelV w u2:=by
  cases r1 with
  |cons p q=>
   cases q with
   |cons p' q'=>
    cases q';exact⟨_,_,rfl,p,p'⟩
 refine D7 ?_ (by show 2<=sizeLine;decide);have I2:Inv X pins σ H1 { s1 with heap:=s1.heap.push { cls:=.type "tuple",data:=.seq [u1,u2].toArray } }:=I1.kept (t':=s1.toks) fun b o e=>A3 _ e;rw[hw];refine A0 (B3 ?_);show wpAny (model X.prog X.w) X.A (do rule "assign.swapped-stores";let items <- unpackItems (.ref s1.heap.objs.size) 2 none;assignInOrder [fun v=>bindName X.env y v,fun v=>bindName X.env x v] items.reverse;pure Flow.next) _ _ _;refine A0 (wpAny_rule (A0 (unpackItems_tuple (items:=#[u1,u2]) (I.ok.hd hc) (IsTup.new s1.heap _) fun h' hx'=>?_)));have I3:=I2.kept (h':=h') (t':=s1.toks) fun b o e=>hx' b o (C5 (B5 e)) e;show wpAny _ _ (assignInOrder [fun v=>bindName X.env y v,fun v=>bindName X.env x v] [u2,u1] >>= fun _=>pure Flow.next) _ _ _;refine A0 (assignInOrder_cons (wpAny_bindName (oO I3 hN hj (.inl hy) rw' (fun s2 I4=>?_) (.inr hy))));refine assignInOrder_cons (wpAny_bindName (oO I4 hN hi (.inl hx) rv (fun s3 I5=>assignInOrder_nil (B3 ?_)) (.inr hx)));rw[List.set_comm _ _ (O3 hij)]at I5;exact⟨_,H1,I5,q1⟩
end
section
variable{X:Cx}{pos:Pos}
noncomputable def LD(c:TT)(tb:TS):TS:=fun D σ H=>∃W:Nat->St->Hp->Prop,(∃m,W m σ H)/\∀m σ H,W m σ H->
 c σ H fun b H1=>if b=true then ∃N:St->Hp->Prop,(∀σ' H',N σ' H'->∃m',m'<m/\W m' σ' H')/\tb { D with nx:=N,ct:=N,bk:=D.nx } σ H1 else D.nx σ H1
theorem IG{c:Expr}{body:List Stmt}{tc:TT}{tb:TS}(hp:PassesOwn (model X.prog X.w) X.A X.env X.xe)(hc:PT X c tc)(hb:PSs X body tb):PS X (.While c body [] pos) (LD tc tb):=by
 intro pins s σ H D I h;obtain⟨W,⟨m0,w0⟩,turn⟩:=h;refine wpAny_While (codeAny_whileLoop (fun n s'=>∃σ' H',Inv X pins σ' H' s'/\W n σ' H') ?_ m0 ⟨σ,H,I,w0⟩);rintro n s1 ⟨σ1,H1,I1,w1⟩;refine O7 hp (thn (hc pins s1 σ1 H1 _ I1 (turn n σ1 H1 w1)) fun b s2 ⟨H2,I2,q2⟩=>?_);cases b with
 |true=>
  obtain⟨N,hN,q2⟩:=q2;rw[A4 rfl];refine O7 hp (thn (hb pins s2 σ1 H2 _ I2 q2) fun f s3 q3=>?_);cases f with
  |next=>
   obtain⟨σ3,H3,I3,n3⟩:=q3;obtain⟨m',hm,w3⟩:=hN σ3 H3 n3;exact⟨m',hm,σ3,H3,I3,w3⟩
  |cont=>
   obtain⟨σ3,H3,I3,n3⟩:=q3;obtain⟨m',hm,w3⟩:=hN σ3 H3 n3;exact⟨m',hm,σ3,H3,I3,w3⟩
  |brk=>exact q3
  |ret v=>exact q3
 |false=>
  rw[A6 A8];exact wpAny_execs_nil ⟨σ1,H2,I2,q2⟩
end
structure It where
 go:Nat->Hp->Prop
 yld:Nat->Hp->V->Hp->Prop
 stop:Nat->Hp->Prop
noncomputable def oV(X:Cx)(pins:List (Addr×Obj))(H:Hp)(b:Addr):Prop:=
 H b=none/\b≠X.env.locals/\b∉X.fs/\(b∈X.ex\/X.s₀.heap.objs.size<=b)/\(∀x c,X.env.cells.lookup x=some c->c≠b)/\∀p∈X.pn++pins,p.1≠b
theorem Inv.fpOk{X:Cx}{pins:List (Addr×Obj)}{H':Hp}{b:Addr}(I:Inv X pins σ H s)(hb:s.heap.objs.size<=b)(hn:H' b=none):oV X pins H' b:=by
 refine⟨hn,Nat.ne_of_gt (B9 I.lt hb),I.nofs hb,.inr (E5 I.sz hb),fun x c e z=>?_,fun p hp z=>?_⟩
 .obtain⟨v,q⟩:=I.cell x c e;exact absurd (B9 q.lt (by rw[z];exact hb)) (F0 _)
 .exact absurd (B9 (B5 (I.pin p hp).1) (by rw[z];exact hb)) (F0 _)
structure Turn(P:Program)(w:World)(K:Fg)(tg:Expr)(J:It)(fp:List Addr)(it:Addr)(tn:Nat->Heap->Prop):Prop where
 mem:it∈fp
 obj:∀i h,tn i h->∀b∈fp,∃o,h.get? b=some o/\∀v,o.data≠.cell v
 keep:∀i h h',tn i h->(∀b∈fp,∀o,h.get? b=some o->h'.get? b=some o)->tn i h'
 item:∀(X:Cx),X.prog=P->X.w=w->X.K=K->X.calm=true->∀(i:Nat)(pins:List (Addr×Obj))(s:Shared)(σ:St)(H:Hp)(E:Value->Shared->Prop),Inv X pins σ H s->(∀b∈fp,oV X pins H b)->tn i s.heap->J.go i H->
  wpAny (model P w) X.A (pyNext (.ref it)) (fun r s1=>∃u,r=some u /\
   wpAny (model P w) X.A (letOwnedTupleGo tg (.ref it) u) (fun _ s2=>∃x H',Inv X pins σ H' s2/\RelV x u/\J.yld i H x H'/\tn (i+1) s2.heap/\∀b∈fp,H' b=none) E s1) E s
 done:∀(X:Cx),X.prog=P->X.w=w->X.K=K->X.calm=true->∀(i:Nat)(pins:List (Addr×Obj))(s:Shared)(σ:St)(H:Hp)(E:Value->Shared->Prop),Inv X pins σ H s->(∀b∈fp,oV X pins H b)->tn i s.heap->J.stop i H->
  wpAny (model P w) X.A (pyNext (.ref it)) (fun r s1=>r=none/\Inv X pins σ H s1) E s
 self:∀(A:Around)(i:Nat)(s:Shared)(Q:Value->Shared->Prop)(E:Value->Shared->Prop),tn i s.heap->Q (.ref it) s->wpAny (model P w) A (pyIter (.ref it)) Q E s
noncomputable abbrev TI:=St->Hp->(It->Hp->Prop)->Prop
noncomputable def PIE(X:Cx)(pins:List (Addr×Obj))(σ:St)(tg:Expr)(R:It->Hp->Prop)(itv:Value)(s2:Shared):Prop:=
 ∃(it:Addr)(fp:List Addr)(tn:Nat->Heap->Prop)(J:It)(H':Hp),itv=.ref it/\Inv X pins σ H' s2/\Turn X.prog X.w X.K tg J fp it tn/\tn 0 s2.heap/\(∀b∈fp,oV X pins H' b)/\R J H'
noncomputable def PI(X:Cx)(tg iter:Expr)(wi:TI):Prop:=
 ∀(pins:List (Addr×Obj))(s:Shared)(σ:St)(H:Hp)(R:It->Hp->Prop),Inv X pins σ H s->wi σ H R->
  wpAny (model X.prog X.w) X.A (eval iter X.env) (fun v s1=>wpAny (model X.prog X.w) X.A (pyIter v) (PIE X pins σ tg R) X.xe s1) X.xe s
theorem II{M:Model}{A:Around}{E:Value->Shared->Prop}{tg:Expr}{it:Addr}{u:Value}{o:Obj}{n:String}{vs:Array Value}{Q:Unit->Shared->Prop}(ho:s.heap.get? it=some o)(hc:o.cls=.type n)(hd:o.data=.fields vs)
 (hn:["enumerate","zip","dict_itemiterator","dict_reverseitemiterator","odict_iterator","itertools.zip_longest","itertools.pairwise"].contains n=false) (hQ:Q () s):wpAny M A (letOwnedTupleGo tg (.ref it) u) Q E s:=by
 unfold letOwnedTupleGo
 cases tg<;>first
  |exact B3 hQ
  |(cases u<;>first
   |exact B3 hQ
   | (refine A0 (wpAny_load ho ?_)
      rw[hc,hd];show wpAny M A (if (["enumerate","zip","dict_itemiterator","dict_reverseitemiterator","odict_iterator","itertools.zip_longest","itertools.pairwise"].contains n&&vs[0]?==some (rawInt _))=true then _ else _) Q E s;rw[A6 (by intro h;rw[hn,J8]at h;cases h)];exact B3 hQ))
noncomputable def Itl(K:Fg)(a:Addr):It:=
 ⟨fun i H=>∃xs x,SqL K H a xs/\xs[i]?=some x,fun i H x H'=>H'=H/\∀xs,SqL K H a xs->xs[i]?=some x,fun i H=>∃xs,SqL K H a xs/\xs.length<=i⟩
noncomputable def Itt(K:Fg)(a:Addr):It:=
 ⟨fun i H=>∃xs x,SqT K H a xs/\xs[i]?=some x,fun i H x H'=>H'=H/\∀xs,SqT K H a xs->xs[i]?=some x,fun i H=>∃xs,SqT K H a xs/\xs.length<=i⟩
noncomputable def Itr(lo:Int)(n:Nat):It:=⟨fun i _=>i<n,fun i H x H'=>H'=H/\x=.int (lo+i),fun i _=>n<=i⟩
theorem FR{P:Program}{w:World}{tg:Expr}(a it:Addr):Turn P w K tg (Itl K a) [it] it (fun i h=>h.IsListIter it a i) where
 mem:=by simp
 obj:=fun i h st b hb=>by
  have e:b=it:=by simpa using hb
  subst e;obtain⟨o,e,c,d⟩:=st;exact⟨o,e,fun v z=>by rw[d]at z;cases z⟩
 keep:=fun i h h' st k=>st.at fun o e=>k it (by simp) o e
 item:=by
  intro X hP hw hK hc i pins s σ H E I hf st hg;subst hP hw hK;obtain⟨xs,x,hq,hx⟩:=hg;obtain⟨its,rv,p,hz⟩:=I.list hq;obtain⟨u,hu,ru⟩:=rv.get hx;obtain⟨f0,f1,f2,f3,f4,f5⟩:=hf it (by simp);refine wpAny_pyNext_list_item st p.isList (x:=u) (by simpa using hu) fun h' st' sb=>?_;have I1:Inv X pins σ H { s with heap:=h' }:=I.turned (t':=s.toks) (fun b o hb e=>(sb.2 b hb).trans e) f0 f1 f3 f4 f5;obtain⟨o,e,c,d⟩:=id st';exact⟨u,rfl,II (s:={ s with heap:=h' }) e c d (by decide) ⟨x,H,I1,ru,⟨rfl,fun ys hy=>by rw[I.list_inj hy hq];exact hx⟩,st',fun b hb=>(hf b hb).1⟩⟩
 done:=by
  intro X hP hw hK hc i pins s σ H E I hf st hg;subst hP hw hK;obtain⟨xs,hq,hx⟩:=hg;obtain⟨its,rv,p,hz⟩:=I.list hq;obtain⟨f0,f1,f2,f3,f4,f5⟩:=hf it (by simp);have hl:=rv.length;exact wpAny_pyNext_list_end (I.ok.hd hc) st p.isList (by simp;omega) fun h' eb=>⟨rfl,I.turned (t':=s.toks) (fun b o hb e=>eb b o hb e) f0 f1 f3 f4 f5⟩
 self:=fun _ _ _ _ _ st h=>wpAny_pyIter_listiter st h
theorem CK{P:Program}{w:World}{tg:Expr}(a it:Addr):Turn P w K tg (Itt K a) [it] it (fun i h=>h.IsTupleIter it a i) where
 mem:=by simp
 obj:=fun i h st b hb=>by
  have e:b=it:=by simpa using hb
  subst e;obtain⟨o,e,c,d⟩:=st;exact⟨o,e,fun v z=>by rw[d]at z;cases z⟩
 keep:=fun i h h' st k=>st.at fun o e=>k it (by simp) o e
 item:=by
  intro X hP hw hK hc i pins s σ H E I hf st hg;subst hP hw hK;obtain⟨xs,x,hq,hx⟩:=hg;obtain⟨its,rv,p,hz⟩:=I.tuple hq;obtain⟨u,hu,ru⟩:=rv.get hx;obtain⟨f0,f1,f2,f3,f4,f5⟩:=hf it (by simp);refine wpAny_pyNext_tuple_item st (show s.heap.IsTuple a its.toArray from p) (x:=u) (by simpa using hu) fun h' st' sb=>?_;have I1:Inv X pins σ H { s with heap:=h' }:=I.turned (t':=s.toks) (fun b o hb e=>(sb.2 b hb).trans e) f0 f1 f3 f4 f5;obtain⟨o,e,c,d⟩:=id st';exact⟨u,rfl,II (s:={ s with heap:=h' }) e c d (by decide) ⟨x,H,I1,ru,⟨rfl,fun ys hy=>by rw[I.tuple_inj hy hq];exact hx⟩,st',fun b hb=>(hf b hb).1⟩⟩
 done:=by
  intro X hP hw hK hc i pins s σ H E I hf st hg;subst hP hw hK;obtain⟨xs,hq,hx⟩:=hg;obtain⟨its,rv,p,hz⟩:=I.tuple hq;obtain⟨f0,f1,f2,f3,f4,f5⟩:=hf it (by simp);have hl:=rv.length;exact wpAny_pyNext_tuple_end (I.ok.hd hc) st (show s.heap.IsTuple a its.toArray from p) (by simp;omega) fun h' eb=>⟨rfl,I.turned (t':=s.toks) (fun b o hb e=>eb b o hb e) f0 f1 f3 f4 f5⟩
 self:=fun _ _ _ _ _ st h=>wpAny_pyIter_tupleiter st h
theorem BQ{P:Program}{w:World}{tg:Expr}(it:Addr)(lo:Int)(n:Nat):Turn P w K tg (Itr lo n) [it] it (fun i h=>IsRangeIter h it (lo+(i:Nat)*1) ((n:Int)-(i:Nat)) 1) where
 mem:=by simp
 obj:=fun i h st b hb=>by
  have e:b=it:=by simpa using hb
  subst e
  exact⟨_,st,fun v z=>by
   have z':Data.fields _=Data.cell v:=z;cases z'⟩
 keep:=fun i h h' st k=>k it (by simp) _ st
 item:=by
  intro X hP hw hK hc i pins s σ H E I hf st hg;subst hP hw hK;obtain⟨f0,f1,f2,f3,f4,f5⟩:=hf it (by simp);have W:=Walks.range (prog:=X.prog) (w:=X.w) (I.ok.hd hc) it lo 1 n;refine W.item i s _ _ hg st fun v h' tk hv st' kk=>?_;obtain⟨t,rfl⟩:=hv;have I1:Inv X pins σ H { s with heap:=h',toks:=tk }:=I.turned (fun b o hb e=>kk b o (by simpa using hb) e) f0 f1 f3 f4 f5;refine⟨_,rfl,II (s:={ s with heap:=h',toks:=tk }) (n:="range_iterator") st' rfl rfl (by decide) ⟨.int (lo+i),H,I1,⟨t,?_⟩,⟨rfl,rfl⟩,st',fun b hb=>(hf b hb).1⟩⟩;rw[Int.mul_one]
 done:=by
  intro X hP hw hK hc i pins s σ H E I hf st hg;subst hP hw hK;obtain⟨f0,f1,f2,f3,f4,f5⟩:=hf it (by simp);exact wpAny_pyNext_range_end (I.ok.hd hc) st (by have:n<=i:=hg;omega) fun h' eb=>⟨rfl,I.turned (t':=s.toks) (fun b o hb e=>eb b o hb e) f0 f1 f3 f4 f5⟩
 self:=fun _ _ _ _ _ st h=>wpAny_pyIter_rangeiter st h
section
variable{X:Cx}{tg:Expr}
theorem AB{pins:List (Addr×Obj)}{R:It->Hp->Prop}{E:Value->Shared->Prop}{lo hi:Int}{t u v:Tok}{tk:Nat}(I:Inv X pins σ H s)(h1:-(2 ^ 62)<=lo)(h2:lo<2 ^ 62)(h3:-(2 ^ 62)<=hi)(h4:hi<2 ^ 62)
 (q:R (Itr lo (hi-lo).toNat) H):wpAny (model X.prog X.w) X.A (pyIter (.ref s.heap.objs.size)) (PIE X pins σ tg R) E { s with heap:=s.heap.push { cls:=.type "range",data:=.fields #[.int lo t,.int hi u,.int 1 v] },toks:=tk }:=by
 refine wpAny_pyIter_range (IsRange.new ..) (small_one h1 h2 h3 h4) ?_;have I1:Inv X pins σ H { s with heap:=s.heap.push { cls:=.type "range",data:=.fields #[.int lo t,.int hi u,.int 1 v] },toks:=tk }:=I.kept fun b o e=>A3 _ e
 refine⟨(s.heap.push { cls:=.type "range",data:=.fields #[.int lo t,.int hi u,.int 1 v] }).objs.size,[(s.heap.push { cls:=.type "range",data:=.fields #[.int lo t,.int hi u,.int 1 v] }).objs.size],_,_,H,rfl,
  I1.kept (t':=tk) fun b o e=>A3 _ e,BQ _ lo (hi-lo).toNat,?_,fun b hb=>?_,q⟩
 .have e1:lo+((0:Nat):Int)*1=lo:=by simp
  have e2:(((hi-lo).toNat:Nat):Int)-((0:Nat):Int)=Builtin.Range.rangeSize lo hi 1:=by rw[rangeSize_one];split<;>omega
  show IsRangeIter _ _ (lo+((0:Nat):Int)*1) ((((hi-lo).toNat:Nat):Int)-((0:Nat):Int)) 1;rw[e1,e2];exact C7 _ rfl
 .have e:b=(s.heap.push { cls:=.type "range",data:=.fields #[.int lo t,.int hi u,.int 1 v] }).objs.size:=by simpa using hb
  subst e;exact I1.fpOk (A7 _) (I1.hok.fresh (A7 _))
noncomputable def TY(ta:TA):TI:=fun σ H R=>ta σ H fun vs H1=>∃j:Int,vs=[.int j]/\-(2 ^ 62)<=j/\j<2 ^ 62/\R (Itr 0 j.toNat) H1
noncomputable def SW(ta:TA):TI:=fun σ H R=>ta σ H fun vs H1=>∃i j:Int,vs=[.int i,.int j]/\(-(2 ^ 62)<=i/\i<2 ^ 62/\-(2 ^ 62)<=j/\j<2 ^ 62)/\R (Itr i (j-i).toNat) H1
theorem GX{a:Expr}{ta:TA}{p:Pos}(hg:Gl X "range")(hm:X.mg "range"=none)(ha:PA X [a] ta)(hs:starEach [a] X.env=[(false,eval a X.env)]:=by rfl):PI X tg (.Call (.Name "range" p) [a] [] pos) (TY ta):=by
 intro pins s σ H R I h;refine Call_ (kK I hg hm boot_range (D8 (thn (ha pos pins s σ H _ I h) fun us s1 ⟨vs,H1,I1,r1,q1⟩=>?_) hs rfl));obtain⟨j,e,q1,q2,q⟩:=q1;subst e;cases r1 with
 |cons r rr=>
  cases rr;obtain⟨t,rfl⟩:=r;exact call_range_1 (AB I1 (by omega) (by omega) q1 q2 (by simpa using q))
theorem FW{a b:Expr}{ta:TA}{p pos:Pos}(hg:Gl X "range")(hm:X.mg "range"=none)(ha:PA X [a,b] ta)(hs:starEach [a,b] X.env=[(false,eval a X.env),(false,eval b X.env)]:=by rfl)(hs2:starEach [b] X.env=[(false,eval b X.env)]:=by rfl):
 PI X tg (.Call (.Name "range" p) [a,b] [] pos) (SW ta):=by
 intro pins s σ H R I h;refine Call_ (kK I hg hm boot_range (D8 (thn (ha pos pins s σ H _ I h) fun us s1 ⟨vs,H1,I1,r1,q1⟩=>?_) (by rw[hs,hs2]) (by rw[hs2];rfl)));obtain⟨i,j,e,⟨q1,q2,q3,q4⟩,q⟩:=q1;subst e;cases r1 with
 |cons r rr=>
  cases rr with
  |cons r' rr=>
   cases rr;obtain⟨t,rfl⟩:=r;obtain⟨t',rfl⟩:=r';exact call_range_2 (AB I1 q1 q2 q3 q4 q)
noncomputable def UQ(wi:TI)(g:TG)(tb:TS):TS:=fun D σ H=>wi σ H fun J H1=>∃W:Nat->Nat->St->Hp->Prop,(∃m,W 0 m σ H1)/\∀i m σ H,W i m σ H->
 (J.stop i H/\D.nx σ H)\/(J.go i H/\∃N:St->Hp->Prop,(∀σ' H',N σ' H'->∃m',m'<m/\W (i+1) m' σ' H')/\∀x H',J.yld i H x H'->g x σ H' fun σ2 H2=>tb { D with nx:=N,ct:=N,bk:=D.nx } σ2 H2)
noncomputable def tK(fp:List Addr)(h:Heap):List (Addr×Obj):=fp.filterMap fun b=>(h.get? b).map fun o=>(b,o)
theorem kU{fp:List Addr}{h:Heap}{b:Addr}{o:Obj}(hb:b∈fp)(e:h.get? b=some o):(b,o)∈tK fp h:=List.mem_filterMap.mpr ⟨b,hb,by rw[e];rfl⟩
theorem GS{fp:List Addr}{h:Heap}{p:Addr×Obj}(hp:p∈tK fp h):p.1∈fp/\h.get? p.1=some p.2:=by
 obtain⟨b,hb,e⟩:=List.mem_filterMap.mp hp;cases q:h.get? b with
 |none=>rw[q]at e;cases e
 |some o=>
  rw[q]at e;have e':(b,o)=p:=C9 e;subst e';exact⟨hb,q⟩
theorem Inv.pinned{pins:List (Addr×Obj)}{fp:List Addr}(I:Inv X pins σ H s)(hf:∀b∈fp,oV X pins H b)(ho:∀b∈fp,∃o,s.heap.get? b=some o/\∀v,o.data≠.cell v):Inv X (pins++tK fp s.heap) σ H s:=
 I.pins_of fun p hp=>(List.mem_append.mp hp).elim (fun z=>I.pin p (C2 _ z)) fun z=>by
  obtain⟨hb,e⟩:=GS z;obtain⟨f0,f1,f2,_⟩:=hf p.1 hb;obtain⟨o,e',d⟩:=ho p.1 hb;rw[e]at e';cases e';exact⟨e,f0,f1,f2,d⟩
theorem Inv.unpinned{pins pl:List (Addr×Obj)}(I:Inv X (pins++pl) σ H s):Inv X pins σ H s:=I.pins_of fun p hp=>I.pin p (C2 _ (D2 _ hp))
theorem NG{iter:Expr}{body:List Stmt}{wi:TI}{g:TG}{tb:TS}{pos:Pos}(hp:PassesOwn (model X.prog X.w) X.A X.env X.xe)(hc:X.calm=true)(hi:PI X tg iter wi)(hg:PG X tg g)(hb:PSs X body tb)
 (hs:∀x,foldedSetIterable iter X.env x=pure x:=by intro _;rfl):PS X (.For tg iter body [] pos) (UQ wi g tb):=by
 intro pins s σ H D I h;refine wpAny_For (thn (hi pins s σ H _ I h) fun v s1 h1=>thn h1 fun itv s2 h2=>?_) hs;obtain⟨it,fp,tn,J,H2,e,I2,T,st2,f2,W,⟨m0,w0⟩,turn⟩:=h2;subst e;have stat:∀{H':Hp},(∀b∈fp,H' b=none)->∀b∈fp,oV X pins H' b:=fun hn b hb=>⟨hn b hb,(f2 b hb).2⟩;refine codeAny_forLoop_any (fun n s'=>∃i σ' H',Inv X pins σ' H' s'/\tn i s'.heap/\(∀b∈fp,H' b=none)/\W i n σ' H') ?_ m0 ⟨0,σ,H2,I2,st2,fun b hb=>(f2 b hb).1,w0⟩;rintro n s3 ⟨i,σ3,H3,I3,st3,fr3,w3⟩;rcases turn i n σ3 H3 w3 with⟨stop,qn⟩|⟨go,N,hN,step⟩
 .refine O7 hp (thn (T.done X rfl rfl rfl hc i pins s3 σ3 H3 X.xe I3 (stat fr3) st3 stop) fun r s4 ⟨hr,I4⟩=>?_);subst hr;exact wpAny_execs_nil ⟨σ3,H3,I4,qn⟩
 .refine O7 hp (thn (T.item X rfl rfl rfl hc i pins s3 σ3 H3 X.xe I3 (stat fr3) st3 go) fun r s4 ⟨u,hr,h4⟩=>?_);subst hr;refine O7 hp (thn h4 fun _ s5 ⟨x,H5,I5,r5,y5,st5,fr5⟩=>?_);have I5':=I5.pinned (stat fr5) (T.obj _ _ st5);refine O7 hp (thn (hg _ s5 σ3 H5 x u _ I5' r5 (step x H5 y5)) fun _ s6 ⟨σ6,H6,I6,q6⟩=>?_);refine O7 hp (thn (hb _ s6 σ6 H6 _ I6 q6) fun f s7 q7=>?_)
  have again:∀{σ7:St}{H7:Hp},Inv X (pins++tK fp s5.heap) σ7 H7 s7->N σ7 H7->∃m,m<n/\∃i σ' H',Inv X pins σ' H' s7/\tn i s7.heap/\(∀b∈fp,H' b=none)/\W i m σ' H':=fun{σ7 H7} I7 n7=>by
   obtain⟨m',hm,w7⟩:=hN σ7 H7 n7;refine⟨m',hm,i+1,σ7,H7,I7.unpinned,T.keep _ _ _ st5 fun b hb o e=>(I7.pin (b,o) (C2 _ (C2 _ (kU hb e)))).1,fun b hb=>?_,w7⟩;obtain⟨o,e,d⟩:=T.obj _ _ st5 b hb;exact(I7.pin (b,o) (C2 _ (C2 _ (kU hb e)))).2.1
  cases f with
  |next=>obtain⟨σ7,H7,I7,n7⟩:=q7;exact again I7 n7
  |cont=>obtain⟨σ7,H7,I7,n7⟩:=q7;exact again I7 n7
  |brk=>obtain⟨σ7,H7,I7,q7⟩:=q7;exact⟨σ7,H7,I7.unpinned,q7⟩
  |ret v=>obtain⟨x7,σ7,H7,I7,r7,q7⟩:=q7;exact⟨x7,σ7,H7,I7.unpinned,r7,q7⟩
end
noncomputable abbrev R2:=V->V->Hp->VK->Prop
noncomputable def OpR(X:Cx)(f:Value->Value->Sem Value)(r:R2):Prop:=
 ∀(pins:List (Addr×Obj))(s:Shared)(σ:St)(H:Hp)(x y:V)(v u:Value)(Q:VK),Inv X pins σ H s->RelV x v->RelV y u->r x y H Q->
  wpAny (model X.prog X.w) X.A (f v u) (EP X pins σ Q) X.xe s
noncomputable def UnR(X:Cx)(f:Value->Sem Value)(r:V->Hp->VK->Prop):Prop:=
 ∀(pins:List (Addr×Obj))(s:Shared)(σ:St)(H:Hp)(x:V)(v:Value)(Q:VK),Inv X pins σ H s->RelV x v->r x H Q->
  wpAny (model X.prog X.w) X.A (f v) (EP X pins σ Q) X.xe s
noncomputable def eU(X:Cx)(f:Value)(r:List V->Hp->VK->Prop):Prop:=
 ∀(pins:List (Addr×Obj))(s:Shared)(σ:St)(H:Hp)(xs:List V)(us:List Value)(Q:VK),Inv X pins σ H s->bB xs us->r xs H Q->
  wpAny (model X.prog X.w) X.A (call f us) (EP X pins σ Q) X.xe s
noncomputable def aBX(X:Cx)(r:V->Hp->(Bool->Hp->Prop)->Prop):Prop:=
 ∀(pins:List (Addr×Obj))(s:Shared)(σ:St)(H:Hp)(x:V)(v:Value)(Q:Bool->Hp->Prop),Inv X pins σ H s->RelV x v->r x H Q->
  wpAny (model X.prog X.w) X.A (truthy v) (TP X pins σ Q) X.xe s
noncomputable def tOp(r:R2)(ta tb:TE):TE:=fun σ H Q=>ta σ H fun x H1=>tb σ H1 fun y H2=>r x y H2 Q
noncomputable def tUn(r:V->Hp->VK->Prop)(ta:TE):TE:=fun σ H Q=>ta σ H fun x H1=>r x H1 Q
noncomputable def rI(C:Int->Int->Prop)(g:Int->Int->V):R2:=fun x y H Q=>∃i j,x=.int i/\y=.int j/\C i j/\Q (g i j) H
noncomputable def rI0(g:Int->Int->V):R2:=fun x y H Q=>∃i j,x=.int i/\y=.int j/\Q (g i j) H
noncomputable def rU(g:Int->V):V->Hp->VK->Prop:=fun x H Q=>∃i,x=.int i/\Q (g i) H
section
variable{X:Cx}{a b c:Expr}{ta tb tc:TE}{pos:Pos}
theorem VH(ha:PE X a ta)(hb:PE X b tb){pins:List (Addr×Obj)}{R:V->V->Hp->Prop}(I:Inv X pins σ H s)
 (h:ta σ H fun x H1=>tb σ H1 fun y H2=>R x y H2) {Q:Value->Shared->Prop} {f:Value->Value->Sem Value}
 (hf:∀v u s2 x y H2,Inv X pins σ H2 s2->RelV x v->RelV y u->R x y H2->wpAny (model X.prog X.w) X.A (f v u) Q X.xe s2):
 wpAny (model X.prog X.w) X.A (eval a X.env) (fun v s₁=>wpAny (model X.prog X.w) X.A (eval b X.env) (fun u s₂=>wpAny (model X.prog X.w) X.A (f v u) Q X.xe s₂) X.xe s₁) X.xe s:=by
 refine thn (ha pins s σ H _ I h) fun v s1 ⟨x,H1,I1,r1,q1⟩=>?_;refine thn (hb pins s1 σ H1 _ I1 q1) fun u s2 ⟨y,H2,I2,r2,q2⟩=>?_;exact hf v u s2 x y H2 I2 r1 r2 q2
theorem aBi{op:Operator}{r:R2}(ho:OpR X (binaryOp op) r)(ha:PE X a ta)(hb:PE X b tb):PE X (.BinOp a op b pos) (tOp r ta tb):=by
 intro pins s σ H Q I h;exact wpAny_BinOp (VH ha hb I h fun v u s2 x y H2 I2 rx ry q=>ho pins s2 σ H2 x y v u Q I2 rx ry q)
theorem aAs{op:UnaryOp}{r:V->Hp->VK->Prop}(ho:UnR X (unaryOp op) r)(ha:PE X a ta):PE X (.UnaryOp op a pos) (tUn r ta):=by
 intro pins s σ H Q I h;exact UnaryOp_ (thn (ha pins s σ H _ I h) fun v s1 ⟨x,H1,I1,r1,q1⟩=>ho pins s1 σ H1 x v Q I1 r1 q1)
theorem opI{f:Value->Value->Sem Value}{C:Int->Int->Prop}{g:Int->Int->Int}
 (rule:∀(i j:Int)(t u:Tok)(s:Shared)(Q:Value->Shared->Prop)(E:Value->Shared->Prop),C i j->Q (.int (g i j) s.toks) { s with toks:=s.toks+1 }->wpAny (model X.prog X.w) X.A (f (.int i t) (.int j u)) Q E s):
 OpR X f (rI C fun i j=>.int (g i j)):=by
 intro pins s σ H x y v u Q I rx ry h;obtain⟨i,j,rfl,rfl,hc,q⟩:=h;obtain⟨t,rfl⟩:=rx;obtain⟨t',rfl⟩:=ry;exact rule i j t t' s _ _ hc ⟨.int (g i j),H,I.tok _,⟨_,rfl⟩,q⟩
theorem aAg{f:Value->Value->Sem Value}{g:Int->Int->Int}
 (rule:∀(i j:Int)(t u:Tok)(s:Shared)(Q:Value->Shared->Prop)(E:Value->Shared->Prop),Q (.int (g i j) s.toks) { s with toks:=s.toks+1 }->wpAny (model X.prog X.w) X.A (f (.int i t) (.int j u)) Q E s):
 OpR X f (rI0 fun i j=>.int (g i j)):=by
 intro pins s σ H x y v u Q I rx ry h;obtain⟨i,j,rfl,rfl,q⟩:=h;obtain⟨t,rfl⟩:=rx;obtain⟨t',rfl⟩:=ry;exact rule i j t t' s _ _ ⟨.int (g i j),H,I.tok _,⟨_,rfl⟩,q⟩
theorem RR{f:Value->Value->Sem Value}{g:Int->Int->Bool}
 (rule:∀(i j:Int)(t u:Tok)(s:Shared)(Q:Value->Shared->Prop)(E:Value->Shared->Prop),Q (.bool (g i j)) s->wpAny (model X.prog X.w) X.A (f (.int i t) (.int j u)) Q E s):
 OpR X f (rI0 fun i j=>.bl (g i j)):=by
 intro pins s σ H x y v u Q I rx ry h;obtain⟨i,j,rfl,rfl,q⟩:=h;obtain⟨t,rfl⟩:=rx;obtain⟨t',rfl⟩:=ry;exact rule i j t t' s _ _ ⟨.bl (g i j),H,I,rfl,q⟩
noncomputable def aBk(i j:Int):Prop:=0<=j/\j<=1000000/\i.natAbs<2 ^ 64
noncomputable def aAc(i j:Int):Prop:=(-(2 ^ 64)<i/\i<2 ^ 64)\/(-(2 ^ 64)<j/\j<2 ^ 64)
theorem aAc.ok{i j:Int}(h:aAc i j):IntMulOk i j:=by
 rcases h with⟨h1,h2⟩|⟨h1,h2⟩
 .exact .of_left (intBits_le_64 h1 h2)
 .exact .of_right (intBits_le_64 h1 h2)
theorem op_add:OpR X (binaryOp .Add) (rI0 fun i j=>.int (i+j)):=aAg fun _ _ _ _ _ _ _ q=>add_int q
theorem YK:OpR X (binaryOp .Sub) (rI0 fun i j=>.int (i-j)):=aAg fun _ _ _ _ _ _ _ q=>sub_int q
theorem VM:OpR X (binaryOp .Mod) (rI (fun _ j=>0<j) fun i j=>.int (i % j)):=opI fun i j _ _ _ _ _ hc q=>by
 have h1:(0:Int)<j:=hc;exact mod_int' (by omega) (by rw[Int.fmod_eq_emod_of_nonneg i (by omega)];exact q)
theorem UN:OpR X (binaryOp .Pow) (rI aBk fun i j=>.int (i ^ j.toNat)):=opI fun _ _ _ _ _ _ _ hc q=>pow_int_small hc.1 hc.2.1 hc.2.2 q
theorem unI{f:Value->Sem Value}{g:Int->Int}
 (rule:∀(i:Int)(t:Tok)(s:Shared)(Q:Value->Shared->Prop)(E:Value->Shared->Prop),Q (.int (g i) s.toks) { s with toks:=s.toks+1 }->wpAny (model X.prog X.w) X.A (f (.int i t)) Q E s):
 UnR X f (rU fun i=>.int (g i)):=by
 intro pins s σ H x v Q I rx h;obtain⟨i,rfl,q⟩:=h;obtain⟨t,rfl⟩:=rx;exact rule i t s _ _ ⟨.int (g i),H,I.tok _,⟨_,rfl⟩,q⟩
theorem UR:UnR X (unaryOp .USub) (rU fun i=>.int (-i)):=unI fun _ _ _ _ _ q=>neg_int q
end
noncomputable def aAr:V->V->Bool
 |.non,.non=>true|.non,.int _=>true|.int _,.non=>true|.non,.bl _=>true|.bl _,.non=>true|.non,.str _=>true|.str _,.non=>true
 |.int _,.int _=>true|.bl _,.bl _=>true|.str _,.str _=>true|.byt _,.byt _=>true
 |.int _,.str _=>true|.str _,.int _=>true|.bl _,.str _=>true|.str _,.bl _=>true
 |_,_=>false
noncomputable def rEq:R2:=fun x y H Q=>aAr x y=true/\Q (.bl (decide (x=y))) H
noncomputable def rNe:R2:=fun x y H Q=>aAr x y=true/\Q (.bl (!decide (x=y))) H
theorem DI{i j:Int}:decide (V.int i=V.int j)=(i==j):=by
 rw[O0];simp
theorem IL{i j:Bool}:decide (V.bl i=V.bl j)=(i==j):=by
 rw[O0];simp
theorem ET{i j:Str}:decide (V.str i=V.str j)=(i==j):=by
 rw[O0];simp
theorem DW{i j:Array UInt8}:decide (V.byt i=V.byt j)=(i.toList==j.toList):=by
 rw[O0];cases i;cases j;simp
section
variable{X:Cx}{a b c:Expr}{ta tb tc:TE}{pos:Pos}
theorem bP{pins:List (Addr×Obj)}{Q:VK}{k k':Bool}(I:Inv X pins σ H s)(q:Q (.bl k) H)(e:k=k'):EP X pins σ Q (.bool k') s:=by
 subst e;exact⟨.bl k,H,I,rfl,q⟩
theorem op_eq:OpR X (compareOp .Eq) rEq:=by
 intro pins s σ H x y v u Q I rx ry h;obtain⟨hs,q⟩:=h;cases x with
 |non=>
  cases rx;cases y with
  |non=>cases ry;exact PySem.EqNone.eq_none_none (bP I q (by simp))
  |bl j=>cases ry;exact PySem.EqNone.eq_none_bool (bP I q (by simp))
  |int j=>obtain⟨t',rfl⟩:=ry;exact PySem.EqNone.eq_none_int (bP I q (by simp))
  |str j=>obtain⟨t',rfl⟩:=ry;exact PySem.EqNone.eq_none_str (bP I q (by simp))
  |_=>exact absurd (show false=true from hs) A8
 |bl i=>
  cases rx;cases y with
  |non=>cases ry;exact PySem.EqNone.eq_bool_none (bP I q (by simp))
  |bl j=>cases ry;exact eq_bool (bP I q IL)
  |str j=>obtain⟨t',rfl⟩:=ry;exact PySem.EqMixed.eq_bool_str (bP I q (by simp))
  |_=>exact absurd (show false=true from hs) A8
 |int i=>
  obtain⟨t,rfl⟩:=rx;cases y with
  |non=>cases ry;exact PySem.EqNone.eq_int_none (bP I q (by simp))
  |int j=>obtain⟨t',rfl⟩:=ry;exact eq_int (bP I q DI)
  |str j=>obtain⟨t',rfl⟩:=ry;exact PySem.EqMixed.eq_int_str (bP I q (by simp))
  |_=>exact absurd (show false=true from hs) A8
 |str i=>
  obtain⟨t,rfl⟩:=rx;cases y with
  |non=>cases ry;exact PySem.EqNone.eq_str_none (bP I q (by simp))
  |bl j=>cases ry;exact PySem.EqMixed.eq_str_bool (bP I q (by simp))
  |int j=>obtain⟨t',rfl⟩:=ry;exact PySem.EqMixed.eq_str_int (bP I q (by simp))
  |str j=>obtain⟨t',rfl⟩:=ry;exact eq_str (bP I q ET)
  |_=>exact absurd (show false=true from hs) A8
 |byt i=>
  obtain⟨t,rfl⟩:=rx;cases y with
  |byt j=>obtain⟨t',rfl⟩:=ry;exact PySem.W.eq_bytes (bP I q DW)
  |_=>exact absurd (show false=true from hs) A8
 |_=>cases y<;>exact absurd (show false=true from hs) A8
theorem op_ne:OpR X (compareOp .NotEq) rNe:=by
 intro pins s σ H x y v u Q I rx ry h;obtain⟨hs,q⟩:=h;cases x with
 |non=>
  cases rx;cases y with
  |non=>cases ry;exact PySem.EqNone.ne_none_none (bP I q (by simp))
  |bl j=>cases ry;exact PySem.EqNone.ne_none_bool (bP I q (by simp))
  |int j=>obtain⟨t',rfl⟩:=ry;exact PySem.EqNone.ne_none_int (bP I q (by simp))
  |str j=>obtain⟨t',rfl⟩:=ry;exact PySem.EqNone.ne_none_str (bP I q (by simp))
  |_=>exact absurd (show false=true from hs) A8
 |bl i=>
  cases rx;cases y with
  |non=>cases ry;exact PySem.EqNone.ne_bool_none (bP I q (by simp))
  |bl j=>cases ry;exact ne_bool (bP I q (F4 not IL))
  |str j=>obtain⟨t',rfl⟩:=ry;exact PySem.EqMixed.ne_bool_str (bP I q (by simp))
  |_=>exact absurd (show false=true from hs) A8
 |int i=>
  obtain⟨t,rfl⟩:=rx;cases y with
  |non=>cases ry;exact PySem.EqNone.ne_int_none (bP I q (by simp))
  |int j=>obtain⟨t',rfl⟩:=ry;exact ne_int (bP I q (F4 not DI))
  |str j=>obtain⟨t',rfl⟩:=ry;exact PySem.EqMixed.ne_int_str (bP I q (by simp))
  |_=>exact absurd (show false=true from hs) A8
 |str i=>
  obtain⟨t,rfl⟩:=rx;cases y with
  |non=>cases ry;exact PySem.EqNone.ne_str_none (bP I q (by simp))
  |bl j=>cases ry;exact PySem.EqMixed.ne_str_bool (bP I q (by simp))
  |int j=>obtain⟨t',rfl⟩:=ry;exact PySem.EqMixed.ne_str_int (bP I q (by simp))
  |str j=>obtain⟨t',rfl⟩:=ry;exact ne_str (bP I q (F4 not ET))
  |_=>exact absurd (show false=true from hs) A8
 |byt i=>
  obtain⟨t,rfl⟩:=rx;cases y with
  |byt j=>obtain⟨t',rfl⟩:=ry;exact PySem.W.ne_bytes (bP I q (F4 not DW))
  |_=>exact absurd (show false=true from hs) A8
 |_=>cases y<;>exact absurd (show false=true from hs) A8
theorem op_lt:OpR X (compareOp .Lt) (rI0 fun i j=>.bl (decide (i<j))):=RR fun _ _ _ _ _ _ _ q=>lt_int q
theorem aAk:OpR X (compareOp .LtE) (rI0 fun i j=>.bl (decide (i<=j))):=RR fun _ _ _ _ _ _ _ q=>le_int q
theorem aBD:OpR X (compareOp .Gt) (rI0 fun i j=>.bl (decide (j<i))):=RR fun _ _ _ _ _ _ _ q=>gt_int q
theorem aBc:OpR X (compareOp .GtE) (rI0 fun i j=>.bl (decide (j<=i))):=RR fun _ _ _ _ _ _ _ q=>ge_int q
theorem OpR.or{f:Value->Value->Sem Value}{r r':R2}(h:OpR X f r)(h':OpR X f r'):OpR X f (fun x y H Q=>r x y H Q\/r' x y H Q):=by
 intro pins s σ H x y v u Q I rx ry q;rcases q with q|q
 .exact h pins s σ H x y v u Q I rx ry q
 .exact h' pins s σ H x y v u Q I rx ry q
theorem OY{op:CmpOp}{r:R2}(ho:OpR X (compareOp op) r)(ha:PE X a ta)(hb:PE X b tb)(hm:behindInMarks op b=false):PE X (.Compare a [op] [b] pos) (tOp r ta tb):=by
 intro pins s σ H Q I h;exact wpAny_Compare1 (VH ha hb I h fun v u s2 x y H2 I2 rx ry q=>ho pins s2 σ H2 x y v u Q I2 rx ry q) hm
noncomputable def SY(t:TE):TT:=fun σ H Q=>t σ H fun x H'=>∃k,x=.bl k/\Q k H'
theorem RE{op:CmpOp}{r:R2}(ho:OpR X (compareOp op) r)(ha:PE X a ta)(hb:PE X b tb)(hm:behindInMarks op b=false):PT X (.Compare a [op] [b] pos) (SY (tOp r ta tb)):=by
 intro pins s σ H Q I h
 refine wpAny_isTrue_Compare1 (thn (ha pins s σ H _ I h) fun v s1 ⟨x,H1,I1,r1,q1⟩=>thn (hb pins s1 σ H1 _ I1 q1) fun u s2 ⟨y,H2,I2,r2,q2⟩=>
  thn (ho pins s2 σ H2 x y v u _ I2 r1 r2 q2) fun c s3 ⟨z,H3,I3,r3,k,e,q3⟩=>?_) hm
 subst e;cases r3;exact J5 ⟨H3,I3,q3⟩
noncomputable def IA(r r':R2)(ta tb tc:TE):TE:=fun σ H Q=>ta σ H fun x H1=>tb σ H1 fun y H2=>r x y H2 fun z H3=>∃k,z=.bl k /\
 (if k=true then tc σ H3 fun w' H4=>r' y w' H4 Q else Q (.bl false) H3)
theorem IB{op op':CmpOp}{r r':R2}(ho:OpR X (compareOp op) r)(ho':OpR X (compareOp op') r')(ha:PE X a ta)(hb:PE X b tb)(hc:PE X c tc)
 (hm:lastMarks [op,op'] [b,c]=false:=by with_unfolding_all rfl):PE X (.Compare a [op,op'] [b,c] pos) (IA r r' ta tb tc):=by
 intro pins s σ H Q I h
 refine Compare_chain (thn (ha pins s σ H _ I h) fun v s1 ⟨x,H1,I1,r1,q1⟩=>chain_link (thn (hb pins s1 σ H1 _ I1 q1) fun u s2 ⟨y,H2,I2,r2,q2⟩=>
  thn (ho pins s2 σ H2 x y v u _ I2 r1 r2 q2) fun d s3 ⟨z,H3,I3,r3,k,e,q3⟩=>?_)) hm
 subst e;cases r3;refine J5 ?_;cases k with
 |false=>exact ite_ff ⟨.bl false,H3,I3,rfl,q3⟩
 |true=>exact ite_tt (chain_last (thn (hc pins s3 σ H3 _ I3 q3) fun w' s4 ⟨z',H4,I4,r4,q4⟩=>ho' pins s4 σ H4 y z' u w' Q I4 r2 r4 q4))
noncomputable def PU(K:Fg)(x:V)(H:Hp)(k:Bool):Prop:=
 match x with
 |.non=>k=false
 |.bl b=>k=b
 |.int i=>k=(i != 0)
 |.str y=>y.length<=sizeLine/\k=((y.length:Int) != 0)
 |.byt y=>y.size<=sizeLine/\k=((y.size:Int) != 0)
 |.ref p=>(∃xs,SqL K H p xs/\k=!xs.isEmpty)\/(∃xs,SqT K H p xs/\k=!xs.isEmpty)\/∃kvs,H p=some (.dK kvs)/\k=!kvs.isEmpty
 |_=>False
theorem CC{κ:Type}{kvs:List (κ×V)}{vs:List (κ×Value)}(r:KV kvs vs):(!vs.isEmpty)=!kvs.isEmpty:=by
 cases r<;>rfl
theorem tG{xs:List V}{its:List Value}(r:bB xs its):(!its.toArray.isEmpty)=!xs.isEmpty:=by
 cases r<;>simp
theorem pE:(sizeLine:Nat)<2 ^ 63:=by rw[E6];decide
theorem XC:aBX X (fun x H Q=>∃k,PU X.K x H k/\Q k H):=by
 intro pins s σ H x v Q I rx h;obtain⟨k,e,q⟩:=h;have hl:=pE;have hs:sizeLine=16777216:=E6;cases x with
 |non=>
  cases rx;have e':k=false:=e;subst e';exact truthy_none ⟨H,I,q⟩
 |bl b=>
  cases rx;have e':k=b:=e;subst e';exact J5 ⟨H,I,q⟩
 |int i=>
  obtain⟨t,rfl⟩:=rx;have e':k=(i != 0):=e;subst e';exact PySem.P.truthy_int ⟨H,I,q⟩
 |str y=>
  obtain⟨t,rfl⟩:=rx;obtain⟨hy,e'⟩:y.length<=sizeLine/\k=((y.length:Int) != 0):=e;subst e';exact PySem.P.truthy_str (by omega) ⟨H,I.tok _,q⟩
 |byt y=>
  obtain⟨t,rfl⟩:=rx;obtain⟨hy,e'⟩:y.size<=sizeLine/\k=((y.size:Int) != 0):=e;subst e';exact PySem.W.truthy_bytes (by omega) ⟨H,I.tok _,q⟩
 |ref p=>
  cases rx;have e':(∃xs,SqL X.K H p xs/\k=!xs.isEmpty)\/(∃xs,SqT X.K H p xs/\k=!xs.isEmpty)\/∃kvs,H p=some (.dK kvs)/\k=!kvs.isEmpty:=e;rcases e' with⟨xs,hx,e'⟩|⟨xs,hx,e'⟩|⟨kvs,hx,e'⟩
  .subst e';obtain⟨its,r,pl,hz⟩:=I.list hx;have hlen:=r.length;exact wpAny_truthy_list pl.isList (by simp only[List.size_toArray];omega) ⟨H,I.tok _,by rw[tG r];exact q⟩
  .subst e';obtain⟨its,r,pl,hz⟩:=I.tuple hx;have hlen:=r.length;exact truthy_tuple pl (by simp only[List.size_toArray];omega) ⟨H,I.tok _,by rw[tG r];exact q⟩
  .subst e';obtain⟨hz,hS,vs,r,m⟩:kvs.length<=sizeLine/\(p==sysModules)=false/\∃vs,KV kvs vs/\s.heap.DictOf (cW X.prog X.w) p vs:=I.hok p _ hx;have hlen:kvs.length=vs.length:=Paired.length r;exact wpAny_truthy_dict hS m (by omega) ⟨H,I.tok _,by rw[CC r];exact q⟩
 |_=>exact(show False from e).elim
theorem MV(ha:PE X a ta)(he:∀whole,isTrue a X.env whole=(do let v <- whole;standAt a.pos;holding [v] (truthy v))):
 PT X a (fun σ H Q=>ta σ H fun x H'=>∃k,PU X.K x H' k/\Q k H'):=by
 intro pins s σ H Q I h;exact isTrue_plain (thn (ha pins s σ H _ I h) fun v s1 ⟨x,H1,I1,r1,q1⟩=>XC pins s1 σ H1 x v Q I1 r1 q1) (he _)
theorem vals1{x:V}{us:List Value}(r:bB [x] us):∃u,us=[u]/\RelV x u:=by
 cases r with
 |cons r1 r2=>cases r2;exact⟨_,rfl,r1⟩
theorem vals2{x y:V}{us:List Value}(r:bB [x,y] us):∃u w',us=[u,w']/\RelV x u/\RelV y w':=by
 cases r with
 |cons r1 r2=>
  cases r2 with
  |cons r3 r4=>cases r4;exact⟨_,_,rfl,r1,r3⟩
theorem FA:eU X (.type "int") (fun xs H Q=>(∃i,xs=[.int i]/\Q (.int i) H)\/∃k,xs=[.bl k]/\Q (.int (if k then 1 else 0)) H):=by
 intro pins s σ H xs us Q I r h;rcases h with⟨i,rfl,q⟩|⟨k,rfl,q⟩
 .obtain⟨u,rfl,t,rfl⟩:=vals1 r;exact call_int_int ⟨.int i,H,I,⟨_,rfl⟩,q⟩
 .obtain⟨u,rfl,r1⟩:=vals1 r;cases r1;exact call_int_bool ⟨.int (if k then 1 else 0),H,I.tok _,⟨_,rfl⟩,q⟩
end
structure eB(k:Nat)(A:Around)(q:Bool:=true):Prop where
 hd:q=true->A.handled=none
 dp:A.depth+3*k+5<recursionLimit
 un:A.units+16*k+200<cLine
 gd:A.guards=some []
theorem eB.mono{j k:Nat}{q:Bool}(r:eB k A q)(h:j<=k):eB j A q:=⟨r.hd,by have:=r.dp;omega,by have:=r.un;omega,r.gd⟩
theorem eB.deeper{k:Nat}{q:Bool}(r:eB (k+1) A q)(env:Env):eB k (A.deeper env) q:=
 ⟨r.hd,by have:=r.dp;show A.depth+1+3*k+5<_;omega,by have:=r.un;show A.units+3+16*k+200<_;omega,r.gd⟩
theorem eB.depth{k:Nat}{q:Bool}(r:eB k A q):A.depth<recursionLimit:=by have:=r.dp;omega
theorem eB.units{k:Nat}{q:Bool}(r:eB k A q):A.units+64<cLine:=by have:=r.un;omega
noncomputable def HW:TA:=fun _ H Q=>Q [] H
noncomputable def qL(ta:TE)(tr:TA):TA:=fun σ H Q=>ta σ H fun x H1=>tr σ H1 fun xs H2=>Q (x::xs) H2
section
variable{X:Cx}{e:Expr}{es:List Expr}{te:TE}{t:TA}{pos:Pos}
theorem xT:PA X [] HW:=fun _ _ _ _ H Q I h=>Calls.spliced_nil ⟨[],H,I,.nil,h⟩
theorem kQ(ha:PE X e te)(hr:PA X es t)(hs:starEach (e::es) X.env=(false,eval e X.env)::starEach es X.env:=by rfl):PA X (e::es) (qL te t):=by
 intro pos pins s σ H Q I h;rw[hs];show wpAny _ _ (spliced ((false,eval e X.env)::backTo pos (starEach es X.env))) _ _ s;refine Calls.spliced_cons (thn (ha pins s σ H _ I h) fun u s1 ⟨x,H1,I1,r1,q1⟩=>?_);exact thn (hr pos pins s1 σ H1 _ I1 q1) fun us s2 ⟨xs,H2,I2,r2,q2⟩=>⟨x::xs,H2,I2,.cons r1 r2,q2⟩
noncomputable def YJ(t:TA):TE:=fun σ H Q=>t σ H fun xs H1=>xs.length<=sizeLine/\∀p,H1 p=none->Q (.ref p) (upd H1 p (.tup xs))
noncomputable def ZR(t:TA):TE:=fun σ H Q=>t σ H fun xs H1=>xs.length<=sizeLine/\∀p,H1 p=none->Q (.ref p) (upd H1 p (.lst xs))
theorem MH{x1}(h:PA X es t):PE X (.Tuple es x1 pos) (YJ t):=by
 intro pins s σ H Q I hq;refine wpAny_Tuple_spliced (thn (h pos pins s σ H _ I hq) fun us s1 ⟨xs,H1,I1,r,z,q⟩=>⟨by rw[<- r.length];exact z,?_⟩);have hf:H1 s1.heap.objs.size=none:=I1.hok.fresh (A7 _);refine⟨.ref s1.heap.objs.size,upd H1 s1.heap.objs.size (.tup xs),I1.laid (t':=s1.toks) (fun b u e=>A3 _ e) (A7 _) ?_,rfl,q _ hf⟩;exact⟨z,us,r,⟨_,C7 _ rfl,rfl,_,rfl⟩⟩
theorem JB(h:PA X es t):PE X (.List es pos) (ZR t):=by
 intro pins s σ H Q I hq;refine wpAny_List_spliced (thn (h pos pins s σ H _ I hq) fun us s1 ⟨xs,H1,I1,r,z,q⟩=>⟨by rw[<- r.length];exact z,?_⟩);have hf:H1 s1.heap.objs.size=none:=I1.hok.fresh (A7 _);refine⟨.ref s1.heap.objs.size,upd H1 s1.heap.objs.size (.lst xs),I1.laid (t':=s1.toks) (fun b u e=>A3 _ e) (A7 _) ?_,rfl,q _ hf⟩;exact⟨z,us,0,r,C7 _ rfl⟩
end
noncomputable abbrev Sp:=List V->Hp->VK->XK->Prop
noncomputable abbrev CXT:=List Env->Hp->Shared->XK->Value->Shared->Prop
structure OI(P:Program)(w:World)(K:Fg)(mg:Str->Option Value)(base:Heap)(A:Around)(outer:List Env)(s:Shared)(H:Hp):Prop where
 frames:A.frames=some outer
 mod:Mod K mg base
 bs:∀b o,base.get? b=some o->s.heap.get? b=some o/\H b=none
 bsz:base.objs.size<=s.heap.objs.size
 funs:s.heap.FunFrames base outer
 frf:∀b∈frs outer,H b=none
 hok:HOk P w H s.heap
 bare:AllBare s.gens
noncomputable def CE(outer:List Env)(P:Program)(w:World)(H:Hp)(s:Shared)(Q:VK)(u:Value)(s':Shared):Prop:=
 ∃v H',s'.os=s.os/\AllBare s'.gens/\Un (frs outer) [] H H' s.heap s'.heap/\HOk P w H' s'.heap/\RelV v u/\Q v H'
noncomputable def CR(CX:CXT)(outer:List Env)(P:Program)(w:World)(H:Hp)(s:Shared)(Q:VK)(E:XK)(r:Result)(s':Shared):Prop:=
 match r with
 |.ok (.ret u)=>CE outer P w H s Q u s'
 |.ok _=>False
 |.error e=>CX outer H s E e s'
structure oE(P:Program)(w:World)(K:Fg)(mg:Str->Option Value)(base:Heap)(CX:CXT)(k:Nat)(f:Addr)(fd:FuncData)(ps:List Str)(sp:Sp)(q:Bool:=true):Prop where
 len:∀vs H Q E,sp vs H Q E->vs.length=ps.length
 run:∀(A:Around)(outer:List Env)(s:Shared)(H:Hp)(args:Args)(us:List Value)(vs:List V)(Q:VK)(E:XK),eB k A q->OI P w K mg base A outer s H->BindsTo s fd args (ps.zip us)->bB vs us->sp vs H Q E->
  codeAny (model P w) A (.call (.ref f) args) (CR CX outer P w H s Q E) s
theorem oE.mono{P:Program}{w:World}{mg:Str->Option Value}{base:Heap}{CX:CXT}{j k:Nat}{f:Addr}{fd:FuncData}{ps:List Str}{sp:Sp}{q:Bool}(F:oE P w K mg base CX j f fd ps sp q)(h:j<=k):
 oE P w K mg base CX k f fd ps sp q:=⟨F.len,fun A outer s H args us vs Q E hr=>F.run A outer s H args us vs Q E (hr.mono h)⟩
section
variable{X:Cx}{pins:List (Addr×Obj)}{σ:St}{H:Hp}{s s':Shared}
theorem Inv.env0(I:Inv X pins σ H s):OI X.prog X.w X.K X.mg X.base X.A X.stack s H:=
 ⟨I.ok.frames,I.ok.mod,I.bs,E5 I.ok.bsz I.sz,I.stack,I.stkFree,I.hok,I.bare⟩
theorem Inv.after{Q:VK}{u:Value}(I:Inv X pins σ H s)(h:CE X.stack X.prog X.w H s Q u s'):EP X pins σ Q u s':=by
 obtain⟨v,H',os,bare,un,hok,r,q⟩:=h;obtain⟨hh,g,d,t,os'⟩:=s';obtain rfl:os'=s.os:=os;exact⟨v,H',I.call (h':=hh) (g':=g) (d':=d) (t':=t) (ch:=[]) un hok bare (fun b z=>absurd z (by simp)),r,q⟩
end
noncomputable def IY(sp:Sp)(dvs:List V)(E:XK)(t:TA):TE:=fun σ H Q=>t σ H fun vs H1=>sp (vs++dvs) H1 Q E
noncomputable def Binds(K:Fg)(fd:FuncData)(ps:List Str)(ds:List Value):Prop:=
 ∀(s:Shared)(us:List Value),K.In s.heap->(us++ds).length=ps.length->BindsTo s fd ⟨us,[]⟩ (ps.zip (us++ds))
theorem Binds.all{fd:FuncData}{ps:List Str}(h:∀us:List Value,us.length=ps.length->bindArgs fd ⟨us,[]⟩=pure (ps.zip us)):Binds K fd ps []:=fun s us _ hl=>by
 rw[D1]at hl ⊢;exact .of_eq (h us hl)
noncomputable def BC(CX:CXT)(X:Cx)(E:XK):Prop:=∀(pins:List (Addr×Obj))(σ:St)(H:Hp)(s:Shared)(e:Value)(s':Shared),Inv X pins σ H s->CX X.stack H s E e s'->X.xe e s'
section
variable{X:Cx}{CX:CXT}{k:Nat}{f C:Addr}{fd:FuncData}{ps:List Str}{sp:Sp}{dvs:List V}{ds:List Value}{E:XK}{x m:Str}{p pos apos:Pos}{e o:Expr}{es:List Expr}{ta:TE}{t:TA}
theorem VZ{pins:List (Addr×Obj)}{σ:St}{H:Hp}{s:Shared}{Q:VK}{us:List Value}{vs:List V}{q:Bool}(F:oE X.prog X.w X.K X.mg X.base CX k f fd ps sp q)(hr:eB k X.A q)(hb:Binds X.K fd ps ds)(hd:bB dvs ds)(hx:BC CX X E)
 (I:Inv X pins σ H s) (r:bB vs us) (h:sp (vs++dvs) H Q E):wpAny (model X.prog X.w) X.A (call (.ref f) us) (EP X pins σ Q) X.xe s:=by
 have r2:bB (vs++dvs) (us++ds):=r.append hd;have hl:(us++ds).length=ps.length:=by rw[<- r2.length];exact F.len _ _ _ _ h
 refine wpAny_call (codeAny_mono (F.run X.A X.stack s H ⟨us,[]⟩ (us++ds) (vs++dvs) Q E hr I.env0 (hb s us I.kIn hl) r2 h) fun r s' hq=>?_);cases r with
 |error e=>exact hx pins σ H s e s' I hq
 |ok fl=>
  cases fl with
  |ret u=>exact I.after hq
  |next=>exact False.elim hq
  |brk=>exact False.elim hq
  |cont=>exact False.elim hq
theorem PK{q:Bool}(F:oE X.prog X.w X.K X.mg X.base CX k f fd ps sp q)(hr:eB k X.A q)(hg:Gl X x)(hm:X.mg x=some (.ref f))(hk:PySem.W.keepIn X.K (.ref f)=true)(hb:Binds X.K fd ps ds)(hd:bB dvs ds)(hx:BC CX X E)
 (ha:PA X (e::es) t) (hdb:(x==("__debug__":Str))=false:=by decide) (he:starEach (e::es) X.env=(false,eval e X.env)::starEach es X.env:=by rfl) (hpl:(backTo pos (starEach es X.env)).any (·.1)=false:=by rfl):
 PE X (.Call (.Name x p) (e::es) [] pos) (IY sp dvs E t):=by
 intro pins s σ H Q I h;refine Y2 (EI I hg hm ?_ hdb);refine PySem.W.callWith_K (h₀:=X.base) I.ok.mod.kin hk (thn (ha pos pins s σ H _ I h) fun us s1 ⟨vs,H1,I1,r,q⟩=>⟨I1.kIn,?_⟩) he hpl;exact VZ F hr hb hd hx I1 r q
end
structure bA(N P:List Str)(sc:Scope):Prop where
 kind:sc.kind=.function
 co:sc.isCoroutine=false
 gen:sc.isGenerator=false
 nd:N.Nodup
 pre:N.take P.length=P
 par:∀x∈P,sc.names.lookup x=some .local\/sc.names.lookup x=some .cell
 nofree:∀y∈sc.names,y.2≠.free
theorem vF{kindOf:Str->Option NameKind}{x:Str}:∀{binds:List (Str×Value)}{m:Str->Option Value},(∀v,(x,v)∉binds)->bindL kindOf binds m x=m x
 |[],_=>fun _=>rfl
 |(n,v)::r,m=>fun h=>by
  unfold bindL;rw[vF fun w hw=>h w (B1 _ hw)];split
  .have:x≠n:=by rintro rfl;exact h v B6
   simp[this]
  .rfl
theorem wF{kindOf:Str->Option NameKind}{x:Str}:∀{binds:List (Str×Value)}{m:Str->Option Value},(∀v,(x,v)∉binds)->bindC kindOf binds m x=m x
 |[],_=>fun _=>rfl
 |(n,v)::r,m=>fun h=>by
  unfold bindC;rw[wF fun w hw=>h w (B1 _ hw)];split
  .rfl
  .have:x≠n:=by rintro rfl;exact h v B6
   simp[this]
theorem wN{kindOf:Str->Option NameKind}{x:Str}{v:Value}:∀{P:List Str}{vs:List Value}{i:Nat}{m:Str->Option Value},P.Nodup->P[i]?=some x->vs[i]?=some v->kindOf x=some .local->
 bindL kindOf (P.zip vs) m x=some v
 |[],_,_,_=>fun _ h _ _=>by simp at h
 |_::_,[],_,_=>fun _ _ h _=>by simp at h
 |p::P,w::vs,0,m=>fun nd h1 h2 hk=>by
  simp at h1 h2;subst h1;subst h2;show bindL kindOf ((p,w)::P.zip vs) m p=_;unfold bindL;rw[vF fun v hv=>(List.nodup_cons.mp nd).1 (List.of_mem_zip hv).1,A4 hk];simp
 |p::P,w::vs,i+1,m=>fun nd h1 h2 hk=>by
  show bindL kindOf ((p,w)::P.zip vs) m x=_;unfold bindL;exact wN (i:=i) (List.nodup_cons.mp nd).2 (by simpa using h1) (by simpa using h2) hk
theorem wK{kindOf:Str->Option NameKind}{x:Str}{v:Value}:∀{P:List Str}{vs:List Value}{i:Nat}{m:Str->Option Value},P.Nodup->P[i]?=some x->vs[i]?=some v->kindOf x≠some .local->
 bindC kindOf (P.zip vs) m x=some v
 |[],_,_,_=>fun _ h _ _=>by simp at h
 |_::_,[],_,_=>fun _ _ h _=>by simp at h
 |p::P,w::vs,0,m=>fun nd h1 h2 hk=>by
  simp at h1 h2;subst h1;subst h2;show bindC kindOf ((p,w)::P.zip vs) m p=_;unfold bindC;rw[wF fun v hv=>(List.nodup_cons.mp nd).1 (List.of_mem_zip hv).1,A6 hk];simp
 |p::P,w::vs,i+1,m=>fun nd h1 h2 hk=>by
  show bindC kindOf ((p,w)::P.zip vs) m x=_;unfold bindC;exact wK (i:=i) (List.nodup_cons.mp nd).2 (by simpa using h1) (by simpa using h2) hk
noncomputable def start(N:List Str)(vs:List V):St:=vs.map some++List.replicate (N.length-vs.length) none
noncomputable def qT(CX:CXT)(P:Program)(w:World)(K:Fg)(mg:Str->Option Value)(base:Heap)(N:List Str)(qual:Str)(scope:Scope)(f:Addr)(cd:Value)(A:Around)(outer:List Env)(s:Shared)(H:Hp)(E:XK)(q:Bool:=true):Cx where
 prog:=P
 w:=w
 K:=K
 mg:=mg
 base:=base
 A:=A.deeper (envOfC qual scope s.heap.objs.size f cd)
 N:=N
 s₀:=s
 H₀:=H
 env:=envOfC qual scope s.heap.objs.size f cd
 outer:=outer
 stack:=envOfC qual scope s.heap.objs.size f cd::outer
 ex:=[]
 calm:=q
 fn:=fun _=>true
 pn:=[]
 xe:=fun e s'=>wpAny (model P w) (A.deeper (envOfC qual scope s.heap.objs.size f cd)) (leaving (envOfC qual scope s.heap.objs.size f cd) e) (fun _ s''=>CX outer H s E e s'') (fun e' s''=>CX outer H s E e' s'') s'
theorem yT{sc:Scope}{n:Nat}{x:Str}(h:sc.names.lookup x=some .cell):∃c,(cellsFrom n sc.names []).lookup x=some c:=by
 have q:=PySem.W.cellsFrom_some sc.names n [] (.inl h);exact Option.isSome_iff_exists.mp q
theorem GA{CX:CXT}{P:Program}{w:World}{K:Fg}{mg:Str->Option Value}{base:Heap}{N ps:List Str}{qual:Str}{scope:Scope}{f:Addr}{cd:Value}{A:Around}{outer:List Env}{s s1:Shared}{H:Hp}{E:XK}{us:List Value}{vs:List V}{q:Bool}
 (S:bA N ps scope) (hd:q=true->A.handled=none) (e0:OI P w K mg base A outer s H) (hl:vs.length=ps.length) (r:bB vs us)
 (x:InCallC s s.heap.objs.size (bindL (envOfC qual scope s.heap.objs.size f cd).kindOf (ps.zip us) fun _=>none) (cellsFrom (s.heap.objs.size+1) scope.names []) (bindC (envOfC qual scope s.heap.objs.size f cd).kindOf (ps.zip us) fun _=>none) s1):
 Inv (qT CX P w K mg base N qual scope f cd A outer s H E q) [] (start N vs) H s1:=by
 have hpl:ps.length<=N.length:=by have:=F4 List.length S.pre;rw[O9]at this;omega
 obtain⟨h1,tk,rfl,hk⟩:=x.done;have noA:∀b:Addr,b∉(qT CX P w K mg base N qual scope f cd A outer s H E q).ex:=fun b z=>absurd (show b∈([]:List Addr)from z) (by simp)
 refine⟨⟨e0.mod,S.kind,rfl,rfl,A7 _,fun y z c h1 h2=>?_,fun y hy=>?_,fun y c _ h=>?_,hd,Around.frames_deeper e0.frames,.inr ⟨rfl,rfl⟩,fun b z=>absurd z (noA b),e0.bs,e0.bsz,fun b _ _=>noA b,fun b z=>absurd z (noA b),e0.funs,e0.frf⟩,
  rfl,e0.bare,Un.kept hk,⟨_,x.toInCall.ns,fun i y v h1 h2 h3=>?_⟩,fun y c h=>⟨_,x.cell y c h⟩,e0.hok.fresh (A7 _),fun y c h=>?_,fun p hp=>absurd (show p∈([]:List (Addr×Obj))from hp) (by simp),e0.hok.kept hk,?_⟩
 .exact name_of_addr x.apart (E8 h1) (E8 h2)
 .have hy:scope.names.lookup y=some .cell\/scope.names.lookup y=some .free:=hy;rcases hy with hy|hy
  .exact yT hy
  .exact absurd rfl (S.nofree _ (E8 hy))
 .exact U8 (x.above y c (E8 h))
 .have hi:i<vs.length:=by
   unfold start at h2;by_cases hi:i<vs.length
   .exact hi
   .rw[C1 (by simpa using hi)]at h2;rw[S8]at h2;split at h2<;>cases h2
  have ha:vs[i]?=some v:=by
   unfold start at h2;rw[L4 (by simpa using hi),C6]at h2;cases e:vs[i]? with
   |none=>rw[e]at h2;cases h2
   |some a=>rw[e]at h2;cases h2;rfl
  obtain⟨u,hu,rv⟩:=r.get ha
  have hp:ps[i]?=some y:=by
   rw[<- S.pre,List.getElem?_take_of_lt (by omega)];exact h1
  have ndP:ps.Nodup:=by rw[<- S.pre];exact S.nd.sublist (List.take_sublist _ _)
  refine⟨u,rv,?_⟩;rcases S.par y (List.mem_of_getElem? hp)with k|k
  .exact .inl ⟨k,wN ndP hp hu k⟩
  .obtain⟨c,e⟩:=yT (n:=s.heap.objs.size+1) k;refine .inr ⟨.inl k,c,e,?_⟩;have q:=x.cell y c e;rw[wK ndP hp hu (by show scope.names.lookup y≠_;rw[k];decide)]at q;exact q
 .exact e0.hok.fresh (U8 (x.above y c (E8 h)))
 .unfold start;show _=N.length;rw[B0,A1,List.length_replicate];omega
theorem aBm{CX:CXT}{P:Program}{w:World}{K:Fg}{mg:Str->Option Value}{base:Heap}{k:Nat}{f:Addr}{name qual:Str}{params:Arguments}{body:List Stmt}{scope:Scope}{dV kV doc pm cdv ct oc:Value}{an od:Option Addr}
 {osl:Array (Option Value)} {N ps:List Str} {sp:Sp} {q:Bool} (lk:K.lookup f=some ⟨oc,od,.func (PySem.W.fnOf name qual params body scope dV kV doc pm an cdv ct),osl⟩) (hcd:PySem.W.codeIn K cdv qual=true) (S:bA N ps scope)
 (len:∀vs H Q E,sp vs H Q E->vs.length=ps.length)
 (hbody:∀(A:Around)(outer:List Env)(s:Shared)(H:Hp)(vs:List V)(Q:VK)(E:XK),eB k (A.deeper (envOfC qual scope s.heap.objs.size f cdv)) q->sp vs H Q E->
  ∃t,PSs (qT CX P w K mg base N qual scope f cdv A outer s H E q) body t/\t { nx:=fun _ H'=>Q .non H',rt:=Q } (start N vs) H):
 oE P w K mg base CX (k+1) f (PySem.W.fnOf name qual params body scope dV kV doc pm an cdv ct) ps sp q:=by
 refine⟨len,fun A outer s H args us vs Q E hr e0 hb r hsp=>?_⟩;have hl:=len _ _ _ _ hsp;have KX:K.In s.heap:=e0.mod.kin.keeps fun b o e=>(e0.bs b o e).1;have lim:s.heap.NoLimit:=e0.mod.nolimit.keeps fun b o e=>(e0.bs b o e).1
 have hkind:∀y∈ps.zip us,scope.names.lookup y.1=some .local\/(scope.names.lookup y.1=some .cell/\((cellsFrom (s.heap.objs.size+1) scope.names []).lookup y.1).isSome=true):=fun⟨n,v⟩ hy=>by
  rcases S.par n (List.of_mem_zip hy).1 with q|q
  .exact .inl q
  .exact .inr ⟨q,PySem.W.cellsFrom_some _ _ _ (.inl q)⟩
 refine codeAny_call_function hr.depth (KX _ _ lk) rfl S.co S.gen rfl (PySem.W.codeRec_of KX hcd) (hb _ _ _ _ ?_);refine wpAny_newFunctionEnv_cells S.kind hkind fun env he s1 x=>?_;subst he;refine⟨lim.keeps x.toInCall.keep,codeAny_func ?_⟩;obtain⟨t,ht,hq⟩:=hbody A outer s H vs Q E (hr.deeper _) hsp;have I:Inv (qT CX P w K mg base N qual scope f cdv A outer s H E q) [] (start N vs) H s1:=GA S hr.hd e0 hl r x;refine S2 (ht [] s1 (start N vs) H _ I hq) (fun fl s' hs=>?_) fun e s' hs=>hs
 have fin:∀{σ':St}{H':Hp}{v:V}{u:Value},Inv (qT CX P w K mg base N qual scope f cdv A outer s H E q) [] σ' H' s'->RelV v u->Q v H'->CE outer P w H s Q u s':=
  fun{σ' H' v u} J rv q=>⟨v,H',J.os,J.bare,J.base,J.hok,rv,q⟩
 cases fl with
 |ret u=>
  obtain⟨v,σ',H',J,rv,q⟩:=hs;exact fin J rv q
 |next=>
  obtain⟨σ',H',J,q⟩:=hs;exact fin (v:=V.non) (u:=Value.none) J rfl q
 |brk=>
  obtain⟨_,_,_,q⟩:=hs;exact False.elim q
 |cont=>
  obtain⟨_,_,_,q⟩:=hs;exact False.elim q
section
variable{X:Cx}{x:Str}{p pos:Pos}{e:Expr}{es:List Expr}{t:TA}{id T:String}{r:List V->Hp->VK->Prop}
noncomputable def tCB(r:List V->Hp->VK->Prop)(t:TA):TE:=fun σ H Q=>t σ H fun vs H1=>r vs H1 Q
theorem sN(hc:eU X (.builtin id) r)(hg:Gl X x)(hm:X.mg x=none)(hv:bootBuiltins x=some (.builtin id))(ha:PA X (e::es) t)(hn:x≠"__name__":=by decide)(hdb:(x==("__debug__":Str))=false:=by decide)
 (he:starEach (e::es) X.env=(false,eval e X.env)::starEach es X.env:=by rfl) (hpl:(backTo pos (starEach es X.env)).any (·.1)=false:=by rfl):PE X (.Call (.Name x p) (e::es) [] pos) (tCB r t):=by
 intro pins s σ H Q I h;refine Y2 (kK I hg hm hv ?_ hn hdb);exact PyProof.Rows.callWith_builtin1 (thn (ha pos pins s σ H _ I h) fun us s1 ⟨vs,H1,I1,r1,q1⟩=>hc pins s1 σ H1 vs us Q I1 r1 q1) he hpl
theorem HL(hc:eU X (.type T) r)(hg:Gl X x)(hm:X.mg x=none)(hv:bootBuiltins x=some (.type T))(ha:PA X (e::es) t)(hn:x≠"__name__":=by decide)(hdb:(x==("__debug__":Str))=false:=by decide)
 (he:starEach (e::es) X.env=(false,eval e X.env)::starEach es X.env:=by rfl) (hpl:(backTo pos (starEach es X.env)).any (·.1)=false:=by rfl):PE X (.Call (.Name x p) (e::es) [] pos) (tCB r t):=by
 intro pins s σ H Q I h;refine Y2 (kK I hg hm hv ?_ hn hdb);exact D8 (thn (ha pos pins s σ H _ I h) fun us s1 ⟨vs,H1,I1,r1,q1⟩=>hc pins s1 σ H1 vs us Q I1 r1 q1) he hpl
end
end L2
namespace HT
open PySem PyProof.Rows
noncomputable def lexLt:List Int->List Int->Bool
 |[],[]=>false
 |[],_::_=>true
 |_::_,[]=>false
 |x::xs,y::ys=>if x=y then lexLt xs ys else decide (x<y)
theorem lexLt_cons(x y:Int)(xs ys:List Int):lexLt (x::xs) (y::ys)=if x=y then lexLt xs ys else decide (x<y):=rfl
theorem uN:lexLt [] []=false:=rfl
theorem tF(y:Int)(ys:List Int):lexLt [] (y::ys)=true:=rfl
theorem tN(x:Int)(xs:List Int):lexLt (x::xs) []=false:=rfl
theorem JH(A:Around)(s:Shared)(a:Int)(t:Tok)(c:Int)(u:Tok):∃e,SeqAt.EqAt A s (.int a t) (.int c u) e/\(e=true↔a=c):=
 ⟨(a==c),SeqAt.EqAt.int_int a t c u,by simp⟩
theorem rcLt_int(A:Around)(s:Shared)(a:Int)(t:Tok)(c:Int)(u:Tok)(prog:Program)(w:World)(E:Value->Shared->Prop)(Q:Value->Shared->Prop)(h:Q (.bool (decide (a<c))) s):
 wpAny (model prog w) A (richCompare .Lt (.int a t) (.int c u)) Q E s:=
 (PyProof.Rows.lt_int h:wpAny (model prog w) A (compareOp .Lt (.int a t) (.int c u)) Q E s)
section
open PySem.SeqAt
open PySem.AutoSeq1 (wpAny_loadPart')
open PySem.MeetsSeq PySem.MeetsSeq2 PySem.MeetsSeq3
theorem uP(l b:Addr)(items items2:Array Value)(n n2:Nat)(dd dd2:Option Addr)(sl sl2:Array (Option Value))(ns ms:List Int)(hi:IntsAre items.toList ns)(hj:IntsAre items2.toList ms):
 Meets (Builtin.«tuple.__lt__» ⟨[.ref l,.ref b],[]⟩)
  (fun _ R s=>s.heap.get? l=some { cls:=.type "tuple",dict:=dd,data:=.seq items n,slots:=sl }/\s.heap.get? b=some { cls:=.type "tuple",dict:=dd2,data:=.seq items2 n2,slots:=sl2 } /\
   R (.ok (.ret (.bool (lexLt ns ms)))) s):=
 .of_wp fun prog w A R s h=>by
  obtain⟨hp,g,d,tk,os⟩:=s;obtain⟨hl,hb,h⟩:=h;have f2:=AutoSeq1.sub_tuple_tuple;have z1:items.size=ns.length:=by rw[<- hi.length];simp
  have z2:items2.size=ms.length:=by rw[<- hj.length];simp
  wp_walk using L7 hl,L7 hb,wpAny_forIn_list _ (fun rest b s'=>b.1=none/\s'=⟨hp,g,d,tk,os⟩/\∃(vs ws:List Value)(ns' ms':List Int),rest=vs.zip ws /\
   IntsAre vs ns'/\IntsAre ws ms'/\ns'.length+items2.size=ms'.length+items.size/\R (.ok (.ret (.bool (lexLt ns' ms')))) ⟨hp,g,d,tk,os⟩) _
  case turn=>
   rintro⟨y,x⟩ rest b s' ⟨hb',rfl,vs,ws,ns',ms',hz,hvi,hwi,hlen,hR⟩;cases hvi with
   |nil=>rw[List.zip_nil_left]at hz;cases hz
   |cons a t hvi'=>
    cases hwi with
    |nil=>rw[List.zip_nil_right]at hz;cases hz
    |cons c u hwi'=>
     rw[S6]at hz;injection hz with hyx hrest
     injection hyx with hy hx
     subst hy hx;rw[lexLt_cons]at hR;simp only[List.length_cons]at hlen;obtain⟨e,he,hiff⟩:=JH A.in1 ⟨hp,g,d,tk,os⟩ a t c u;refine A0 (he prog w _ _ ?_);cases e with
     |true=>
      rw[A4 (hiff.mp rfl)]at hR
      wp_walk
      exact⟨rfl,rfl,_,_,_,_,hrest,hvi',hwi',by omega,hR⟩
     |false=>
      rw[A6 (fun q=>absurd (hiff.mpr q) A8)]at hR;have hri:=rcLt_int A.in1 ⟨hp,g,d,tk,os⟩ a t c u prog w
      wp_walk using hri
      exact⟨_,rfl,by simpa using hR⟩
  case fin=>
   rintro⟨b1,b2⟩ s' ⟨hb',rfl,vs,ws,ns',ms',hz,hvi,hwi,hlen,hR⟩;simp only at hb';subst hb'
   have hv:lexLt ns' ms'=decide (items.size<items2.size):=by
    cases hvi with
    |nil=>
     cases hwi with
     |nil=>
      simp only[List.length_nil]at hlen;rw[uN];exact(C3 (by omega)).symm
     |cons c u hw=>
      simp only[List.length_nil,List.length_cons]at hlen;rw[tF];exact(B7 (by omega)).symm
    |cons a t hv=>
     cases hwi with
     |nil=>
      simp only[List.length_nil,List.length_cons]at hlen;rw[tN];exact(C3 (by omega)).symm
     |cons c u hw=>
      rw[S6]at hz;cases hz
   rw[hv]at hR
   wp_walk
   exact⟨_,rfl,by simpa[Builtin.Tuple.tupleCompareSizes]using hR⟩
  case h=>
   exact⟨rfl,rfl,items.toList,items2.toList,ns,ms,rfl,hi,hj,by omega,h⟩
end
section
variable{prog:Program}{w:World}{A:Around}{E:Value->Shared->Prop}{s:Shared}
theorem lt_tupInts{l b:Addr}{items items2:Array Value}{ns ms:List Int}{Q:Value->Shared->Prop}(hl:IsTup s.heap l items)(hb:IsTup s.heap b items2)(hi:IntsAre items.toList ns)(hj:IntsAre items2.toList ms)
 (hu:A.units<cLine) (h:Q (.bool (lexLt ns ms)) s):wpAny (model prog w) A (compareOp .Lt (.ref l) (.ref b)) Q E s:=by
 obtain⟨⟨cls,dd,data,sl⟩,ho,hc,n,hd⟩:=id hl;obtain⟨⟨cls2,dd2,data2,sl2⟩,ho2,hc2,n2,hd2⟩:=id hb;simp only at hc hd hc2 hd2;subst hc hd hc2 hd2
 exact richCompare_meets_room (op:=.Lt) ⟨_,ho,rfl⟩ ⟨_,ho2,rfl⟩ PySem.F.slot_tuple_lt PySem.F.entry_tuple_lt (PySem.F.args_tuple_lt_2 _ _) (uP l b items items2 n n2 dd dd2 sl sl2 ns ms hi hj)
  ⟨ho,ho2,show Value.bool (lexLt ns ms)≠Value.notImplemented/\Q (.bool (lexLt ns ms)) s from⟨(fun x=>nomatch x),h⟩⟩ hu
theorem cat_tup{t b:Addr}{vs ws:List Value}{Q:Value->Shared->Prop}(ht:IsTup s.heap t vs.toArray)(hb:IsTup s.heap b ws.toArray)(hv:vs≠[])
 (h1:ws=[]->Q (.ref t) s) (h2:ws≠[]->Q (.ref s.heap.objs.size) { s with heap:=s.heap.push { cls:=.type "tuple",data:=.seq (vs++ws).toArray } })
 (hsz:vs.length+ws.length<=sizeLine):wpAny (model prog w) A (binaryOp .Add (.ref t) (.ref b)) Q E s:=by
 obtain⟨⟨cls,dd,data,sl⟩,ho,hc,n,hd⟩:=id ht;obtain⟨⟨cls2,dd2,data2,sl2⟩,ho2,hc2,n2,hd2⟩:=id hb;simp only at hc hd hc2 hd2;subst hc hd hc2 hd2;have e:vs.toArray++ws.toArray=(vs++ws).toArray:=by simp
 by_cases hw:ws=[]
 .exact concat_meets ⟨_,ho,rfl⟩ ⟨_,ho2,rfl⟩ noFill_tuple_add seq_tuple_add PySem.F.slot_tuple_add PySem.F.entry_tuple_add (PySem.F.args_tuple_add_2 _ _)
   (tuple_addW1 t b vs.toArray ws.toArray n n2 dd dd2 sl sl2 (by simpa using hv) (by simp[hw])) ⟨ho,ho2,h1 hw⟩
 .refine concat_meets ⟨_,ho,rfl⟩ ⟨_,ho2,rfl⟩ noFill_tuple_add seq_tuple_add PySem.F.slot_tuple_add PySem.F.entry_tuple_add (PySem.F.args_tuple_add_2 _ _)
   (tuple_addW2 t b vs.toArray ws.toArray n n2 dd dd2 sl sl2 (by simpa using hv) (by simpa using hw) (by rw[C0,C0];exact hsz)) ⟨ho,ho2,?_⟩
  rw[e];exact h2 hw
noncomputable def sIx(n d:Nat):Option Int->Nat
 |none=>d
 |some v=>if v<0 then(v+(n:Int)).toNat else min v.toNat n
theorem sIx_none(n d:Nat):sIx n d none=d:=rfl
theorem sIx_nat(n d k:Nat):sIx n d (some (k:Int))=min k n:=by
 show(if (k:Int)<0 then((k:Int)+(n:Int)).toNat else min (k:Int).toNat n)=min k n;rw[A6 (by omega),J2]
theorem WT(n d:Nat)(hd:d<=n)(o:Option Int):sIx n d o<=n:=by
 cases o with
 |none=>exact hd
 |some v=>
  show(if v<0 then(v+(n:Int)).toNat else min v.toNat n)<=n;by_cases hv:v<0
  .rw[A4 hv];omega
  .rw[A6 hv];exact Nat.min_le_right _ _
theorem EH(v:Int)(n d:Nat):(if v<0 then max (v+(n:Int)) 0 else min v (n:Int))=((sIx n d (some v):Nat):Int):=by
 show(if v<0 then max (v+(n:Int)) 0 else min v (n:Int))=(((if v<0 then(v+(n:Int)).toNat else min v.toNat n):Nat):Int);by_cases hv:v<0
 .simp only[if_pos hv];omega
 .simp only[if_neg hv];omega
theorem BF(lo hi:Option Int)(n:Nat):Builtin.Slice.sliceAdjust lo hi 1 (n:Int)=(((sIx n 0 lo:Nat):Int),((sIx n n hi:Nat):Int)):=by
 have h1:¬((1:Int)<0):=by omega
 unfold Builtin.Slice.sliceAdjust;simp only[h1,if_false];refine Prod.ext ?_ ?_
 .cases lo with
  |none=>rfl
  |some v=>exact EH v n 0
 .cases hi with
  |none=>rfl
  |some v=>exact EH v n n
theorem BV(i j:Nat):Builtin.Slice.slicePlaces (i:Int) (j:Int) 1=j-i:=by
 unfold Builtin.Slice.slicePlaces;have h1:(1:Int) > 0:=by omega
 simp only[h1,if_true,Int.ediv_one];split<;>omega
theorem oA{v:Value}{o:Option Int}{Q:Option Int->Shared->Prop}(p:IsPart v o)(h:Q o s):wpAny (model prog w) A (Builtin.Slice.slicePartIndex v) Q E s:=by
 cases p with
 |none=>exact slicePart_none h
 |int i t=>exact slicePart_int h
theorem jW{sl:Addr}{vl vu:Value}{lo hi:Option Int}{n:Nat}{Q:Int×Int×Nat->Shared->Prop}(hs:s.heap.IsSliceOf sl vl vu .none)(pl:IsPart vl lo)(pu:IsPart vu hi)
 (h:Q (((sIx n 0 lo:Nat):Int),1,sIx n n hi-sIx n 0 lo) s):wpAny (model prog w) A (Builtin.Slice.sliceApplied (.ref sl) (pure (n:Int))) Q E s:=by
 obtain⟨os,hos,hcs,hds⟩:=id hs;unfold Builtin.Slice.sliceApplied Builtin.Slice.sliceFields;refine A0 (A0 (O4 hos hds (x:=vl) rfl (A0 (O4 hos hds (x:=vu) rfl (A0 (O4 hos hds (x:=.none) rfl (B3 ?_)))))));refine A0 (slicePart_none ?_);show wpAny _ _ (if ((1:Int)==0)=true then _ else _) _ _ s;rw[A6 (by decide)];refine A0 (oA pl (A0 (oA pu (A0 (B3 ?_)))));show wpAny _ _ (match Builtin.Slice.sliceAdjust lo hi 1 (n:Int)with|(lo,hi)=>pure (lo,(1:Int),Builtin.Slice.slicePlaces lo hi 1)) _ _ s;rw[BF lo hi n];show wpAny _ _ (pure (((sIx n 0 lo:Nat):Int),(1:Int),Builtin.Slice.slicePlaces ((sIx n 0 lo:Nat):Int) ((sIx n n hi:Nat):Int) 1)) _ _ s;rw[BV];exact B3 h
theorem IE(xs:Array Value)(i k:Nat):((List.range k).filterMap fun(m:Nat)=>xs[((i:Int)+(m:Int)*1).toNat]?).toArray=((xs.toList.drop i).take k).toArray:=by
 have e:(fun(m:Nat)=>xs[((i:Int)+(m:Int)*1).toNat]?)=fun m=>xs[i+m]?:=by
  funext m;have:((i:Int)+(m:Int)*1).toNat=i+m:=by omega
  rw[this]
 rw[e];have:=pick_run xs i k;rw[List.filterMap_map]at this;have e2:((fun x=>xs[x]?) ∘ fun x=>i+x)=fun m=>xs[i+m]?:=rfl;rw[e2]at this;rw[this]
theorem getItem_tuple_cut{t sl:Addr}{items:Array Value}{vl vu:Value}{lo hi:Option Int}{Q:Value->Shared->Prop}(ht:IsTup s.heap t items)(hs:s.heap.IsSliceOf sl vl vu .none)(pl:IsPart vl lo)(pu:IsPart vu hi)
 (hw:¬(sIx items.size 0 lo=0/\sIx items.size items.size hi=items.size))
 (h:Q (.ref s.heap.objs.size) { s with heap:=s.heap.push { cls:=.type "tuple",data:=.seq ((items.toList.drop (sIx items.size 0 lo)).take (sIx items.size items.size hi-sIx items.size 0 lo)).toArray } })
 (hsz:items.size<=sizeLine):wpAny (model prog w) A (getItem (.ref t) (.ref sl)) Q E s:=by
 have htake:sizeOk (.seq ((items.toList.drop (sIx items.size 0 lo)).take (sIx items.size items.size hi-sIx items.size 0 lo)).toArray):=by
  show((items.toList.drop (sIx items.size 0 lo)).take (sIx items.size items.size hi-sIx items.size 0 lo)).toArray.size<=sizeLine;rw[C0,O9,U1,U7];omega
 have hj:sIx items.size items.size hi<=items.size:=WT _ _ (A7 _) hi;obtain⟨os,hos,hcs,hds⟩:=id hs;have hTs:s.TypeIs (.ref sl) "slice":=⟨os,hos,hcs⟩;unfold getItem
 try with_reducible refine L3 ?_
 first|refine A0 (B3 ?_)|skip
 refine A0 (wpAny_sequenceKey ht.typeIs (by decide) ?_)
 refine A0 (O1 (name:=Str.ofString "__getitem__") ht.typeIs E1
  (L5 E1 ht.typeIs entry_tuple_getitem ?_ (args_tuple_getitem _ _)))
 show wpAny _ _ (Builtin.Tuple.tupleItemsOf (.ref t) >>= _) _ _ s;refine A0 (tupleItemsOf_ ht ?_);refine A0 (wpAny_typeOf hTs ?_);rw[A4 (by decide)];refine A0 (jW hs pl pu ?_)
 have hno:¬((((sIx items.size 0 lo:Nat):Int)==0&&(1:Int)==1&&(sIx items.size items.size hi-sIx items.size 0 lo)==items.size)=true):=by
  intro q;rw[B2,B2]at q;have q1:((sIx items.size 0 lo:Nat):Int)=0:=eq_of_beq q.1.1;have q2:sIx items.size items.size hi-sIx items.size 0 lo=items.size:=eq_of_beq q.2;exact hw ⟨by omega,by omega⟩
 show wpAny _ _ (if (((sIx items.size 0 lo:Nat):Int)==0&&(1:Int)==1&&(sIx items.size items.size hi-sIx items.size 0 lo)==items.size)=true then _ else _) _ _ s;rw[A6 hno,IE]
 first
  |exact A0 (m:=Builtin.Tuple.tupleExact _) (D7 (B3 ⟨_,rfl,B3 h⟩) htake)
  |exact A0 (m:=Builtin.Tuple.tupleExact _) (D7 (A0 (B3 (B3 ⟨_,rfl,B3 h⟩))) htake)
  |exact A0 (A0 (m:=Builtin.Tuple.tupleExact _) (D7 (B3 (B3 ⟨_,rfl,B3 h⟩)) htake))
  |exact A0 (A0 (m:=Builtin.Tuple.tupleExact _) (D7 (B3 ⟨_,rfl,B3 h⟩) htake))
end
end HT
namespace L2
variable{H:Hp}{σ:St}{s:Shared}{pos:Pos}
open PySem PySem.Spec PyProof.Rows
noncomputable abbrev TO:=St->Hp->(Option Int->Hp->Prop)->Prop
noncomputable def PO(X:Cx)(e:Option Expr)(t:TO):Prop:=
 ∀(pins:List (Addr×Obj))(s:Shared)(σ:St)(H:Hp)(Q:Option Int->Hp->Prop),Inv X pins σ H s->t σ H Q->
  wpAny (model X.prog X.w) X.A (evalPart e X.env) (fun u s'=>∃o H',Inv X pins σ H' s'/\IsPart u o/\Q o H') X.xe s
noncomputable def DZ:TO:=fun _ H Q=>Q none H
noncomputable def TL(t:TE):TO:=fun σ H Q=>t σ H fun x H1=>∃i,x=.int i/\Q (some i) H1
section
variable{X:Cx}{e:Expr}{te:TE}{lo hi:Option Expr}{tl th:TO}{pos p2:Pos}
theorem NV:PO X none DZ:=by
 intro pins s σ H Q I h;rw[evalPart_none];exact B3 ⟨none,H,I,.none,h⟩
theorem OK(h:PE X e te):PO X (some e) (TL te):=by
 intro pins s σ H Q I hw;rw[evalPart_some];refine thn (h pins s σ H _ I hw) fun u s1 ⟨x,H1,I1,r1,q1⟩=>?_;obtain⟨i,rfl,q⟩:=q1;obtain⟨t,rfl⟩:=r1;exact⟨some i,H1,I1,.int i t,q⟩
noncomputable def SlR(X:Cx)(r:V->Option Int->Option Int->Hp->VK->Prop):Prop:=
 ∀(pins:List (Addr×Obj))(s:Shared)(σ:St)(H:Hp)(x:V)(v vl vu:Value)(lo hi:Option Int)(sl:Addr)(Q:VK),Inv X pins σ H s->RelV x v->s.heap.IsSliceOf sl vl vu .none->IsPart vl lo->IsPart vu hi->r x lo hi H Q->
  ∃T id,typeLookup (.type T) "__getitem__"=pure (some (.builtin id))/\s.TypeIs v T/\wpAny (model X.prog X.w) X.A (getItem v (.ref sl)) (EP X pins σ Q) X.xe s
theorem SlR.or{r r':V->Option Int->Option Int->Hp->VK->Prop}(h:SlR X r)(h':SlR X r'):SlR X (fun x lo hi H Q=>r x lo hi H Q\/r' x lo hi H Q):=by
 intro pins s σ H x v vl vu lo hi sl Q I rx hs pl pu q;rcases q with q|q
 .exact h pins s σ H x v vl vu lo hi sl Q I rx hs pl pu q
 .exact h' pins s σ H x v vl vu lo hi sl Q I rx hs pl pu q
noncomputable def tSl(r:V->Option Int->Option Int->Hp->VK->Prop)(te:TE)(tl th:TO):TE:=fun σ H Q=>te σ H fun x H1=>tl σ H1 fun l H2=>th σ H2 fun u H3=>r x l u H3 Q
theorem JK{r:V->Option Int->Option Int->Hp->VK->Prop}(hr:SlR X r)(he:PE X e te)(hl:PO X lo tl)(hu:PO X hi th):PE X (.Subscript e (.Slice lo hi none p2) pos) (tSl r te tl th):=by
 intro pins s σ H Q I h;refine Subscript_ (thn (he pins s σ H _ I h) fun v s1 ⟨x,H1,I1,r1,q1⟩=>?_);refine wpAny_Slice (thn (hl pins s1 σ H1 _ I1 q1) fun vl s2 ⟨l,H2,I2,pl,q2⟩=>thn (hu pins s2 σ H2 _ I2 q2) fun vu s3 ⟨u,H3,I3,pu,q3⟩=>?_);rw[evalPart_none];refine B3 ?_;have I4:Inv X pins σ H3 { s3 with heap:=s3.heap.push { cls:=.type "slice",data:=.fields #[vl,vu,.none] } }:=I3.kept (t':=s3.toks) fun b ob q=>A3 _ q;obtain⟨T,id,hT,ht,hg⟩:=hr pins { s3 with heap:=s3.heap.push { cls:=.type "slice",data:=.fields #[vl,vu,.none] } } σ H3 x v vl vu l u s3.heap.objs.size Q I4 r1 (Heap.IsSliceOf.new ..) pl pu q3;show wpAny (model X.prog X.w) X.A (subscriptTail e (.Slice lo hi none p2) v (.ref s3.heap.objs.size)) (EP X pins σ Q) X.xe { s3 with heap:=s3.heap.push { cls:=.type "slice",data:=.fields #[vl,vu,.none] } };exact tail_any (ops:=[.ref s3.heap.objs.size,v]) ht hT hg (by with_unfolding_all rfl)
noncomputable def pM(xs:List V)(lo hi:Option Int):List V:=(xs.drop (HT.sIx xs.length 0 lo)).take (HT.sIx xs.length xs.length hi-HT.sIx xs.length 0 lo)
theorem qC(xs:List V)(lo hi:Option Int):(pM xs lo hi).length<=xs.length:=by
 unfold pM;rw[O9,U1];omega
noncomputable def aBE(K:Fg):V->Option Int->Option Int->Hp->VK->Prop:=fun x lo hi H Q=>∃a xs,x=.ref a/\SqT K H a xs /\
 ¬(HT.sIx xs.length 0 lo=0/\HT.sIx xs.length xs.length hi=xs.length)/\∀p,H p=none->Q (.ref p) (upd H p (.tup (pM xs lo hi)))
theorem sl_tup:SlR X (aBE X.K):=by
 intro pins s σ H x v vl vu lo hi sl Q I rx hs pl pu h;obtain⟨a,xs,rfl,hx,hw,q⟩:=h;cases rx;obtain⟨its,r,ht,hz⟩:=I.tuple hx;have hlen:its.toArray.size=xs.length:=by rw[C0];exact r.length.symm
 refine⟨"tuple",_,PyProof.Rows.slot_tuple_getitem.lookup,ht.typeIs,?_⟩;refine HT.getItem_tuple_cut ht hs pl pu (by rw[hlen];exact hw) ?_ (by rw[hlen];exact hz);rw[hlen];refine⟨.ref s.heap.objs.size,_,I.laid (t':=s.toks) (o:=.tup (pM xs lo hi)) (fun b ob q=>A3 _ q) (A7 _) ?_,rfl,q _ (I.hok.fresh (A7 _))⟩;exact⟨E5 (qC xs lo hi) hz,_,(r.drop (HT.sIx xs.length 0 lo)).take (HT.sIx xs.length xs.length hi-HT.sIx xs.length 0 lo),IsTup.new _ _⟩
noncomputable def LK(K:Fg):R2:=fun x y H Q=>∃a b xs ys,x=.ref a/\y=.ref b/\SqT K H a xs/\SqT K H b ys/\xs≠[]/\xs.length+ys.length<=sizeLine /\
 (ys=[]->Q (.ref a) H)/\(ys≠[]->∀p,H p=none->Q (.ref p) (upd H p (.tup (xs++ys))))
theorem bB.nil_iff{xs:List V}{us:List Value}(r:bB xs us):us=[]↔xs=[]:=by
 cases r with
 |nil=>simp
 |cons _ _=>simp
theorem PB:OpR X (binaryOp .Add) (LK X.K):=by
 intro pins s σ H x y v u Q I rx ry h;obtain⟨a,b,xs,ys,rfl,rfl,ha,hb,hx,hz,q1,q2⟩:=h;cases rx;cases ry;obtain⟨its,r1,p1,_⟩:=I.tuple ha;obtain⟨its2,r2,p2,_⟩:=I.tuple hb;refine HT.cat_tup p1 p2 (fun z=>hx (r1.nil_iff.mp z)) (fun z=>⟨.ref a,H,I,rfl,q1 (r2.nil_iff.mp z)⟩) (fun z=>?_) (by rw[<- r1.length,<- r2.length];exact hz);refine⟨.ref s.heap.objs.size,_,I.laid (t':=s.toks) (o:=.tup (xs++ys)) (fun b ob q=>A3 _ q) (A7 _) ?_,rfl,q2 (fun w=>z (r2.nil_iff.mpr w)) _ (I.hok.fresh (A7 _))⟩;exact⟨by rw[B0];exact hz,_,r1.append r2,IsTup.new _ _⟩
end
noncomputable def ixN(n:Nat)(i:Int):Option Nat:=if 0<=i then(if i<n then some i.toNat else none)else if -(n:Int)<=i then some (i+n).toNat else none
noncomputable def atI{α:Type}(xs:List α)(i:Int):Option α:=(ixN xs.length i).bind fun j=>xs[j]?
theorem DL{n:Nat}{i:Int}{j:Nat}(h:ixN n i=some j):seqIndex? i n=some j/\j<n/\-(n:Int)<=i/\i<n:=by
 unfold ixN at h;by_cases h0:0<=i
 .rw[A4 h0]at h;by_cases h1:i<n
  .rw[A4 h1]at h;have e:i.toNat=j:=C9 h;exact⟨by rw[seqIndex_of h0 h1,e],by omega,by omega,h1⟩
  .rw[A6 h1]at h;cases h
 .rw[A6 h0]at h;by_cases h1:-(n:Int)<=i
  .rw[A4 h1]at h;have e:(i+n).toNat=j:=C9 h;exact⟨by rw[seqIndex_neg (by omega) h1,e],by omega,h1,by omega⟩
  .rw[A6 h1]at h;cases h
theorem yK{α:Type}{xs:List α}{i:Int}{v:α}(h:atI xs i=some v):∃j,seqIndex? i xs.length=some j/\xs[j]?=some v/\j<xs.length/\-(xs.length:Int)<=i/\i<xs.length:=by
 unfold atI at h;cases e:ixN xs.length i with
 |none=>rw[e]at h;cases h
 |some j=>
  rw[e]at h;obtain⟨h1,h2,h3,h4⟩:=DL e;exact⟨j,h1,h,h2,h3,h4⟩
theorem mR{α:Type}{xs:List α}{j:Nat}{v:α}(h:xs[j]?=some v):atI xs (j:Int)=some v:=by
 have hj:j<xs.length:=(List.getElem?_eq_some_iff.mp h).1
 have e:ixN xs.length (j:Int)=some j:=by
  unfold ixN;rw[A4 (by omega),A4 (by omega)];simp
 unfold atI;rw[e];exact h
noncomputable def DA(b:Expr):Prop:=∀o i,subscripted b false o i=operate [o,i] (getItem o i)
noncomputable def IxR(X:Cx)(r:R2):Prop:=
 ∀(value slice:Expr)(pins:List (Addr×Obj))(s:Shared)(σ:St)(H:Hp)(x y:V)(v u:Value)(Q:VK),Inv X pins σ H s->RelV x v->RelV y u->r x y H Q->
  subscripted slice false v u=operate [v,u] (getItem v u)->wpAny (model X.prog X.w) X.A (subscriptTail value slice v u) (EP X pins σ Q) X.xe s
noncomputable def MtR(X:Cx)(id:String)(r:V->List V->Hp->VK->Prop):Prop:=
 ∀(pins:List (Addr×Obj))(s:Shared)(σ:St)(H:Hp)(x:V)(xs:List V)(v:Value)(us:List Value)(Q:VK),Inv X pins σ H s->RelV x v->bB xs us->r x xs H Q->
  wpAny (model X.prog X.w) X.A (call (.builtin id) (v::us)) (EP X pins σ Q) X.xe s
section
variable{X:Cx}{a b:Expr}{ta tb:TE}{pos:Pos}
theorem IxR.or{r r':R2}(h:IxR X r)(h':IxR X r'):IxR X (fun x y H Q=>r x y H Q\/r' x y H Q):=by
 intro value slice pins s σ H x y v u Q I rx ry q hs;rcases q with q|q
 .exact h value slice pins s σ H x y v u Q I rx ry q hs
 .exact h' value slice pins s σ H x y v u Q I rx ry q hs
theorem aAo{r:R2}(hr:IxR X r)(ha:PE X a ta)(hb:PE X b tb)(hs:DA b):PE X (.Subscript a b pos) (tOp r ta tb):=by
 intro pins s σ H Q I h;exact Subscript_ (VH ha hb I h fun v u s2 x y H2 I2 rx ry q=>hr a b pins s2 σ H2 x y v u Q I2 rx ry q (hs _ _))
noncomputable def aBt(K:Fg):R2:=fun x y H Q=>∃p xs i v,x=.ref p/\y=.int i/\SqL K H p xs/\atI xs i=some v/\Q v H
noncomputable def aBl(K:Fg):R2:=fun x y H Q=>∃p xs i v,x=.ref p/\y=.int i/\SqT K H p xs/\atI xs i=some v/\Q v H
noncomputable def aAD:R2:=fun x y H Q=>∃z i c,x=.str z/\y=.int i/\z.length<=sizeLine/\atI z.cps.toList i=some c/\Q (.str ⟨#[c]⟩) H
theorem ix_list:IxR X (aBt X.K):=by
 intro value slice pins s σ H x y v u Q I rx ry h hs;obtain⟨p,xs,i,z,rfl,rfl,hq,he,q⟩:=h;cases rx;obtain⟨t,rfl⟩:=ry;obtain⟨its,r,pl,hz⟩:=I.list hq;obtain⟨j,h1,h2,h3,h4,h5⟩:=yK he;obtain⟨w,ew,rw'⟩:=r.get h2;have hl:=r.length;have hn:=pE;have fin:EP X pins σ Q w s:=⟨z,H,I,rw',q⟩;by_cases h0:0<=i
 .have hj:i.toNat=j:=by
   rw[seqIndex_of h0 h5]at h1;exact C9 h1
  exact item_listR pl.isList h0 (by omega) (by rw[hj];simpa using ew) fin hs
 .have hj:(i+(its.toArray.size:Int)).toNat=j:=by
   rw[seqIndex_neg (by omega) h4]at h1;rw[C0,<- hl];exact C9 h1
  exact subscriptTail_builtinR (x:=w) pl.isList.typeIs slot_list_getitem.lookup
   (wpAny_getItem_list_neg (Q:=fun r s'=>r=w/\EP X pins σ Q r s') pl.isList (by omega) (by rw[C0]<;>omega) (by omega) (by rw[hj];simpa using ew) ⟨rfl,fin⟩) hs
theorem ix_tup:IxR X (aBl X.K):=by
 intro value slice pins s σ H x y v u Q I rx ry h hs;obtain⟨p,xs,i,z,rfl,rfl,hq,he,q⟩:=h;cases rx;obtain⟨t,rfl⟩:=ry;obtain⟨its,r,pl,hz⟩:=I.tuple hq;obtain⟨j,h1,h2,h3,h4,h5⟩:=yK he;obtain⟨w,ew,rw'⟩:=r.get h2;have hl:=r.length;have hn:=pE;have fin:EP X pins σ Q w s:=⟨z,H,I,rw',q⟩
 exact subscriptTail_builtinR (x:=w) pl.typeIs slot_tuple_getitem.lookup
  (getItem_tuple (j:=j) (Q:=fun r s'=>r=w/\EP X pins σ Q r s') pl (by omega) (by omega) (by rw[C0,<- hl];exact h1) (by simpa using ew) ⟨rfl,fin⟩) hs
theorem UU:IxR X aAD:=by
 intro value slice pins s σ H x y v u Q I rx ry h hs;obtain⟨z,i,c,rfl,rfl,hz,he,q⟩:=h;obtain⟨t,rfl⟩:=rx;obtain⟨t',rfl⟩:=ry;obtain⟨j,h1,h2,h3,h4,h5⟩:=yK he;have hl:z.cps.toList.length=z.length:=by simp[Str.length]
 rw[hl]at h1 h4 h5;have hn:=pE
 exact tail_any (typeIs_str s z t) slot_str_getitem.lookup (getItem_str (c:=c) (by
  have e1:decide (i < -(2 ^ 63:Int))=false:=C3 (by omega);have e2:decide (i>=2 ^ 63)=false:=C3 (by omega);rw[e1,e2,Bool.or_false]) (by rw[h1];simpa using h2) ⟨.str ⟨#[c]⟩,H,I.tok _,⟨_,rfl⟩,q⟩) hs
noncomputable def rIx(K:Fg):R2:=fun x y H Q=>aBt K x y H Q\/aBl K x y H Q\/aAD x y H Q
theorem aAb:IxR X (rIx X.K):=ix_list.or (ix_tup.or UU)
theorem BP(its:List Value)(n j:Nat)(u:Value):Obj.mapSeq (·.setIfInBounds j u) { cls:=.type "list",data:=.seq its.toArray n }={ cls:=.type "list",data:=.seq (its.set j u).toArray n }:=by
 simp[Obj.mapSeq]
theorem Inv.lst{pins:List (Addr×Obj)}{p:Addr}{xs:List V}(I:Inv X pins σ H s)(h:H p=some (.lst xs)):
 ∃(its:List Value)(n:Nat),bB xs its/\s.heap.get? p=some { cls:=.type "list",data:=.seq its.toArray n }/\xs.length<=sizeLine:=by
 obtain⟨z,its,n,r,e⟩:=I.hok p _ h;exact⟨its,n,r,e,z⟩
theorem Inv.lstUpd{pins:List (Addr×Obj)}{p:Addr}{xs ys:List V}{its its':List Value}{n n':Nat}{f:Obj->Obj}(I:Inv X pins σ H s)(h:H p=some (.lst xs))
 (ho:s.heap.get? p=some { cls:=.type "list",data:=.seq its.toArray n }) (hf:f { cls:=.type "list",data:=.seq its.toArray n }={ cls:=.type "list",data:=.seq its'.toArray n' }) (r:bB ys its') (hz:ys.length<=sizeLine) (t:Nat):
 Inv X pins σ (upd H p (.lst ys)) { s with heap:=s.heap.update p f,toks:=t }:=by
 have e:(s.heap.update p f).get? p=some { cls:=.type "list",data:=.seq its'.toArray n' }:=by
  rw[Heap.get?_update_self f ho (by rw[hf]<;>rfl),hf]
 refine I.write (x:=p) (e:=p) (by rw[h];trivial) (.inl rfl) (fun b u hb q=>(Heap.get?_update_other _ _ (O3 hb)).trans q) ⟨_,e⟩ ?_;exact⟨hz,its',n',r,e⟩
noncomputable def SD:V->V->V->Hp->(Hp->Prop)->Prop:=fun o i v H Q=>∃p xs k j,o=.ref p/\i=.int k/\H p=some (.lst xs)/\ixN xs.length k=some j/\Q (upd H p (.lst (xs.set j v)))
theorem set_list:WW X SD:=by
 intro pins s σ H o i v ov iv u Q I ro ri rv h;obtain⟨p,xs,k,j,rfl,rfl,hp,hj,q⟩:=h;cases ro;obtain⟨t,rfl⟩:=ri;obtain⟨its,n,r,ho,hz⟩:=I.lst hp;obtain⟨h1,h2,h3,h4⟩:=DL hj;have hl:=r.length;have hn:=pE
 have I':Inv X pins σ (upd H p (.lst (xs.set j v))) { s with heap:=s.heap.update p (Obj.mapSeq (·.setIfInBounds j u)) }:=
  I.lstUpd hp ho (BP its n j u) (r.set rv j) (by rw[S5];exact hz) s.toks
 by_cases h0:0<=k
 .have hk:k.toNat=j:=by
   rw[seqIndex_of h0 h4]at h1;exact C9 h1
  exact PySem.W.ki_setAt ho h0 (by omega) (by rw[C0,<- hl];exact h4) (by rw[hk];exact⟨_,I',q⟩)
 .have hk:(k+(its.toArray.size:Int)).toNat=j:=by
   rw[seqIndex_neg (by omega) h3]at h1;rw[C0,<- hl];exact C9 h1
  exact PySem.W.ki_setBack ho (by omega) (by rw[C0,<- hl];exact h3) (by omega) (by rw[hk];exact⟨_,I',q⟩)
theorem xZ(lo hi:Option Int)(n:Nat):(sliceBounds lo hi none n).1=((HT.sIx n 0 lo:Nat):Int)/\(sliceBounds lo hi none n).2.1=((HT.sIx n n hi:Nat):Int)/\(sliceBounds lo hi none n).2.2=1:=by
 refine⟨?_,?_,rfl⟩
 .cases lo with
  |none=>simp[sliceBounds,HT.sIx]
  |some i=>
   simp only[sliceBounds,HT.sIx,Option.getD_none,show(1:Int) > 0 by decide,if_true];by_cases h:i<0
   .simp only[h,if_true]<;>omega
   .simp only[h,if_false]<;>omega
 .cases hi with
  |none=>simp[sliceBounds,HT.sIx]
  |some i=>
   simp only[sliceBounds,HT.sIx,Option.getD_none,show(1:Int) > 0 by decide,if_true];by_cases h:i<0
   .simp only[h,if_true]<;>omega
   .simp only[h,if_false]<;>omega
theorem uW(its:List Value)(lo hi:Option Int):slicePick its.toArray lo hi none=((its.drop (HT.sIx its.length 0 lo)).take (HT.sIx its.length its.length hi-HT.sIx its.length 0 lo)).toArray:=by
 obtain⟨h1,h2,h3⟩:=xZ lo hi its.toArray.size;unfold slicePick;rw[h1,h2,h3];simp only[sliceRange_one,pick_run,List.size_toArray]<;>rfl
noncomputable def aAB(K:Fg):V->Option Int->Option Int->Hp->VK->Prop:=fun x lo hi H Q=>∃a xs,x=.ref a/\SqL K H a xs/\∀p,H p=none->Q (.ref p) (upd H p (.lst (pM xs lo hi)))
theorem sl_list:SlR X (aAB X.K):=by
 intro pins s σ H x v vl vu lo hi sl Q I rx hs pl pu h;obtain⟨a,xs,rfl,hx,q⟩:=h;cases rx;obtain⟨its,r,ht,hz⟩:=I.list hx;have hlen:=r.length;refine⟨"list",_,slot_list_getitem.lookup,ht.isList.typeIs,?_⟩;refine wpAny_getItem_list_slice ht.isList hs pl pu .none (by simp) ?_ (by rw[C0]<;>omega);rw[uW,<- hlen];refine⟨.ref s.heap.objs.size,_,I.laid (t':=s.toks) (o:=.lst (pM xs lo hi)) (fun b ob q=>A3 _ q) (A7 _) ?_,rfl,q _ (I.hok.fresh (A7 _))⟩;exact⟨E5 (qC xs lo hi) hz,_,0,(r.drop (HT.sIx xs.length 0 lo)).take (HT.sIx xs.length xs.length hi-HT.sIx xs.length 0 lo),C7 _ rfl⟩
theorem yD:eU X (.builtin "len") (fun xs H Q=>∃p ys,xs=[.ref p]/\(SqL X.K H p ys\/SqT X.K H p ys)/\Q (.int ys.length) H):=by
 intro pins s σ H xs us Q I r h;obtain⟨p,ys,rfl,hq,q⟩:=h;obtain⟨u,rfl,rx⟩:=vals1 r;cases rx;have hn:=pE;rcases hq with hq|hq
 .obtain⟨its,r',pl,hz⟩:=I.list hq;have hlen:=r'.length;exact Calls.call_len_list pl.isList (by simp only[List.size_toArray]<;>omega) ⟨.int ys.length,H,I.tok _,⟨s.toks+1,by rw[C0,hlen]⟩,q⟩
 .obtain⟨its,r',pl,hz⟩:=I.tuple hq;have hlen:=r'.length;exact len_tuple pl (by simp only[List.size_toArray]<;>omega) ⟨.int ys.length,H,I.tok _,⟨s.toks+1,by rw[C0,hlen]⟩,q⟩
theorem xN:eU X (.type "list") (fun xs H Q=>∃p ys,xs=[.ref p]/\(SqL X.K H p ys\/SqT X.K H p ys)/\∀l,H l=none->Q (.ref l) (upd H l (.lst ys))):=by
 intro pins s σ H xs us Q I r h;obtain⟨p,ys,rfl,hq,q⟩:=h;obtain⟨u,rfl,rx⟩:=vals1 r;cases rx
 have fin:∀(its:List Value),bB ys its->ys.length<=sizeLine->∀(h':Heap)(c':Nat),(∀b o',s.heap.get? b=some o'->h'.get? b=some o')->
  h'.get? s.heap.objs.size=some { cls:=.type "list",dict:=none,data:=.seq its.toArray c',slots:=#[] }->EP X pins σ Q (.ref s.heap.objs.size) { s with heap:=h' }:=fun its r' hz h' c' kp e=>
  ⟨.ref s.heap.objs.size,_,I.laid (t':=s.toks) kp (A7 _) (show cZ X.prog X.w _ h' _ (.lst ys)from⟨hz,its,c',r',e⟩),rfl,q _ (I.hok.fresh (A7 _))⟩
 rcases hq with hq|hq
 .obtain⟨its,r',pl,hz⟩:=I.list hq;have hlen:=r'.length;obtain⟨o,ho,hc,n,hd⟩:=pl.isList;exact call_list_seq p (.inl rfl) ho hc hd (fun h' c' kp e=>fin its r' hz h' c' kp e) (by simp only[List.size_toArray]<;>omega)
 .obtain⟨its,r',pl,hz⟩:=I.tuple hq;have hlen:=r'.length;obtain⟨o,ho,hc,n,hd⟩:=pl;exact call_list_seq p (.inr rfl) ho hc hd (fun h' c' kp e=>fin its r' hz h' c' kp e) (by simp only[List.size_toArray]<;>omega)
theorem uX:eU X (.type "tuple") (fun xs H Q=>∃p ys,xs=[.ref p]/\((SqL X.K H p ys/\∀l,H l=none->Q (.ref l) (upd H l (.tup ys)))\/(SqT X.K H p ys/\Q (.ref p) H))):=by
 intro pins s σ H xs us Q I r h;obtain⟨p,ys,rfl,h⟩:=h;obtain⟨u,rfl,rx⟩:=vals1 r;cases rx;rcases h with⟨hq,q⟩|⟨hq,q⟩
 .obtain⟨its,r',pl,hz⟩:=I.list hq;have hlen:=r'.length;refine call_tuple_list pl.isList (fun h' kp=>?_) (by simp only[List.size_toArray]<;>omega);have I1:Inv X pins σ H { s with heap:=h' }:=I.kept (t':=s.toks) kp
  have I2:Inv X pins σ (upd H h'.objs.size (.tup ys)) { s with heap:=h'.push { cls:=.type "tuple",data:=.seq its.toArray } }:=
   I1.laid (t':=s.toks) (fun b o e=>A3 _ e) (A7 _) (show cZ X.prog X.w _ _ _ (.tup ys)from⟨hz,its,r',IsTup.new _ _⟩)
  exact⟨.ref h'.objs.size,_,I2,rfl,q _ (I1.hok.fresh (A7 _))⟩
 .obtain⟨its,r',pl,hz⟩:=I.tuple hq;exact call_tuple_same pl ⟨.ref p,H,I,rfl,q⟩
noncomputable def tyV(K:Fg)(T:String)(x:V)(H:Hp):Prop:=match x with
 |.str _=>T="str"
 |.int _=>T="int"
 |.ref p=>(T="list"/\∃xs,SqL K H p xs)\/(T="tuple"/\∃o,K.lookup p=some o/\o.cls=.type "tuple"/\o.dict=none) \/
  (T="dict"/\((∃kvs,H p=some (.dK kvs))\/∃kvs,H p=some (.dT kvs)))\/(T="set"/\∃S n,H p=some (.set S n))
 |_=>False
theorem HS{pins:List (Addr×Obj)}{T:String}{x:V}{v:Value}(I:Inv X pins σ H s)(r:RelV x v)(ty:tyV X.K T x H):
 s.TypeIs v T/\∀a,v=.ref a->∃ob,s.heap.get? a=some ob/\ob.dict=none:=by
 cases x with
 |str z=>
  obtain⟨t,rfl⟩:=r;cases (show T="str" from ty);exact⟨typeIs_str s z t,fun _ e=>nomatch e⟩
 |int i=>
  obtain⟨t,rfl⟩:=r;cases (show T="int" from ty);exact⟨typeIs_int s i t,fun _ e=>nomatch e⟩
 |ref p=>
  cases r;rcases ty with⟨rfl,xs,hq⟩|⟨rfl,o,hk,hc,hd⟩|⟨rfl,hk⟩|⟨rfl,S,n,hk⟩
  .obtain⟨its,_,pl,_⟩:=I.list hq;refine⟨pl.isList.typeIs,fun a e=>?_⟩;cases e;obtain⟨o,n,e,c,hd,_⟩:=pl;exact⟨o,e,hd⟩
  .refine⟨⟨o,I.kIn p o hk,hc⟩,fun a e=>?_⟩;cases e;exact⟨o,I.kIn _ o hk,hd⟩
  .have z:∃o,s.heap.get? p=some o/\o.ExactDict:=by
    rcases hk with⟨kvs,hk⟩|⟨kvs,hk⟩
    .obtain⟨_,_,_,_,o,_,_,e,ex,_⟩:=I.hok p _ hk;exact⟨o,e,ex⟩
    .obtain⟨_,_,_,_,o,_,_,e,ex,_⟩:=I.hok p _ hk;exact⟨o,e,ex⟩
   obtain⟨o,e,ex⟩:=z;refine⟨⟨o,e,ex.1⟩,fun a e2=>?_⟩;cases e2;exact⟨o,e,ex.2.1⟩
  .obtain⟨o,_,_,_,e,ex,_⟩:=I.hok p _ hk;refine⟨⟨o,e,ex.1⟩,fun a e2=>?_⟩;cases e2;exact⟨o,e,ex.2.1⟩
 |_=>exact False.elim ty
noncomputable def aAT(K:Fg)(T:String)(r:V->List V->Hp->VK->Prop)(to:TE):TE:=fun σ H Q=>to σ H fun x H1=>tyV K T x H1/\r x [] H1 Q
noncomputable def tBM(K:Fg)(T:String)(r:V->List V->Hp->VK->Prop)(to:TE)(t:TA):TE:=fun σ H Q=>to σ H fun x H1=>tyV K T x H1/\t σ H1 fun xs H2=>r x xs H2 Q
variable{o e:Expr}{es:List Expr}{to:TE}{t:TA}{name:Str}{apos cpos:Pos}{T id:String}{r:V->List V->Hp->VK->Prop}
theorem JM(pa:PlainAttrs T)(slot:Slot T name id)(hty:typeOf (.builtin id)=pure (.type "method_descriptor"))(hm:MtR X id r)(ho:PE X o to)
 (hbase:attributeBase o name X.env (eval o X.env)=eval o X.env:=by rfl) (hline:(apos.endLine==cpos.line)=true:=by rfl):PE X (.Call (.Attribute o name apos) [] [] cpos) (aAT X.K T r to):=by
 intro pins s σ H Q I h;refine wpAny_Call_method0_late hbase hline (thn (ho pins s σ H _ I h) fun v s1 ⟨x,H1,I1,r1,ty,q1⟩=>?_);obtain⟨h1,h2⟩:=HS I1 r1 ty;exact⟨T,id,pa,slot,hty,h1,h2,Calls.callWith_builtin rfl (PySem.evalArgs_none (hm pins s1 σ H1 x [] v [] Q I1 r1 .nil q1))⟩
theorem aBd(pa:PlainAttrs T)(slot:Slot T name id)(hty:typeOf (.builtin id)=pure (.type "method_descriptor"))(hm:MtR X id r)(ho:PE X o to)(ha:PA X (e::es) t)
 (hbase:attributeBase o name X.env (eval o X.env)=eval o X.env:=by rfl)
 (hfew:((backTo cpos (starEach (e::es) X.env)).all (fun x=>!x.1)&&(backToKw cpos (keywordEach [] X.env)).all (fun x=>x.1.isSome)
  && decide ((e::es).length+([]:List Keyword).length+(if ([]:List Keyword).isEmpty then 0 else 1)<30))=true:=by rfl)
 (hline:(apos.endLine==cpos.line)=true:=by rfl) (hs:starEach (e::es) X.env=(false,eval e X.env)::starEach es X.env:=by rfl) (hplain:(backTo cpos (starEach es X.env)).any (·.1)=false:=by rfl):
 PE X (.Call (.Attribute o name apos) (e::es) [] cpos) (tBM X.K T r to t):=by
 intro pins s σ H Q I h;refine wpAny_Call_method_late hbase hfew hline rfl (thn (ho pins s σ H _ I h) fun v s1 ⟨x,H1,I1,r1,ty,q1⟩=>?_);obtain⟨h1,h2⟩:=HS I1 r1 ty;refine⟨T,id,pa,slot,hty,h1,h2,?_⟩;have hA:=ha cpos pins s1 σ H1 _ I1 q1;rw[hs]at hA ⊢;refine Calls.callWith_builtin (by show(false || (backTo cpos (starEach es X.env)).any (·.1))=false;rw[hplain]<;>rfl) (Calls.evalArgs_plain ?_);exact thn hA fun us s2 ⟨vs,H2,I2,r2,q2⟩=>hm pins s2 σ H2 x vs v us Q I2 r1 r2 q2
end
noncomputable def MtM(X:Cx)(id:String)(r:V->List V->Hp->VK->Prop):Prop:=
 ∀(pins:List (Addr×Obj))(s:Shared)(σ:St)(H:Hp)(x:V)(xs:List V)(v:Value)(us:List Value)(Q:VK),Inv X pins σ H s->RelV x v->bB xs us->r x xs H Q->
  wpAny (model X.prog X.w) X.A (call (.builtin id) (v::us)) (EP X pins σ Q) X.xe s
theorem bB.one:∀{x:V}{us:List Value},bB [x] us->∃u,us=[u]/\RelV x u
 |_,_,.cons r .nil=>⟨_,rfl,r⟩
theorem bB.zero:∀{us:List Value},bB [] us->us=[]
 |_,.nil=>rfl
theorem bB.dropLast{xs:List V}{us:List Value}(h:bB xs us):bB xs.dropLast us.dropLast:=by
 induction h with
 |nil=>exact .nil
 |cons r t ih=>
  cases t with
  |nil=>exact .nil
  |cons q t'=>exact .cons r ih
theorem bB.reverse{xs:List V}{us:List Value}(h:bB xs us):bB xs.reverse us.reverse:=by
 induction h with
 |nil=>exact .nil
 |cons r t ih=>rw[J3,J3];exact bB.append ih (.cons r .nil)
theorem BB{α:Type}(l:List α):l.eraseIdx (l.length-1)=l.dropLast:=by
 induction l with
 |nil=>rfl
 |cons a r ih=>
  cases r with
  |nil=>rfl
  |cons b r=>
   have e:(a::b::r).length-1=((b::r).length-1)+1:=by
    have h1:(a::b::r).length=r.length+2:=rfl;have h2:(b::r).length=r.length+1:=rfl;omega
   rw[e,List.eraseIdx_cons_succ,ih]
   all_goals rfl
section
variable{X:Cx}{pins:List (Addr×Obj)}{σ:St}{H:Hp}{s:Shared}{l b:Addr}{xs ys zs:List V}
theorem Inv.lset{its its':List Value}{n:Nat}{f:Array Value->Array Value}{t':Nat}(I:Inv X pins σ H s)(hH:H l=some (.lst xs))
 (e:s.heap.get? l=some { cls:=.type "list",data:=.seq its.toArray n }) (hf:f its.toArray=its'.toArray) (hv:bB ys its') (hz:ys.length<=sizeLine):
 Inv X pins σ (upd H l (.lst ys)) { s with heap:=s.heap.update l (Obj.mapSeq f),toks:=t' }:=by
 have q:=PySem.IsL.update e f;rw[hf]at q;refine I.write (x:=l) (e:=l) (by rw[hH];exact trivial) (.inl rfl) (fun b' u hb hu=>(Heap.get?_update_other s.heap (Obj.mapSeq f) (O3 hb)).trans hu) ⟨_,q⟩ ?_;exact⟨hz,its',_,hv,q⟩
theorem Inv.lnew{its:List Value}{t':Nat}(I:Inv X pins σ H s)(hv:bB ys its)(hz:ys.length<=sizeLine):
 Inv X pins σ (upd H s.heap.objs.size (.lst ys)) { s with heap:=s.heap.push { cls:=.type "list",data:=.seq its.toArray },toks:=t' }:=
 I.laid (fun _ _ q=>A3 _ q) (A7 _) ⟨hz,its,0,hv,C7 _ rfl⟩
theorem Inv.fresh(I:Inv X pins σ H s):H s.heap.objs.size=none:=I.hok.fresh (A7 _)
theorem Inv.lstM(I:Inv X pins σ H s)(hH:H l=some (.lst xs)):xs.length<=sizeLine/\∃(its:List Value)(n:Nat),bB xs its/\xs.length=its.length/\s.heap.get? l=some { cls:=.type "list",data:=.seq its.toArray n }:=by
 obtain⟨z,its,n,r,e⟩:=I.hok l _ hH;exact⟨z,its,n,r,r.length,e⟩
end
section
variable{X:Cx}
noncomputable def DM:V->List V->Hp->VK->Prop:=fun x vs H Q=>∃l xs y,x=.ref l/\vs=[y]/\H l=some (.lst xs)/\xs.length<sizeLine/\Q .non (upd H l (.lst (xs++[y])))
theorem FB:MtM X "list.append" DM:=by
 intro pins s σ H x vs v us Q I rx rv h;obtain⟨l,xs,y,rfl,rfl,hH,hz,q⟩:=h;cases rx;obtain⟨u,rfl,ru⟩:=rv.one;obtain⟨z,its,n,r,hl,e⟩:=I.lstM hH;refine call_meets F.slot_list_append ⟨_,e,rfl⟩ F.entry_list_append (F.args_list_append_2 _ _) (PySem.list_append l its.toArray n u (by rw[C0];omega)) ⟨e,?_⟩;refine⟨.non,_,I.lset (its':=its++[u]) hH e (by simp) (r.append (.cons ru .nil)) ?_,rfl,q⟩;rw[B0,C4];omega
noncomputable def aBv:V->List V->Hp->VK->Prop:=fun x vs H Q=>∃l xs y,x=.ref l/\vs=[]/\H l=some (.lst xs)/\xs[xs.length-1]?=some y/\Q y (upd H l (.lst xs.dropLast))
theorem XM:MtM X "list.pop" aBv:=by
 intro pins s σ H x vs v us Q I rx rv h;obtain⟨l,xs,y,rfl,rfl,hH,hy,q⟩:=h;cases rx;have hus:=rv.zero;subst hus;obtain⟨z,its,n,r,hl,e⟩:=I.lstM hH;obtain⟨u,hu,ru⟩:=r.get hy
 have hy':its.toArray[its.toArray.size-1]?=some u:=by
  show its.toArray[its.length-1]?=some u;rw[<- O2,<- hl];exact hu
 refine call_meets F.slot_list_pop ⟨_,e,rfl⟩ F.entry_list_pop (F.args_list_pop_1 _) (MeetsSeq.list_pop_last l its.toArray n u hy' (by rw[C0];omega)) ⟨e,?_⟩;refine⟨y,_,I.lset (its':=its.dropLast) hH e ?_ r.dropLast ?_,ru,q⟩
 .show its.toArray.eraseIdxIfInBounds (its.toArray.size-1)=its.dropLast.toArray;rw[C0,List.eraseIdxIfInBounds_toArray,BB]
 .rw[List.length_dropLast];omega
noncomputable def zL:V->List V->Hp->VK->Prop:=fun x vs H Q=>∃l xs,x=.ref l/\vs=[]/\H l=some (.lst xs)/\Q .non (upd H l (.lst xs.reverse))
theorem CQ:MtM X "list.reverse" zL:=by
 intro pins s σ H x vs v us Q I rx rv h;obtain⟨l,xs,rfl,rfl,hH,q⟩:=h;cases rx;have hus:=rv.zero;subst hus;obtain⟨z,its,n,r,hl,e⟩:=I.lstM hH;refine call_meets F.slot_list_reverse ⟨_,e,rfl⟩ F.entry_list_reverse (F.args_list_reverse_1 _) (AutoSeq1.list_reverse_list_0 l its.toArray n (by rw[C0];omega)) ⟨e,?_⟩;refine⟨.non,_,I.lset (its':=its.reverse) hH e (by simp) r.reverse ?_,rfl,q⟩;rw[L8];omega
end
section
variable{κ:Type}[DecidableEq κ]
noncomputable def fS(kvs:List (κ×V))(k:κ):Option V:=(kvs.find? fun kv=>decide (kv.1=k)).map (·.2)
noncomputable def putK(kvs:List (κ×V))(k:κ)(v:V):List (κ×V):=
 if (kvs.any fun kv=>decide (kv.1=k))=true then kvs.map (fun kv=>if kv.1=k then(kv.1,v)else kv)else kvs++[(k,v)]
theorem uF{p:κ×V}{r:List (κ×V)}{k:κ}(e:p.1=k):fS (p::r) k=some p.2:=by simp[fS,List.find?_cons,e]
theorem sU{p:κ×V}{r:List (κ×V)}{k:κ}(e:¬p.1=k):fS (p::r) k=fS r k:=by simp[fS,List.find?_cons,e]
theorem sM(k:κ):∀kvs:List (κ×V),(kvs.any fun kv=>decide (kv.1=k))=(fS kvs k).isSome
 |[]=>rfl
 |p::r=>by
  rw[S3];by_cases e:p.1=k
  .simp only[uF e,decide_eq_true e,Bool.true_or,Option.isSome_some]
  .rw[sU e,C3 e,Bool.false_or];exact sM k r
theorem lK(kvs:List (κ×V))(k:κ)(v:V):(putK kvs k v).length<=kvs.length+1:=by
 unfold putK;split
 .rw[A1];omega
 .rw[B0,C8,List.length_nil];omega
theorem IS{kvs:List (κ×V)}{k:κ}(v:V)(h:fS kvs k=none):putK kvs k v=kvs++[(k,v)]:=by
 unfold putK;rw[sM,h];exact A6 (by decide)
theorem GO.isSome_eq{o:Option V}{u:Option Value}(r:GO o u):o.isSome=u.isSome:=by
 cases o with
 |none=>cases u with
  |none=>rfl
  |some _=>exact(show False from r).elim
 |some _=>cases u with
  |none=>exact(show False from r).elim
  |some _=>rfl
theorem KV.val{kvs:List (κ×V)}{vs:List (κ×Value)}(r:KV kvs vs)(k:κ):GO (fS kvs k) (valueAt vs k):=by
 unfold KV at r
 induction r with
 |nil=>exact True.intro
 |@cons p q ps qs h t ih=>
  obtain⟨h1,h2⟩:=h;by_cases e:p.1=k
  .have e':q.1=k:=h1.symm.trans e;have b:valueAt (q::qs) k=some q.2:=by simp[valueAt,List.find?_cons,e']
   rw[uF e,b];exact h2
  .have e':¬q.1=k:=fun z=>e (h1.trans z);have b:valueAt (q::qs) k=valueAt qs k:=by simp[valueAt,List.find?_cons,e']
   rw[sU e,b];exact ih
theorem KV.any{kvs:List (κ×V)}{vs:List (κ×Value)}(r:KV kvs vs)(k:κ):(kvs.any fun kv=>decide (kv.1=k))=vs.any fun kv=>decide (kv.1=k):=by
 unfold KV at r
 induction r with
 |nil=>rfl
 |cons h t ih=>rw[S3,S3,ih,h.1]
theorem KV.repl{kvs:List (κ×V)}{vs:List (κ×Value)}(r:KV kvs vs)(k:κ){y:V}{u:Value}(ry:RelV y u):
 KV (kvs.map fun kv=>if kv.1=k then(kv.1,y)else kv) (vs.map fun kv=>if kv.1=k then(kv.1,u)else kv):=by
 unfold KV at r ⊢
 induction r with
 |nil=>exact .nil
 |@cons p q ps qs h t ih=>
  rw[B8,B8];refine .cons ?_ ih;obtain⟨h1,h2⟩:=h;by_cases e:p.1=k
  .rw[A4 e,A4 (h1.symm.trans e)];exact⟨h1,ry⟩
  .rw[A6 e,A6 (fun z=>e (h1.trans z))];exact⟨h1,h2⟩
theorem KV.put{kvs:List (κ×V)}{vs:List (κ×Value)}(r:KV kvs vs)(k:κ){y:V}{u:Value}(ry:RelV y u):KV (putK kvs k y) (stored vs k u):=by
 unfold putK stored;rw[r.any k];by_cases e:(vs.any fun kv=>decide (kv.1=k))=true
 .rw[A4 e,A4 e];exact r.repl k ry
 .rw[A6 e,A6 e];exact Paired.snoc r ⟨rfl,ry⟩
theorem KV.length{kvs:List (κ×V)}{vs:List (κ×Value)}(r:KV kvs vs):kvs.length=vs.length:=Paired.length r
end
theorem DU{P:Program}{w:World}{k:Key}{u:Value}(r:RelV (kV k) u):(cW P w).is k u=true:=by
 cases k with
 |inl i=>obtain⟨t,e⟩:=(show ∃t,u=Value.int i t from r);subst e;exact AL P w i t
 |inr x=>obtain⟨t,e⟩:=(show ∃t,u=Value.str x t from r);subst e;exact AA P w x t
theorem vL{P:Program}{w:World}:∀{ks:List Key}{us:List Value},bB (ks.map kV) us->ItemsAre (cW P w) ks us
 |[],_=>fun r=>by rw[List.map_nil]at r;cases r;exact .nil
 |k::ks,_=>fun r=>by
  rw[B8]at r;cases r with
  |cons h t=>exact .cons (DU h) (vL t)
noncomputable abbrev KT(H:Hp):List (List Key×V)->List (List Key×Addr×Value)->Prop:=Paired fun p q=>p.1=q.1/\H q.2.1=some (.tup (p.1.map kV))/\RelV p.2 q.2.2
theorem KT.val{kvs:List (List Key×V)}{xs:List (List Key×Addr×Value)}(r:KT H kvs xs)(k:List Key):GO (fS kvs k) ((atKey xs k).map (·.2)):=by
 induction r with
 |nil=>exact True.intro
 |@cons p q ps qs h t ih=>
  obtain⟨h1,_,h2⟩:=h;by_cases e:p.1=k
  .have e':q.1=k:=h1.symm.trans e;have b:atKey (q::qs) k=some q.2:=by simp[atKey,List.find?_cons,e']
   rw[uF e,b];exact h2
  .have e':¬q.1=k:=fun z=>e (h1.trans z);have b:atKey (q::qs) k=atKey qs k:=by simp[atKey,List.find?_cons,e']
   rw[sU e,b];exact ih
theorem KT.repl{kvs:List (List Key×V)}{xs:List (List Key×Addr×Value)}(r:KT H kvs xs)(k:List Key){y:V}{u:Value}(ry:RelV y u):
 KT H (kvs.map fun kv=>if kv.1=k then(kv.1,y)else kv) (xs.map (putAt k u)):=by
 induction r with
 |nil=>exact .nil
 |@cons p q ps qs h t ih=>
  rw[B8,B8];refine .cons ?_ ih;obtain⟨h1,h2,h3⟩:=h;unfold putAt;by_cases e:p.1=k
  .rw[A4 e,A4 (h1.symm.trans e)];exact⟨h1,h2,ry⟩
  .rw[A6 e,A6 (fun z=>e (h1.trans z))];exact⟨h1,h2,h3⟩
theorem KT.put{kvs:List (List Key×V)}{xs:List (List Key×Addr×Value)}(r:KT H kvs xs)(k:List Key){b:Addr}{y:V}{u:Value}(hb:H b=some (.tup (k.map kV)))(ry:RelV y u):
 KT H (putK kvs k y) (storedH xs k b u):=by
 have e:(kvs.any fun kv=>decide (kv.1=k))=(atKey xs k).isSome:=by
  rw[sM,(r.val k).isSome_eq,Option.isSome_map]
 unfold putK storedH;rw[e];by_cases q:(atKey xs k).isSome=true
 .rw[A4 q,A4 q];exact r.repl k ry
 .rw[A6 q,A6 q];exact Paired.snoc r ⟨rfl,hb,ry⟩
theorem KT.keeps{H':Hp}{kvs:List (List Key×V)}{xs:List (List Key×Addr×Value)}(r:KT H kvs xs)(ht:∀b ys,H b=some (.tup ys)->H' b=some (.tup ys)):KT H' kvs xs:=
 Paired.mapP r fun _ _ z=>⟨z.1,ht _ _ z.2.1,z.2.2⟩
section
variable{P:Program}{w:World}{H:Hp}{h:Heap}{a:Addr}
theorem UA{u:HO}(ok:HOk P w H h)(e:Rd H a u):cZ P w H h a u:=e.ok ok
theorem UE{kvs:List (Key×V)}(ok:HOk P w H h)(e:Rd H a (.dK kvs)):kvs.length<=sizeLine/\(a==sysModules)=false/\∃vs,KV kvs vs/\h.DictOf (cW P w) a vs:=
 show cZ P w H h a (.dK kvs)from UA ok e
theorem SU{kvs:List (Key×V)}(ok:HOk P w H h)(e:H a=some (.dK kvs)):kvs.length<=sizeLine/\(a==sysModules)=false/\∃vs,KV kvs vs/\h.DictOf (cW P w) a vs:=UE ok (.inl e)
theorem CA{ks:List Key}(ok:HOk P w H h)(e:H a=some (.tup (ks.map kV))):(tupleKind (cW P w)).is h ks a:=by
 obtain⟨_,its,r,o,h1,h2,n,h3⟩:=(show cZ P w H h a (.tup (ks.map kV))from ok a _ e);exact⟨o,its.toArray,n,h1,h2,h3,by simpa using vL r⟩
theorem TX{kvs:List (List Key×V)}(ok:HOk P w H h)(e:Rd H a (.dT kvs)):kvs.length<=sizeLine/\(a==sysModules)=false /\
 ∃xs,KT H kvs xs/\h.DictOfH (tupleKind (cW P w)) a xs:=by
 obtain⟨z,y,xs,r,o,es,ep,h1,h2,h3,h4,h5⟩:=(show cZ P w H h a (.dT kvs)from UA ok e);refine⟨z,y,xs,r,o,es,ep,h1,h2,h3,h4,fun x hx=>?_,h5⟩
 have all:∀{l:List (List Key×V)}{m:List (List Key×Addr×Value)},KT H l m->∀x∈m,(tupleKind (cW P w)).is h x.1 x.2.1:=by
  intro l m q
  induction q with
  |nil=>intro x hx;exact nomatch hx
  |@cons p q ps qs hq t ih=>
   intro x hx;rcases List.mem_cons.mp hx with e|hx
   .subst e;exact CA ok (by rw[<- hq.1];exact hq.2.1)
   .exact ih x hx
 exact all r x hx
theorem aBu{kvs:List (List Key×V)}(ok:HOk P w H h)(e:H a=some (.dT kvs)):kvs.length<=sizeLine/\(a==sysModules)=false /\
 ∃xs,KT H kvs xs/\h.DictOfH (tupleKind (cW P w)) a xs:=TX ok (.inl e)
end
noncomputable def wY(H:Hp)(a:Addr)(y:V)(r:Option V):Prop:=
 (∃kvs k,Rd H a (.dK kvs)/\y=kV k/\r=fS kvs k)\/∃kvs k b,Rd H a (.dT kvs)/\y=.ref b/\H b=some (.tup (k.map kV))/\r=fS kvs k
noncomputable def yG(H:Hp)(a:Addr)(y v:V)(H':Hp):Prop:=
 (∃kvs k,H a=some (.dK kvs)/\y=kV k/\kvs.length<sizeLine/\H'=upd H a (.dK (putK kvs k v))) \/
 ∃kvs k b,H a=some (.dT kvs)/\y=.ref b/\H b=some (.tup (k.map kV))/\kvs.length<sizeLine/\H'=upd H a (.dT (putK kvs k v))
theorem wY.k{a:Addr}{kvs:List (Key×V)}{k:Key}(e:H a=some (.dK kvs)):wY H a (kV k) (fS kvs k):=.inl ⟨kvs,k,.inl e,rfl,rfl⟩
theorem wY.t{a b:Addr}{kvs:List (List Key×V)}{k:List Key}(e:H a=some (.dT kvs))(eb:H b=some (.tup (k.map kV))):wY H a (.ref b) (fS kvs k):=.inr ⟨kvs,k,b,.inl e,rfl,eb,rfl⟩
theorem yG.k{a:Addr}{kvs:List (Key×V)}{k:Key}{v:V}(e:H a=some (.dK kvs))(hl:kvs.length<sizeLine):yG H a (kV k) v (upd H a (.dK (putK kvs k v))):=.inl ⟨kvs,k,e,rfl,hl,rfl⟩
theorem yG.t{a b:Addr}{kvs:List (List Key×V)}{k:List Key}{v:V}(e:H a=some (.dT kvs))(eb:H b=some (.tup (k.map kV)))(hl:kvs.length<sizeLine):
 yG H a (.ref b) v (upd H a (.dT (putK kvs k v))):=.inr ⟨kvs,k,b,e,rfl,eb,hl,rfl⟩
section
variable{X:Cx}{pins:List (Addr×Obj)}{σ:St}{H:Hp}{s:Shared}{a:Addr}{y v:V}{u r:Value}{o:Option V}{A:Around}{E:Value->Shared->Prop}
theorem Inv.big(I:Inv X pins σ H s):sysModules<s.heap.objs.size:=by
 have h:mainGlobals<s.heap.objs.size:=(I.mod.glob.keeps I.bk).lt;exact Nat.lt_trans (by decide) h
theorem PY{Q:Value->Shared->Prop}(hu:A.units+1<cLine)(I:Inv X pins σ H s)(g:wY H a y o)(ry:RelV y u)(h:∀s',Inv X pins σ H s'->Q (.bool (!o.isSome)) s'):
 wpAny (model X.prog X.w) A (compareOp .NotIn u (.ref a)) Q E s:=by
 rcases g with⟨kvs,k,e,ey,l⟩|⟨kvs,k,b,e,ey,eb,l⟩
 .subst ey;obtain⟨z,hd,vs,rel,dd⟩:=UE I.hok e;refine wpAny_notIn_of (DU ry) hd dd.mapOf ?_;rw[<- (rel.val k).isSome_eq,<- l];exact h _ (I.tok _)
 .subst ey;cases (show u=Value.ref b from ry);obtain⟨z,hd,xs,rel,dd⟩:=TX I.hok e;refine wpAny_notIn_heap (tupleKind_room_in1 hu) (CA I.hok eb) hd dd ?_;have q:=(rel.val k).isSome_eq;rw[Option.isSome_map]at q;rw[<- q,<- l];exact h _ (I.tok _)
theorem xH{h':Heap}{t':Nat}{ob:HO}(I:Inv X pins σ H s)(mu:Mut (H a))(hs:Heap.SameBut a s.heap h')(he:∃q,h'.get? a=some q)(new:cZ X.prog X.w (upd H a ob) h' a ob):
 Inv X pins σ (upd H a ob) { s with heap:=h',toks:=t' }:=
 I.write (x:=a) (e:=a) mu (.inl rfl) (fun b q hb z=>(hs.2 b hb).trans z) he new
theorem JF{P:Program}{w:World}{H':Hp}{h':Heap}{kvs:List (Key×V)}{vs:List (Key×Value)}(z:kvs.length<=sizeLine)(hd:(a==sysModules)=false)(rel:KV kvs vs)(dd:h'.DictOf (cW P w) a vs):
 cZ P w H' h' a (.dK kvs):=⟨z,hd,vs,rel,dd⟩
theorem GJ{H':Hp}{Q:Unit->Shared->Prop}(hu:A.units+1<cLine)(I:Inv X pins σ H s)(g:yG H a y v H')(ry:RelV y u)(rv:RelV v r)(h:∀s',Inv X pins σ H' s'->Q () s'):
 wpAny (model X.prog X.w) A (setItem (.ref a) u r) Q E s:=by
 rcases g with⟨kvs,k,e,ey,l,eH⟩|⟨kvs,k,b,e,ey,eb,l,eH⟩
 .subst ey eH;obtain⟨z,hd,vs,rel,dd⟩:=SU I.hok e;have hz:vs.length<=sizeLine:=by rw[<- rel.length];exact z
  have hl:(putK kvs k v).length<=sizeLine:=by have:=lK kvs k v;omega
  refine wpAny_setItem_pairs (hsz:=hz) (DU ry) dd fun h' dd' hs=>h _ ?_;have he:∃q,h'.get? a=some q:=let⟨q,_,_,hq,_⟩:=dd';⟨q,hq⟩;exact xH I (by rw[e];exact True.intro) hs he (JF hl hd (rel.put k rv) dd')
 .subst ey eH;cases (show u=Value.ref b from ry);obtain⟨z,hd,xs,rel,dd⟩:=aBu I.hok e;have hz:xs.length<=sizeLine:=by rw[<- Paired.length rel];exact z
  have hl:(putK kvs k v).length<=sizeLine:=by have:=lK kvs k v;omega
  refine wpAny_setItem_heap (hsz:=hz) (tupleKind_room_in1 hu) (CA I.hok eb) dd fun h' dd' hs=>h _ ?_;obtain⟨q,es,ep,hq,h2,h3,h4,_,h5⟩:=dd';refine xH I (by rw[e];exact True.intro) hs ⟨q,hq⟩ ⟨hl,hd,_,(rel.put k eb rv).keeps fun c ys ec=>?_,q,es,ep,hq,h2,h3,h4,h5⟩;rw[aU (aBz ec e (fun z=>nomatch z))];exact ec
end
noncomputable def ED(ty td:TE):TE:=fun σ H Q=>ty σ H fun y H1=>td σ H1 fun x H2=>∃a o,x=.ref a/\wY H2 a y o/\Q (.bl (!o.isSome)) H2
noncomputable def SN(td ty tv:TE):TS:=fun D σ H=>tv σ H fun v H1=>td σ H1 fun x H2=>ty σ H2 fun y H3=>∃a H4,x=.ref a/\yG H3 a y v H4/\D.nx σ H4
section
variable{X:Cx}{o i e value:Expr}{pos pos' tpos:Pos}{td ty tv:TE}
theorem HA(hu:X.A.units+1<cLine)(hi:PE X i ty)(ho:PE X o td):PC X .NotIn i o (ED ty td):=by
 intro pins s σ H Q I h;refine thn (hi pins s σ H _ I h) fun iv s1 ⟨y,H1,I1,ry,q1⟩=>thn (ho pins s1 σ H1 _ I1 q1) fun u s2 ⟨x,H2,I2,rx,a,ov,ex,g,q2⟩=>?_;subst ex;obtain rfl:u=Value.ref a:=rx;exact PY hu I2 g ry fun s3 I3=>⟨.bl (!ov.isSome),H2,I3,rfl,q2⟩
theorem OT(hu:X.A.units+1<cLine)(ho:PE X o td)(hi:PE X i ty)(hv:PE X value tv)(hs:swapsWith value (some (.Subscript o i pos')) pos.line X.env=pure false):
 PS X (.Assign [.Subscript o i pos'] value pos) (SN td ty tv):=by
 intro pins s σ H D I h;refine wpAny_Assign_Subscript (thn (hv pins s σ H _ I h) fun r s1 ⟨v,H1,I1,rv,q1⟩=>thn (ho pins s1 σ H1 _ I1 q1) fun u s2 ⟨x,H2,I2,rx,q2⟩=>thn (hi pins s2 σ H2 _ I2 q2) fun iv s3 ⟨y,H3,I3,ry,a,H4,ex,g,q3⟩=>?_) hs;subst ex;obtain rfl:u=Value.ref a:=rx;exact GJ hu I3 g ry rv fun s4 I4=>⟨σ,H4,I4,q3⟩
end
theorem zP{P:Program}{w:World}(h:Heap)(hb:sysModules<h.objs.size):cZ P w H (h.push { cls:=.type "dict",data:=.dict #[] }) h.objs.size (.dK []):=
 ⟨E9 _,beq_eq_false_iff_ne.mpr (O3 (C5 hb)),[],.nil,Heap.DictOf.new h⟩
noncomputable def LJ:TE:=fun _ H Q=>∀p,H p=none->Q (.ref p) (upd H p (.dK []))
section
variable{X:Cx}{pos:Pos}
theorem NS:PE X (.Dict [] [] pos) LJ:=fun pins s σ H Q I h=>
 wpAny_Dict_empty ⟨.ref s.heap.objs.size,_,I.laid (a:=s.heap.objs.size) (o:=.dK []) (t':=s.toks) (fun _ _ q=>A3 _ q) (A7 _) (zP s.heap I.big),rfl,h _ (I.hok.fresh (A7 _))⟩
end
noncomputable def xO:List (TE×TE)->St->Hp->(List (V×V)->Hp->Prop)->Prop
 |[],_,H,Q=>Q [] H
 |(tk,tv)::r,σ,H,Q=>tk σ H fun x H1=>tv σ H1 fun y H2=>xO r σ H2 fun ps H3=>Q ((x,y)::ps) H3
noncomputable abbrev VV:List (V×V)->List (Value×Value)->Prop:=Paired fun p q=>RelV p.1 q.1/\RelV p.2 q.2
noncomputable def PPs(X:Cx)(pos:Pos)(keys:List (Option Expr))(values:List Expr)(trs:List (TE×TE)):Prop:=
 ∀(pins:List (Addr×Obj))(s:Shared)(σ:St)(H:Hp)(Q:List (V×V)->Hp->Prop),Inv X pins σ H s->xO trs σ H Q->
  wpAny (model X.prog X.w) X.A (evalPairs (pairTrees keys values X.env pos)) (fun vs s'=>∃ps H',Inv X pins σ H' s'/\VV ps vs/\Q ps H') X.xe s
theorem QL{X:Cx}:PPs X pos [] [] []:=fun pins s σ H Q I h=>pairTrees_nil_walk ⟨[],H,I,.nil,h⟩
theorem ID{X:Cx}{k v:Expr}{ks:List (Option Expr)}{vs:List Expr}{tk tv:TE}{trs:List (TE×TE)}(hk:PE X k tk)(hv:PE X v tv)(hr:PPs X pos ks vs trs):
 PPs X pos (some k::ks) (v::vs) ((tk,tv)::trs):=fun pins s σ H Q I h=>
 pairTrees_cons_walk (thn (hk pins s σ H _ I h) fun u s1 ⟨x,H1,I1,rx,q1⟩=>thn (hv pins s1 σ H1 _ I1 q1) fun w2 s2 ⟨y,H2,I2,ry,q2⟩=>
  thn (hr pins s2 σ H2 _ I2 q2) fun ws s3 ⟨ps,H3,I3,rel,q3⟩=>⟨(x,y)::ps,H3,I3,.cons ⟨rx,ry⟩ rel,q3⟩)
noncomputable def mF(kvs more:List (Key×V)):List (Key×V):=more.foldl (fun acc kv=>putK acc kv.1 kv.2) kvs
theorem KV.merge:∀{more:List (Key×V)}{rs:List (Key×Value)}{kvs:List (Key×V)}{vs:List (Key×Value)},KV more rs->KV kvs vs->KV (mF kvs more) (merged vs rs):=by
 intro more rs kvs vs r;unfold KV at r
 induction r generalizing kvs vs with
 |nil=>intro q;exact q
 |@cons p q ps qs h t ih=>
  intro r0
  have e:KV (putK kvs p.1 p.2) (stored vs q.1 q.2):=by
   have:=r0.put p.1 h.2;rw[<- h.1];exact this
  exact ih e
theorem nB:∀(more kvs:List (Key×V)),(mF kvs more).length<=kvs.length+more.length
 |[]=>fun kvs=>by show kvs.length<=kvs.length+0;omega
 |p::r=>fun kvs=>by
  have h1:=nB r (putK kvs p.1 p.2);have h2:=lK kvs p.1 p.2;show(mF (putK kvs p.1 p.2) r).length<=_;rw[C8];omega
theorem uA{P:Program}{w:World}:∀{kvs:List (Key×V)}{ws:List (Value×Value)},VV (kvs.map fun kv=>(kV kv.1,kv.2)) ws->∃rs,Carries (cW P w) ws rs/\KV kvs rs
 |[],_=>fun r=>by rw[List.map_nil]at r;cases r;exact⟨[],True.intro,.nil⟩
 |p::kvs,_=>fun r=>by
  rw[B8]at r;cases r with
  |@cons a b as bs h t=>
   obtain⟨rs,c,q⟩:=uA (P:=P) (w:=w) t;obtain⟨b1,b2⟩:=b;exact⟨(p.1,b2)::rs,⟨DU h.1,rfl,c⟩,.cons ⟨rfl,h.2⟩ q⟩
noncomputable def UD(trs:List (TE×TE)):TE:=fun σ H Q=>∀p,H p=none->xO trs σ (upd H p (.dK [])) fun ps H2=>H2 p=some (.dK [])/\∃kvs:List (Key×V),ps=kvs.map (fun kv=>(kV kv.1,kv.2))/\kvs.length<=15/\Q (.ref p) (upd H2 p (.dK (mF [] kvs)))
theorem RO{X:Cx}{keys:List (Option Expr)}{values:List Expr}{trs:List (TE×TE)}(h:PPs X pos keys values trs)(hall:keys.all (·.isSome)=true)(hl:keys.length=values.length)(h0:keys≠[])
 (h15:keys.length<=15):PE X (.Dict keys values pos) (UD trs):=by
 intro pins s σ H Q I q;have hn:=I.hok.fresh (A7 s.heap.objs.size);have I1:=I.laid (a:=s.heap.objs.size) (o:=.dK []) (h':=s.heap.push { cls:=.type "dict",data:=.dict #[] }) (t':=s.toks) (fun _ _ q=>A3 _ q) (A7 _) (zP s.heap I.big);refine wpAny_Dict_walk (knd:=cW X.prog X.w) hall hl h0 h15 (thn (h pins _ σ _ _ I1 (q _ hn)) fun ws s2 ⟨ps,H2,I2,rel,e,kvs,ep,lk,q2⟩=>?_);subst ep;obtain⟨rs,c,rk⟩:=uA (P:=X.prog) (w:=X.w) rel;obtain⟨z,hd,vs0,r0,dd⟩:=SU I2.hok e;cases r0;refine⟨rs,c,dd,fun h' dd' hs=>⟨.ref s.heap.objs.size,_,?_,rfl,q2⟩⟩
 have hz:(mF [] kvs).length<=sizeLine:=by
  have h1:=nB kvs [];rw[List.length_nil]at h1;rw[E6];omega
 have he:∃q,h'.get? s.heap.objs.size=some q:=let⟨q,_,_,hq,_⟩:=dd';⟨q,hq⟩;exact xH I2 (by rw[e];exact True.intro) hs he (JF hz hd (rk.merge .nil) dd')
structure M1(X:Cx)(o:Expr)(m:Str)(apos:Pos)(e:Expr)(cpos:Pos):Prop where
 base:attributeBase o m X.env (eval o X.env)=eval o X.env
 few:((backTo cpos (starEach [e] X.env)).all (fun x=>!x.1)&&(backToKw cpos (keywordEach [] X.env)).all (fun x=>x.1.isSome)
  && decide (([e]:List Expr).length+([]:List Keyword).length+(if ([]:List Keyword).isEmpty then 0 else 1)<30))=true
 line:(apos.endLine==cpos.line)=true
 trees:backTo cpos (starEach [e] X.env)=[(false,eval e X.env)]
structure M2(X:Cx)(o:Expr)(m:Str)(apos:Pos)(e f:Expr)(cpos:Pos):Prop where
 base:attributeBase o m X.env (eval o X.env)=eval o X.env
 few:((backTo cpos (starEach [e,f] X.env)).all (fun x=>!x.1)&&(backToKw cpos (keywordEach [] X.env)).all (fun x=>x.1.isSome)
  && decide (([e,f]:List Expr).length+([]:List Keyword).length+(if ([]:List Keyword).isEmpty then 0 else 1)<30))=true
 line:(apos.endLine==cpos.line)=true
 trees:backTo cpos (starEach [e,f] X.env)=[(false,eval e X.env),(false,eval f X.env)]
end L2
namespace Att
open PySem PySem.W PySem.Calls PyProof.Rows
theorem qV{P:Params}{h:Heap}:∀(ns:List Int)(vs:List Value),WellAll P h vs (ns.map WData.int)->IntsAre vs ns:=by
 intro ns
 induction ns with
 |nil=>
  intro vs w;rw[List.map_nil]at w;cases w;exact .nil
 |cons n ns ih=>
  intro vs w;rw[B8]at w;cases w with
  |cons a b=>
   cases a;exact .cons _ _ (ih _ b)
theorem HI{l:OpenLaw}{n:Nat}(hn:l.most=some n){P:Params}{h:Heap}{args:List WData}{vals:List Value}
 (hpre:l.row.toRowW.claim.pre args=true) (hwl:WellAll P h vals args):
 ∃a vs ns,vals=[Value.ref a]/\args=[WData.list (ns.map WData.int)]/\h.get? a=some { cls:=.type "list",data:=.seq vs.toArray }/\IntsAre vs ns/\ns.length<=n:=by
 have hsh:WShape.hasAll [] args [.list .int]=true:=(pre_splitW hpre).1;have hc:l.pre.holds [] { args:=args }=true:=(pre_splitW hpre).2;obtain⟨d,r,rfl,h1,h2⟩:=hasAllW_cons hsh;obtain rfl:=hasAllW_nil h2;obtain⟨xs,rfl,h3⟩:=hasW_list h1;obtain⟨ns,rfl⟩:=items_int h3
 have hlen:ns.length<=n:=by
  unfold OpenLaw.pre at hc
  have h4:(WTm.not (.lt (.lit (.int (n:Int))) (.len (.arg 0)))).holds [] { args:=[.list (ns.map .int)] }=true:=by
   have h4:=(holds_andW hc).1;rw[hn]at h4;exact h4
  have h5:=condW_of h4 (w_not (w_lt w_lit (w_len_list (w_arg rfl))));rw[A1]at h5;refine Nat.le_of_not_lt fun q=>?_;have q':(n:Int)<((ns.length:Nat):Int):=by omega
  first
   |(rw[B7 q']at h5;exact absurd h5 (by decide))
   |(simp at h5;omega)
 cases hwl with
 |cons w1 w2=>
  cases w2;cases w1 with
  |list ho hall=>exact⟨_,_,ns,rfl,rfl,ho,qV ns _ hall,hlen⟩
theorem GI(l:OpenLaw)(args:List WData):l.row.toRowW.claim.post args (.bool true) args=true:=
 postW_of (r:=l.row.toRowW) (X:=(true==true))
  (show WShape.has [] (.bool true) .bool=true by first|rfl|decide|simp[WShape.has,WShape.arms,WShape.armsAll])
  (show(WTm.eq .res (.lit (.bool true))).value [] { args:=args,res:=some (.bool true),after:=args }=some (.bool (true==true))from w_eq_bool (w_res rfl) w_lit) rfl
theorem attach_call{l:OpenLaw}{n:Nat}{q:Program}{loose:List Str}{XP:(Str->Option Value)->Heap->Prop}{YP:World->Heap->Prop}{d:DefRec}
 (hn:l.most=some n) (hdf:d.params.defaults=[])
 (call:∀(w:World)(s₀ s₁:Shared)(mg mb:Str->Option Value)(fa:Addr)(o:Obj)(pm cd doc:Value)(a:Addr)(vs:List Value)(ns:List Int),
  Ground q loose [] XP w s₀ mg mb s₁.heap->YP w s₁.heap->
  s₁.heap.get? fa=some o->o.data=.func (docDef d.name d.params d.body d.scope pm cd doc)->s₁.heap.CodeRec cd d.name->mg d.name=some (.ref fa)->
  s₁.heap.get? a=some { cls:=.type "list",data:=.seq vs.toArray }->IntsAre vs ns->ns.length<=n->s₁.gens=#[]->
  codeAny (model l.prog w) callerA (.call (.ref fa) ⟨[.ref a],[]⟩) (fun r s'=>r=.ok (.ret (.bool true))/\OldK s₁.heap s'.heap/\s'.os=s₁.os/\AllBare s'.gens) s₁):
 WalkO q loose XP YP l.row.toRowW d [] (fun f vs=>PySem.call f vs):=by
 intro w s₀ s₁ mg mb G Y fa o pm cd doc dV kV ho hd hcd hD hmg hg args vals as hpre hlay hrd hwl hlo;obtain rfl:dV=.none:=Dflts.none hD hdf;obtain rfl:kV=.none:=Dflts.noKw hD;obtain⟨a,vs,ns,rfl,rfl,hobj,hints,hlen⟩:=HI hn hpre hwl;refine enter_call (codeAny_mono (call w s₀ s₁ mg mb fa o pm cd doc a vs ns G Y ho (fd_plain hd) hcd hmg hobj hints hlen hg) fun r s' hq=>?_);obtain⟨rfl,h2,h3,h4⟩:=hq;exact⟨.inl ⟨.bool true,.bool true,[],rfl,fun _=>rfl,.bool true,GI l _,fun _=>⟨List.Pairwise.nil,fun _ hm=>(nomatch hm)⟩⟩,h2,h3,h4⟩
section
variable{prog:Program}{w:World}{A:Around}{E:Value->Shared->Prop}{s:Shared}{K:Frag}
end
end Att
namespace L2
open PySem PySem.Spec PyProof.Rows
theorem vB:∀{vs:List Value}{ns:List Int},IntsAre vs ns->bB (ns.map V.int) vs
 |_,_,.nil=>.nil
 |_,_,.cons n t h=>.cons ⟨t,rfl⟩ (vB h)
noncomputable def VQ(H:Hp):Prop:=∀b,H b=none\/∃o xs,H b=some (.frz o (.lst xs))
theorem JR{P:Program}{w:World}{K:Fg}{mg mb:Str->Option Value}{CX:CXT}{k:Nat}{fa a:Addr}{fd:FuncData}{x:Str}{sp:Sp}{s₁:Shared}{vs:List Value}{ns:List Int}
 (KX:K.In s₁.heap) (hns:s₁.heap.Ns mainGlobals mg) (hb:s₁.heap.Ns builtinsNs mb) (hbb:∀x:Str,x≠"__name__"->mb x=bootBuiltins x) (hlim:s₁.heap.NoLimit) (hsm:∃mm,s₁.heap.Ns sysModules mm) (hg:s₁.gens=#[])
 (ha:s₁.heap.get? a=some { cls:=.type "list",data:=.seq vs.toArray }) (hi:IntsAre vs ns) (hl:ns.length<=sizeLine) (hr:eB k callerA)
 (F:∀base:Heap,K.In base->base.Ns mainGlobals mg->oE P w K mg base CX k fa fd [x] sp) (hbind:∀(s:Shared)(u:Value),BindsTo s fd ⟨[u],[]⟩ [(x,u)])
 (hsp:∀H:Hp,VQ H->SqL K H a (ns.map V.int)->sp [.ref a] H (fun v _=>v=.bl true) fun _ _ _=>False)
 (hCX:∀H e s',CX [] H s₁ (fun _ _ _=>False) e s'->False):
 codeAny (model P w) callerA (.call (.ref fa) ⟨[.ref a],[]⟩) (fun r s'=>r=.ok (.ret (.bool true))/\OldK s₁.heap s'.heap/\s'.os=s₁.os/\AllBare s'.gens) s₁:=by
 have rv:=vB hi;have lenV:=hi.length
 have core:∀H:Hp,VQ H->SqL K H a (ns.map V.int)->HOk P w H s₁.heap->(∀b,H b≠none->b=a)->(H a≠none->K.lookup a=none)->
  codeAny (model P w) callerA (.call (.ref fa) ⟨[.ref a],[]⟩) (fun r s'=>r=.ok (.ret (.bool true))/\OldK s₁.heap s'.heap/\s'.os=s₁.os/\AllBare s'.gens) s₁:=by
  intro H hO hS hok hA hK;have base_of:∀{b:Addr}{o:Obj},s₁.heap.get? b=some o->H b=none->(yF s₁.heap H).get? b=some o:=fun e n=>IX e n
  have noA:∀{b:Addr}{o:Obj}{es:Array DictEntry}{ep:Nat},s₁.heap.get? b=some o->o.data=.dict es ep->H b=none:=fun{b o es ep} e d=>by
   cases q:H b with
   |none=>rfl
   |some u=>
    have e':b=a:=hA b (by rw[q];simp);subst e';rw[ha]at e;cases e;have d':Data.seq vs.toArray _=Data.dict es ep:=d;cases d'
  have nsK:∀{b:Addr}{m:Str->Option Value},s₁.heap.Ns b m->(yF s₁.heap H).Ns b m:=fun{b m} ⟨o,es,ep,e,d,r⟩=>⟨o,es,ep,base_of e (noA e d),d,r⟩
  have hKb:K.In (yF s₁.heap H):=fun b o e=>base_of (KX b o e) (by
   cases q:H b with
   |none=>rfl
   |some u=>
    have e':b=a:=hA b (by rw[q];simp);subst e';rw[hK (by rw[q];simp)]at e;cases e)
  have hM:Mod K mg (yF s₁.heap H):=⟨hKb,nsK hns,⟨mb,nsK hb,hbb⟩,(let⟨mc,h1,h2⟩:=hlim;⟨mc,nsK h1,h2⟩),(let⟨mm,hmm⟩:=hsm;let⟨o,es,ep,h1,h2,_⟩:=nsK hmm;⟨o,es,ep,h1,h2⟩)⟩;have e0:OI P w K mg (yF s₁.heap H) callerA [] s₁ H:=⟨rfl,hM,fun b o e=>QH e,Nat.le_of_eq (FL _ _),trivial,fun b hb=>absurd (show b∈([]:List Addr)from hb) (by simp),hok,.of_eq hg⟩;refine codeAny_mono ((F _ hKb (nsK hns)).run callerA [] s₁ H ⟨[.ref a],[]⟩ [.ref a] [.ref a] _ _ hr e0 (hbind s₁ (.ref a)) (.cons rfl .nil) (hsp H hO hS)) fun r s' h=>?_;cases r with
  |error e=>exact(hCX H e s' h).elim
  |ok fl=>
   cases fl with
   |next=>exact False.elim h
   |brk=>exact False.elim h
   |cont=>exact False.elim h
   |ret u=>
    obtain⟨v,H',os,bare,un,hok',r',q⟩:=h;have q':v=.bl true:=q;subst q';obtain rfl:u=Value.bool true:=r';refine⟨rfl,OldK.of_keep fun b o e=>?_,os,bare⟩;cases q:H b with
    |none=>exact un.keep b o e q (by intro z;exact absurd (show b∈([]:List Addr)from z) (by simp)) (by simp)
    |some u=>
     rcases hO b with z|⟨ob,xs,z⟩
     .rw[q]at z;cases z
     .have z2:=un.frzs b ob _ z;obtain⟨e1,_⟩:=hok b _ z;obtain⟨e2,_⟩:=hok' b _ z2;rw[e]at e1;cases e1;exact e2
 cases hk:K.lookup a with
 |some o=>
  have e:=KX a o hk;rw[ha]at e;cases e;refine core (fun _=>none) (fun _=>.inl rfl) (.inr ⟨_,vs.toArray,_,hk,rfl,rfl,rfl,by rw[C0,lenV];exact hl,by simpa using rv⟩) (fun b u z=>by have z':(none:Option HO)=some u:=z;cases z') (fun b z=>absurd rfl z) fun z=>absurd rfl z
 |none=>
  refine core (fun b=>if b=a then some (.frz { cls:=.type "list",data:=.seq vs.toArray } (.lst (ns.map V.int)))else none) (fun b=>?_) (.inl (.inr ⟨{ cls:=.type "list",data:=.seq vs.toArray },A4 rfl⟩)) (fun b u z=>?_) (fun b z=>?_) fun _=>hk
  .by_cases hb:b=a
   .exact .inr ⟨_,_,A4 hb⟩
   .exact .inl (A6 hb)
  .by_cases hb:b=a
   .have z':=(A4 hb).symm.trans z;cases z';subst hb;exact⟨ha,by rw[A1];exact hl,vs,_,rv,ha⟩
   .have z':=(A6 hb).symm.trans z;cases z'
  .by_cases hb:b=a
   .exact hb
   .exact absurd (A6 hb) z
noncomputable abbrev KOf{K:Fg}{h:Heap}(_:K.In h):Fg:=K
theorem walk_of{l:PySem.W.OpenLaw}{n k:Nat}{q:Program}(hq:PyProof.Rows.importsNone q=true){loose:List Str}{XP:(Str->Option Value)->Heap->Prop}{YP:World->Heap->Prop}{d:DefRec}{K:Params->Fg}{CX:World->CXT}{sp:World->Sp}{x:Str}
 (hn:l.most=some n) (hn2:n<=sizeLine) (hdf:d.params.defaults=[]) (hr:eB k callerA)
 (hY:∀(w:World)(h:Heap),YP w h->(K w.params).In h)
 (F:∀(w:World)(mg:Str->Option Value)(fa:Addr)(h:Heap),(K w.params).In h->h.Ns mainGlobals mg->mg d.name=some (.ref fa)->
  ∃fd:FuncData,(∀(s:Shared)(u:Value),BindsTo s fd ⟨[u],[]⟩ [(x,u)]) /\
   ∀base:Heap,(K w.params).In base->base.Ns mainGlobals mg->oE l.prog w (K w.params) mg base (CX w) k fa fd [x] (sp w))
 (hsp:∀(w:World)(H:Hp)(a:Addr)(ns:List Int),ns.length<=n->VQ H->SqL (K w.params) H a (ns.map V.int)->sp w [.ref a] H (fun v _=>v=.bl true) fun _ _ _=>False)
 (hCX:∀(w:World)(H:Hp)(s:Shared)(e:Value)(s':Shared),CX w [] H s (fun _ _ _=>False) e s'->False):
 PySem.W.WalkO q loose XP YP l.row.toRowW d [] (fun f vs=>PySem.call f vs):=by
 refine Att.attach_call hn hdf fun w s₀ s₁ mg mb fa o pm cd doc a vs ns G Y ho hd hcd hmg hobj hints hlen hg=>?_;have KX:=hY w _ Y;obtain⟨fd,hb,hF⟩:=F w mg fa _ KX G.T.g hmg;exact JR KX G.T.g G.T.b G.T.builtins G.T.nolimit (let⟨mm,hmm,_⟩:=(G.T.seer hq).mods;⟨mm,hmm⟩) hg hobj hints (E5 hlen hn2) hr hF hb (fun H hO hS=>hsp w H a ns hlen hO hS) fun H e s'=>hCX w H s₁ e s'
end L2
namespace L2
variable{H H':Hp}{W:Wd}{M M':Sto}{γ:Ga}{K:Fg}
open PySem PySem.Spec PyProof.Rows
noncomputable def fF(s:Stmt):Arguments:=match s with
 |.FunctionDef _ a _ _ _ _ _ _ _ _=>a
 |_=>{ posonlyargs:=[],args:=[],vararg:=none,kwonlyargs:=[],kw_defaults:=[],kwarg:=none,defaults:=[] }
noncomputable def cQ(s:Stmt):List Stmt:=match s with
 |.FunctionDef _ _ b _ _ _ _ _ _ _=>b
 |_=>[]
noncomputable def aJ(s:Stmt):Scope:=match s with
 |.FunctionDef _ _ _ _ _ _ sc _ _ _=>sc
 |_=>{ kind:=.function,names:=[],isGenerator:=false,isCoroutine:=false }
noncomputable abbrev CX0:CXT:=fun _ _ _ _ _ _=>False
noncomputable abbrev E0:XK:=fun _ _ _=>False
theorem aAi{X:Cx}:BC CX0 X E0:=fun _ _ _ _ _ _ _ h=>h.elim
structure Fun(K:Fg)(x qual:Str)(st:Stmt)(f:Addr)(fd:FuncData):Prop where
 ex:∃(oc:Value)(od:Option Addr)(kV doc pm:Value)(an:Option Addr)(cdv ct:Value)(osl:Array (Option Value)),
  fd=PySem.W.fnOf x qual (fF st) (cQ st) (aJ st) .none kV doc pm an cdv ct/\K.lookup f=some ⟨oc,od,.func fd,osl⟩/\PySem.W.codeIn K cdv qual=true
 kp:PySem.W.keepIn K (.ref f)=true
section
variable{P:Program}{w:World}{K:Fg}{mg:Str->Option Value}{base:Heap}
theorem Fun.ok{x qual:Str}{st:Stmt}{f:Addr}{fd:FuncData}{N ps:List Str}{k:Nat}{sp:Sp}{q:Bool}(F:Fun K x qual st f fd)(S:bA N ps (aJ st))(len:∀vs H Q E,sp vs H Q E->vs.length=ps.length)
 (hbody:∀(cdv:Value)(A:Around)(outer:List Env)(s:Shared)(H:Hp)(vs:List V)(Q:VK)(E:XK),eB k (A.deeper (envOfC qual (aJ st) s.heap.objs.size f cdv)) q->sp vs H Q E->
  ∃t,PSs (qT CX0 P w K mg base N qual (aJ st) f cdv A outer s H E q).nox (cQ st) t/\t { nx:=fun _ H'=>Q .non H',rt:=Q } (start N vs) H):oE P w K mg base CX0 (k+1) f fd ps sp q:=by
 obtain⟨oc,od,kV,doc,pm,an,cdv,ct,osl,rfl,lk,hcd⟩:=F.ex;refine aBm lk hcd S len fun A outer s H vs Q E hr hsp=>?_;obtain⟨t,h,z⟩:=hbody cdv A outer s H vs Q E hr hsp;exact⟨t,h.nox,z⟩
theorem Fun.binds{x qual:Str}{st:Stmt}{f:Addr}{fd:FuncData}{ps:List Str}(F:Fun K x qual st f fd)
 (h:∀(kV doc pm:Value)(an:Option Addr)(cdv ct:Value)(us:List Value),us.length=ps.length->bindArgs (PySem.W.fnOf x qual (fF st) (cQ st) (aJ st) .none kV doc pm an cdv ct) ⟨us,[]⟩=pure (ps.zip us)):Binds K fd ps []:=by
 obtain⟨oc,od,kV,doc,pm,an,cdv,ct,osl,rfl,lk,hcd⟩:=F.ex;exact .all (h kV doc pm an cdv ct)
theorem XA{x qual:Str}{st:Stmt}{f:Addr}{oc:Value}{od an:Option Addr}{osl:Array (Option Value)}{kV doc pm cdv ct:Value}(l:K.lookup f=some ⟨oc,od,.func (PySem.W.fnOf x qual (fF st) (cQ st) (aJ st) .none kV doc pm an cdv ct),osl⟩)
 (c:PySem.W.codeIn K cdv qual=true) (k:PySem.W.keepIn K (.ref f)=true):Fun K x qual st f (PySem.W.fnOf x qual (fF st) (cQ st) (aJ st) .none kV doc pm an cdv ct):=⟨⟨oc,od,kV,doc,pm,an,cdv,ct,osl,rfl,l,c⟩,k⟩
end
noncomputable def hV(H H':Hp):Prop:=∀b o,H b=some o->H' b=some o
theorem hV.refl(H:Hp):hV H H:=fun _ _ h=>h
theorem hV.trans{H1 H2:Hp}(a:hV H H1)(b:hV H1 H2):hV H H2:=fun c o h=>b c o (a c o h)
theorem hV.free(e:hV H H'){l:Addr}(h:H' l=Option.none):H l=Option.none:=by
 cases q:H l with
 |none=>rfl
 |some o=>
  rw[e l o q]at h;cases h
theorem hV.seq{a:Addr}{xs:List V}(e:hV H H')(h:SqL K H a xs):SqL K H' a xs:=by
 rcases h with(h|⟨o,h⟩)|h
 .exact .inl (.inl (e _ _ h))
 .exact .inl (.inr ⟨o,e _ _ h⟩)
 .exact .inr h
noncomputable def eJ(env:Env):List (Str×NameKind)->List (Str×Addr)->List (Str×Addr)
 |[],cs=>cs
 |y::r,cs=>eJ env r (if (y.2==NameKind.free)=true then(y.1,(env.cells.lookup y.1).getD 0)::cs else cs)
theorem oC{env:Env}:∀(l:List (Str×NameKind))(cs:List (Str×Addr)),(∀y∈l,y.2=.free->∃c,env.cells.lookup y.1=some c)->
 (forIn l cs fun(x:Str×NameKind)(r:List (Str×Addr))=>if (x.2==NameKind.free)=true then(do
  let a <- cellOf env x.1
  pure (ForInStep.yield ((x.1,a)::r)))else pure (ForInStep.yield r))=(pure (eJ env l cs):Sem (List (Str×Addr)))
 |[]=>fun cs _=>rfl
 |y::l=>fun cs h=>by
  rw[List.forIn_cons];by_cases hk:(y.2==NameKind.free)=true
  .obtain⟨c,hc⟩:=h y B6 (by simpa using hk);have e1:cellOf env y.1=pure c:=by unfold cellOf;rw[hc]
   rw[A4 hk,e1];show(forIn l ((y.1,c)::cs) _:Sem _)=_;rw[oC l _ fun z hz=>h z (B1 _ hz)]
   conv=>rhs;unfold eJ
   rw[A4 hk,hc];rfl
  .rw[A6 hk];show(forIn l cs _:Sem _)=_;rw[oC l _ fun z hz=>h z (B1 _ hz)]
   conv=>rhs;unfold eJ
   rw[A6 hk]
theorem CS{scope:Scope}{env:Env}(h:∀y∈scope.names,y.2=.free->∃c,env.cells.lookup y.1=some c):closureFor scope env=pure (eJ env scope.names []):=by
 have e:=oC (env:=env) scope.names [] h;unfold closureFor
 show((forIn scope.names ([]:List (Str×Addr)) fun(x:Str×NameKind)(r:List (Str×Addr))=>if (x.2==NameKind.free)=true then(do
  let a <- cellOf env x.1
  pure (ForInStep.yield ((x.1,a)::r)))else pure (ForInStep.yield r)) >>= fun z=>pure z:Sem (List (Str×Addr)))=_
 rw[e];rfl
theorem wL{env:Env}:∀(l:List (Str×NameKind))(cs:List (Str×Addr)),(∀y∈l,y.2=.free->∃c,env.cells.lookup y.1=some c)->(∀x c,cs.lookup x=some c->env.cells.lookup x=some c)->
 ∀x c,(eJ env l cs).lookup x=some c->env.cells.lookup x=some c
 |[]=>fun cs _ h x c e=>h x c e
 |y::l=>fun cs hf h x c e=>by
  unfold eJ at e;refine wL l _ (fun z hz=>hf z (B1 _ hz)) ?_ x c e;intro z d ez;by_cases hk:(y.2==NameKind.free)=true
  .rw[A4 hk]at ez;obtain⟨c',hc'⟩:=hf y B6 (by simpa using hk);rw[hc']at ez;rw[D0]at ez;by_cases hz:(z==y.1)=true
   .rw[hz]at ez;have hz':z=y.1:=by simpa using hz
    rw[hz',hc'];exact ez
   .have hz':(z==y.1)=false:=by simpa using hz
    rw[hz']at ez;exact h z d ez
  .rw[A6 hk]at ez;exact h z d ez
theorem pT{env:Env}:∀(l:List (Str×NameKind))(cs:List (Str×Addr))(x:Str),((x,NameKind.free)∈l\/∃c,cs.lookup x=some c)->∃c,(eJ env l cs).lookup x=some c
 |[]=>fun cs x h=>by
  rcases h with h|h
  .exact absurd h (by simp)
  .exact h
 |y::l=>fun cs x h=>by
  unfold eJ;refine pT l _ x ?_;rcases h with h|⟨c,hc⟩
  .rcases List.mem_cons.mp h with e|e
   .subst e;refine .inr ?_;rw[A4 (by rfl)];exact⟨(env.cells.lookup x).getD 0,by rw[D0];simp⟩
   .exact .inl e
  .refine .inr ?_;by_cases hk:(y.2==NameKind.free)=true
   .rw[A4 hk,D0];by_cases hz:(x==y.1)=true
    .rw[hz];exact⟨_,rfl⟩
    .have hz':(x==y.1)=false:=by simpa using hz
     rw[hz'];exact⟨c,hc⟩
   .rw[A6 hk];exact⟨c,hc⟩
theorem oH{env:Env}:∀{names:List (Str×NameKind)}{x:Str}{k:NameKind},
 (names.map fun(y:Str×NameKind)=>if (y.2==NameKind.free&&env.scope.kind==.function&&env.kindOf y.1==some .cell)=true then(y.1,NameKind.cell)else(y.1,y.2)).lookup x=some k->
 (names.lookup x=some k)\/(names.lookup x=some .free/\k=.cell)
 |[],x,k=>fun h=>by simp at h
 |y::r,x,k=>fun h=>by
  rw[B8]at h;by_cases hx:(x==y.1)=true
  .by_cases hc:(y.2==NameKind.free&&env.scope.kind==.function&&env.kindOf y.1==some .cell)=true
   .rw[A4 hc,D0,hx]at h;rw[D0,hx];have:y.2=.free:=by simp at hc;exact hc.1.1
    refine .inr ⟨by rw[this],?_⟩;cases h;rfl
   .rw[A6 hc,D0,hx]at h;rw[D0,hx];exact .inl h
  .have hx':(x==y.1)=false:=by simpa using hx
   have h':(r.map fun(y:Str×NameKind)=>if (y.2==NameKind.free&&env.scope.kind==.function&&env.kindOf y.1==some .cell)=true then(y.1,NameKind.cell)else(y.1,y.2)).lookup x=some k:=by
    by_cases hc:(y.2==NameKind.free&&env.scope.kind==.function&&env.kindOf y.1==some .cell)=true
    .rw[A4 hc,D0,hx']at h;exact h
    .rw[A6 hc,D0,hx']at h;exact h
   rw[D0,hx'];exact oH h'
theorem rQ{env:Env}:∀{names:List (Str×NameKind)}{x:Str},names.lookup x=some .free->
 (names.map fun(y:Str×NameKind)=>if (y.2==NameKind.free&&env.scope.kind==.function&&env.kindOf y.1==some .cell)=true then(y.1,NameKind.cell)else(y.1,y.2)).lookup x=some .cell \/
 (names.map fun(y:Str×NameKind)=>if (y.2==NameKind.free&&env.scope.kind==.function&&env.kindOf y.1==some .cell)=true then(y.1,NameKind.cell)else(y.1,y.2)).lookup x=some .free
 |[],x=>fun h=>by simp at h
 |y::r,x=>fun h=>by
  rw[B8];by_cases hx:(x==y.1)=true
  .rw[D0,hx]at h;have hy:y.2=.free:=C9 h;by_cases hc:(y.2==NameKind.free&&env.scope.kind==.function&&env.kindOf y.1==some .cell)=true
   .rw[A4 hc,D0,hx];exact .inl rfl
   .rw[A6 hc,D0,hx];exact .inr (by rw[hy])
  .have hx':(x==y.1)=false:=by simpa using hx
   rw[D0,hx']at h;have ih:=rQ (env:=env) h;by_cases hc:(y.2==NameKind.free&&env.scope.kind==.function&&env.kindOf y.1==some .cell)=true
   .rw[A4 hc,D0,hx'];exact ih
   .rw[A6 hc,D0,hx'];exact ih
noncomputable def KQ(X:Cx)(ifs:List Expr)(t:TT):Prop:=
 ∀(pins:List (Addr×Obj))(s:Shared)(σ:St)(H:Hp)(Q:Bool->Hp->Prop),Inv X pins σ H s->t σ H Q->
  wpAny (model X.prog X.w) X.A (forIn ifs true fun c r=>if r=true then(do
   let ok <- isTrue c X.env (eval c X.env)
   pure (ForInStep.yield ok))else pure (ForInStep.yield r)) (TP X pins σ Q) X.xe s
noncomputable def aAm:TT:=fun _ H Q=>Q true H
theorem KU{X:Cx}:KQ X [] aAm:=fun _ _ _ H _ I h=>wpAny_tests_nil ⟨H,I,h⟩
section
variable{prog:Program}{w:World}{A:Around}{R:Result->Shared->Prop}{s:Shared}
theorem QV{elt target iter:Expr}{ifs:List Expr}{scope:Scope}{pos:Pos}{it acc:Value}{env:Env}(I:Nat->Shared->Prop)
 (turn:∀n s,I n s->wpAny (model prog w) A (pyNext it) (fun r s1=>(r=none/\R (.ok .next) s1)\/∃v,r=some v /\
  wpAny (model prog w) A (letOwnedTupleGo target it v) (fun _ s2=>wpAny (model prog w) A (assign target env v) (fun _ s3=>
   wpAny (model prog w) A (forIn ifs true fun c r=>if r=true then(do
    let ok <- isTrue c env (eval c env)
    pure (ForInStep.yield ok))else pure (ForInStep.yield r)) (fun ok s4=>
     (ok=true/\wpAny (model prog w) A (eval elt env) (fun x s5=>wpAny (model prog w) A (call (.builtin "list.append") [acc,x]) (fun _ s6=>∃m,m<n/\I m s6) (fun _ _=>False) s5) (fun _ _=>False) s4) \/
     (ok=false/\∃m,m<n/\I m s4)) (fun _ _=>False) s3) (fun _ _=>False) s2) (fun _ _=>False) s1) (fun _ _=>False) s)
 (n:Nat) (h:I n s):codeAny (model prog w) A (.compLoop (.ListComp elt [⟨target,iter,ifs,0⟩] scope pos) 0 it acc env) R s:=by
 refine codeAny_loop rfl I (fun n s hI=>?_) n h
 show wpAny _ A ((compTurn (.ListComp elt [⟨target,iter,ifs,0⟩] scope pos) 0 it acc env).onRaise fun x=>do
  noteFrame x env
  theTreesLotGoes x) _ _ s
 refine wpAny_noted ?_;rw[compTurn_list];refine A0 (wpAny_standAt (A0 (S2 (turn n s hI) (fun r s1 h1=>?_) fun _ _ f=>f.elim)));rcases h1 with⟨rfl,h1⟩|⟨v,rfl,h1⟩
 .exact B3 h1
 .refine A0 (S2 h1 (fun _ s2 h2=>?_) fun _ _ f=>f.elim);refine A0 (S2 h2 (fun _ s3 h3=>?_) fun _ _ f=>f.elim);refine A0 (S2 h3 (fun ok s4 h4=>?_) fun _ _ f=>f.elim);rcases h4 with⟨rfl,h4⟩|⟨rfl,h4⟩
  .refine A0 (A0 (S2 h4 (fun x s5 h5=>?_) fun _ _ f=>f.elim));exact A0 (S2 h5 (fun _ s6 h6=>B3 (B3 ⟨rfl,h6⟩)) fun _ _ f=>f.elim)
  .exact B3 ⟨rfl,h4⟩
end
noncomputable def jR(X:Cx)(N':List Str)(scope:Scope)(C:Addr)(s2:Shared)(H2:Hp)(fp:List Addr)(pn:List (Addr×Obj)):Cx:=
 { X with N:=N',s₀:=s2,H₀:=H2,env:=compEnvC scope (eJ X.env scope.names []) C X.env,outer:=X.stack,stack:=X.stack,ex:=fp,fn:=fun _=>false,pn:=X.pn++pn,xe:=fun _ _=>False }
noncomputable def yM(cap:List (Option Nat))(σ:St):St:=cap.map fun o=>o.bind fun j=>(σ[j]?).join
structure pH(X:Cx)(N':List Str)(cap:List (Option Nat))(scope:Scope):Prop where
 nocell:∀y∈scope.names,y.2≠.cell
 kind:scope.kind=.function
 names:∀y∈scope.names,y.2=.local->scope.names.lookup y.1=some .local
 frees:∀y∈scope.names,y.2=.free->X.env.kindOf y.1=some .cell\/X.env.kindOf y.1=some .free
 len:cap.length=N'.length
 cap:∀(i j:Nat),cap[i]?=some (some j)->∃x,N'[i]?=some x/\X.N[j]?=some x/\scope.names.lookup x=some .free
section
variable{X:Cx}{N':List Str}{cap:List (Option Nat)}{scope:Scope}{pins:List (Addr×Obj)}{σ:St}{H:Hp}{s:Shared}
theorem pH.cells(S:pH X N' cap scope)(ok:X.Ok):∀y∈scope.names,y.2=.free->∃c,X.env.cells.lookup y.1=some c:=fun y hy hk=>ok.has y.1 (S.frees y hy hk)
theorem pH.sub(S:pH X N' cap scope)(ok:X.Ok):∀x c,(eJ X.env scope.names []).lookup x=some c->X.env.cells.lookup x=some c:=
 wL scope.names [] (S.cells ok) fun x c e=>by simp at e
theorem pH.kinds(S:pH X N' cap scope){C:Addr}{cl:List (Str×Addr)}{x:Str}(h:(compEnvC scope cl C X.env).kindOf x=some .cell\/(compEnvC scope cl C X.env).kindOf x=some .free):scope.names.lookup x=some .free:=by
 rcases h with h|h
 .rcases oH (names:=scope.names) h with q|⟨q,_⟩
  .exact absurd rfl (S.nocell _ (E8 q))
  .exact q
 .rcases oH (names:=scope.names) h with q|⟨q,_⟩
  .exact q
  .exact q
theorem Inv.stkAll(I:Inv X pins σ H s){b:Addr}(h1:b≠X.env.locals)(h2:b∉X.fs):b∉frs X.stack:=fun hb=>(List.mem_cons.mp (I.stkSub b hb)).elim h1 h2
theorem HR(S:pH X N' cap scope)(I:Inv X pins σ H s){fp:List Addr}{h4:Heap}{C:Addr}{tk:Nat}(hf:∀b∈fp,oV X pins H b)(hlt:∀b∈fp,b<s.heap.objs.size)
 (hC:s.heap.objs.size<=C) (hn:h4.Ns C fun _=>none) (hk:∀b o,s.heap.get? b=some o->h4.get? b=some o):
 Inv (jR X N' scope C s H fp pins) [] (yM cap σ) H { s with heap:=h4,toks:=tk }:=by
 have cellLt:∀x c,X.env.cells.lookup x=some c->c<s.heap.objs.size:=fun x c e=>by
  obtain⟨v,q⟩:=I.cell x c e;exact q.lt
 have fresh:H C=none:=I.hok.fresh hC
 have ok:(jR X N' scope C s H fp pins).Ok:=by
  refine⟨I.ok.mod,S.kind,I.ok.glob,I.ok.blt,hC,fun x y c h1 h2=>?_,fun x hx=>?_,fun x c hx _=>?_,I.ok.hd,I.ok.frames,.inl rfl,fun b hb=>⟨?_,fun x c e=>?_⟩,I.bs,E5 I.ok.bsz I.sz,fun b o e hb=>?_,fun b hb=>?_,I.stack,I.stkFree⟩
  .exact I.ok.inj x y c (S.sub I.ok x c h1) (S.sub I.ok y c h2)
  .exact pT scope.names [] x (.inl (E8 (S.kinds hx)))
  .exact absurd hx (by show ¬(false=true);decide)
  .exact C5 (B9 (hlt b hb) hC)
  .exact(hf b hb).2.2.2.2.1 x c (S.sub I.ok x c e)
  .rcases (hf b hb).2.2.2.1 with z|z
   .exact I.ok.noex b o e z
   .exact absurd (B9 (B5 (I.ok.bs b o e).1) z) (F0 _)
  .exact I.stkAll (hf b hb).2.1 (hf b hb).2.2.1
 refine⟨ok,rfl,I.bare,Un.kept hk,⟨_,hn,fun i x v h1 h2 h3=>?_⟩,fun x c e=>?_,fresh,fun x c e=>I.freeC x c (S.sub I.ok x c e),fun p hp=>?_,I.hok.kept hk,?_⟩
 .-- a name that is caught
  have h2':(cap[i]?).map (fun o=>o.bind fun j=>(σ[j]?).join)=some (some v):=by
   have:(yM cap σ)[i]?=some (some v):=h2;unfold yM at this;rw[C6]at this;exact this
  cases e:cap[i]? with
  |none=>rw[e]at h2';simp at h2'
  |some o=>
   cases o with
   |none=>rw[e]at h2';simp at h2'
   |some j=>
    rw[e]at h2';obtain⟨x',a1,a2,a3⟩:=S.cap i j e
    have ex:x'=x:=by
     have:N'[i]?=some x:=h1;rw[a1]at this;exact C9 this
    subst ex
    have sv:σ[j]?=some (some v):=by
     have q:(σ[j]?).join=some v:=C9 h2';cases f:σ[j]? with
     |none=>rw[f]at q;simp at q
     |some o=>rw[f]at q;cases o with
      |none=>simp at q
      |some v'=>simp at q;rw[q]
    have hv:X.env.kindOf x'=some .cell\/X.env.kindOf x'=some .free:=S.frees _ (E8 a3) rfl;obtain⟨m,hm,hl⟩:=I.loc;obtain⟨u,r,l⟩:=hl j x' v a2 sv (hv.elim (fun z=>.inr (.inl z)) fun z=>.inr (.inr z));refine⟨u,r,.inr ⟨?_,?_⟩⟩
    .exact rQ (env:=X.env) (names:=scope.names) a3
    .rcases l with⟨hk',_⟩|⟨_,c,hc,o,ho,hd⟩
     .rcases hv with z|z<;>rw[z]at hk'<;>cases hk'
     .obtain⟨c',hc'⟩:=pT (env:=X.env) scope.names [] x' (.inl (E8 a3));have:=S.sub I.ok x' c' hc';rw[hc]at this;cases this;exact⟨c,hc',o,hk c o ho,hd⟩
 .obtain⟨v,o,ho,hd⟩:=I.cell x c (S.sub I.ok x c e);exact⟨v,o,hk c o ho,hd⟩
 .have hp':p∈X.pn++pins:=by
   rcases List.mem_append.mp hp with z|z
   .exact z
   .exact absurd z (by simp)
  obtain⟨e,n,ne,nf,d⟩:=I.pin p hp';exact⟨hk _ _ e,n,C5 (B9 (B5 e) hC),I.stkAll ne nf,d⟩
 .show(yM cap σ).length=N'.length;unfold yM;rw[A1];exact S.len
end
noncomputable def tLc(cap:List (Option Nat))(wi:TI)(g:TG)(tc:TT)(te:TE):TE:=fun σ H Q=>wi σ H fun J H1=>∃W:Nat->Nat->List V->St->Hp->Prop,(∃m,W 0 m [] (yM cap σ) H1)/\∀i m acc σ' H',W i m acc σ' H'->
 (J.stop i H'/\∀p,H' p=none->Q (.ref p) (upd H' p (.lst acc))) \/
 (J.go i H'/\acc.length<sizeLine/\∃N:List V->St->Hp->Prop,(∀acc' σ2 H2,N acc' σ2 H2->∃m',m'<m/\W (i+1) m' acc' σ2 H2)/\∀x H2,J.yld i H' x H2->g x σ' H2 fun σ2 H3=>tc σ2 H3 fun b H4=>(b=true/\te σ2 H4 fun v H5=>N (acc++[v]) σ2 H5)\/(b=false/\N acc σ2 H4))
section
variable{X:Cx}{N':List Str}{cap:List (Option Nat)}{scope:Scope}
theorem MQ{elt tg iter:Expr}{ifs:List Expr}{pos:Pos}{wi:TI}{g:TG}{tc:TT}{te:TE}(hc:X.calm=true)(S:pH X N' cap scope)(hi:PI X tg iter wi)
 (hg:∀C s H fp pn,PG (jR X N' scope C s H fp pn) tg g) (hif:∀C s H fp pn,KQ (jR X N' scope C s H fp pn) ifs tc) (he:∀C s H fp pn,PE (jR X N' scope C s H fp pn) elt te)
 (hs:∀x,foldedSetIterable iter X.env x=pure x) {pins:List (Addr×Obj)} {s:Shared} {σ:St} {H:Hp} {Q:VK} (I:Inv X pins σ H s) (h:tLc cap wi g tc te σ H Q)
 {use:Option (Value->Sem Unit)} {QQ:Value->Shared->Prop}
 (post:∀(D C:Addr)(H':Hp)(acc:List V)(s':Shared),D≠C->(∃m,s'.heap.Ns C m)->(∀h',Heap.SameBut C s'.heap h'->Inv X pins σ (upd H' D (.lst acc)) { s' with heap:=h' })->oV X pins (upd H' D (.lst acc)) C->Q (.ref D) (upd H' D (.lst acc))->compPost (model X.prog X.w) X.A X.xe use QQ (.ref D) C (.ok .next) s'):
 wpAny (model X.prog X.w) X.A (comprehension (.ListComp elt [⟨tg,iter,ifs,0⟩] scope pos) scope X.env (firstIterPos [⟨tg,iter,ifs,0⟩] pos) (newList []) false (firstIter [⟨tg,iter,ifs,0⟩] X.env) use) QQ X.xe s:=by
 refine wpAny_comprehension_free (e:=.ListComp elt [⟨tg,iter,ifs,0⟩] scope pos) (g:=⟨tg,iter,ifs,0⟩) (gs:=[]) rfl hs (CS (S.cells I.ok)) S.kind S.names ?_;refine thn (hi pins s σ H _ I h) fun v s1 h1=>thn h1 fun itv s2 h2=>?_;obtain⟨it,fp,tn,J,H2,e,I2,T,st2,f2,W,⟨m0,w0⟩,turn⟩:=h2;subst e
 have fplt:∀b∈fp,b<s2.heap.objs.size:=fun b hb=>by
  obtain⟨o,e,_⟩:=T.obj _ _ st2 b hb;exact B5 e
 refine D7 (wpAny_newFunctionEnv S.nocell (fun y hy=>by simp at hy) (fun h1' hns hsb=>?_) S.kind);dsimp only at hns hsb ⊢;generalize hP:s2.heap.push { cls:=.type "list",dict:=none,data:=.seq ([]:List Value).toArray }=P2 at hns hsb ⊢;have hsz:P2.objs.size=s2.heap.objs.size+1:=by rw[<- hP,Heap.size_push]
 have hDC:s2.heap.objs.size≠P2.objs.size:=by rw[hsz];exact C5 (J6 _)
 have hC:s2.heap.objs.size<=P2.objs.size:=by rw[hsz];exact U3 _
 have keepP:∀b o,P2.get? b=some o->b≠P2.objs.size->h1'.get? b=some o:=fun b o e hb=>hsb.extBut b o hb (A3 _ e);have old:∀b o,s2.heap.get? b=some o->h1'.get? b=some o:=fun b o e=>keepP b o (by rw[<- hP];exact A3 _ e) (C5 (B9 (B5 e) hC));have hD0:h1'.get? s2.heap.objs.size=some { cls:=.type "list",data:=.seq #[] 0 }:=keepP _ _ (by rw[<- hP];exact C7 _ rfl) hDC
 have I4:Inv (jR X N' scope P2.objs.size s2 H2 fp pins) [] (yM cap σ) H2 { s2 with heap:=h1',toks:=s2.toks+([]:List (Str×Value)).length }:=
  HR S I2 f2 fplt hC (by simpa using hns) old
 have loop:∀s4:Shared,s4={ s2 with heap:=h1',toks:=s2.toks+([]:List (Str×Value)).length }->
  codeAny (model X.prog X.w) X.A (.compLoop (.ListComp elt [⟨tg,iter,ifs,0⟩] scope pos) 0 (.ref it) (.ref s2.heap.objs.size) (compEnvC scope (eJ X.env scope.names []) P2.objs.size X.env)) (compPost (model X.prog X.w) X.A X.xe use QQ (.ref s2.heap.objs.size) P2.objs.size) s4:=by
  rintro s4 rfl
  have hfrD:s2.heap.objs.size∉frs X.stack:=fun hb=>by
   obtain⟨_,o,ho,_⟩:=I2.stack.mem hb;exact absurd (B5 ho) (F0 _)
  have cne:∀x c,(eJ X.env scope.names []).lookup x=some c->c<s2.heap.objs.size:=fun x c e=>by
   obtain⟨v,q⟩:=I2.cell x c (S.sub I2.ok x c e);exact q.lt
  have stat:∀{Hx:Hp}{ob:Obj},(∀b∈fp,Hx b=none)->∀b∈fp,oV (jR X N' scope P2.objs.size s2 H2 fp pins) [(s2.heap.objs.size,ob)] Hx b:=fun{Hx ob} hn b hb=>by
   refine⟨hn b hb,C5 (B9 (fplt b hb) hC),I2.stkAll (f2 b hb).2.1 (f2 b hb).2.2.1,.inl hb,fun x c e=>(f2 b hb).2.2.2.2.1 x c (S.sub I2.ok x c e),fun p hp=>?_⟩;rcases List.mem_append.mp hp with z|z
   .exact(f2 b hb).2.2.2.2.2 p z
   .rw[List.mem_singleton.mp z];exact Nat.ne_of_gt (fplt b hb)
  refine QV (fun n s'=>∃(i:Nat)(σ':St)(H':Hp)(acc:List V)(its:List Value)(nn:Nat),Inv (jR X N' scope P2.objs.size s2 H2 fp pins) [] σ' H' s'/\tn i s'.heap/\(∀b∈fp,H' b=none)/\H' s2.heap.objs.size=none /\
   s'.heap.get? s2.heap.objs.size=some { cls:=.type "list",data:=.seq its.toArray nn }/\bB acc its/\acc.length<=sizeLine/\W i n acc σ' H') ?_ m0
   ⟨0,yM cap σ,H2,[],[],0,I4,T.keep _ _ _ st2 fun b _ o e=>old b o e,fun b hb=>(f2 b hb).1,I2.hok.fresh (A7 _),hD0,.nil,E9 _,w0⟩
  rintro n s5 ⟨i,σ',H',acc,its,nn,I5,t5,fr5,d5,g5,va,la,w5⟩
  have I5p:Inv (jR X N' scope P2.objs.size s2 H2 fp pins) [(s2.heap.objs.size,{ cls:=.type "list",data:=.seq its.toArray nn })] σ' H' s5:=I5.pins_of fun p hp=>by
   rw[List.mem_singleton.mp hp];exact⟨g5,d5,hDC,hfrD,fun v z=>by cases z⟩
  rcases turn i n acc σ' H' w5 with⟨stop,q⟩|⟨go,lt,N,hN,step⟩
  .refine thn (T.done (jR X N' scope P2.objs.size s2 H2 fp pins) rfl rfl rfl hc i _ s5 σ' H' _ I5p (stat fr5) t5 stop) fun r s6 ⟨hr,I6⟩=>.inl ⟨hr,?_⟩;have d6:=(I6.pin (s2.heap.objs.size,{ cls:=.type "list",data:=.seq its.toArray nn }) (by simp)).1;have nC:H' P2.objs.size=none:=I6.free;refine post _ _ H' acc s6 hDC (let⟨m,hn,_⟩:=I6.loc;⟨m,hn⟩) (fun h' hs'=>?_) (I2.fpOk hC (by rw[aU hDC.symm];exact nC)) (q _ d5);have up:∀b o,b≠P2.objs.size->s6.heap.get? b=some o->h'.get? b=some o:=fun b o hb e=>hs'.extBut b o hb e;have ltC:∀b o,s2.heap.get? b=some o->b≠P2.objs.size/\b≠s2.heap.objs.size:=fun b o e=>⟨C5 (B9 (B5 e) hC),C5 (B5 e)⟩;have u6:Un (frs X.stack) fp H2 H' s2.heap s6.heap:=I6.base
   have u7:Un (frs X.stack) fp H2 (upd H' s2.heap.objs.size (.lst acc)) s2.heap h':=by
    refine⟨fun b o e n hb hx=>up b o (ltC b o e).1 (u6.keep b o e n hb hx),fun b o e n hb hx=>?_,fun b o e n hx=>?_,fun b o e hx=>?_,fun b xs e=>?_,fun b o u e=>?_,fun b ps e=>?_⟩
    .obtain⟨sl,q⟩:=u6.slot b o e n hb hx;exact⟨sl,up b _ (ltC b o e).1 q⟩
    .rw[aU (ltC b o e).2];exact u6.free b o e n hx
    .obtain⟨o',q⟩:=u6.there b o e hx;exact⟨o',up b o' (ltC b o e).1 q⟩
    .have z:=u6.tups b xs e;rw[aU (aQ z d5)];exact z
    .have z:=u6.frzs b o u e;rw[aU (aQ z d5)];exact z
    .obtain⟨more,z⟩:=u6.tbls b ps e;exact⟨more,by rw[aU (aQ z d5)];exact z⟩
   have ok7:HOk X.prog X.w (upd H' s2.heap.objs.size (.lst acc)) h':=fun b u e=>by
    by_cases hb:b=s2.heap.objs.size
    .subst hb;rw[aT]at e;cases e;exact⟨la,its,nn,va,up _ _ hDC d6⟩
    .rw[aU hb]at e;refine(I6.hok b u e).stay (fun c v hc' z=>up c v ?_ z) (fun c z=>by rw[aU (aQ z d5)];exact z) fun c xs z=>by rw[aU (aQ z d5)];exact z
     rcases hc' with rfl|z
     .exact aQ e nC
     .exact aQ z nC
   have os6:s6.os=s2.os:=I6.os;have ba6:=I6.bare;obtain⟨hh,gg,dd,tt,oo⟩:=s6;subst os6;have z7:=I2.call (s:=s2) (h':=h') (g':=gg) (d':=dd) (t':=tt) (ch:=fp) u7 ok7 ba6 fun b hb=>⟨(f2 b hb).2.2.2.1,(f2 b hb).2.1,(f2 b hb).2.2.2.2.1,(f2 b hb).2.2.2.2.2⟩;exact z7
  .refine thn (T.item (jR X N' scope P2.objs.size s2 H2 fp pins) rfl rfl rfl hc i _ s5 σ' H' _ I5p (stat fr5) t5 go) fun r s6 ⟨u,hr,h6⟩=>.inr ⟨u,hr,?_⟩;refine thn h6 fun _ s7 ⟨x,H7,I7,r7,y7,t7,fr7⟩=>?_;have I7':=I7.pinned (stat fr7) (T.obj _ _ t7)
   have back:∀{σx:St}{Hx:Hp}{sx:Shared},Inv (jR X N' scope P2.objs.size s2 H2 fp pins) ([(s2.heap.objs.size,{ cls:=.type "list",data:=.seq its.toArray nn })]++tK fp s7.heap) σx Hx sx->
    (∀b∈fp,∀o,s7.heap.get? b=some o->sx.heap.get? b=some o)/\(∀b∈fp,Hx b=none)/\sx.heap.get? s2.heap.objs.size=some { cls:=.type "list",data:=.seq its.toArray nn }/\Hx s2.heap.objs.size=none:=fun{σx Hx sx} Ix=>by
    refine⟨fun b hb o e=>(Ix.pin (b,o) (C2 _ (C2 _ (kU hb e)))).1,fun b hb=>?_,?_,?_⟩
    .obtain⟨o,e,_⟩:=T.obj _ _ t7 b hb;exact(Ix.pin (b,o) (C2 _ (C2 _ (kU hb e)))).2.1
    .exact(Ix.pin (s2.heap.objs.size,_) (C2 _ (D2 _ (List.mem_singleton.mpr rfl)))).1
    .exact(Ix.pin (s2.heap.objs.size,{ cls:=.type "list",data:=.seq its.toArray nn }) (C2 _ (D2 _ (List.mem_singleton.mpr rfl)))).2.1
   refine thn (hg _ _ _ _ _ _ s7 σ' H7 x u _ I7' r7 (step x H7 y7)) fun _ s8 ⟨σ8,H8,I8,q8⟩=>?_;refine thn (hif _ _ _ _ _ _ s8 σ8 H8 _ I8 q8) fun b s9 ⟨H9,I9,q9⟩=>?_;rcases q9 with⟨rfl,q9⟩|⟨rfl,n9⟩
   .refine .inl ⟨rfl,thn (he _ _ _ _ _ _ s9 σ8 H9 _ I9 q9) fun uv s10 ⟨v,H10,I10,rv,n10⟩=>?_⟩;obtain⟨m',hm,w10⟩:=hN _ _ _ n10;obtain⟨b1,b2,b3,b4⟩:=back I10;refine wpAny_list_append_plain ⟨nn,b3⟩ (fun h' hp hs'=>?_) (by rw[C0,<- va.length];exact la);obtain⟨n2,e2⟩:=hp;have up:∀b o,b≠s2.heap.objs.size->s10.heap.get? b=some o->h'.get? b=some o:=fun b o hb e=>hs'.extBut b o hb e;have I10':Inv (jR X N' scope P2.objs.size s2 H2 fp pins) [] σ8 H10 s10:=I10.pins_of fun p hp=>absurd hp (by simp);refine⟨m',hm,i+1,σ8,H10,acc++[v],its++[uv],n2,I10'.turned (t':=s10.toks) up b4 hDC (.inr (A7 _)) (fun x c e=>C5 (cne x c e)) (fun p hp=>?_),T.keep _ _ _ t7 fun b hb o e=>up b o (C5 (fplt b hb)) (b1 b hb o e),b2,b4,?_,va.append (.cons rv .nil),?_,w10⟩
    .have hp':p∈X.pn++pins:=by
      rcases List.mem_append.mp hp with z|z
      .exact z
      .exact absurd z (by simp)
     exact C5 (B5 (I2.pin p hp').1)
    .rw[e2];simp
    .rw[B0,C4];exact lt
   .obtain⟨m',hm,w9⟩:=hN _ _ _ n9;obtain⟨b1,b2,b3,b4⟩:=back I9;exact .inr ⟨rfl,m',hm,i+1,σ8,H9,acc,its,nn,I9.pins_of fun p hp=>absurd hp (by simp),T.keep _ _ _ t7 b1,b2,b4,b3,va,la,w9⟩
 exact codeAny_compStart_list (loop _ rfl) (T.self _ 0 _ _ _ (T.keep _ _ _ st2 fun b _ o e=>old b o e) (loop _ rfl))
theorem aBB{elt tg iter:Expr}{ifs:List Expr}{pos:Pos}{wi:TI}{g:TG}{tc:TT}{te:TE}(hc:X.calm=true)(S:pH X N' cap scope)(hi:PI X tg iter wi)
 (hg:∀C s H fp pn,PG (jR X N' scope C s H fp pn) tg g) (hif:∀C s H fp pn,KQ (jR X N' scope C s H fp pn) ifs tc) (he:∀C s H fp pn,PE (jR X N' scope C s H fp pn) elt te)
 (hs:∀x,foldedSetIterable iter X.env x=pure x:=by intro _;rfl):PE X (.ListComp elt [⟨tg,iter,ifs,0⟩] scope pos) (tLc cap wi g tc te):=by
 intro pins s σ H Q I h;rw[eval_ListComp];refine MQ (use:=none) (Q:=Q) hc S hi hg hif he hs I h fun D C H' acc s' hDC ⟨m,hn⟩ hI _ hq=>⟨m,hn,fun h' hs'=>?_⟩;exact⟨.ref D,_,hI h' hs',rfl,hq⟩
theorem JG{i:Nat}{x:Str}{elt tg iter:Expr}{ifs:List Expr}{pos pos' pos'':Pos}{wi:TI}{g:TG}{tc:TT}{te:TE}(hN:X.N.Nodup)(hix:X.N[i]?=some x)(hc:X.calm=true)(S:pH X N' cap scope)(hi:PI X tg iter wi)
 (hg:∀C s H fp pn,PG (jR X N' scope C s H fp pn) tg g) (hif:∀C s H fp pn,KQ (jR X N' scope C s H fp pn) ifs tc) (he:∀C s H fp pn,PE (jR X N' scope C s H fp pn) elt te)
 (hsw:swapsWith (.ListComp elt [⟨tg,iter,ifs,0⟩] scope pos) (some (.Name x pos')) pos''.line X.env=pure true:=by rfl) (hx:X.env.scope.names.lookup x=some .local:=by rfl)
 (hs:∀x,foldedSetIterable iter X.env x=pure x:=by intro _;rfl):PS X (.Assign [.Name x pos'] (.ListComp elt [⟨tg,iter,ifs,0⟩] scope pos) pos'') (OG (tLc cap wi g tc te) (yV i)):=by
 intro pins s σ H D I h;rw[exec_Assign_Name_used _ _ _ _ hsw];refine A0 (wpAny_standAt (A0 ?_));show wpAny _ _ (comprehension (.ListComp elt [⟨tg,iter,ifs,0⟩] scope pos) scope X.env _ (newList []) false (firstIter [⟨tg,iter,ifs,0⟩] X.env) (some (assign (.Name x pos') X.env)) >>= fun _=>pure ()) _ _ s;refine A0 (thn (MQ (use:=some (assign (.Name x pos') X.env)) (QQ:=fun _ s'=>∃σ' H',Inv X pins σ' H' s'/\D.nx σ' H') (Q:=fun v H1=>yV i v σ H1 D.nx) hc S hi hg hif he hs I h fun E C H' acc s' hDC ⟨m,hn⟩ hI fC hq=>?_) fun _ s' hz=>B3 (B3 hz));have I1:Inv X pins σ (upd H' E (.lst acc)) s':=hI s'.heap (Heap.SameBut.refl ..);have I1:Inv X pins σ (upd H' E (.lst acc)) s':=I1;refine wpAny_assign_Name (vT (M:=model X.prog X.w) (A:=X.A) (E:=X.xe) I1 hN hix (.inl hx) (v:=.ref E) (u:=.ref E) rfl (fun s2 I2 hsb=>?_) (.inr hx));obtain⟨a,hs2,ha⟩:=hsb
 have hne:C≠a:=by
  rcases ha with z|z
  .rw[z];exact fC.2.1
  .exact fun w=>fC.2.2.2.2.1 x a z w.symm
 refine⟨m,hn.extBut hs2.extBut hne,fun h' hs'=>?_⟩;exact⟨_,_,I2.turned (t':=s2.toks) (fun b o hb e=>hs'.extBut b o hb e) fC.1 fC.2.1 fC.2.2.2.1 fC.2.2.2.2.1 fC.2.2.2.2.2,hq⟩
end
noncomputable def aAP:Key->PyData
 |.inl i=>.int i
 |.inr x=>.str x
mutual
noncomputable def Rep(K:Fg)(H:Hp):PyData->V->Prop
 |.none,v=>v=.non
 |.bool b,v=>v=.bl b
 |.int i,v=>v=.int i
 |.str x,v=>v=.str x
 |.list xs,v=>∃a vs,v=.ref a/\SqL K H a vs/\aH K H xs vs
 |.tuple xs,v=>∃a vs,v=.ref a/\SqT K H a vs/\aH K H xs vs
 |.dict kvs,v=>∃a ks,v=.ref a/\H a=some (.dK ks)/\lL K H kvs ks
noncomputable def aH(K:Fg)(H:Hp):List PyData->List V->Prop
 |[],vs=>vs=[]
 |d::ds,vs=>∃v r,vs=v::r/\Rep K H d v/\aH K H ds r
noncomputable def lL(K:Fg)(H:Hp):List (PyData×PyData)->List (Key×V)->Prop
 |[],ks=>ks=[]
 |(k,d)::kvs,ks=>∃k' v r,ks=(k',v)::r/\k=aAP k'/\Rep K H d v/\lL K H kvs r
end
theorem hV.seqT{a:Addr}{xs:List V}(e:hV H H')(h:SqT K H a xs):SqT K H' a xs:=by
 rcases h with h|h
 .refine .inl ?_;rcases h with h|⟨o,h⟩
  .exact .inl (e _ _ h)
  .exact .inr ⟨o,e _ _ h⟩
 .exact .inr h
mutual
theorem Rep.same{K:Fg}{H H':Hp}(e:hV H H'):∀(d:PyData)(v:V),Rep K H d v->Rep K H' d v
 |.none=>fun v h=>h
 |.bool b=>fun v h=>h
 |.int i=>fun v h=>h
 |.str x=>fun v h=>h
 |.list xs=>fun v h=>by
  obtain⟨a,vs,h1,h2,h3⟩:=h;exact⟨a,vs,h1,e.seq h2,aH.same e xs vs h3⟩
 |.tuple xs=>fun v h=>by
  obtain⟨a,vs,h1,h2,h3⟩:=h;exact⟨a,vs,h1,e.seqT h2,aH.same e xs vs h3⟩
 |.dict kvs=>fun v h=>by
  obtain⟨a,ks,h1,h2,h3⟩:=h;exact⟨a,ks,h1,e _ _ h2,lL.same e kvs ks h3⟩
theorem aH.same{K:Fg}{H H':Hp}(e:hV H H'):∀(ds:List PyData)(vs:List V),aH K H ds vs->aH K H' ds vs
 |[]=>fun vs h=>h
 |d::ds=>fun vs h=>by
  obtain⟨v,r,h1,h2,h3⟩:=h;exact⟨v,r,h1,Rep.same e d v h2,aH.same e ds r h3⟩
theorem lL.same{K:Fg}{H H':Hp}(e:hV H H'):∀(kvs:List (PyData×PyData))(ks:List (Key×V)),lL K H kvs ks->lL K H' kvs ks
 |[]=>fun ks h=>h
 |(k,d)::kvs=>fun ks h=>by
  obtain⟨k',v,r,h1,h2,h3,h4⟩:=h;exact⟨k',v,r,h1,h2,Rep.same e d v h3,lL.same e kvs r h4⟩
end
theorem aH.length{K:Fg}{H:Hp}:∀{ds:List PyData}{vs:List V},aH K H ds vs->ds.length=vs.length
 |[],vs=>fun h=>by rw[show vs=[]from h];rfl
 |d::ds,vs=>fun h=>by
  obtain⟨v,r,h1,_,h3⟩:=h;rw[h1,C8,C8,aH.length h3]
theorem aH.get{K:Fg}{H:Hp}:∀{ds:List PyData}{vs:List V}{i:Nat}{v:V},aH K H ds vs->vs[i]?=some v->∃d,ds[i]?=some d/\Rep K H d v
 |[],vs,i,v=>fun h e=>by rw[show vs=[]from h]at e;simp at e
 |d::ds,vs,0,v=>fun h e=>by
  obtain⟨w,r,h1,h2,h3⟩:=h;rw[h1]at e;simp at e;subst e;exact⟨d,rfl,h2⟩
 |d::ds,vs,i+1,v=>fun h e=>by
  obtain⟨w,r,h1,h2,h3⟩:=h;rw[h1]at e;exact aH.get (i:=i) h3 (by simpa using e)
theorem aH.app{K:Fg}{H:Hp}:∀{ds es:List PyData}{vs ws:List V},aH K H ds vs->aH K H es ws->aH K H (ds++es) (vs++ws)
 |[],es,vs,ws=>fun h k=>by rw[show vs=[]from h];exact k
 |d::ds,es,vs,ws=>fun h k=>by
  obtain⟨v,r,h1,h2,h3⟩:=h;exact⟨v,r++ws,by rw[h1];rfl,h2,aH.app h3 k⟩
section
variable{X:Cx}{pins:List (Addr×Obj)}{σ:St}{H:Hp}{s:Shared}
theorem Inv.sysN(I:Inv X pins σ H s):H sysModules=none:=by
 obtain⟨o,es,ep,h,_⟩:=I.mod.sysm;exact(I.bs _ _ h).2
theorem Inv.sysL(I:Inv X pins σ H s){a:Addr}{xs:List V}(h:SqL X.K H a xs):sysModules≠a:=by
 intro e;subst e;have hn:=I.sysN;rcases h with(h|⟨o,h⟩)|⟨o,its,n,hk,_,_,hd,_⟩
 .rw[hn]at h;cases h
 .rw[hn]at h;cases h
 .obtain⟨o',es,ep,h',hd'⟩:=I.mod.sysm;have:=I.mod.kin _ _ hk;rw[h']at this;cases this;rw[hd]at hd';cases hd'
mutual
theorem Rep.reads'(I:Inv X pins σ H s):∀(d:PyData)(v:V)(u:Value),Rep X.K H d v->RelV v u->∃as,Reads s.heap u d as/\sysModules∉as
 |.none=>fun v u r q=>by
  rw[show v=.non from r]at q;rw[show u=Value.none from q];exact⟨_,.none,by simp⟩
 |.bool b=>fun v u r q=>by
  rw[show v=.bl b from r]at q;rw[show u=Value.bool b from q];exact⟨_,.bool b,by simp⟩
 |.int i=>fun v u r q=>by
  rw[show v=.int i from r]at q;obtain⟨t,rfl⟩:=(show ∃t,u=Value.int i t from q);exact⟨_,.int i t,by simp⟩
 |.str x=>fun v u r q=>by
  rw[show v=.str x from r]at q;obtain⟨t,rfl⟩:=(show ∃t,u=Value.str x t from q);exact⟨_,.str x t,by simp⟩
 |.list xs=>fun v u r q=>by
  obtain⟨a,vs,rfl,h2,h3⟩:=r;rw[show u=Value.ref a from q];obtain⟨its,hv,⟨o,n,hg,hc,_,hd⟩,_⟩:=I.list h2;obtain⟨as,ha,hs⟩:=aH.reads' I xs vs its h3 hv;exact⟨_,.list hg hc hd (by simpa using ha),fun z=>(List.mem_cons.mp z).elim (I.sysL h2) hs⟩
 |.tuple xs=>fun v u r q=>by
  obtain⟨a,vs,rfl,h2,h3⟩:=r;rw[show u=Value.ref a from q];obtain⟨its,hv,⟨o,hg,hc,n,hd⟩,_⟩:=I.tuple h2;obtain⟨as,ha,hs⟩:=aH.reads' I xs vs its h3 hv;exact⟨_,.tuple hg hc hd (by simpa using ha),hs⟩
 |.dict kvs=>fun v u r q=>by
  obtain⟨a,ks,rfl,h2,h3⟩:=r;rw[show u=Value.ref a from q];obtain⟨_,hS,vs,hkv,o,es,ep,hg,hex,hd,_,hp,_⟩:=(show cZ X.prog X.w H s.heap a (.dK ks)from I.hok a _ h2);obtain⟨as,bs,h4,h5,n1,n2⟩:=lL.reads' I kvs ks vs es.toList h3 hkv hp;refine⟨_,.dict hg hex.1 hd h4 h5,fun z=>?_⟩;rcases List.mem_append.mp z with z|z
  .rcases List.mem_cons.mp z with z|z
   .rw[z]at hS;simp at hS
   .exact n1 z
  .exact n2 z
theorem aH.reads'(I:Inv X pins σ H s):∀(ds:List PyData)(vs:List V)(us:List Value),aH X.K H ds vs->bB vs us->∃as,ReadsAll s.heap us ds as/\sysModules∉as
 |[]=>fun vs us r q=>by
  rw[show vs=[]from r]at q;cases q;exact⟨_,.nil,by simp⟩
 |d::ds=>fun vs us r q=>by
  obtain⟨v,t,rfl,h2,h3⟩:=r;cases q with
  |cons q1 q2=>
   obtain⟨as,ha,n1⟩:=Rep.reads' I d v _ h2 q1;obtain⟨bs,hb,n2⟩:=aH.reads' I ds t _ h3 q2;exact⟨_,.cons ha hb,fun z=>(List.mem_append.mp z).elim n1 n2⟩
theorem lL.reads'(I:Inv X pins σ H s):∀(kvs:List (PyData×PyData))(ks:List (Key×V))(vs:List (Key×Value))(es:List DictEntry),lL X.K H kvs ks->KV ks vs->Pairs (cW X.prog X.w) es vs->
 ∃as bs,ReadsAll s.heap (es.map (·.key)) (kvs.map (·.1)) as/\ReadsAll s.heap (es.map (·.val)) (kvs.map (·.2)) bs/\sysModules∉as/\sysModules∉bs
 |[]=>fun ks vs es r q p=>by
  rw[show ks=[]from r]at q;cases q;cases p;exact⟨_,_,.nil,.nil,by simp,by simp⟩
 |(k,d)::kvs=>fun ks vs es r q p=>by
  obtain⟨k',v,t,rfl,h1,h2,h3⟩:=r;cases q with
  |@cons _ kv _ vs' q1 q2=>
   cases p with
   |@cons e _ es' _ p1 p2 p3=>
    obtain⟨as,bs,ha,hb,n1,n2⟩:=lL.reads' I kvs t _ _ h3 q2 p3;obtain⟨cs,hc,n3⟩:=Rep.reads' I d v _ h2 q1.2
    have hkey:Reads s.heap e.key k []:=by
     rw[h1];have p1':sR kv.1 e.key=true:=p1;rw[<- show k'=kv.1 from q1.1]at p1';rcases cN p1' with⟨i,t',rfl,he⟩|⟨x,t',rfl,he⟩
     .rw[he];exact .int i t'
     .rw[he];exact .str x t'
    refine⟨_,_,.cons hkey ha,.cons (show Reads s.heap e.val d cs by rw[p2];exact hc) hb,by simpa using n1,fun z=>(List.mem_append.mp z).elim n3 n2⟩
end
theorem Rep.reads(I:Inv X pins σ H s)(d:PyData)(v:V)(u:Value)(r:Rep X.K H d v)(q:RelV v u):∃as,Reads s.heap u d as:=let⟨as,h,_⟩:=Rep.reads' I d v u r q;⟨as,h⟩
theorem aH.reads(I:Inv X pins σ H s)(ds:List PyData)(vs:List V)(us:List Value)(r:aH X.K H ds vs)(q:bB vs us):∃as,ReadsAll s.heap us ds as:=let⟨as,h,_⟩:=aH.reads' I ds vs us r q;⟨as,h⟩
end
section
variable{X:Cx}
noncomputable def CO(K:Fg)(neg:Bool):R2:=fun x y H Q=>∃dx dy,Rep K H dx x/\Rep K H dy y/\SeqAt.shaped dx=true/\SeqAt.shaped dy=true/\Q (.bl (if neg then !PyData.eqv dx dy else PyData.eqv dx dy)) H
theorem KP(hu:X.A.units+64<cLine):OpR X (compareOp .Eq) (CO X.K false):=by
 intro pins s σ H x y v u Q I rx ry h;obtain⟨dx,dy,hx,hy,sx,sy,q⟩:=h;obtain⟨as,ha⟩:=Rep.reads I dx x v hx rx;obtain⟨bs,hb⟩:=Rep.reads I dy y u hy ry;exact eq_dataH ha hb sx sy hu ⟨.bl _,H,I,rfl,q⟩
theorem YH(hu:X.A.units+64<cLine):OpR X (compareOp .NotEq) (CO X.K true):=by
 intro pins s σ H x y v u Q I rx ry h;obtain⟨dx,dy,hx,hy,sx,sy,q⟩:=h;obtain⟨as,ha⟩:=Rep.reads I dx x v hx rx;obtain⟨bs,hb⟩:=Rep.reads I dy y u hy ry;exact ne_dataH ha hb sx sy hu ⟨.bl _,H,I,rfl,q⟩
theorem bB.types:∀{Ts:List String}{its:List Value},bB (Ts.map V.ty) its->its=Ts.map Value.type
 |[],_=>fun h=>by cases h;rfl
 |t::Ts,its=>fun h=>by
  cases h with
  |cons r1 r2=>rw[show _=Value.type t from r1,bB.types r2];rfl
theorem bB.bools:∀{bs:List Bool}{its:List Value},bB (bs.map V.bl) its->its=bs.map Value.bool
 |[],_=>fun h=>by cases h;rfl
 |b::bs,its=>fun h=>by
  cases h with
  |cons r1 r2=>rw[show _=Value.bool b from r1,bB.bools r2];rfl
theorem all_range(bs:List Bool):(List.range bs.length).all (fun i=>bs.getD i false)=bs.all id:=by
 rw[O0];simp only[List.all_eq_true,List.mem_range,id];constructor
 .intro h b hb;obtain⟨i,hi,rfl⟩:=List.mem_iff_getElem.mp hb;have:=h i hi;rw[A9,B4 hi]at this;exact this
 .intro h i hi;rw[A9,B4 hi];exact h _ (J7 hi)
theorem AG{prog:Program}{w:World}{A:Around}{bs:List Bool}:TruthOf prog w A (fun i v=>(bs.map Value.bool).toArray[i]?=some v) (fun i=>bs.getD i false):=by
 intro i v s Q E hP hQ;rw[List.getElem?_toArray,C6]at hP;cases e:bs[i]? with
 |none=>rw[e]at hP;cases hP
 |some b=>
  rw[e]at hP;cases hP;have hb:bs.getD i false=b:=by rw[A9,e];rfl
  have hQ':Q (bs.getD i false) s:=hQ;rw[hb]at hQ';exact J5 hQ'
noncomputable def qM:Nat:=2 ^ 8000
noncomputable def MY(i:Int):Prop:=i.natAbs<qM
theorem yO{j:Int}(h:MY j):j.natAbs.log2<9000:=by
 by_cases h0:j.natAbs=0
 .rw[h0];decide +kernel
 .exact Nat.lt_trans ((Nat.log2_lt h0).mpr h) (by decide)
noncomputable def aBg(i j:Int):Prop:=MY i/\MY j
theorem vU{j:Int}(h:MY j):Builtin.Int.intBits j<=2 ^ 20:=by
 unfold Builtin.Int.intBits;by_cases h0:(j==0)=true
 .rw[A4 h0];exact E9 _
 .rw[A6 h0];have:=yO h;omega
end
structure Callee(P:Program)(w:World)(K:Fg)(mg:Str->Option Value)(base:Heap)(k:Nat)(x:Str)(ps:List Str)(sp:Sp)(q:Bool:=true):Prop where
 ex:∃f fd,oE P w K mg base CX0 k f fd ps sp q/\mg x=some (.ref f)/\PySem.W.keepIn K (.ref f)=true/\Binds K fd ps []
structure Def(K:Fg)(mg:Str->Option Value)(x:Str)(st:Stmt):Prop where
 ex:∃f fd,Fun K x x st f fd/\mg x=some (.ref f)
section
variable{P:Program}{w:World}{K:Fg}{mg:Str->Option Value}{base:Heap}{X:Cx}
theorem Def.ok{x:Str}{st:Stmt}{N ps:List Str}{k:Nat}{sp:Sp}{q:Bool}(D:Def K mg x st)(S:bA N ps (aJ st))
 (hb:∀(kV doc pm:Value)(an:Option Addr)(cdv ct:Value)(us:List Value),us.length=ps.length->bindArgs (PySem.W.fnOf x x (fF st) (cQ st) (aJ st) .none kV doc pm an cdv ct) ⟨us,[]⟩=pure (ps.zip us))
 (len:∀vs H Q E,sp vs H Q E->vs.length=ps.length)
 (hbody:∀(f:Addr)(cdv:Value)(A:Around)(outer:List Env)(s:Shared)(H:Hp)(vs:List V)(Q:VK)(E:XK),eB k (A.deeper (envOfC x (aJ st) s.heap.objs.size f cdv)) q->sp vs H Q E->
  ∃t,PSs (qT CX0 P w K mg base N x (aJ st) f cdv A outer s H E q).nox (cQ st) t/\t { nx:=fun _ H'=>Q .non H',rt:=Q } (start N vs) H):Callee P w K mg base (k+1) x ps sp q:=by
 obtain⟨f,fd,F,m⟩:=D.ex;exact⟨f,fd,F.ok S len fun cdv A outer s H vs Q E hr h=>hbody f cdv A outer s H vs Q E hr h,m,F.kp,F.binds hb⟩
theorem Callee.mono{j k:Nat}{x:Str}{ps:List Str}{sp:Sp}(C:Callee P w K mg base j x ps sp)(h:j<=k):Callee P w K mg base k x ps sp:=by
 obtain⟨f,fd,F,r⟩:=C.ex;exact⟨f,fd,F.mono h,r⟩
theorem def_mk{x:Str}{st:Stmt}{h:Heap}{f:Addr}{oc:Value}{od an:Option Addr}{osl:Array (Option Value)}{kV doc pm cdv ct:Value}(X:K.In h)(G:h.Ns mainGlobals mg)(a:PySem.W.nsIn K mainGlobals x=some (some (.ref f)))
 (l:K.lookup f=some ⟨oc,od,.func (PySem.W.fnOf x x (fF st) (cQ st) (aJ st) .none kV doc pm an cdv ct),osl⟩) (c:PySem.W.codeIn K cdv x=true) (k:PySem.W.keepIn K (.ref f)=true):Def K mg x st:=
 ⟨f,_,XA l c k,PySem.W.mg_of X G a⟩
theorem ZI{k:Nat}{x:Str}{ps:List Str}{sp:Sp}{p pos:Pos}{e:Expr}{es:List Expr}{t:TA}{q:Bool}(C:Callee X.prog X.w X.K X.mg X.base k x ps sp q)(hr:eB k X.A q)(ha:PA X (e::es) t)(hg:Gl X x:=by rfl)
 (hdb:(x==("__debug__":Str))=false:=by decide) (he:starEach (e::es) X.env=(false,eval e X.env)::starEach es X.env:=by rfl) (hpl:(backTo pos (starEach es X.env)).any (·.1)=false:=by rfl):
 PE X (.Call (.Name x p) (e::es) [] pos) (IY sp [] E0 t):=by
 obtain⟨f,fd,F,m,kp,b⟩:=C.ex;exact PK F hr hg m kp b .nil aAi ha hdb he hpl
theorem eB.units1{k:Nat}{A:Around}(r:eB k A):A.in1.units+64<cLine:=by have:=r.un;show A.units+1+64<_;omega
noncomputable def GL(mg:Str->Option Value)(xs:List Str):Prop:=∀x∈xs,mg x=none
theorem GL.of{xs:List Str}(h:GL mg xs)(x:Str)(hx:x∈xs:=by decide +kernel):mg x=none:=h x hx
theorem NJ:GL mg []:=fun _ h=>absurd h (by simp)
theorem dD{x:Str}{xs:List Str}(h:mg x=none)(hr:GL mg xs):GL mg (x::xs):=fun y hy=>(List.mem_cons.mp hy).elim (fun e=>e▸h) (hr y)
noncomputable def yR(i j:Int):Prop:=aAc i j\/aBg i j
theorem yR.ok{i j:Int}(h:yR i j):IntMulOk i j:=by
 rcases h with h|h
 .exact h.ok
 .exact IntMulOk.of_bits (vU h.1) (vU h.2)
theorem QP:OpR X (binaryOp .Mult) (rI yR fun i j=>.int (i*j)):=opI fun _ _ _ _ _ _ _ hc q=>mul_int q hc.ok
noncomputable def SL(_ j:Int):Prop:=0<j/\MY j
theorem KZ:OpR X (binaryOp .FloorDiv) (rI SL fun i j=>.int (i / j)):=opI fun i j _ _ _ _ _ hc q=>by
 refine floordiv_int (Int.ne_of_gt hc.1) ?_ (.inl (PyProof.noPylong_of_log2 (yO hc.2)));rw[Int.fdiv_eq_ediv_of_nonneg _ (Int.le_of_lt hc.1)];exact q
end
noncomputable def SZ(sc0:Scope)(N N':List Str)(cap:List (Option Nat))(scope:Scope):Bool:=
 scope.names.all (fun y=>y.2 != .cell)&&(scope.kind==.function)&&scope.names.all (fun y=>y.2 != .local || scope.names.lookup y.1==some .local) &&
 scope.names.all (fun y=>y.2 != .free || (sc0.names.lookup y.1==some .cell || sc0.names.lookup y.1==some .free))&&(cap.length==N'.length) &&
 (List.range cap.length).all fun i=>match cap[i]? with
  |some (some j)=>(match N'[i]?,N[j]? with
   |some x,some y=>x==y&&scope.names.lookup x==some .free
   |_,_=>false)
  |_=>true
theorem mO{X:Cx}{sc0 scope:Scope}{N N':List Str}{cap:List (Option Nat)}(h1:X.env.scope=sc0)(h2:X.N=N)(h:SZ sc0 N N' cap scope=true):pH X N' cap scope:=by
 unfold SZ at h;simp only[Bool.and_eq_true,List.all_eq_true,beq_iff_eq,bne_iff_ne,ne_eq,Bool.or_eq_true,List.mem_range]at h;obtain⟨⟨⟨⟨⟨a,b⟩,c⟩,d⟩,e⟩,f⟩:=h;refine⟨a,b,fun y hy hk=>?_,fun y hy hk=>?_,e,fun i j hij=>?_⟩
 .rcases c y hy with z|z
  .exact absurd hk z
  .exact z
 .show X.env.scope.names.lookup y.1=_\/X.env.scope.names.lookup y.1=_;rw[h1];rcases d y hy with z|z
  .exact absurd hk z
  .exact z
 .have hi:i<cap.length:=(List.getElem?_eq_some_iff.mp hij).1;have g:=f i hi;rw[hij]at g;dsimp only at g;rw[h2];split at g
  .rename_i x y ex ey;rw[B2,S7,S7]at g;exact⟨x,ex,by rw[ey,g.1],g.2⟩
  .cases g
noncomputable def tyName:PyData->String
 |.none=>"NoneType"
 |.bool _=>"bool"
 |.int _=>"int"
 |.str _=>"str"
 |.list _=>"list"
 |.tuple _=>"tuple"
 |.dict _=>"dict"
noncomputable def asked:List String:=["int","bool","str","list","tuple","dict"]
noncomputable def isT(T S:String):Bool:=T==S || (T=="int"&&S=="bool")
noncomputable def sA(T:String)(d:PyData):Bool:=isT T (tyName d)
noncomputable def aAy(S T:String):Option Bool:=if (Value.type S==Value.type T)=true then some true else if PySem.W.kitMeta T=true then(PySem.fastBuiltinMro S).map (·.contains (Value.type T))else none
theorem NC:(["NoneType","bool","int","str","list","tuple","dict"].all fun S=>asked.all fun T=>aAy S T==some (isT T S))=true:=by decide +kernel
theorem LU{T:String}{d:PyData}(h:T∈asked):PySem.W.kitOne K (.type (tyName d)) (.type T)=some (sA T d):=by
 have e:PySem.W.kitOne K (.type (tyName d)) (.type T)=aAy (tyName d) T:=rfl;rw[e];have hk:=NC;rw[List.all_eq_true]at hk;have h1:=hk (tyName d) (by cases d<;>simp[tyName]);rw[List.all_eq_true]at h1;exact eq_of_beq (h1 T h)
theorem DD{K:Fg}{d:PyData}:∀{Ts:List String},(∀T∈Ts,T∈asked)->PySem.W.kitAny K (.type (tyName d)) (Ts.map Value.type)=some (Ts.any fun T=>sA T d)
 |[]=>fun _=>rfl
 |T::Ts=>fun h=>by
  rw[B8];unfold PySem.W.kitAny;rw[LU (h T B6),S3];cases sA T d with
  |true=>rfl
  |false=>rw[Bool.false_or];exact DD fun U hU=>h U (B1 _ hU)
section
variable{X:Cx}
theorem DJ{pins:List (Addr×Obj)}{σ:St}{H:Hp}{s:Shared}(I:Inv X pins σ H s):∀{d:PyData}{v:V}{u:Value},Rep X.K H d v->RelV v u->∃Hc:Heap->Prop,PySem.W.KitX X.K u (.type (tyName d)) Hc/\Hc s.heap/\u≠.builtin "__main__.__loader__#opaque"
 |.none,v,u=>fun h r=>by
  rw[show v=.non from h]at r;cases (show u=Value.none from r);exact⟨_,PySem.W.kitx_none,True.intro,fun z=>nomatch z⟩
 |.bool b,v,u=>fun h r=>by
  rw[show v=.bl b from h]at r;cases (show u=Value.bool b from r);exact⟨_,PySem.W.kitx_bool,True.intro,fun z=>nomatch z⟩
 |.int i,v,u=>fun h r=>by
  rw[show v=.int i from h]at r;obtain⟨t,q⟩:=(show ∃t,u=Value.int i t from r);cases q;exact⟨_,PySem.W.kitx_int,True.intro,fun z=>nomatch z⟩
 |.str x,v,u=>fun h r=>by
  rw[show v=.str x from h]at r;obtain⟨t,q⟩:=(show ∃t,u=Value.str x t from r);cases q;exact⟨_,PySem.W.kitx_str,True.intro,fun z=>nomatch z⟩
 |.list xs,v,u=>fun h r=>by
  obtain⟨a,vs,rfl,h2,_⟩:=h;cases (show u=Value.ref a from r);obtain⟨its,hv,⟨o,n,hg,hc,_,hd⟩,_⟩:=I.list h2;exact⟨_,PySem.W.kitx_list,⟨o,hg,hc⟩,fun z=>nomatch z⟩
 |.tuple xs,v,u=>fun h r=>by
  obtain⟨a,vs,rfl,h2,_⟩:=h;cases (show u=Value.ref a from r);obtain⟨its,hv,⟨o,hg,hc,n,hd⟩,_⟩:=I.tuple h2;exact⟨_,PySem.W.kitx_tuple,⟨o,hg,hc⟩,fun z=>nomatch z⟩
 |.dict kvs,v,u=>fun h r=>by
  obtain⟨a,ks,rfl,h2,_⟩:=h;cases (show u=Value.ref a from r);obtain⟨_,_,vs,_,o,es,ep,h1,hx,_⟩:=(show cZ X.prog X.w H s.heap a (.dK ks)from I.hok a _ h2);exact⟨_,PySem.W.kitx_dict,⟨o,h1,hx.1⟩,fun z=>nomatch z⟩
noncomputable def YC(K:Fg):List V->Hp->VK->Prop:=fun xs H Q=>∃x T d,xs=[x,.ty T]/\T∈asked/\Rep K H d x/\Q (.bl (sA T d)) H
theorem FI:eU X (.builtin "isinstance") (YC X.K):=by
 intro pins s σ H xs us Q I r h;obtain⟨x,T,d,rfl,hT,hd,q⟩:=h;obtain⟨u,u',rfl,ru,ru'⟩:=vals2 r;cases (show u'=Value.type T from ru');obtain⟨Hc,Z,hh,hne⟩:=DJ I hd ru;exact PySem.W.kia_one Z I.kIn hh (LU hT) hne fun tk=>⟨.bl _,H,I.tok tk,rfl,q⟩
noncomputable def KG(K:Fg):List V->Hp->VK->Prop:=fun xs H Q=>∃(x:V)(p:Addr)(Ts:List String)(d:PyData),xs=[x,.ref p]/\H p=some (.tup (Ts.map V.ty))/\(∀T∈Ts,T∈asked)/\Rep K H d x/\Q (.bl (Ts.any fun T=>sA T d)) H
theorem BX:eU X (.builtin "isinstance") (KG X.K):=by
 intro pins s σ H xs us Q I r h;obtain⟨x,p,Ts,d,rfl,hp,hT,hd,q⟩:=h;obtain⟨u,u',rfl,ru,ru'⟩:=vals2 r;cases (show u'=Value.ref p from ru');obtain⟨_,its,rv,o,hg,hcl,n,hd'⟩:=(show cZ X.prog X.w H s.heap p (.tup (Ts.map V.ty))from I.hok p _ hp);have hits:its=Ts.map Value.type:=bB.types rv;subst hits;obtain⟨oc,od,odt,osl⟩:=o;dsimp only at hcl hd';subst hcl hd';obtain⟨Hc,Z,hh,hne⟩:=DJ I hd ru;exact PySem.W.kia_tup Z I.kIn hh hg (DD hT) hne fun tk=>⟨.bl _,H,I.tok tk,rfl,q⟩
end
theorem hV.upd{p:Addr}{o:HO}(h:H p=none):hV H (upd H p o):=fun b u e=>by rw[aU (aQ e h)];exact e
noncomputable def aR:PyData->Option (List PyData)
 |.list xs=>some xs
 |.tuple xs=>some xs
 |_=>none
theorem kF{K:Fg}{H:Hp}:∀{d:PyData}{v:V}{ds:List PyData},Rep K H d v->aR d=some ds->∃a vs,v=.ref a/\(SqL K H a vs\/SqT K H a vs)/\aH K H ds vs
 |.list xs,v,ds=>fun h e=>by
  obtain⟨a,vs,h1,h2,h3⟩:=h;cases e;exact⟨a,vs,h1,.inl h2,h3⟩
 |.tuple xs,v,ds=>fun h e=>by
  obtain⟨a,vs,h1,h2,h3⟩:=h;cases e;exact⟨a,vs,h1,.inr h2,h3⟩
 |.none,_,_=>fun _ e=>by cases e
 |.bool _,_,_=>fun _ e=>by cases e
 |.int _,_,_=>fun _ e=>by cases e
 |.str _,_,_=>fun _ e=>by cases e
 |.dict _,_,_=>fun _ e=>by cases e
section
variable{X:Cx}{tg:Expr}
noncomputable def RM(K:Fg)(tl:TE):TI:=fun σ H R=>tl σ H fun x H1=>∃a,x=.ref a/\((∃xs,SqL K H1 a xs/\R (Itl K a) H1)\/(∃xs,SqT K H1 a xs/\R (Itt K a) H1))
theorem XZ{l:Expr}{tl:TE}(hl:PE X l tl):PI X tg l (RM X.K tl):=by
 intro pins s σ H R I h;refine thn (hl pins s σ H _ I h) fun v s1 hz=>?_;obtain⟨x,H1,I1,r1,a,e,q1⟩:=hz;subst e;cases r1
 have fp:∀b∈[s1.heap.objs.size],oV X pins H1 b:=fun b hb=>by
  have e:b=s1.heap.objs.size:=List.mem_singleton.mp hb;subst e;exact I1.fpOk (A7 _) (I1.hok.fresh (A7 _))
 rcases q1 with⟨xs,hq,q⟩|⟨xs,hq,q⟩
 .obtain⟨its,rv,p,hz⟩:=I1.list hq;refine wpAny_pyIter_list p.isList ?_;exact⟨s1.heap.objs.size,[s1.heap.objs.size],_,_,H1,rfl,I1.kept (t':=s1.toks) fun b o e=>A3 _ e,FR a _,⟨_,C7 _ rfl,rfl,rfl⟩,fp,q⟩
 .obtain⟨its,rv,p,hz⟩:=I1.tuple hq;refine Y3 (show s1.heap.IsTuple a its.toArray from p) ?_;exact⟨s1.heap.objs.size,[s1.heap.objs.size],_,_,H1,rfl,I1.kept (t':=s1.toks) fun b o e=>A3 _ e,CK a _,⟨_,C7 _ rfl,rfl,rfl⟩,fp,q⟩
end
inductive CD where
 |d (x:PyData)
 |c (n:Nat)
 |t (xs:List (PyData ⊕ Nat))
 |f (kvs:List (List Key×PyData))
inductive Cell where
 |lst (xs:List CD)
 |dk (kvs:List (Key×CD))
 |dt (kvs:List (List Key×CD))
 |obj (nm:Str) (fs:List (Str×CD))
 |exc (fr:Bool) (nm:Str) (fs:List (Str×CD))
 |dead
structure Wd where
 F:Hp
 α:Nat->Addr
 n:Nat
structure Wd.Ext(W W':Wd):Prop where
 ff:hV W.F W'.F
 ln:W.n<=W'.n
 al:∀i,i<W.n->W'.α i=W.α i
theorem Wd.Ext.refl(W:Wd):W.Ext W:=⟨hV.refl _,A7 _,fun _ _=>rfl⟩
theorem Wd.Ext.trans{W1 W2:Wd}(a:W.Ext W1)(b:W1.Ext W2):W.Ext W2:=⟨a.ff.trans b.ff,E5 a.ln b.ln,fun i h=>(b.al i (B9 h a.ln)).trans (a.al i h)⟩
noncomputable def FD(K:Fg)(W:Wd):PyData ⊕ Nat->V->Prop
 |.inl x,v=>Rep K W.F x v
 |.inr i,v=>i<W.n/\v=.ref (W.α i)
noncomputable def cdA:PyData ⊕ Nat->CD
 |.inl x=>.d x
 |.inr i=>.c i
noncomputable def cA(K:Fg)(W:Wd):CD->V->Prop
 |.d x,v=>Rep K W.F x v
 |.c i,v=>i<W.n/\v=.ref (W.α i)
 |.t xs,v=>∃a vs,v=.ref a/\W.F a=some (.tup vs)/\Paired (FD K W) xs vs
 |.f kvs,v=>∃a o us,v=.ref a/\W.F a=some (.frz o (.dT us))/\Paired (fun p q=>p.1=q.1/\Rep K W.F p.2 q.2) kvs us
noncomputable abbrev bS(K:Fg)(W:Wd):List CD->List V->Prop:=Paired (cA K W)
noncomputable def AM(K:Fg)(W:Wd):Option CD->Option V->Prop
 |none,none=>True
 |some x,some v=>cA K W x v
 |_,_=>False
noncomputable abbrev dC(K:Fg)(W:Wd):List (Option CD)->St->Prop:=Paired (AM K W)
noncomputable def WK(K:Fg)(nm:Str):Addr:=match PySem.W.nsIn K mainGlobals nm with
 |some (some (.ref C))=>C
 |_=>0
noncomputable def aBL(a:Addr)(c:Value)(dx:Option Addr)(fr:Bool)(h:Heap):Prop:=∃o vs,h.get? a=some o/\o.cls=c/\o.dict=dx/\o.data=.fields vs/\(fr=true->1<vs.size/\vs[1]?=some .none)
noncomputable def JT(K:Fg)(W:Wd)(dx:Option Addr)(fs:List (Str×CD)):Prop:=match dx with
 |none=>fs=[]
 |some d=>fs≠[]/\∃us,W.F d=some (.xd us)/\Paired (fun p q=>p.1=q.1/\cA K W p.2 q.2) fs us
noncomputable def HK(K:Fg)(W:Wd)(a:Addr):Cell->HO->Prop
 |.lst xs,.lst vs=>bS K W xs vs
 |.dk kvs,.dK us=>Paired (fun p q=>p.1=q.1/\cA K W p.2 q.2) kvs us
 |.dt kvs,.dT us=>Paired (fun p q=>p.1=q.1/\cA K W p.2 q.2) kvs us
 |.obj nm fs,.ins C _ us=>C=WK K nm/\Paired (fun p q=>p.1=q.1/\cA K W p.2 q.2) fs us
 |.exc fr nm fs,.ext φ=>∃dx,φ=aBL a (.ref (WK K nm)) dx fr/\JT K W dx fs
 |_,_=>False
structure Good(K:Fg)(W:Wd)(M:List Cell)(H:Hp):Prop where
 fh:hV W.F H
 n:W.n=M.length
 cs:∀i c,M[i]?=some c->c≠.dead->W.F (W.α i)=none/\∃o,H (W.α i)=some o/\HK K W (W.α i) c o
 inj:∀i j c c',M[i]?=some c->M[j]?=some c'->c≠.dead->c'≠.dead->W.α i=W.α j->i=j
section
variable{K:Fg}{W W':Wd}{M M':List Cell}{H H':Hp}
theorem FD.up{x:PyData ⊕ Nat}{v:V}(h:FD K W x v)(e:W.Ext W'):FD K W' x v:=by
 cases x with
 |inl x=>exact Rep.same e.ff _ _ h
 |inr i=>exact⟨B9 h.1 e.ln,by rw[e.al i h.1];exact h.2⟩
theorem cA.up{x:CD}{v:V}(h:cA K W x v)(e:W.Ext W'):cA K W' x v:=by
 cases x with
 |d x=>exact Rep.same e.ff _ _ h
 |c i=>exact⟨B9 h.1 e.ln,by rw[e.al i h.1];exact h.2⟩
 |t xs=>
  obtain⟨a,vs,h1,h2,h3⟩:=h;exact⟨a,vs,h1,e.ff _ _ h2,Paired.mapP h3 fun _ _ r=>FD.up r e⟩
 |f kvs=>
  obtain⟨a,o,us,h1,h2,h3⟩:=h;exact⟨a,o,us,h1,e.ff _ _ h2,Paired.mapP h3 fun _ _ r=>⟨r.1,Rep.same e.ff _ _ r.2⟩⟩
theorem bS.up{xs:List CD}{vs:List V}(h:bS K W xs vs)(e:W.Ext W'):bS K W' xs vs:=Paired.mapP h fun _ _ r=>cA.up r e
theorem dC.up{γ:List (Option CD)}{σ:St}(h:dC K W γ σ)(e:W.Ext W'):dC K W' γ σ:=Paired.mapP h fun a b r=>by
 cases a<;>cases b
 .exact True.intro
 .exact False.elim r
 .exact False.elim r
 .exact cA.up r e
theorem JT.up{dx:Option Addr}{fs:List (Str×CD)}(h:JT K W dx fs)(e:W.Ext W'):JT K W' dx fs:=by
 cases dx with
 |none=>exact h
 |some d=>
  obtain⟨h0,us,h1,h2⟩:=h;exact⟨h0,us,e.ff _ _ h1,Paired.mapP h2 fun _ _ r=>⟨r.1,cA.up r.2 e⟩⟩
theorem HK.up{a:Addr}{c:Cell}{o:HO}(h:HK K W a c o)(e:W.Ext W'):HK K W' a c o:=by
 cases c<;>cases o<;>first|exact(let⟨dx,h1,h2⟩:=h;⟨dx,h1,h2.up e⟩)|exact False.elim h|exact bS.up h e|exact Paired.mapP h fun _ _ r=>⟨r.1,cA.up r.2 e⟩|exact⟨h.1,Paired.mapP h.2 fun _ _ r=>⟨r.1,cA.up r.2 e⟩⟩
theorem Good.lay(g:Good K W M H){p:Addr}{o:HO}(hp:H p=none):W.Ext { W with F:=upd W.F p o }/\Good K { W with F:=upd W.F p o } M (upd H p o):=by
 have fp:W.F p=none:=g.fh.free hp;have e:W.Ext { W with F:=upd W.F p o }:=⟨hV.upd fp,A7 _,fun _ _=>rfl⟩;refine⟨e,?_,g.n,fun i c hi hc=>?_,g.inj⟩
 .intro b u hb;have hb:upd W.F p o b=some u:=hb;by_cases q:b=p
  .subst q;rw[aT]at hb;rw[aT];exact hb
  .rw[aU q]at hb;rw[aU q];exact g.fh b u hb
 .obtain⟨h1,o',h2,h3⟩:=g.cs i c hi hc;have ne:W.α i≠p:=aQ h2 hp;exact⟨by show upd W.F p o (W.α i)=none;rw[aU ne];exact h1,o',by rw[aU ne];exact h2,h3.up e⟩
noncomputable def Wd.more(W:Wd)(p:Addr):Wd:={ W with α:=fun i=>if i=W.n then p else W.α i,n:=W.n+1 }
theorem Wd.ext_more(W:Wd)(p:Addr):W.Ext (W.more p):=⟨hV.refl _,U3 _,fun i h=>A6 (C5 h)⟩
theorem Good.new(g:Good K W M H){p:Addr}{c:Cell}{o:HO}(hp:H p=none)(r:HK K W p c o):Good K (W.more p) (M++[c]) (upd H p o):=by
 have e:=W.ext_more p
 have at_:∀i c',(M++[c])[i]?=some c'->(i<M.length/\M[i]?=some c')\/(i=M.length/\c'=c):=fun i c' h=>by
  by_cases q:i<M.length
  .rw[L4 q]at h;exact .inl ⟨q,h⟩
  .rw[C1 (Nat.le_of_not_lt q)]at h
   have h':i-M.length=0:=by
    cases k:i-M.length with
    |zero=>rfl
    |succ m=>rw[k]at h;simp at h
   rw[h']at h;refine .inr ⟨by omega,?_⟩;simpa using h.symm
 have al:∀i,i<M.length->(W.more p).α i=W.α i:=fun i h=>e.al i (by rw[g.n];exact h);have an:(W.more p).α M.length=p:=by show(if M.length=W.n then p else _)=p;rw[A4 g.n.symm]
 have nep:∀i c',M[i]?=some c'->c'≠.dead->W.α i≠p:=fun i c' h hc=>by
  obtain⟨_,o',h2,_⟩:=g.cs i c' h hc;exact aQ h2 hp
 refine⟨?_,?_,fun i c' hi hc=>?_,fun i j c1 c2 hi hj d1 d2 he=>?_⟩
 .intro b u hb;have:=g.fh b u hb;rw[aU (aQ this hp)];exact this
 .show W.n+1=_;rw[g.n,B0];rfl
 .rcases at_ i c' hi with⟨q,h⟩|⟨rfl,rfl⟩
  .obtain⟨h1,o',h2,h3⟩:=g.cs i c' h hc;rw[al i q];exact⟨h1,o',by rw[aU (nep i c' h hc)];exact h2,h3.up e⟩
  .rw[an];exact⟨g.fh.free hp,o,aT,r.up e⟩
 .rcases at_ i c1 hi with⟨q,h⟩|⟨rfl,rfl⟩
  .rcases at_ j c2 hj with⟨q',h'⟩|⟨rfl,rfl⟩
   .rw[al i q,al j q']at he;exact g.inj i j c1 c2 h h' d1 d2 he
   .rw[al i q,an]at he;exact absurd he (nep i c1 h d1)
  .rcases at_ j c2 hj with⟨q',h'⟩|⟨rfl,rfl⟩
   .rw[an,al j q']at he;exact absurd he.symm (nep j c2 h' d2)
   .rfl
theorem Good.set(g:Good K W M H){i:Nat}{c c':Cell}{o':HO}(hi:M[i]?=some c)(hc:c≠.dead)(r:HK K W (W.α i) c' o'):Good K W (M.set i c') (upd H (W.α i) o'):=by
 obtain⟨h1,o,h2,h3⟩:=g.cs i c hi hc;have lt:i<M.length:=(List.getElem?_eq_some_iff.mp hi).1
 have at_:∀j d,(M.set i c')[j]?=some d->(j=i/\d=c')\/(j≠i/\M[j]?=some d):=fun j d h=>by
  by_cases q:i=j
  .subst q;rw[L9 lt]at h;exact .inl ⟨rfl,(C9 h).symm⟩
  .rw[O6 q]at h;exact .inr ⟨fun z=>q z.symm,h⟩
 refine⟨?_,by rw[g.n,S5],fun j d hj hd=>?_,fun j k d1 d2 hj hk e1 e2 he=>?_⟩
 .intro b u hb;rw[aU (aQ hb h1)];exact g.fh b u hb
 .rcases at_ j d hj with⟨rfl,rfl⟩|⟨q,h⟩
  .exact⟨h1,o',aT,r⟩
  .obtain⟨k1,u,k2,k3⟩:=g.cs j d h hd;have ne:W.α j≠W.α i:=fun z=>q (g.inj j i d c h hi hd hc z);exact⟨k1,u,by rw[aU ne];exact k2,k3⟩
 .rcases at_ j d1 hj with⟨rfl,rfl⟩|⟨q,h⟩<;>rcases at_ k d2 hk with⟨rfl,rfl⟩|⟨q',h'⟩
  .rfl
  .exact g.inj _ k c d2 hi h' hc e2 he
  .exact g.inj j _ d1 c h hi e1 hc he
  .exact g.inj j k d1 d2 h h' e1 e2 he
end
noncomputable abbrev Ga:=List (Option CD)
noncomputable abbrev Sto:=List Cell
noncomputable abbrev EF:=Ga->Sto->Option (CD×Sto)
noncomputable abbrev TF:=Ga->Sto->Option (Bool×Sto)
noncomputable abbrev AF:=Ga->Sto->Option (List CD×Sto)
inductive Out where
 |nx (γ:Ga)|bk (γ:Ga)|ct (γ:Ga)|rt (x:CD)
noncomputable abbrev SF:=Ga->Sto->Option (Out×Sto)
noncomputable abbrev GF:=CD->Ga->Sto->Option (Ga×Sto)
noncomputable abbrev GsF:=List CD->Ga->Sto->Option (Ga×Sto)
noncomputable abbrev F1:=CD->Sto->Option (CD×Sto)
noncomputable abbrev F2:=CD->CD->Sto->Option (CD×Sto)
noncomputable abbrev FN:=List CD->Sto->Option (CD×Sto)
section
variable(K:Fg)
noncomputable def SE(t:TE)(f:EF):Prop:=∀γ M x M',f γ M=some (x,M')->∀(W:Wd)(H:Hp)(σ:St)(Q:VK),Good K W M H->dC K W γ σ->(∀v W' H',W.Ext W'->Good K W' M' H'->cA K W' x v->Q v H')->t σ H Q
noncomputable def STt(t:TT)(f:TF):Prop:=∀γ M b M',f γ M=some (b,M')->∀(W:Wd)(H:Hp)(σ:St)(Q:Bool->Hp->Prop),Good K W M H->dC K W γ σ->(∀W' H',W.Ext W'->Good K W' M' H'->Q b H')->t σ H Q
noncomputable def SA(t:TA)(f:AF):Prop:=∀γ M xs M',f γ M=some (xs,M')->∀(W:Wd)(H:Hp)(σ:St)(Q:List V->Hp->Prop),Good K W M H->dC K W γ σ->(∀vs W' H',W.Ext W'->Good K W' M' H'->bS K W' xs vs->Q vs H')->t σ H Q
noncomputable def TU(D:Ends)(W:Wd)(H:Hp):Out->Prop
 |.nx γ=>∀σ,dC K W γ σ->D.nx σ H
 |.bk γ=>∀σ,dC K W γ σ->D.bk σ H
 |.ct γ=>∀σ,dC K W γ σ->D.ct σ H
 |.rt x=>∀v,cA K W x v->D.rt v H
noncomputable def SS(t:TS)(f:SF):Prop:=∀γ M o M',f γ M=some (o,M')->∀(W:Wd)(H:Hp)(σ:St)(D:Ends),Good K W M H->dC K W γ σ->(∀W' H',W.Ext W'->Good K W' M' H'->TU K D W' H' o)->t D σ H
noncomputable def SG(t:TG)(f:GF):Prop:=∀x γ M γ' M',f x γ M=some (γ',M')->∀(W:Wd)(H:Hp)(σ:St)(v:V)(Q:St->Hp->Prop),Good K W M H->dC K W γ σ->cA K W x v->(∀σ' W' H',W.Ext W'->Good K W' M' H'->dC K W' γ' σ'->Q σ' H')->t v σ H Q
noncomputable def SGs(t:TGs)(f:GsF):Prop:=∀xs γ M γ' M',f xs γ M=some (γ',M')->∀(W:Wd)(H:Hp)(σ:St)(vs:List V)(Q:St->Hp->Prop),Good K W M H->dC K W γ σ->bS K W xs vs->(∀σ' W' H',W.Ext W'->Good K W' M' H'->dC K W' γ' σ'->Q σ' H')->t vs σ H Q
noncomputable def P2(r:R2)(f:F2):Prop:=∀x y M z M',f x y M=some (z,M')->∀(W:Wd)(H:Hp)(v u:V)(Q:VK),Good K W M H->cA K W x v->cA K W y u->(∀w W' H',W.Ext W'->Good K W' M' H'->cA K W' z w->Q w H')->r v u H Q
noncomputable def P1(r:V->Hp->VK->Prop)(f:F1):Prop:=∀x M z M',f x M=some (z,M')->∀(W:Wd)(H:Hp)(v:V)(Q:VK),Good K W M H->cA K W x v->(∀w W' H',W.Ext W'->Good K W' M' H'->cA K W' z w->Q w H')->r v H Q
noncomputable def PN(r:List V->Hp->VK->Prop)(f:FN):Prop:=∀xs M z M',f xs M=some (z,M')->∀(W:Wd)(H:Hp)(vs:List V)(Q:VK),Good K W M H->bS K W xs vs->(∀w W' H',W.Ext W'->Good K W' M' H'->cA K W' z w->Q w H')->r vs H Q
noncomputable def spM(f:FN):Sp:=fun vs H Q _=>∃xs M W y M',Good K W M H/\bS K W xs vs/\f xs M=some (y,M')/\∀v W' H',W.Ext W'->Good K W' M' H'->cA K W' y v->Q v H'
end
noncomputable def aE(i:Nat):EF:=fun γ M=>match γ[i]? with
 |some (some x)=>some (x,M)
 |_=>none
noncomputable def fC(x:PyData):EF:=fun _ M=>some (.d x,M)
noncomputable def fOp(h:F2)(f g:EF):EF:=fun γ M=>(f γ M).bind fun r=>(g γ r.2).bind fun q=>h r.1 q.1 q.2
noncomputable def fUn(h:F1)(f:EF):EF:=fun γ M=>(f γ M).bind fun r=>h r.1 r.2
noncomputable def asB:CD->Option Bool
 |.d (.bool b)=>some b
 |_=>none
noncomputable def jQ(f g:EF):EF:=fun γ M=>(f γ M).bind fun r=>(asB r.1).bind fun b=>if b=true then g γ r.2 else some (.d (.bool false),r.2)
noncomputable def fOr(f g:EF):EF:=fun γ M=>(f γ M).bind fun r=>(asB r.1).bind fun b=>if b=true then some (.d (.bool true),r.2)else g γ r.2
noncomputable def BK(f:EF):EF:=fun γ M=>(f γ M).bind fun r=>(asB r.1).bind fun b=>some (.d (.bool (!b)),r.2)
noncomputable def fIf(t:TF)(f g:EF):EF:=fun γ M=>(t γ M).bind fun r=>if r.1=true then f γ r.2 else g γ r.2
noncomputable def aBU(f g:TF):TF:=fun γ M=>(f γ M).bind fun r=>if r.1=true then g γ r.2 else some (false,r.2)
noncomputable def gOr(f g:TF):TF:=fun γ M=>(f γ M).bind fun r=>if r.1=true then some (true,r.2)else g γ r.2
noncomputable def fB(f:TF):TF:=fun γ M=>(f γ M).bind fun r=>some (!r.1,r.2)
noncomputable def gB(f:EF):TF:=fun γ M=>(f γ M).bind fun r=>(asB r.1).bind fun b=>some (b,r.2)
noncomputable def nP(h h':F2)(f g e:EF):EF:=fun γ M=>(f γ M).bind fun r=>(g γ r.2).bind fun q=>(h r.1 q.1 q.2).bind fun z=>(asB z.1).bind fun b=>if b=true then(e γ z.2).bind fun w=>h' q.1 w.1 w.2 else some (.d (.bool false),z.2)
noncomputable def aG:AF:=fun _ M=>some ([],M)
noncomputable def aB(f:EF)(g:AF):AF:=fun γ M=>(f γ M).bind fun r=>(g γ r.2).bind fun q=>some (r.1::q.1,q.2)
noncomputable def kG:List CD->Option (List PyData)
 |[]=>some []
 |.d x::r=>(kG r).map (x::·)
 |.c _::_=>none
 |.t _::_=>none
 |.f _::_=>none
noncomputable def bE(f:AF):EF:=fun γ M=>(f γ M).bind fun r=>(kG r.1).bind fun ds=>if ds.length<=sizeLine then some (.d (.tuple ds),r.2)else none
noncomputable def gI(f:AF):EF:=fun γ M=>(f γ M).bind fun r=>(kG r.1).bind fun ds=>if ds.length<=sizeLine then some (.d (.list ds),r.2)else none
noncomputable def kS(f:AF):EF:=fun γ M=>(f γ M).bind fun r=>if r.1.length<=sizeLine then some (.c r.2.length,r.2++[.lst r.1])else none
noncomputable def aM(h:FN)(f:AF):EF:=fun γ M=>(f γ M).bind fun r=>h r.1 r.2
noncomputable def cL:SF:=fun γ M=>some (.nx γ,M)
noncomputable def aZ(f g:SF):SF:=fun γ M=>(f γ M).bind fun r=>match r.1 with
 |.nx γ'=>g γ' r.2
 |o=>some (o,r.2)
noncomputable def lC(f:EF):SF:=fun γ M=>(f γ M).bind fun r=>some (.nx γ,r.2)
noncomputable def bU(f:EF):SF:=fun γ M=>(f γ M).bind fun r=>some (.rt r.1,r.2)
noncomputable def aAK:SF:=fun _ M=>some (.rt (.d .none),M)
noncomputable def sIf(c:TF)(f g:SF):SF:=fun γ M=>(c γ M).bind fun r=>if r.1=true then f γ r.2 else g γ r.2
noncomputable def bM(f:EF)(g:GF):SF:=fun γ M=>(f γ M).bind fun r=>(g r.1 γ r.2).bind fun q=>some (.nx q.1,q.2)
noncomputable def hName(i:Nat):GF:=fun x γ M=>some (γ.set i (some x),M)
noncomputable def oB:GsF:=fun xs γ M=>match xs with
 |[]=>some (γ,M)
 |_=>none
noncomputable def dA(f:GF)(g:GsF):GsF:=fun xs γ M=>match xs with
 |x::r=>(f x γ M).bind fun q=>g r q.1 q.2
 |[]=>none
noncomputable def nV(n:Nat)(g:GsF):GF:=fun x γ M=>match x with
 |.d (.tuple ds)=>if ds.length=n then g (ds.map .d) γ M else none
 |.t xs=>if xs.length=n then g (xs.map cdA) γ M else none
 |_=>none
noncomputable abbrev F3:=CD->CD->CD->Sto->Option Sto
noncomputable def hSub(fo fi:EF)(s:F3):GF:=fun x γ M=>(fo γ M).bind fun r=>(fi γ r.2).bind fun q=>(s r.1 q.1 x q.2).bind fun M'=>some (γ,M')
noncomputable def uU(i j:Nat)(f:AF):SF:=fun γ M=>(f γ M).bind fun r=>match r.1 with
 |[x,y]=>some (.nx ((γ.set i (some x)).set j (some y)),r.2)
 |_=>none
noncomputable def eS(g:GF)(b:SF):List CD->Ga->Sto->Option (Out×Sto)
 |[],γ,M=>some (.nx γ,M)
 |x::xs,γ,M=>(g x γ M).bind fun r=>(b r.1 r.2).bind fun q=>match q.1 with
  |.nx γ'=>eS g b xs γ' q.2
  |.ct γ'=>eS g b xs γ' q.2
  |.bk γ'=>some (.nx γ',q.2)
  |.rt x=>some (.rt x,q.2)
noncomputable def jA(f:AF)(g:GF)(b:SF):SF:=fun γ M=>(f γ M).bind fun r=>eS g b r.1 γ r.2
noncomputable def dW(c:TF)(b:SF):Nat->Ga->Sto->Option (Out×Sto)
 |0,_,_=>none
 |n+1,γ,M=>(c γ M).bind fun r=>if r.1=true then(b γ r.2).bind fun q=>match q.1 with
  |.nx γ'=>dW c b n γ' q.2
  |.ct γ'=>dW c b n γ' q.2
  |.bk γ'=>some (.nx γ',q.2)
  |.rt x=>some (.rt x,q.2)else some (.nx γ,r.2)
open Classical in
noncomputable def mG(c:TF)(b:SF):SF:=fun γ M=>if h:∃n,(dW c b n γ M).isSome=true then dW c b h.choose γ M else none
noncomputable def lcF(g:GF)(c:TF)(e:EF):List CD->Ga->Sto->Option (List CD×Sto)
 |[],γ,M=>some ([],M)
 |x::xs,γ,M=>(g x γ M).bind fun a=>(c a.1 a.2).bind fun b=>if b.1=true then(e a.1 b.2).bind fun r=>(lcF g c e xs a.1 r.2).bind fun q=>some (r.1::q.1,q.2)else lcF g c e xs a.1 b.2
noncomputable def BJ(cap:List (Option Nat))(γ:Ga):Ga:=cap.map fun o=>o.bind fun j=>(γ[j]?).join
noncomputable def jP:TF:=fun _ M=>some (true,M)
noncomputable def wO(cap:List (Option Nat))(f:AF)(g:GF)(c:TF)(e:EF):AF:=fun γ M=>(f γ M).bind fun r=>if r.1.length<=sizeLine then lcF g c e r.1 (BJ cap γ) r.2 else none
noncomputable def fLc(cap:List (Option Nat))(f:AF)(g:GF)(c:TF)(e:EF):EF:=gI (wO cap f g c e)
noncomputable def IM(cap:List (Option Nat))(f:AF)(g:GF)(c:TF)(e:EF):EF:=kS (wO cap f g c e)
noncomputable def fnF(ps N:Nat)(b:SF):FN:=fun xs M=>if xs.length=ps then(b (xs.map some++List.replicate (N-xs.length) none) M).bind fun r=>match r.1 with
 |.rt x=>some (x,r.2)
 |.nx _=>some (.d .none,r.2)
 |_=>none else none
theorem aI{α β:Type}{o:Option α}{k:α->Option β}{r:β}(h:o.bind k=some r):∃a,o=some a/\k a=some r:=by
 cases o with
 |none=>cases h
 |some a=>exact⟨a,rfl,h⟩
theorem Paired.get{α β:Type}{R:α->β->Prop}:∀{xs:List α}{ys:List β}{i:Nat}{x:α},Paired R xs ys->xs[i]?=some x->∃y,ys[i]?=some y/\R x y
 |_,_,_,_,.nil=>fun e=>by simp at e
 |_,_,0,_,.cons r _=>fun e=>by simp at e;subst e;exact⟨_,rfl,r⟩
 |_,_,i+1,x,.cons _ t=>fun e=>by
  obtain⟨u,h1,h2⟩:=Paired.get (i:=i) (x:=x) t (by simpa using e);exact⟨u,by simpa using h1,h2⟩
theorem Paired.set{α β:Type}{R:α->β->Prop}{x:α}{y:β}(r:R x y):∀{xs:List α}{ys:List β}(i:Nat),Paired R xs ys->Paired R (xs.set i x) (ys.set i y)
 |_,_,_,.nil=>.nil
 |_,_,0,.cons _ t=>.cons r t
 |_,_,i+1,.cons q t=>.cons q (Paired.set r i t)
theorem Paired.app{α β:Type}{R:α->β->Prop}:∀{xs xs':List α}{ys ys':List β},Paired R xs ys->Paired R xs' ys'->Paired R (xs++xs') (ys++ys')
 |_,_,_,_,.nil=>fun s=>s
 |_,_,_,_,.cons r t=>fun s=>.cons r (Paired.app t s)
theorem Paired.len{α β:Type}{R:α->β->Prop}{xs:List α}{ys:List β}(p:Paired R xs ys):xs.length=ys.length:=Paired.length p
section
variable{K:Fg}
theorem eK{W:Wd}:∀{xs:List CD}{ds:List PyData}{vs:List V},kG xs=some ds->bS K W xs vs->aH K W.F ds vs
 |[],ds,vs=>fun e h=>by
  cases e;cases h;rfl
 |.c _::_,ds,vs=>fun e h=>by cases e
 |.t _::_,ds,vs=>fun e h=>by cases e
 |.f _::_,ds,vs=>fun e h=>by cases e
 |.d x::r,ds,vs=>fun e h=>by
  cases h with
  |@cons _ v _ vs' h1 h2=>
   unfold kG at e;cases q:kG r with
   |none=>rw[q]at e;cases e
   |some es=>
    rw[q]at e;cases e;exact⟨v,vs',rfl,h1,eK q h2⟩
theorem DK{xs:List (PyData ⊕ Nat)}{vs:List V}(h:Paired (FD K W) xs vs):bS K W (xs.map cdA) vs:=by
 induction h with
 |nil=>exact .nil
 |@cons x v _ _ r _ ih=>exact .cons (by cases x<;>exact r) ih
theorem eQ{W:Wd}:∀{ds:List PyData}{vs:List V},aH K W.F ds vs->bS K W (ds.map .d) vs
 |[],vs=>fun h=>by rw[show vs=[]from h];exact .nil
 |d::ds,vs=>fun h=>by
  obtain⟨v,r,rfl,h1,h2⟩:=h;exact .cons h1 (eQ h2)
theorem yX:∀{xs:List CD}{ds:List PyData},kG xs=some ds->ds.length=xs.length
 |[],ds=>fun e=>by cases e;rfl
 |.c _::_,ds=>fun e=>by cases e
 |.t _::_,ds=>fun e=>by cases e
 |.f _::_,ds=>fun e=>by cases e
 |.d x::r,ds=>fun e=>by
  unfold kG at e;cases q:kG r with
  |none=>rw[q]at e;cases e
  |some es=>
   rw[q]at e;cases e;rw[C8,C8,yX q]
theorem UJ{i:Nat}:SE K (aAf i) (aE i):=by
 intro γ M x M' h W H σ Q g r k;unfold aE at h;cases e:γ[i]? with
 |none=>rw[e]at h;cases h
 |some o=>
  cases o with
  |none=>rw[e]at h;cases h
  |some y=>
   rw[e]at h;cases h;obtain⟨v,hv,rv⟩:=Paired.get r e;cases v with
   |none=>exact False.elim rv
   |some v=>exact⟨v,hv,k v W H (.refl _) g rv⟩
theorem NF{i:Int}:SE K (tC (.int i)) (fC (.int i)):=by
 intro γ M x M' h W H σ Q g r k;cases h;exact k _ W H (.refl _) g rfl
theorem aBj{b:Bool}:SE K (tC (.bl b)) (fC (.bool b)):=by
 intro γ M x M' h W H σ Q g r k;cases h;exact k _ W H (.refl _) g rfl
theorem VG:SE K (tC .non) (fC .none):=by
 intro γ M x M' h W H σ Q g r k;cases h;exact k _ W H (.refl _) g rfl
theorem aAa{x:Str}:SE K (tC (.str x)) (fC (.str x)):=by
 intro γ M x M' h W H σ Q g r k;cases h;exact k _ W H (.refl _) g rfl
variable{ta tb tc:TE}{f g e:EF}{tt uu:TT}{ft gt:TF}{tA:TA}{fa:AF}
theorem EJ{r:R2}{h:F2}(p:P2 K r h)(a:SE K ta f)(b:SE K tb g):SE K (tOp r ta tb) (fOp h f g):=by
 intro γ M x M' hh W H σ Q G R k;obtain⟨⟨y,M1⟩,h1,hh⟩:=aI hh;obtain⟨⟨z,M2⟩,h2,hh⟩:=aI hh;refine a _ _ _ _ h1 W H σ _ G R fun v W1 H1 e1 G1 r1=>?_;refine b _ _ _ _ h2 W1 H1 σ _ G1 (R.up e1) fun u W2 H2 e2 G2 r2=>?_;exact p _ _ _ _ _ hh W2 H2 v u Q G2 (r1.up e2) r2 fun w W3 H3 e3 G3 r3=>k w W3 H3 ((e1.trans e2).trans e3) G3 r3
theorem aBF{r:V->Hp->VK->Prop}{h:F1}(p:P1 K r h)(a:SE K ta f):SE K (tUn r ta) (fUn h f):=by
 intro γ M x M' hh W H σ Q G R k;obtain⟨⟨y,M1⟩,h1,hh⟩:=aI hh;refine a _ _ _ _ h1 W H σ _ G R fun v W1 H1 e1 G1 r1=>?_;exact p _ _ _ _ hh W1 H1 v Q G1 r1 fun w W3 H3 e3 G3 r3=>k w W3 H3 (e1.trans e3) G3 r3
theorem xV{x:CD}{b:Bool}(h:asB x=some b):x=.d (.bool b):=by
 cases x with
 |c n=>cases h
 |t n=>cases h
 |f n=>cases h
 |d x=>cases x<;>first|cases h;rfl|cases h
theorem WI(a:SE K ta f)(b:SE K tb g):SE K (TN ta tb) (jQ f g):=by
 intro γ M x M' hh W H σ Q G R k;obtain⟨⟨y,M1⟩,h1,hh⟩:=aI hh;obtain⟨c,h2,hh⟩:=aI hh;refine a _ _ _ _ h1 W H σ _ G R fun v W1 H1 e1 G1 r1=>?_;have hy:y=_:=xV h2;subst hy;refine⟨c,r1,?_⟩;cases c with
 |true=>rw[A4 rfl];rw[A4 rfl]at hh;exact b _ _ _ _ hh W1 H1 σ Q G1 (R.up e1) fun w W3 H3 e3 G3 r3=>k w W3 H3 (e1.trans e3) G3 r3
 |false=>
  rw[A6 A8];rw[A6 A8]at hh;cases hh;exact k _ W1 H1 e1 G1 rfl
theorem ZE(a:SE K ta f):SE K (SV ta) (BK f):=by
 intro γ M x M' hh W H σ Q G R k;obtain⟨⟨y,M1⟩,h1,hh⟩:=aI hh;obtain⟨c,h2,hh⟩:=aI hh;refine a _ _ _ _ h1 W H σ _ G R fun v W1 H1 e1 G1 r1=>?_;have hy:y=_:=xV h2;subst hy;cases hh;exact⟨c,r1,k _ W1 H1 e1 G1 rfl⟩
theorem IC{r r':R2}{h h':F2}(p:P2 K r h)(p':P2 K r' h')(a:SE K ta f)(b:SE K tb g)(c:SE K tc e):SE K (IA r r' ta tb tc) (nP h h' f g e):=by
 intro γ M x M' hh W H σ Q G R k;obtain⟨⟨y,M1⟩,h1,hh⟩:=aI hh;obtain⟨⟨z,M2⟩,h2,hh⟩:=aI hh;obtain⟨⟨w,M3⟩,h3,hh⟩:=aI hh;obtain⟨q,h4,hh⟩:=aI hh;refine a _ _ _ _ h1 W H σ _ G R fun v W1 H1 e1 G1 r1=>?_;refine b _ _ _ _ h2 W1 H1 σ _ G1 (R.up e1) fun u W2 H2 e2 G2 r2=>?_;refine p _ _ _ _ _ h3 W2 H2 v u _ G2 (r1.up e2) r2 fun t W3 H3 e3 G3 r3=>?_;have hy:w=_:=xV h4;subst hy;refine⟨q,r3,?_⟩;have e13:=(e1.trans e2).trans e3;cases q with
 |true=>
  rw[A4 rfl];rw[A4 rfl]at hh;obtain⟨⟨m,M4⟩,h5,hh⟩:=aI hh;refine c _ _ _ _ h5 W3 H3 σ _ G3 (R.up e13) fun o W4 H4 e4 G4 r4=>?_;exact p' _ _ _ _ _ hh W4 H4 u o Q G4 (r2.up (e3.trans e4)) r4 fun w W5 H5 e5 G5 r5=>k w W5 H5 ((e13.trans e4).trans e5) G5 r5
 |false=>
  rw[A6 A8];rw[A6 A8]at hh;cases hh;exact k _ W3 H3 e13 G3 rfl
theorem aAR(a:STt K tt ft)(b:STt K uu gt):STt K (tOr tt uu) (gOr ft gt):=by
 intro γ M x M' hh W H σ Q G R k;obtain⟨⟨c,M1⟩,h1,hh⟩:=aI hh;refine a _ _ _ _ h1 W H σ _ G R fun W1 H1 e1 G1=>?_;cases c with
 |true=>rw[A4 rfl];rw[A4 rfl]at hh;cases hh;exact k W1 H1 e1 G1
 |false=>rw[A6 A8];rw[A6 A8]at hh;exact b _ _ _ _ hh W1 H1 σ Q G1 (R.up e1) fun W3 H3 e3 G3=>k W3 H3 (e1.trans e3) G3
theorem VR(a:STt K tt ft):STt K (aAX tt) (fB ft):=by
 intro γ M x M' hh W H σ Q G R k;obtain⟨⟨c,M1⟩,h1,hh⟩:=aI hh;cases hh;exact a _ _ _ _ h1 W H σ _ G R fun W1 H1 e1 G1=>k W1 H1 e1 G1
theorem VE(a:SE K ta f):STt K (tB ta) (gB f):=by
 intro γ M x M' hh W H σ Q G R k;obtain⟨⟨y,M1⟩,h1,hh⟩:=aI hh;obtain⟨c,h2,hh⟩:=aI hh;refine a _ _ _ _ h1 W H σ _ G R fun v W1 H1 e1 G1 r1=>?_;have hy:y=_:=xV h2;subst hy;cases hh;exact⟨_,r1,k W1 H1 e1 G1⟩
theorem PQ(a:SE K ta f):STt K (SY ta) (gB f):=VE a
theorem ZL:SA K HW aG:=by
 intro γ M x M' hh W H σ Q G R k;cases hh;exact k [] W H (.refl _) G .nil
theorem QR(a:SE K ta f)(b:SA K tA fa):SA K (qL ta tA) (aB f fa):=by
 intro γ M x M' hh W H σ Q G R k;obtain⟨⟨y,M1⟩,h1,hh⟩:=aI hh;obtain⟨⟨ys,M2⟩,h2,hh⟩:=aI hh;cases hh;refine a _ _ _ _ h1 W H σ _ G R fun v W1 H1 e1 G1 r1=>?_;exact b _ _ _ _ h2 W1 H1 σ _ G1 (R.up e1) fun vs W2 H2 e2 G2 r2=>k _ W2 H2 (e1.trans e2) G2 (.cons (r1.up e2) r2)
theorem UM(b:SA K tA fa):SE K (YJ tA) (bE fa):=by
 intro γ M x M' hh W H σ Q G R k;obtain⟨⟨ys,M1⟩,h1,hh⟩:=aI hh;obtain⟨ds,h2,hh⟩:=aI hh;by_cases hl:ds.length<=sizeLine
 .rw[A4 hl]at hh;cases hh;refine b _ _ _ _ h1 W H σ _ G R fun vs W1 H1 e1 G1 r1=>?_;have ra:=eK h2 r1;refine⟨by rw[<- ra.length];exact hl,fun p hp=>?_⟩;obtain⟨e2,G2⟩:=G1.lay (o:=.tup vs) hp;exact k _ _ _ (e1.trans e2) G2 ⟨p,vs,rfl,SqT.of aT,aH.same e2.ff _ _ ra⟩
 .rw[A6 hl]at hh;cases hh
theorem WA(b:SA K tA fa):SE K (ZR tA) (gI fa):=by
 intro γ M x M' hh W H σ Q G R k;obtain⟨⟨ys,M1⟩,h1,hh⟩:=aI hh;obtain⟨ds,h2,hh⟩:=aI hh;by_cases hl:ds.length<=sizeLine
 .rw[A4 hl]at hh;cases hh;refine b _ _ _ _ h1 W H σ _ G R fun vs W1 H1 e1 G1 r1=>?_;have ra:=eK h2 r1;refine⟨by rw[<- ra.length];exact hl,fun p hp=>?_⟩;obtain⟨e2,G2⟩:=G1.lay (o:=.lst vs) hp;exact k _ _ _ (e1.trans e2) G2 ⟨p,vs,rfl,SqL.of aT,aH.same e2.ff _ _ ra⟩
 .rw[A6 hl]at hh;cases hh
theorem Good.newV(g:Good K W M H){p:Addr}:cA K (W.more p) (.c M.length) (.ref p):=by
 refine⟨?_,?_⟩
 .show M.length<W.n+1;rw[g.n];exact J6 _
 .show V.ref p=.ref (if M.length=W.n then p else W.α M.length);rw[A4 g.n.symm]
theorem ZF(b:SA K tA fa):SE K (ZR tA) (kS fa):=by
 intro γ M x M' hh W H σ Q G R k;obtain⟨⟨ys,M1⟩,h1,hh⟩:=aI hh;by_cases hl:ys.length<=sizeLine
 .have hh:(if ys.length<=sizeLine then some (CD.c M1.length,M1++[Cell.lst ys])else none)=some (x,M'):=hh;rw[A4 hl]at hh;cases hh;refine b _ _ _ _ h1 W H σ _ G R fun vs W1 H1 e1 G1 r1=>?_;refine⟨by rw[<- Paired.len r1];exact hl,fun p hp=>?_⟩;exact k _ _ _ (e1.trans (W1.ext_more p)) (G1.new hp (c:=.lst ys) (o:=.lst vs) r1) G1.newV
 .have hh:(if ys.length<=sizeLine then some (CD.c M1.length,M1++[Cell.lst ys])else none)=some (x,M'):=hh;rw[A6 hl]at hh;cases hh
theorem SB{h:FN}(b:SA K tA fa):SE K (IY (spM K h) [] E0 tA) (aM h fa):=by
 intro γ M x M' hh W H σ Q G R k;obtain⟨⟨ys,M1⟩,h1,hh⟩:=aI hh;refine b _ _ _ _ h1 W H σ _ G R fun vs W1 H1 e1 G1 r1=>?_;rw[D1];exact⟨ys,M1,W1,x,M',G1,r1,hh,fun v W2 H2 e2 G2 r2=>k v W2 H2 (e1.trans e2) G2 r2⟩
theorem SR{r:List V->Hp->VK->Prop}{h:FN}(p:PN K r h)(b:SA K tA fa):SE K (tCB r tA) (aM h fa):=by
 intro γ M x M' hh W H σ Q G R k;obtain⟨⟨ys,M1⟩,h1,hh⟩:=aI hh;refine b _ _ _ _ h1 W H σ _ G R fun vs W1 H1 e1 G1 r1=>?_;exact p _ _ _ _ hh W1 H1 vs Q G1 r1 fun v W2 H2 e2 G2 r2=>k v W2 H2 (e1.trans e2) G2 r2
end
section
variable{K:Fg}{ta tb tc:TE}{f g e:EF}{tt uu:TT}{ft gt:TF}{tA:TA}{fa:AF}{t u:TS}{p q:SF}{tg:TG}{hg:GF}{tgs:TGs}{hgs:GsF}
theorem RH:SS K TM cL:=by
 intro γ M o M' hh W H σ D G R k;cases hh;exact k W H (.refl _) G σ R
theorem VI(a:SS K t p)(b:SS K u q):SS K (aBp t u) (aZ p q):=by
 intro γ M o M' hh W H σ D G R k;obtain⟨⟨o1,M1⟩,h1,hh⟩:=aI hh;refine a _ _ _ _ h1 W H σ _ G R fun W1 H1 e1 G1=>?_;cases o1 with
 |nx γ1=>
  intro σ1 R1;exact b _ _ _ _ hh W1 H1 σ1 D G1 R1 fun W2 H2 e2 G2=>k W2 H2 (e1.trans e2) G2
 |bk γ1=>cases hh;exact k W1 H1 e1 G1
 |ct γ1=>cases hh;exact k W1 H1 e1 G1
 |rt x=>cases hh;exact k W1 H1 e1 G1
theorem RC(a:SE K ta f):SS K (SX ta) (lC f):=by
 intro γ M o M' hh W H σ D G R k;obtain⟨⟨y,M1⟩,h1,hh⟩:=aI hh;cases hh;exact a _ _ _ _ h1 W H σ _ G R fun v W1 H1 e1 G1 r1=>k W1 H1 e1 G1 σ (R.up e1)
theorem ZH(a:SE K ta f):SS K (aBe ta) (bU f):=by
 intro γ M o M' hh W H σ D G R k;obtain⟨⟨y,M1⟩,h1,hh⟩:=aI hh;cases hh;exact a _ _ _ _ h1 W H σ _ G R fun v W1 H1 e1 G1 r1=>k W1 H1 e1 G1 v r1
theorem aAQ(c:STt K tt ft)(a:SS K t p)(b:SS K u q):SS K (aAW tt t u) (sIf ft p q):=by
 intro γ M o M' hh W H σ D G R k;obtain⟨⟨c1,M1⟩,h1,hh⟩:=aI hh;refine c _ _ _ _ h1 W H σ _ G R fun W1 H1 e1 G1=>?_;cases c1 with
 |true=>rw[A4 rfl];rw[A4 rfl]at hh;exact a _ _ _ _ hh W1 H1 σ D G1 (R.up e1) fun W3 H3 e3 G3=>k W3 H3 (e1.trans e3) G3
 |false=>rw[A6 A8];rw[A6 A8]at hh;exact b _ _ _ _ hh W1 H1 σ D G1 (R.up e1) fun W3 H3 e3 G3=>k W3 H3 (e1.trans e3) G3
theorem CT(a:SE K ta f)(b:SG K tg hg):SS K (OG ta tg) (bM f hg):=by
 intro γ M o M' hh W H σ D G R k;obtain⟨⟨y,M1⟩,h1,hh⟩:=aI hh;obtain⟨⟨γ1,M2⟩,h2,hh⟩:=aI hh;cases hh;refine a _ _ _ _ h1 W H σ _ G R fun v W1 H1 e1 G1 r1=>?_;exact b _ _ _ _ _ h2 W1 H1 σ v _ G1 (R.up e1) r1 fun σ' W2 H2 e2 G2 R2=>k W2 H2 (e1.trans e2) G2 σ' R2
theorem dC.set{σ:St}{x:CD}{v:V}(R:dC K W γ σ)(i:Nat)(r:cA K W x v):dC K W (γ.set i (some x)) (σ.set i (some v)):=Paired.set (R:=AM K W) (show AM K W (some x) (some v)from r) i R
theorem xC{i:Nat}:SG K (yV i) (hName i):=by
 intro x γ M γ' M' hh W H σ v Q G R r k;cases hh;exact k _ W H (.refl _) G (dC.set R i r)
theorem QW:SGs K aBI oB:=by
 intro xs γ M γ' M' hh W H σ vs Q G R r k;cases r with
 |nil=>cases hh;exact⟨rfl,k σ W H (.refl _) G R⟩
 |cons _ _=>cases hh
theorem NU(a:SG K tg hg)(b:SGs K tgs hgs):SGs K (UF tg tgs) (dA hg hgs):=by
 intro xs γ M γ' M' hh W H σ vs Q G R r k;cases r with
 |nil=>cases hh
 |@cons x v xs vs r1 r2=>
  obtain⟨⟨γ1,M1⟩,h1,hh⟩:=aI (show(hg x γ M).bind _=_ from hh);refine⟨v,vs,rfl,a _ _ _ _ _ h1 W H σ v _ G R r1 fun σ1 W1 H1 e1 G1 R1=>?_⟩;exact b _ _ _ _ _ hh W1 H1 σ1 vs _ G1 R1 (bS.up r2 e1) fun σ2 W2 H2 e2 G2 R2=>k σ2 W2 H2 (e1.trans e2) G2 R2
theorem XG{n:Nat}(b:SGs K tgs hgs):SG K (YD K n tgs) (nV n hgs):=by
 intro x γ M γ' M' hh W H σ v Q G R r k;cases x with
 |c _=>cases hh
 |f _=>cases hh
 |t xs=>
  have hh:(if xs.length=n then hgs (xs.map cdA) γ M else none)=some (γ',M'):=hh;by_cases hl:xs.length=n
  .rw[A4 hl]at hh;obtain⟨a,vs,rfl,h2,h3⟩:=r;have hp:=DK h3;exact⟨a,vs,rfl,SqT.of (G.fh _ _ h2),by rw[<- hl];simpa using(Paired.len h3).symm,b _ _ _ _ _ hh W H σ vs Q G R hp k⟩
  .rw[A6 hl]at hh;cases hh
 |d x=>
  cases x with
  |tuple ds=>
   have hh:(if ds.length=n then hgs (ds.map .d) γ M else none)=some (γ',M'):=hh;by_cases hl:ds.length=n
   .rw[A4 hl]at hh;obtain⟨a,vs,rfl,h2,h3⟩:=(show ∃a vs,v=.ref a/\SqT K W.F a vs/\aH K W.F ds vs from r);exact⟨a,vs,rfl,G.fh.seqT h2,by rw[<- h3.length];exact hl,b _ _ _ _ _ hh W H σ vs Q G R (eQ h3) k⟩
   .rw[A6 hl]at hh;cases hh
  |_=>cases hh
noncomputable def P3(K:Fg)(r:V->V->V->Hp->(Hp->Prop)->Prop)(f:F3):Prop:=∀x y z M M',f x y z M=some M'->∀(W:Wd)(H:Hp)(v u w:V)(Q:Hp->Prop),Good K W M H->cA K W x v->cA K W y u->cA K W z w->(∀W' H',W.Ext W'->Good K W' M' H'->Q H')->r v u w H Q
theorem VO{r:RY}{s:F3}(p:P3 K r s)(a:SE K ta f)(b:SE K tb g):SG K (aAO ta tb r) (hSub f g s):=by
 intro x γ M γ' M' hh W H σ v Q G R rv k;obtain⟨⟨o,M1⟩,h1,hh⟩:=aI hh;obtain⟨⟨i,M2⟩,h2,hh⟩:=aI hh;obtain⟨M3,h3,hh⟩:=aI hh;cases hh;refine a _ _ _ _ h1 W H σ _ G R fun v1 W1 H1 e1 G1 r1=>?_;refine b _ _ _ _ h2 W1 H1 σ _ G1 (R.up e1) fun v2 W2 H2 e2 G2 r2=>?_;exact p _ _ _ _ _ h3 W2 H2 v1 v2 v _ G2 (r1.up e2) r2 (rv.up (e1.trans e2)) fun W3 H3 e3 G3=>k σ W3 H3 ((e1.trans e2).trans e3) G3 (R.up ((e1.trans e2).trans e3))
theorem ZG{i j:Nat}(b:SA K tA fa):SS K (aBn i j tA) (uU i j fa):=by
 intro γ M o M' hh W H σ D G R k;obtain⟨⟨ys,M1⟩,h1,hh⟩:=aI hh;refine b _ _ _ _ h1 W H σ _ G R fun vs W1 H1 e1 G1 r1=>?_;rcases r1 with _|⟨a1,_|⟨a2,_|_⟩⟩
 .cases hh
 .cases hh
 .cases hh;exact⟨_,_,rfl,k W1 H1 e1 G1 _ (dC.set (dC.set (R.up e1) i a1) j a2)⟩
 .cases hh
noncomputable def CM(K:Fg)(J:It)(xs:List CD)(W:Wd):Prop:=∀W' M' H',W.Ext W'->Good K W' M' H'->
 (∀i x,xs[i]?=some x->J.go i H'/\∀y H'',J.yld i H' y H''->∃W'',W'.Ext W''/\Good K W'' M' H''/\cA K W'' x y)/\J.stop xs.length H'
noncomputable def SI(K:Fg)(wi:TI)(f:AF):Prop:=∀γ M xs M',f γ M=some (xs,M')->∀(W:Wd)(H:Hp)(σ:St)(R:It->Hp->Prop),Good K W M H->dC K W γ σ->(∀J W' H',W.Ext W'->Good K W' M' H'->CM K J xs W'->R J H')->wi σ H R
noncomputable def eE(f:EF):AF:=fun γ M=>(f γ M).bind fun r=>match r.1 with
 |.d x=>(aR x).bind fun ds=>some (ds.map .d,r.2)
 |_=>none
theorem ZJ(a:SE K ta f):SI K (RM K ta) (eE f):=by
 intro γ M xs M' hh W H σ R G Rs k;obtain⟨⟨y,M1⟩,h1,hh⟩:=aI hh;cases y with
 |c _=>cases hh
 |t _=>cases hh
 |f _=>cases hh
 |d y=>
  obtain⟨ds,h2,hh⟩:=aI (show(aR y).bind _=_ from hh);cases hh;refine a _ _ _ _ h1 W H σ _ G Rs fun v W1 H1 e1 G1 r1=>?_;obtain⟨p,vs,rfl,hs,hr⟩:=kF (show Rep K W1.F y v from r1) h2;refine⟨p,rfl,?_⟩
  have item:∀(i:Nat)(x:CD)(W2:Wd),W1.Ext W2->(ds.map CD.d)[i]?=some x->∃u,vs[i]?=some u/\cA K W2 x u:=fun i x W2 e2 hx=>by
   obtain⟨u,hu,ru⟩:=Paired.get (eQ hr) hx;exact⟨u,hu,ru.up e2⟩
  have hlen:(ds.map CD.d).length=vs.length:=by rw[A1];exact hr.length
  rcases hs with hs|hs
  .refine .inl ⟨vs,G1.fh.seq hs,k _ W1 H1 e1 G1 fun W2 M2 H2 e2 G2=>?_⟩;have hs2:SqL K H2 p vs:=G2.fh.seq (e2.ff.seq hs);refine⟨fun i x hx=>?_,?_⟩
   .obtain⟨u,hu,ru⟩:=item i x W2 e2 hx;refine⟨⟨vs,u,hs2,hu⟩,fun y' H'' hy=>⟨W2,.refl _,by rw[hy.1];exact G2,?_⟩⟩;have:=hy.2 vs hs2;rw[hu]at this;cases this;exact ru
   .rw[hlen];exact⟨vs,hs2,A7 _⟩
  .refine .inr ⟨vs,G1.fh.seqT hs,k _ W1 H1 e1 G1 fun W2 M2 H2 e2 G2=>?_⟩;have hs2:SqT K H2 p vs:=G2.fh.seqT (e2.ff.seqT hs);refine⟨fun i x hx=>?_,?_⟩
   .obtain⟨u,hu,ru⟩:=item i x W2 e2 hx;refine⟨⟨vs,u,hs2,hu⟩,fun y' H'' hy=>⟨W2,.refl _,by rw[hy.1];exact G2,?_⟩⟩;have:=hy.2 vs hs2;rw[hu]at this;cases this;exact ru
   .rw[hlen];exact⟨vs,hs2,A7 _⟩
noncomputable def fN(lo:Int)(n:Nat):List CD:=(List.range n).map fun i=>.d (.int (lo+(i:Nat)))
theorem zQ{lo:Int}{n i:Nat}{x:CD}(h:(fN lo n)[i]?=some x):i<n/\x=.d (.int (lo+i)):=by
 unfold fN at h;rw[C6]at h;by_cases hi:i<n
 .rw[List.getElem?_range hi]at h;exact⟨hi,(C9 h).symm⟩
 .rw[List.getElem?_eq_none_iff.mpr (by simpa using hi)]at h;cases h
noncomputable def cJ(i:Int):Bool:=decide (-(2 ^ 62)<=i)&&decide (i<2 ^ 62)
noncomputable def gS(f:AF):AF:=fun γ M=>(f γ M).bind fun r=>match r.1 with
 |[.d (.int j)]=>if cJ j=true then some (fN 0 j.toNat,r.2)else none
 |_=>none
noncomputable def vK(f:AF):AF:=fun γ M=>(f γ M).bind fun r=>match r.1 with
 |[.d (.int i),.d (.int j)]=>if cJ i=true/\cJ j=true then some (fN i (j-i).toNat,r.2)else none
 |_=>none
theorem vQ{lo:Int}{n:Nat}:CM K (Itr lo n) (fN lo n) W:=fun W' M' H' e G=>
 ⟨fun i x hx=>⟨(zQ hx).1,fun y H'' hy=>⟨W',.refl _,by rw[hy.1];exact G,by rw[(zQ hx).2];exact hy.2⟩⟩,by show n<=_;simp[fN]⟩
theorem eF{i:Int}(h:cJ i=true):-(2 ^ 62)<=i/\i<2 ^ 62:=by
 unfold cJ at h;rw[B2]at h;exact⟨D3 h.1,D3 h.2⟩
theorem OX(b:SA K tA fa):SI K (TY tA) (gS fa):=by
 intro γ M xs M' hh W H σ R G Rs k;obtain⟨⟨ys,M1⟩,h1,hh⟩:=aI hh;refine b _ _ _ _ h1 W H σ _ G Rs fun vs W1 H1 e1 G1 r1=>?_;revert hh;dsimp only;split
 .rename_i j;intro hh;by_cases hs:cJ j=true
  .rw[A4 hs]at hh;cases hh;cases r1 with
   |cons r r'=>
    cases r';exact⟨j,by rw[show _=V.int j from r],(eF hs).1,(eF hs).2,k _ W1 H1 e1 G1 vQ⟩
  .rw[A6 hs]at hh;cases hh
 .intro hh;cases hh
theorem QT(b:SA K tA fa):SI K (SW tA) (vK fa):=by
 intro γ M xs M' hh W H σ R G Rs k;obtain⟨⟨ys,M1⟩,h1,hh⟩:=aI hh;refine b _ _ _ _ h1 W H σ _ G Rs fun vs W1 H1 e1 G1 r1=>?_;revert hh;dsimp only;split
 .rename_i i j;intro hh;by_cases hs:cJ i=true/\cJ j=true
  .rw[A4 hs]at hh;cases hh;cases r1 with
   |cons r r'=>
    cases r' with
    |cons r2 r''=>
     cases r'';exact⟨i,j,by rw[show _=V.int i from r,show _=V.int j from r2],⟨(eF hs.1).1,(eF hs.1).2,(eF hs.2).1,(eF hs.2).2⟩,k _ W1 H1 e1 G1 vQ⟩
  .rw[A6 hs]at hh;cases hh
 .intro hh;cases hh
theorem WQ{wi:TI}(i:SI K wi fa)(a:SG K tg hg)(b:SS K t p):SS K (UQ wi tg t) (jA fa hg p):=by
 intro γ M o M' hh W H σ D G R k;obtain⟨⟨xs,M1⟩,h1,hh⟩:=aI hh;have hh:eS hg p xs γ M1=some (o,M'):=hh;refine i _ _ _ _ h1 W H σ _ G R fun J W1 H1 e1 G1 gv=>?_;refine⟨fun j m σ' H'=>∃γ' M2 W2,j<=xs.length/\m=xs.length-j/\W1.Ext W2/\Good K W2 M2 H'/\dC K W2 γ' σ'/\eS hg p (xs.drop j) γ' M2=some (o,M'),⟨_,γ,M1,W1,E9 _,rfl,.refl _,G1,R.up e1,hh⟩,?_⟩;rintro j m σ' H' ⟨γ',M2,W2,hj,rfl,e2,G2,R2,h2⟩;obtain⟨gv1,gv2⟩:=gv W2 M2 H' e2 G2;by_cases hlt:j<xs.length
 .obtain⟨go,yl⟩:=gv1 j xs[j] (B4 hlt);rw[List.drop_eq_getElem_cons hlt]at h2;refine .inr ⟨go,fun σ3 H3=>∃γ3 M3 W3,W2.Ext W3/\Good K W3 M3 H3/\dC K W3 γ3 σ3/\eS hg p (xs.drop (j+1)) γ3 M3=some (o,M'),?_,fun y H3 hy=>?_⟩
  .rintro σ3 H3 ⟨γ3,M3,W3,e3,G3,R3,h3⟩;exact⟨_,by omega,γ3,M3,W3,hlt,rfl,e2.trans e3,G3,R3,h3⟩
  .obtain⟨W8,e8,G8,ry⟩:=yl y H3 hy;obtain⟨⟨γ4,M4⟩,h4,h2⟩:=aI (show(hg xs[j] γ' M2).bind _=_ from h2);obtain⟨⟨o5,M5⟩,h5,h2⟩:=aI h2;refine a _ _ _ _ _ h4 W8 _ σ' y _ G8 (R2.up e8) ry fun σ4 W4 H4 e4 G4 R4=>?_;refine b _ _ _ _ h5 W4 H4 σ4 _ G4 R4 fun W5 H5 e5 G5=>?_;have e25:=(e8.trans e4).trans e5;cases o5 with
   |nx γ5=>exact fun σ5 R5=>⟨γ5,M5,W5,e25,G5,R5,h2⟩
   |ct γ5=>exact fun σ5 R5=>⟨γ5,M5,W5,e25,G5,R5,h2⟩
   |bk γ5=>cases h2;exact k W5 H5 ((e1.trans e2).trans e25) G5
   |rt x=>cases h2;exact k W5 H5 ((e1.trans e2).trans e25) G5
 .have e:j=xs.length:=by omega
  subst e;rw[List.drop_length]at h2;cases h2;exact .inl ⟨gv2,k W2 H' (e1.trans e2) G2 σ' R2⟩
theorem KW(c:STt K tt ft)(b:SS K t p):SS K (LD tt t) (mG ft p):=by
 intro γ M o M' hh W H σ D G R k;unfold mG at hh;by_cases hex:∃n,(dW ft p n γ M).isSome=true
 .rw[dif_pos hex]at hh;generalize hex.choose=n at hh;refine⟨fun m σ' H'=>∃γ' M2 W2,W.Ext W2/\Good K W2 M2 H'/\dC K W2 γ' σ'/\dW ft p m γ' M2=some (o,M'),⟨n,γ,M,W,.refl _,G,R,hh⟩,?_⟩;rintro m σ' H' ⟨γ',M2,W2,e2,G2,R2,h2⟩;cases m with
  |zero=>cases h2
  |succ m=>
   obtain⟨⟨c3,M3⟩,h3,h2⟩:=aI (show(ft γ' M2).bind _=_ from h2);refine c _ _ _ _ h3 W2 H' σ' _ G2 R2 fun W3 H3 e3 G3=>?_;cases c3 with
   |true=>
    rw[A4 rfl];rw[A4 rfl]at h2;obtain⟨⟨o4,M4⟩,h4,h2⟩:=aI h2;refine⟨fun σ4 H4=>∃γ4 M4 W4,W2.Ext W4/\Good K W4 M4 H4/\dC K W4 γ4 σ4/\dW ft p m γ4 M4=some (o,M'),?_,?_⟩
    .rintro σ4 H4 ⟨γ4,M4,W4,e4,G4,R4,h4⟩;exact⟨m,J6 _,γ4,M4,W4,e2.trans e4,G4,R4,h4⟩
    .refine b _ _ _ _ h4 W3 H3 σ' _ G3 (R2.up e3) fun W5 H5 e5 G5=>?_;have e25:=e3.trans e5;cases o4 with
     |nx γ5=>exact fun σ5 R5=>⟨γ5,M4,W5,e25,G5,R5,h2⟩
     |ct γ5=>exact fun σ5 R5=>⟨γ5,M4,W5,e25,G5,R5,h2⟩
     |bk γ5=>cases h2;exact k W5 H5 (e2.trans e25) G5
     |rt x=>cases h2;exact k W5 H5 (e2.trans e25) G5
   |false=>
    rw[A6 A8];rw[A6 A8]at h2;cases h2;exact k W3 H3 (e2.trans e3) G3 σ' (R2.up e3)
 .rw[dif_neg hex]at hh;cases hh
theorem iY{c:TF}{b:SF}:∀{n m:Nat}{γ:Ga}{M:Sto}{r:Out×Sto},dW c b n γ M=some r->n<=m->dW c b m γ M=some r
 |0,_,_,_,_=>fun h _=>by cases h
 |n+1,0,_,_,_=>fun _ h=>by omega
 |n+1,m+1,γ,M,r=>fun h hl=>by
  obtain⟨⟨b1,M1⟩,h1,h⟩:=aI (show(c γ M).bind _=_ from h);show(c γ M).bind _=_;rw[h1];show(if b1=true then _ else _)=_;cases b1 with
  |false=>exact h
  |true=>
   rw[A4 rfl];rw[A4 rfl]at h;obtain⟨⟨o,M2⟩,h2,h⟩:=aI h;rw[h2];cases o with
   |nx γ'=>exact iY (n:=n) (m:=m) h (by omega)
   |ct γ'=>exact iY (n:=n) (m:=m) h (by omega)
   |bk γ'=>exact h
   |rt x=>exact h
theorem sH{c:TF}{b:SF}{n:Nat}{r:Out×Sto}(h:dW c b n γ M=some r):mG c b γ M=some r:=by
 unfold mG;have hex:∃n,(dW c b n γ M).isSome=true:=⟨n,by rw[h];rfl⟩;rw[dif_pos hex];have hs:=hex.choose_spec;cases q:dW c b hex.choose γ M with
 |none=>rw[q]at hs;cases hs
 |some r'=>
  rcases Nat.le_total n hex.choose with z|z
  .rw[iY h z]at q;exact q.symm▸rfl
  .rw[iY q z]at h;exact h
theorem AY{W:Wd}{γ:Ga}{σ:St}(R:dC K W γ σ):∀cap:List (Option Nat),dC K W (BJ cap γ) (yM cap σ)
 |[]=>.nil
 |none::r=>.cons True.intro (AY R r)
 |some j::r=>by
  refine .cons ?_ (AY R r);show AM K W ((γ[j]?).join) ((σ[j]?).join);cases e:γ[j]? with
  |none=>
   have:σ[j]?=none:=by
    have hl:=Paired.len R;exact List.getElem?_eq_none_iff.mpr (by have:=List.getElem?_eq_none_iff.mp e;omega)
   rw[this];exact True.intro
  |some x=>
   obtain⟨y,hy,r'⟩:=Paired.get R e;rw[hy];exact r'
theorem wU{g:GF}{c:TF}{e:EF}:∀{xs:List CD}{γ:Ga}{M:Sto}{ys:List CD}{M':Sto},lcF g c e xs γ M=some (ys,M')->ys.length<=xs.length
 |[],_,_,_,_=>fun h=>by cases h;exact E9 _
 |x::xs,γ,M,ys,M'=>fun h=>by
  obtain⟨⟨γ1,M1⟩,h1,h⟩:=aI (show(g x γ M).bind _=_ from h);obtain⟨⟨b,M2⟩,h2,h⟩:=aI h;cases b with
  |true=>
   rw[A4 rfl]at h;obtain⟨⟨y,M3⟩,h3,h⟩:=aI h;obtain⟨⟨zs,M4⟩,h4,h⟩:=aI h;cases h;have:=wU h4;simp only[List.length_cons];omega
  |false=>
   rw[A6 A8]at h;have:=wU h;simp only[List.length_cons];omega
theorem IF{wi:TI}{cap:List (Option Nat)}{te:TE}{fe:EF}(i:SI K wi fa)(a:SG K tg hg)(c:STt K tt ft)(b:SE K te fe){xs:List CD}(hh:wO cap fa hg ft fe γ M=some (xs,M'))
 {W:Wd} {H:Hp} {σ:St} {Q:VK} (G:Good K W M H) (R:dC K W γ σ) (k:∀vs W' H',W.Ext W'->Good K W' M' H'->bS K W' xs vs->∀p,H' p=none->Q (.ref p) (upd H' p (.lst vs))):tLc cap wi tg tt te σ H Q:=by
 obtain⟨⟨ys,M1⟩,h1,hh⟩:=aI hh;have hh:(if ys.length<=sizeLine then lcF hg ft fe ys (BJ cap γ) M1 else none)=some (xs,M'):=hh;by_cases hl:ys.length<=sizeLine
 .rw[A4 hl]at hh;refine i _ _ _ _ h1 W H σ _ G R fun J W1 H1 e1 G1 gv=>?_
  refine⟨fun j m acc σ' H'=>∃γ' M2 W2 pre suf,j<=ys.length/\m=ys.length-j/\acc.length<=j/\W1.Ext W2/\Good K W2 M2 H'/\dC K W2 γ' σ'/\bS K W2 pre acc/\pre++suf=xs/\lcF hg ft fe (ys.drop j) γ' M2=some (suf,M'),
   ⟨_,BJ cap γ,M1,W1,[],xs,E9 _,rfl,E9 _,.refl _,G1,AY (R.up e1) cap,.nil,rfl,hh⟩,?_⟩
  rintro j m acc σ' H' ⟨γ',M2,W2,pre,suf,hj,rfl,hacc,e2,G2,R2,rp,hx,h2⟩;obtain⟨gv1,gv2⟩:=gv W2 M2 H' e2 G2;by_cases hlt:j<ys.length
  .obtain⟨go,yl⟩:=gv1 j ys[j] (B4 hlt);rw[List.drop_eq_getElem_cons hlt]at h2;refine .inr ⟨go,by omega,fun acc3 σ3 H3=>∃γ3 M3 W3 pre3 suf3,acc3.length<=j+1/\W2.Ext W3/\Good K W3 M3 H3/\dC K W3 γ3 σ3/\bS K W3 pre3 acc3/\pre3++suf3=xs/\lcF hg ft fe (ys.drop (j+1)) γ3 M3=some (suf3,M'),?_,fun y H3 hy=>?_⟩
   .rintro acc3 σ3 H3 ⟨γ3,M3,W3,pre3,suf3,hl3,e3,G3,R3,rp3,hx3,h3⟩;exact⟨_,by omega,γ3,M3,W3,pre3,suf3,hlt,rfl,hl3,e2.trans e3,G3,R3,rp3,hx3,h3⟩
   .obtain⟨W8,e8,G8,ry⟩:=yl y H3 hy;obtain⟨⟨γ4,M4⟩,h4,h2⟩:=aI (show(hg ys[j] γ' M2).bind _=_ from h2);obtain⟨⟨b5,M5⟩,h5,h2⟩:=aI h2;refine a _ _ _ _ _ h4 W8 _ σ' y _ G8 (R2.up e8) ry fun σ4 W4 H4 e4 G4 R4=>?_;refine c _ _ _ _ h5 W4 H4 σ4 _ G4 R4 fun W5 H5 e5 G5=>?_;have e25:=(e8.trans e4).trans e5;cases b5 with
    |true=>
     rw[A4 rfl]at h2;obtain⟨⟨z,M6⟩,h6,h2⟩:=aI h2;obtain⟨⟨zs,M7⟩,h7,h2⟩:=aI h2;cases h2;refine .inl ⟨rfl,b _ _ _ _ h6 W5 H5 σ4 _ G5 (R4.up e5) fun v W6 H6 e6 G6 r6=>?_⟩;refine⟨γ4,M6,W6,pre++[z],zs,by rw[B0];simp only[List.length_singleton];omega,e25.trans e6,G6,R4.up (e5.trans e6),Paired.app (bS.up rp (e25.trans e6)) (.cons r6 .nil),by rw[<- hx,D9];rfl,h7⟩
    |false=>
     rw[A6 A8]at h2;exact .inr ⟨rfl,γ4,M5,W5,pre,suf,by omega,e25,G5,R4.up e5,bS.up rp e25,hx,h2⟩
  .have e:j=ys.length:=by omega
   subst e;rw[List.drop_length]at h2;cases h2;rw[D1]at hx;subst hx;exact .inl ⟨gv2,k acc W2 H' (e1.trans e2) G2 rp⟩
 .rw[A6 hl]at hh;cases hh
theorem FZ{cap:List (Option Nat)}{fa:AF}{hg:GF}{ft:TF}{fe:EF}{xs:List CD}(hh:wO cap fa hg ft fe γ M=some (xs,M')):xs.length<=sizeLine:=by
 obtain⟨⟨ys,M1⟩,h1,hh⟩:=aI hh;have hh:(if ys.length<=sizeLine then lcF hg ft fe ys (BJ cap γ) M1 else none)=some (xs,M'):=hh;by_cases hl:ys.length<=sizeLine
 .rw[A4 hl]at hh;exact E5 (wU hh) hl
 .rw[A6 hl]at hh;cases hh
theorem aAH{wi:TI}{cap:List (Option Nat)}{te:TE}{fe:EF}(i:SI K wi fa)(a:SG K tg hg)(c:STt K tt ft)(b:SE K te fe):SE K (tLc cap wi tg tt te) (fLc cap fa hg ft fe):=by
 intro γ M x M' hh W H σ Q G R k;obtain⟨⟨ys,M1⟩,h1,hh⟩:=aI hh;obtain⟨ds,h2,hh⟩:=aI hh;by_cases hl:ds.length<=sizeLine
 .rw[A4 hl]at hh;cases hh;refine IF i a c b h1 G R fun vs W1 H1 e1 G1 r1 p hp=>?_;obtain⟨e2,G2⟩:=G1.lay (o:=.lst vs) hp;exact k _ _ _ (e1.trans e2) G2 ⟨p,vs,rfl,SqL.of aT,aH.same e2.ff _ _ (eK h2 r1)⟩
 .rw[A6 hl]at hh;cases hh
theorem XR{wi:TI}{cap:List (Option Nat)}{te:TE}{fe:EF}(i:SI K wi fa)(a:SG K tg hg)(c:STt K tt ft)(b:SE K te fe):SE K (tLc cap wi tg tt te) (IM cap fa hg ft fe):=by
 intro γ M x M' hh W H σ Q G R k;obtain⟨⟨ys,M1⟩,h1,hh⟩:=aI hh;have hh:(if ys.length<=sizeLine then some (CD.c M1.length,M1++[Cell.lst ys])else none)=some (x,M'):=hh;rw[A4 (FZ h1)]at hh;cases hh;refine IF i a c b h1 G R fun vs W1 H1 e1 G1 r1 p hp=>?_;exact k _ _ _ (e1.trans (W1.ext_more p)) (G1.new hp (c:=.lst ys) (o:=.lst vs) r1) G1.newV
theorem UW:STt K aAm jP:=by
 intro γ M x M' hh W H σ Q G R k;cases hh;exact k W H (.refl _) G
theorem bS.some{W:Wd}:∀{xs:List CD}{vs:List V},bS K W xs vs->dC K W (xs.map some) (vs.map some)
 |_,_,.nil=>.nil
 |_,_,.cons r t=>.cons r (bS.some t)
theorem uD{W:Wd}:∀n:Nat,dC K W (List.replicate n none) (List.replicate n none)
 |0=>.nil
 |n+1=>.cons True.intro (uD n)
theorem Def.okM{P:Program}{w:World}{mg:Str->Option Value}{base:Heap}{x:Str}{st:Stmt}{N ps:List Str}{k:Nat}{b:SF}{q:Bool}(D:Def K mg x st)(S:bA N ps (aJ st))
 (hb:∀(kV doc pm:Value)(an:Option Addr)(cdv ct:Value)(us:List Value),us.length=ps.length->bindArgs (PySem.W.fnOf x x (fF st) (cQ st) (aJ st) .none kV doc pm an cdv ct) ⟨us,[]⟩=pure (ps.zip us))
 (hbody:∀(f:Addr)(cdv:Value)(A:Around)(outer:List Env)(s:Shared)(H:Hp)(E:XK),eB k (A.deeper (envOfC x (aJ st) s.heap.objs.size f cdv)) q->
  ∃t,PSs (qT CX0 P w K mg base N x (aJ st) f cdv A outer s H E q).nox (cQ st) t/\SS K t b):Callee P w K mg base (k+1) x ps (spM K (fnF ps.length N.length b)) q:=by
 have len:∀vs H Q E,spM K (fnF ps.length N.length b) vs H Q E->vs.length=ps.length:=fun vs H Q E h=>by
  obtain⟨xs,M,W,y,M',G,R,hf,_⟩:=h;by_cases hl:xs.length=ps.length
  .rw[<- Paired.len R];exact hl
  .unfold fnF at hf;rw[A6 hl]at hf;cases hf
 refine D.ok S hb len fun f cdv A outer s H vs Q E hr h=>?_;obtain⟨t,hP,hS⟩:=hbody f cdv A outer s H E hr;refine⟨t,hP,?_⟩;obtain⟨xs,M,W,y,M',G,R,hf,k⟩:=h;by_cases hl:xs.length=ps.length
 .unfold fnF at hf;rw[A4 hl]at hf;obtain⟨⟨o,M1⟩,h1,hf⟩:=aI hf
  have hR:dC K W (xs.map some++List.replicate (N.length-xs.length) none) (start N vs):=by
   unfold start;rw[<- Paired.len R];exact Paired.app (bS.some R) (uD _)
  refine hS _ _ _ _ h1 W H _ _ G hR fun W1 H1 e1 G1=>?_;cases o with
  |rt x=>cases hf;exact fun v r=>k v W1 H1 e1 G1 r
  |nx γ=>cases hf;exact fun σ r=>k .non W1 H1 e1 G1 rfl
  |bk γ=>cases hf
  |ct γ=>cases hf
 .unfold fnF at hf;rw[A6 hl]at hf;cases hf
end
noncomputable def yU(h h':F2):F2:=fun x y M=>match h x y M with
 |some r=>some r
 |none=>h' x y M
noncomputable def pI(g:Int->Int->Option PyData):F2:=fun x y M=>match x,y with
 |.d (.int i),.d (.int j)=>(g i j).bind fun z=>some (.d z,M)
 |_,_=>none
theorem HX{g:Int->Int->Option PyData}{x y:CD}{z:CD}(h:pI g x y M=some (z,M')):∃i j w,x=.d (.int i)/\y=.d (.int j)/\g i j=some w/\z=.d w/\M'=M:=by
 unfold pI at h;split at h
 .rename_i i j;obtain⟨w,h1,h⟩:=aI h;cases h;exact⟨i,j,w,rfl,rfl,h1,rfl,rfl⟩
 .cases h
section
variable{X:Cx}{K:Fg}
theorem UC{g:Int->Int->Int}:P2 K (rI0 fun i j=>.int (g i j)) (pI fun i j=>some (.int (g i j))):=by
 intro x y M z M' h W H v u Q G rx ry k;obtain⟨i,j,w,rfl,rfl,hw,rfl,rfl⟩:=HX h;cases hw;exact⟨i,j,rx,ry,k _ W H (.refl _) G rfl⟩
theorem ER{g:Int->Int->Bool}:P2 K (rI0 fun i j=>.bl (g i j)) (pI fun i j=>some (.bool (g i j))):=by
 intro x y M z M' h W H v u Q G rx ry k;obtain⟨i,j,w,rfl,rfl,hw,rfl,rfl⟩:=HX h;cases hw;exact⟨i,j,rx,ry,k _ W H (.refl _) G rfl⟩
noncomputable def ifS(c:Bool)(x:PyData):Option PyData:=if c=true then some x else none
theorem YF{c:Bool}{x y:PyData}(h:ifS c x=some y):c=true/\y=x:=by
 unfold ifS at h;cases c with
 |true=>rw[A4 rfl]at h;cases h;exact⟨rfl,rfl⟩
 |false=>rw[A6 A8]at h;cases h
theorem OH{C:Int->Int->Prop}{c:Int->Int->Bool}{g:Int->Int->Int}(hc:∀i j,c i j=true->C i j):P2 K (rI C fun i j=>.int (g i j)) (pI fun i j=>ifS (c i j) (.int (g i j))):=by
 intro x y M z M' h W H v u Q G rx ry k;obtain⟨i,j,w,rfl,rfl,hw,rfl,rfl⟩:=HX h;obtain⟨h1,rfl⟩:=YF hw;exact⟨i,j,rx,ry,hc i j h1,k _ W H (.refl _) G rfl⟩
noncomputable def aAd:F2:=pI fun i j=>some (.int (i+j))
noncomputable def zE:F2:=pI fun i j=>some (.int (i-j))
noncomputable def iQ(i j:Int):Bool:=decide (i.natAbs<2 ^ 64) || decide (j.natAbs<2 ^ 64) || (decide (i.natAbs<qM)&&decide (j.natAbs<qM))
noncomputable def uV:F2:=pI fun i j=>ifS (iQ i j) (.int (i*j))
noncomputable def oX(_ j:Int):Bool:=decide (0<j)&&decide (j.natAbs<qM)
noncomputable def hX:F2:=pI fun i j=>ifS (oX i j) (.int (i / j))
noncomputable def fI(_ j:Int):Bool:=decide (0<j)
noncomputable def eT:F2:=pI fun i j=>ifS (fI i j) (.int (i % j))
noncomputable def IQ(i j:Int):Bool:=decide (0<=j)&&decide (j<=1000000)&&decide (i.natAbs<2 ^ 64)
noncomputable def BY:F2:=pI fun i j=>ifS (IQ i j) (.int (i ^ j.toNat))
theorem mulOk_of{i j:Int}(h:iQ i j=true):yR i j:=by
 unfold iQ at h;simp only[Bool.or_eq_true,Bool.and_eq_true,decide_eq_true_eq]at h;rcases h with(h|h)|h
 .exact .inl (.inl ⟨by omega,by omega⟩)
 .exact .inl (.inr ⟨by omega,by omega⟩)
 .exact .inr h
noncomputable def ltI:F2:=pI fun i j=>some (.bool (decide (i<j)))
noncomputable def leI:F2:=pI fun i j=>some (.bool (decide (i<=j)))
noncomputable def gtI:F2:=pI fun i j=>some (.bool (decide (j<i)))
noncomputable def geI:F2:=pI fun i j=>some (.bool (decide (j<=i)))
noncomputable def eqD(neg:Bool):F2:=fun x y M=>match x,y with
 |.d a,.d b=>if (SeqAt.shaped a&&SeqAt.shaped b)=true then some (.d (.bool (if neg then !PyData.eqv a b else PyData.eqv a b)),M)else none
 |_,_=>none
theorem SJ{neg:Bool}:P2 K (CO K neg) (eqD neg):=by
 intro x y M z M' h W H v u Q G rx ry k;unfold eqD at h;split at h
 .rename_i a b;by_cases hs:(SeqAt.shaped a&&SeqAt.shaped b)=true
  .rw[A4 hs]at h;cases h;rw[B2]at hs;exact⟨a,b,Rep.same G.fh _ _ rx,Rep.same G.fh _ _ ry,hs.1,hs.2,k _ W H (.refl _) G rfl⟩
  .rw[A6 hs]at h;cases h
 .cases h
theorem aH.nth{ds:List PyData}{vs:List V}{i:Nat}{d:PyData}(h:aH K H ds vs)(e:ds[i]?=some d):∃v,vs[i]?=some v/\Rep K H d v:=by
 have hlt:i<vs.length:=by rw[<- h.length];exact(List.getElem?_eq_some_iff.mp e).1
 have hv:vs[i]?=some vs[i]:=B4 hlt;obtain⟨d',hd',r⟩:=h.get hv;rw[e]at hd';cases hd';exact⟨_,hv,r⟩
theorem CL{α:Type}{xs:List α}{i:Int}{x:α}(h:atI xs i=some x):∃j,ixN xs.length i=some j/\xs[j]?=some x:=by
 unfold atI at h;exact aI h
theorem yI{α:Type}{xs:List α}{i:Int}{j:Nat}{x:α}(h:ixN xs.length i=some j)(e:xs[j]?=some x):atI xs i=some x:=by
 unfold atI;rw[h];exact e
noncomputable def ixF:F2:=fun x y M=>match x,y with
 |.d a,.d (.int n)=>(aR a).bind fun ds=>(atI ds n).bind fun e=>some (.d e,M)
 |.c i,.d (.int n)=>match M[i]? with
  |some (.lst xs)=>(atI xs n).bind fun e=>some (e,M)
  |_=>none
 |.t xs,.d (.int n)=>(atI xs n).bind fun e=>some (cdA e,M)
 |_,_=>none
theorem Good.lstAt{i:Nat}{xs:List CD}(G:Good K W M H)(h:M[i]?=some (.lst xs)):∃vs,H (W.α i)=some (.lst vs)/\bS K W xs vs:=by
 obtain⟨_,o,h2,h3⟩:=G.cs i _ h (by intro z;cases z);cases o with
 |lst vs=>exact⟨vs,h2,h3⟩
 |_=>exact False.elim h3
theorem aAv:P2 K (rIx K) ixF:=by
 intro x y M z M' h W H v u Q G rx ry k;unfold ixF at h;split at h
 .rename_i a n;obtain⟨ds,h1,h⟩:=aI h;obtain⟨e,h2,h⟩:=aI h;cases h;obtain⟨p,vs,rfl,hq,hr⟩:=kF (Rep.same G.fh _ _ rx) h1;obtain⟨j,hj,he⟩:=CL h2;obtain⟨w,hw,rw'⟩:=hr.nth he;have hlen:=hr.length;have hat:atI vs n=some w:=yI (by rw[<- hlen];exact hj) hw;obtain⟨p',vs',e',hq',hr'⟩:=kF (show Rep K W.F a (.ref p)from rx) h1;cases e'
  have same:∀w',vs'[j]?=some w'->Rep K W.F e w':=fun w' hw'=>by
   obtain⟨w2,h3,h4⟩:=hr'.nth he;rw[hw']at h3;cases h3;exact h4
  obtain⟨w',hw',r'⟩:=hr'.nth he;have hat':atI vs' n=some w':=yI (by rw[<- hr'.length];exact hj) hw';rcases hq' with hq'|hq'
  .exact .inl ⟨p,vs',n,w',rfl,ry,G.fh.seq hq',hat',k _ W H (.refl _) G r'⟩
  .exact .inr (.inl ⟨p,vs',n,w',rfl,ry,G.fh.seqT hq',hat',k _ W H (.refl _) G r'⟩)
 .rename_i i n;split at h
  .rename_i xs hx;obtain⟨e,h2,h⟩:=aI h;cases h;obtain⟨vs,hv,hr⟩:=G.lstAt hx;obtain⟨j,hj,he⟩:=CL h2;obtain⟨w,hw,r'⟩:=Paired.get hr he;have hat:atI vs n=some w:=yI (by rw[<- Paired.len hr];exact hj) hw;rw[show v=.ref (W.α i)from rx.2];exact .inl ⟨_,vs,n,w,rfl,ry,SqL.of hv,hat,k _ W H (.refl _) G r'⟩
  .cases h
 .rename_i xs n;obtain⟨e,h2,h⟩:=aI h;cases h;obtain⟨a,vs,rfl,hv,hr⟩:=rx;obtain⟨j,hj,he⟩:=CL h2;obtain⟨w,hw,r'⟩:=Paired.get hr he;have hat:atI vs n=some w:=yI (by rw[<- Paired.len hr];exact hj) hw;exact .inr (.inl ⟨_,vs,n,w,rfl,ry,SqT.of (G.fh _ _ hv),hat,k _ W H (.refl _) G (by cases e<;>exact r')⟩)
 .cases h
noncomputable def gN:FN:=fun xs M=>match xs with
 |[.d a]=>(aR a).bind fun ds=>some (.d (.int ds.length),M)
 |[.c i]=>match M[i]? with
  |some (.lst ys)=>some (.d (.int ys.length),M)
  |_=>none
 |[.t xs]=>some (.d (.int xs.length),M)
 |_=>none
theorem WL:PN K (fun xs H Q=>∃p ys,xs=[.ref p]/\(SqL K H p ys\/SqT K H p ys)/\Q (.int ys.length) H) gN:=by
 intro xs M z M' h W H vs Q G r k;unfold gN at h;split at h
 .rename_i a;obtain⟨ds,h1,h⟩:=aI h;cases h;rcases r with _|⟨r1,_|_⟩;obtain⟨p,us,rfl,hq,hr⟩:=kF (Rep.same G.fh _ _ r1) h1;refine⟨p,us,rfl,hq,?_⟩;rw[<- hr.length];exact k _ W H (.refl _) G rfl
 .rename_i i;split at h
  .rename_i ys hy;cases h;rcases r with _|⟨r1,_|_⟩;obtain⟨us,hv,hr⟩:=G.lstAt hy;rw[r1.2];refine⟨_,us,rfl,.inl (SqL.of hv),?_⟩;rw[<- Paired.len hr];exact k _ W H (.refl _) G rfl
  .cases h
 .rename_i xs;cases h;rcases r with _|⟨r1,_|_⟩;obtain⟨a,us,rfl,hv,hr⟩:=r1;refine⟨_,us,rfl,.inr (SqT.of (G.fh _ _ hv)),?_⟩;rw[<- Paired.len hr];exact k _ W H (.refl _) G rfl
 .cases h
noncomputable def listF:FN:=fun xs M=>match xs with
 |[.d a]=>(aR a).bind fun ds=>some (.d (.list ds),M)
 |[.c i]=>match M[i]? with
  |some (.lst ys)=>(kG ys).bind fun ds=>some (.d (.list ds),M)
  |_=>none
 |_=>none
noncomputable def fV:FN:=fun xs M=>match xs with
 |[.d (.list ds)]=>some (.d (.tuple ds),M)
 |[.d (.tuple ds)]=>some (.d (.tuple ds),M)
 |[.c i]=>match M[i]? with
  |some (.lst ys)=>(kG ys).bind fun ds=>some (.d (.tuple ds),M)
  |_=>none
 |_=>none
theorem LX:PN K (fun xs H Q=>∃p ys,xs=[.ref p]/\((SqL K H p ys/\∀l,H l=none->Q (.ref l) (upd H l (.tup ys)))\/(SqT K H p ys/\Q (.ref p) H))) fV:=by
 intro xs M z M' h W H vs Q G r k;unfold fV at h;split at h
 .rename_i ds;cases h;rcases r with _|⟨r1,_|_⟩;obtain⟨p,us,rfl,hq,hr⟩:=(show ∃a us,_=V.ref a/\SqL K W.F a us/\aH K W.F ds us from r1);refine⟨p,us,rfl,.inl ⟨G.fh.seq hq,fun l hl=>?_⟩⟩;obtain⟨e2,G2⟩:=G.lay (o:=.tup us) hl;exact k _ _ _ e2 G2 ⟨l,us,rfl,SqT.of aT,aH.same e2.ff _ _ hr⟩
 .rename_i ds;cases h;rcases r with _|⟨r1,_|_⟩;obtain⟨p,us,rfl,hq,hr⟩:=(show ∃a us,_=V.ref a/\SqT K W.F a us/\aH K W.F ds us from r1);exact⟨p,us,rfl,.inr ⟨G.fh.seqT hq,k _ W H (.refl _) G ⟨p,us,rfl,hq,hr⟩⟩⟩
 .rename_i i;split at h
  .rename_i ys hy;obtain⟨ds,h1,h⟩:=aI h;cases h;rcases r with _|⟨r1,_|_⟩;obtain⟨us,hv,hr⟩:=G.lstAt hy;rw[r1.2];refine⟨_,us,rfl,.inl ⟨SqL.of hv,fun l hl=>?_⟩⟩;obtain⟨e2,G2⟩:=G.lay (o:=.tup us) hl;exact k _ _ _ e2 G2 ⟨l,us,rfl,SqT.of aT,aH.same e2.ff _ _ (eK h1 hr)⟩
  .cases h
 .cases h
noncomputable def pB(T:String)(f:EF):EF:=fun γ M=>(f γ M).bind fun r=>match r.1 with
 |.d a=>some (.d (.bool (sA T a)),r.2)
 |_=>none
theorem YW{T:String}{ta:TE}{f:EF}(hT:T∈asked)(a:SE K ta f):SE K (tCB (YC K) (qL ta (qL (tC (.ty T)) HW))) (pB T f):=by
 intro γ M x M' hh W H σ Q G R k;obtain⟨⟨y,M1⟩,h1,hh⟩:=aI hh;cases y with
 |c _=>cases hh
 |t _=>cases hh
 |f _=>cases hh
 |d y=>
  cases hh;refine a _ _ _ _ h1 W H σ _ G R fun v W1 H1 e1 G1 r1=>?_;exact⟨v,T,y,rfl,hT,Rep.same G1.fh _ _ r1,k _ W1 H1 e1 G1 rfl⟩
noncomputable def zF(T U:String)(f:EF):EF:=fun γ M=>(f γ M).bind fun r=>match r.1 with
 |.d a=>some (.d (.bool (sA T a || sA U a)),r.2)
 |_=>none
theorem OD{T U:String}{ta:TE}{f:EF}(hT:T∈asked)(hU:U∈asked)(a:SE K ta f):SE K (tCB (KG K) (qL ta (qL (YJ (qL (tC (.ty T)) (qL (tC (.ty U)) HW))) HW))) (zF T U f):=by
 intro γ M x M' hh W H σ Q G R k;obtain⟨⟨y,M1⟩,h1,hh⟩:=aI hh;cases y with
 |c _=>cases hh
 |t _=>cases hh
 |f _=>cases hh
 |d y=>
  cases hh;refine a _ _ _ _ h1 W H σ _ G R fun v W1 H1 e1 G1 r1=>?_;refine⟨by show 2<=sizeLine;decide,fun p hp=>?_⟩;obtain⟨e2,G2⟩:=G1.lay (o:=.tup [.ty T,.ty U]) hp;refine⟨v,p,[T,U],y,rfl,aT,fun S hS=>?_,Rep.same (e2.ff.trans G2.fh) _ _ r1,?_⟩
  .rcases List.mem_cons.mp hS with rfl|hS
   .exact hT
   .rw[List.mem_singleton.mp hS];exact hU
  .have e:([T,U].any fun T=>sA T y)=(sA T y || sA U y):=by simp
   rw[e];exact k _ _ _ (e1.trans e2) G2 rfl
noncomputable def QE(M:Sto):CD->Option Bool
 |.d .none=>some false
 |.d (.bool b)=>some b
 |.d (.int i)=>some (i != 0)
 |.d (.list ds)=>some (!ds.isEmpty)
 |.d (.tuple ds)=>some (!ds.isEmpty)
 |.c i=>match M[i]? with
  |some (.lst xs)=>some (!xs.isEmpty)
  |some (.dk kvs)=>some (!kvs.isEmpty)
  |_=>none
 |_=>none
noncomputable def uK(f:EF):TF:=fun γ M=>(f γ M).bind fun r=>(QE r.2 r.1).bind fun b=>some (b,r.2)
theorem iV{α β:Type}{xs:List α}{ys:List β}(h:xs.length=ys.length):xs.isEmpty=ys.isEmpty:=by
 cases xs<;>cases ys<;>simp at h ⊢
theorem WN{ta:TE}{f:EF}(a:SE K ta f):STt K (fun σ H Q=>ta σ H fun x H'=>∃k,PU K x H' k/\Q k H') (uK f):=by
 intro γ M b M' hh W H σ Q G R k;obtain⟨⟨y,M1⟩,h1,hh⟩:=aI hh;obtain⟨b1,h2,hh⟩:=aI hh;cases hh;refine a _ _ _ _ h1 W H σ _ G R fun v W1 H1 e1 G1 r1=>⟨_,?_,k W1 H1 e1 G1⟩;cases y with
 |d y=>
  cases y with
  |none=>cases h2;rw[show v=.non from r1];rfl
  |bool c=>cases h2;rw[show v=.bl _ from r1];rfl
  |int i=>cases h2;rw[show v=.int _ from r1];rfl
  |str x=>cases h2
  |list ds=>
   cases h2;obtain⟨p,us,rfl,hq,hr⟩:=(show ∃a us,_=V.ref a/\SqL K W1.F a us/\aH K W1.F ds us from r1);exact .inl ⟨us,G1.fh.seq hq,by rw[iV hr.length]⟩
  |tuple ds=>
   cases h2;obtain⟨p,us,rfl,hq,hr⟩:=(show ∃a us,_=V.ref a/\SqT K W1.F a us/\aH K W1.F ds us from r1);exact .inr (.inl ⟨us,G1.fh.seqT hq,by rw[iV hr.length]⟩)
  |dict kvs=>cases h2
 |t _=>cases h2
 |f _=>cases h2
 |c i=>
  rw[r1.2];unfold QE at h2;dsimp only at h2;split at h2
  .rename_i xs hx;cases h2;obtain⟨us,hv,hr⟩:=G1.lstAt hx;exact .inl ⟨us,SqL.of hv,by rw[iV (Paired.len hr)]⟩
  .rename_i kvs hx;cases h2;obtain⟨_,o,g2,g3⟩:=G1.cs i _ hx (by intro z;cases z);cases o with
   |dK us=>exact .inr (.inr ⟨us,g2,by rw[iV (Paired.len g3)]⟩)
   |_=>exact False.elim g3
  .cases h2
noncomputable def boolsOf:List PyData->Option (List Bool)
 |[]=>some []
 |.bool b::r=>(boolsOf r).bind fun bs=>some (b::bs)
 |_::_=>none
noncomputable def zV:FN:=fun xs M=>match xs with
 |[.d (.list ds)]=>(boolsOf ds).bind fun bs=>some (.d (.bool (bs.all id)),M)
 |_=>none
theorem wH{H:Hp}:∀{ds:List PyData}{bs:List Bool}{vs:List V},boolsOf ds=some bs->aH K H ds vs->vs=bs.map V.bl
 |[],bs,vs=>fun e h=>by cases e;exact h
 |.bool b::r,bs,vs=>fun e h=>by
  obtain⟨cs,h1,e⟩:=aI (show(boolsOf r).bind _=_ from e);cases e;obtain⟨v,us,rfl,h2,h3⟩:=h;rw[show v=V.bl b from h2,wH h1 h3];rfl
 |.none::_,_,_=>fun e _=>by cases e
 |.int _::_,_,_=>fun e _=>by cases e
 |.str _::_,_,_=>fun e _=>by cases e
 |.list _::_,_,_=>fun e _=>by cases e
 |.tuple _::_,_,_=>fun e _=>by cases e
 |.dict _::_,_,_=>fun e _=>by cases e
theorem FQ(hc:X.calm=true):eU X (.builtin "all") (fun xs H Q=>∃(p:Addr)(bs:List Bool),xs=[.ref p]/\SqL X.K H p (bs.map V.bl)/\Q (.bl (bs.all id)) H):=by
 intro pins s σ H xs us Q I r h;obtain⟨p,bs,rfl,hp,q⟩:=h;obtain⟨u,rfl,ru⟩:=vals1 r;cases (show u=Value.ref p from ru);obtain⟨its,rv,pl,hz⟩:=I.list hp;have hits:=bB.bools rv;subst hits;refine call_all_walk (wpAny_pyIter_list pl.isList ?_);have hlt:p<s.heap.objs.size:=pl.lt;refine⟨_,_,_,_,_,_,(fun i=>bs.getD i false),rfl,Walks.list (A:=X.A.in1) (I.ok.hd hc) s.heap.objs.size p (C5 hlt) (bs.map Value.bool).toArray,⟨⟨_,C7 _ rfl,rfl,rfl⟩,pl.isList.at fun o e=>A3 _ e⟩,AG,fun h' tk hk=>?_⟩;have e1:((bs.map Value.bool).toArray).size=bs.length:=by simp
 rw[e1,all_range];refine⟨.bl _,H,I.kept (h':=h') (t':=tk) fun b o e=>?_,rfl,q⟩;exact hk b o (fun z=>by rw[D5]at z;exact absurd (B5 e) (by rw[z];exact F0 _)) (A3 _ e)
theorem ZQ:PN K (fun xs H Q=>∃(p:Addr)(bs:List Bool),xs=[.ref p]/\SqL K H p (bs.map V.bl)/\Q (.bl (bs.all id)) H) zV:=by
 intro xs M z M' h W H vs Q G r k;unfold zV at h;split at h
 .rename_i ds;obtain⟨bs,h1,h⟩:=aI h;cases h;rcases r with _|⟨r1,_|_⟩;obtain⟨p,us,rfl,hq,hr⟩:=(show ∃a us,_=V.ref a/\SqL K W.F a us/\aH K W.F ds us from r1);have e:=wH h1 hr;subst e;exact⟨p,bs,rfl,G.fh.seq hq,k _ W H (.refl _) G rfl⟩
 .cases h
noncomputable def xY:F3:=fun x y z M=>match x,y with
 |.c i,.d (.int k)=>match M[i]? with
  |some (.lst xs)=>(ixN xs.length k).bind fun j=>some (M.set i (.lst (xs.set j z)))
  |_=>none
 |_,_=>none
theorem XI:P3 K SD xY:=by
 intro x y z M M' h W H v u w Q G rx ry rz k;unfold xY at h;split at h
 .rename_i i n;split at h
  .rename_i xs hx;obtain⟨j,h1,h⟩:=aI h;cases h;obtain⟨us,hv,hr⟩:=G.lstAt hx;refine⟨W.α i,us,n,j,rx.2,ry,hv,by rw[<- Paired.len hr];exact h1,?_⟩;exact k W _ (.refl _) (G.set hx (by intro q;cases q) (c':=.lst (xs.set j z)) (show bS K W _ _ from Paired.set (R:=cA K W) rz j hr))
  .cases h
 .cases h
end
section
variable{X:Cx}{K:Fg}
noncomputable def MJ(K:Fg):R2:=fun x y H Q=>∃l b xs zs,x=.ref l/\y=.ref b/\SqL K H l xs/\SqL K H b zs/\xs.length+zs.length<=sizeLine/\∀p,H p=none->Q (.ref p) (upd H p (.lst (xs++zs)))
theorem op_catS:OpR X (binaryOp .Add) (MJ X.K):=by
 intro pins s σ H x y v u Q I rx ry h;obtain⟨l,b,xs,zs,rfl,rfl,hH,hB,hz,q⟩:=h;cases rx;cases ry;obtain⟨its,r,⟨⟨cls,dd,data,sl⟩,n,ho,hc,hdd,hd⟩,_⟩:=I.list hH;obtain⟨its2,r2,⟨⟨cls2,dd2,data2,sl2⟩,n2,ho2,hc2,hdd2,hd2⟩,_⟩:=I.list hB;simp only at hc hd hc2 hd2;subst hc hd hc2 hd2;have e1:=r.length;have e2:=r2.length;refine concat_meets ⟨_,ho,rfl⟩ ⟨_,ho2,rfl⟩ noFill_list_add seq_list_add PySem.F.slot_list_add PySem.F.entry_list_add (PySem.F.args_list_add_2 _ _) (list_addW l b its.toArray its2.toArray n n2 dd dd2 sl sl2 (by rw[C0,C0];omega)) ⟨ho,ho2,?_⟩;have ea:its.toArray++its2.toArray=(its++its2).toArray:=by simp
 rw[ea];exact⟨.ref _,_,I.lnew (t':=s.toks) (r.append r2) (by rw[B0];omega),rfl,q _ I.fresh⟩
noncomputable def DQ(M:Sto):CD->Option (List CD)
 |.d (.list ds)=>some (ds.map .d)
 |.c i=>match M[i]? with
  |some (.lst xs)=>some xs
  |_=>none
 |_=>none
theorem wM{x:CD}{xs:List CD}{v:V}(G:Good K W M H)(h:DQ M x=some xs)(r:cA K W x v):∃p vs,v=.ref p/\SqL K H p vs/\bS K W xs vs:=by
 unfold DQ at h;split at h
 .rename_i ds;cases h;obtain⟨p,us,rfl,hq,hr⟩:=(show ∃a us,_=V.ref a/\SqL K W.F a us/\aH K W.F ds us from r);exact⟨p,us,rfl,G.fh.seq hq,eQ hr⟩
 .rename_i i;split at h
  .rename_i ys hy;cases h;obtain⟨us,hv,hr⟩:=G.lstAt hy;exact⟨_,us,r.2,SqL.of hv,hr⟩
  .cases h
 .cases h
noncomputable def aAe:F2:=fun x y M=>(DQ M x).bind fun xs=>(DQ M y).bind fun ys=>(kG (xs++ys)).bind fun ds=>if ds.length<=sizeLine then some (.d (.list ds),M)else none
theorem OW:P2 K (MJ K) aAe:=by
 intro x y M z M' h W H v u Q G rx ry k;obtain⟨xs,h1,h⟩:=aI h;obtain⟨ys,h2,h⟩:=aI h;obtain⟨ds,h3,h⟩:=aI h;by_cases hl:ds.length<=sizeLine
 .rw[A4 hl]at h;cases h;obtain⟨p,vs,rfl,hp,hr⟩:=wM G h1 rx;obtain⟨q,us,rfl,hq,hs⟩:=wM G h2 ry;have el:=yX h3;rw[B0]at el;refine⟨p,q,vs,us,rfl,rfl,hp,hq,by rw[<- Paired.len hr,<- Paired.len hs];omega,fun l hl=>?_⟩;obtain⟨e2,G2⟩:=G.lay (o:=.lst (vs++us)) hl;exact k _ _ _ e2 G2 ⟨l,_,rfl,SqL.of aT,aH.same e2.ff _ _ (eK h3 (Paired.app hr hs))⟩
 .rw[A6 hl]at h;cases h
noncomputable def XO:F2:=fun x y M=>match x,y with
 |.d (.tuple xs),.d (.tuple ys)=>if xs≠[]/\xs.length+ys.length<=sizeLine then some (.d (.tuple (xs++ys)),M)else none
 |_,_=>none
theorem aH.nil_iff{ds:List PyData}{vs:List V}(r:aH K H ds vs):vs=[]↔ds=[]:=by
 have:=r.length;constructor<;>intro h<;>subst h<;>simp at this
 .exact this
 .exact List.eq_nil_of_length_eq_zero this.symm
theorem RN:P2 K (LK K) XO:=by
 intro x y M z M' h W H v u Q G rx ry k;unfold XO at h;split at h
 .rename_i xs ys;by_cases hc:xs≠[]/\xs.length+ys.length<=sizeLine
  .rw[A4 hc]at h;cases h;obtain⟨p,vs,rfl,hp,hr⟩:=(show ∃a us,v=V.ref a/\SqT K W.F a us/\aH K W.F xs us from rx);obtain⟨q,us,rfl,hq,hs⟩:=(show ∃a us,u=V.ref a/\SqT K W.F a us/\aH K W.F ys us from ry);refine⟨p,q,vs,us,rfl,rfl,G.fh.seqT hp,G.fh.seqT hq,fun z=>hc.1 (hr.nil_iff.mp z),by rw[<- hr.length,<- hs.length];exact hc.2,fun z=>?_,fun z l hl=>?_⟩
   .have:ys=[]:=hs.nil_iff.mp z;subst this;rw[D1]at k;exact k _ W H (.refl _) G ⟨p,vs,rfl,hp,hr⟩
   .obtain⟨e2,G2⟩:=G.lay (o:=.tup (vs++us)) hl;exact k _ _ _ e2 G2 ⟨l,_,rfl,SqT.of aT,aH.same e2.ff _ _ (aH.app hr hs)⟩
  .rw[A6 hc]at h;cases h
 .cases h
theorem P2.or{r r':R2}{h h':F2}(a:P2 K r h)(b:P2 K r' h'):P2 K (fun x y H Q=>r x y H Q\/r' x y H Q) (yU h h'):=by
 intro x y M z M' hh W H v u Q G rv ru k;unfold yU at hh;cases e:h x y M with
 |some q=>
  rw[e]at hh;cases hh;exact .inl (a _ _ _ _ _ e W H v u Q G rv ru k)
 |none=>
  rw[e]at hh;exact .inr (b _ _ _ _ _ hh W H v u Q G rv ru k)
noncomputable def CB(K:Fg):R2:=fun x y H Q=>∃a b ys,x=.ref a/\y=.ref b/\SqT K H a []/\SqT K H b ys/\Q (.ref b) H
theorem op_catT0:OpR X (binaryOp .Add) (CB X.K):=by
 intro pins s σ H x y v u Q I rx ry h;obtain⟨a,b,ys,rfl,rfl,ha,hb,q⟩:=h;cases rx;cases ry;obtain⟨its,r1,⟨⟨cls,dd,data,sl⟩,ho,hc,n,hd⟩,_⟩:=I.tuple ha;obtain⟨its2,r2,⟨⟨cls2,dd2,data2,sl2⟩,ho2,hc2,n2,hd2⟩,_⟩:=I.tuple hb;simp only at hc hd hc2 hd2;subst hc hd hc2 hd2;cases r1;exact concat_meets ⟨_,ho,rfl⟩ ⟨_,ho2,rfl⟩ noFill_tuple_add seq_tuple_add PySem.F.slot_tuple_add PySem.F.entry_tuple_add (PySem.F.args_tuple_add_2 _ _) (tuple_addW0 a b #[] its2.toArray n n2 dd dd2 sl sl2 rfl) ⟨ho,ho2,⟨.ref b,H,I,rfl,q⟩⟩
noncomputable def KB:F2:=fun x y M=>match x,y with
 |.d (.tuple []),.d (.tuple ys)=>some (.d (.tuple ys),M)
 |_,_=>none
theorem NH:P2 K (CB K) KB:=by
 intro x y M z M' h W H v u Q G rx ry k;unfold KB at h;split at h
 .rename_i ys;cases h;obtain⟨p,vs,rfl,hp,hr⟩:=(show ∃a us,v=V.ref a/\SqT K W.F a us/\aH K W.F [] us from rx);obtain⟨q,us,rfl,hq,hs⟩:=(show ∃a us,u=V.ref a/\SqT K W.F a us/\aH K W.F ys us from ry);rw[show vs=[]from hr]at hp;exact⟨p,q,us,rfl,rfl,G.fh.seqT hp,G.fh.seqT hq,k _ W H (.refl _) G ⟨q,us,rfl,hq,hs⟩⟩
 .cases h
noncomputable def cH:F2:=yU aAd (yU aAe (yU KB XO))
noncomputable def NB(K:Fg):R2:=fun x y H Q=>(rI0 fun i j=>.int (i+j)) x y H Q\/MJ K x y H Q\/CB K x y H Q\/LK K x y H Q
theorem RP:OpR X (binaryOp .Add) (NB X.K):=op_add.or (op_catS.or (op_catT0.or PB))
theorem RB:P2 K (NB K) cH:=P2.or UC (P2.or OW (P2.or NH RN))
noncomputable def eqS(neg:Bool):F2:=fun x y M=>match x,y with
 |.d (.str a),.d (.str b)=>some (.d (.bool (if neg then !(a==b)else a==b)),M)
 |_,_=>none
noncomputable def eqX(neg:Bool):F2:=yU (eqS neg) (eqD neg)
noncomputable def YB(K:Fg):R2:=fun x y H Q=>rEq x y H Q\/CO K false x y H Q
noncomputable def XW(K:Fg):R2:=fun x y H Q=>rNe x y H Q\/CO K true x y H Q
theorem NM{a b:Str}:decide (V.str a=V.str b)=(a==b):=by
 by_cases e:a=b
 .subst e;simp
 .have h:¬V.str a=V.str b:=fun q=>e (V.str.inj q);rw[C3 h,beq_eq_false_iff_ne.mpr e]
theorem YI:P2 K rEq (eqS false):=by
 intro x y M z M' h W H v u Q G rx ry k;unfold eqS at h;split at h
 .rename_i a b;cases h;rw[show v=.str a from rx,show u=.str b from ry];refine⟨rfl,?_⟩;rw[NM];exact k _ W H (.refl _) G rfl
 .cases h
theorem UK:P2 K rNe (eqS true):=by
 intro x y M z M' h W H v u Q G rx ry k;unfold eqS at h;split at h
 .rename_i a b;cases h;rw[show v=.str a from rx,show u=.str b from ry];refine⟨rfl,?_⟩;rw[NM];exact k _ W H (.refl _) G rfl
 .cases h
theorem NI:P2 K (YB K) (eqX false):=P2.or YI SJ
theorem YV:P2 K (XW K) (eqX true):=P2.or UK SJ
theorem UI(hu:X.A.units+64<cLine):OpR X (compareOp .Eq) (YB X.K):=op_eq.or (KP hu)
theorem YE(hu:X.A.units+64<cLine):OpR X (compareOp .NotEq) (XW X.K):=op_ne.or (YH hu)
theorem VT:P2 K (rI0 fun i j=>.int (i-j)) zE:=UC
theorem YY:P2 K (rI yR fun i j=>.int (i*j)) uV:=OH fun _ _ h=>mulOk_of h
theorem NY:P2 K (rI SL fun i j=>.int (i / j)) hX:=OH fun i j h=>by
 unfold oX at h;rw[B2]at h;exact⟨D3 h.1,D3 (p:=j.natAbs<qM) h.2⟩
theorem VP:P2 K (rI (fun _ j=>0<j) fun i j=>.int (i % j)) eT:=OH fun i j h=>D3 h
theorem WU:P2 K (rI aBk fun i j=>.int (i ^ j.toNat)) BY:=OH fun i j h=>by
 unfold IQ at h;rw[B2,B2]at h;exact⟨D3 h.1.1,D3 h.1.2,D3 h.2⟩
theorem UG:P2 K (rI0 fun i j=>.bl (decide (i<j))) ltI:=ER
theorem aAC:P2 K (rI0 fun i j=>.bl (decide (i<=j))) leI:=ER
theorem aAG:P2 K (rI0 fun i j=>.bl (decide (j<i))) gtI:=ER
theorem aBJ:P2 K (rI0 fun i j=>.bl (decide (j<=i))) geI:=ER
noncomputable def yC:F1:=fun x M=>match x with
 |.d (.int i)=>some (.d (.int (-i)),M)
 |_=>none
theorem ZM:P1 K (rU fun i=>.int (-i)) yC:=by
 intro x M z M' h W H v Q G r k;unfold yC at h;split at h
 .rename_i i;cases h;exact⟨i,r,k _ W H (.refl _) G rfl⟩
 .cases h
end
section
variable{X:Cx}{K:Fg}
theorem aBZ(h:X.K=K):eU X (.builtin "isinstance") (YC K):=by subst h;exact FI
theorem aAA(h:X.K=K):eU X (.builtin "isinstance") (KG K):=by subst h;exact BX
noncomputable def aBs(K:Fg):R2:=rIx K
theorem kIx(h:X.K=K):IxR X (aBs K):=by subst h;exact aAb
theorem UT:P2 K (aBs K) ixF:=aAv
noncomputable def SH(K:Fg):List V->Hp->VK->Prop:=fun xs H Q=>∃p ys,xs=[.ref p]/\(SqL K H p ys\/SqT K H p ys)/\Q (.int ys.length) H
theorem aBR(h:X.K=K):eU X (.builtin "len") (SH K):=by subst h;exact yD
theorem OP:PN K (SH K) gN:=WL
noncomputable def LS(K:Fg):List V->Hp->VK->Prop:=fun xs H Q=>∃p ys,xs=[.ref p]/\(SqL K H p ys\/SqT K H p ys)/\∀l,H l=none->Q (.ref l) (upd H l (.lst ys))
theorem aBH(h:X.K=K):eU X (.type "list") (LS K):=by subst h;exact xN
noncomputable def EV(K:Fg):List V->Hp->VK->Prop:=fun xs H Q=>∃p ys,xs=[.ref p]/\((SqL K H p ys/\∀l,H l=none->Q (.ref l) (upd H l (.tup ys)))\/(SqT K H p ys/\Q (.ref p) H))
theorem XJ(h:X.K=K):eU X (.type "tuple") (EV K):=by subst h;exact uX
theorem FV:PN K (EV K) fV:=LX
noncomputable def TB(K:Fg):List V->Hp->VK->Prop:=fun xs H Q=>∃(p:Addr)(bs:List Bool),xs=[.ref p]/\SqL K H p (bs.map V.bl)/\Q (.bl (bs.all id)) H
theorem aBQ(h:X.K=K)(hc:X.calm=true):eU X (.builtin "all") (TB K):=by subst h;exact FQ hc
theorem PF:PN K (TB K) zV:=ZQ
theorem kEq(h:X.K=K)(hu:X.A.units+64<cLine):OpR X (compareOp .Eq) (YB K):=by subst h;exact UI hu
theorem kNe(h:X.K=K)(hu:X.A.units+64<cLine):OpR X (compareOp .NotEq) (XW K):=by subst h;exact YE hu
theorem aCb(h:X.K=K):OpR X (binaryOp .Add) (NB K):=by subst h;exact RP
theorem DF{tg l:Expr}{tl:TE}(h:X.K=K)(hl:PE X l tl):PI X tg l (RM K tl):=by subst h;exact XZ hl
theorem PV{es:List Expr}{k:Nat}{t:TGs}{n:Nat}{pos:Pos}(hK:X.K=K)(hc:X.calm=true)(h:PGs X es t)
 (hn:(assignEach es X.env).length=n:=by rfl) (hst:(assignEach es X.env).findIdx? (·.1)=none:=by rfl):PG X (.Tuple es k pos) (YD K n t):=by subst hK;exact WD hc h hn hst
noncomputable def aAL(K:Fg)(ta:TE):TT:=fun σ H Q=>ta σ H fun x H'=>∃k,PU K x H' k/\Q k H'
theorem OA{a:Expr}{ta:TE}(hK:X.K=K)(ha:PE X a ta)(he:∀whole,isTrue a X.env whole=(do let v <- whole;standAt a.pos;holding [v] (truthy v))):PT X a (aAL K ta):=by subst hK;exact MV ha he
theorem QA{ta:TE}{f:EF}(a:SE K ta f):STt K (aAL K ta) (uK f):=WN a
end
section
variable{es:List Expr}{env:Env}
theorem cV{a b}:starEach (.Name a b::es) env=(false,eval (.Name a b) env)::starEach es env:=rfl
theorem sY{a b c}:starEach (.Tuple a b c::es) env=(false,eval (.Tuple a b c) env)::starEach es env:=rfl
theorem vI{a b c d}:starEach (.Call a b c d::es) env=(false,eval (.Call a b c d) env)::starEach es env:=rfl
theorem vG{pos:Pos}:(backTo pos (starEach [] env)).any (·.1)=false:=rfl
theorem oF{pos:Pos}{e:Expr}(hs:starEach (e::es) env=(false,eval e env)::starEach es env)(h:(backTo pos (starEach es env)).any (·.1)=false):(backTo pos (starEach (e::es) env)).any (·.1)=false:=by
 rw[hs];have e1:backTo pos ((false,eval e env)::starEach es env)=(false,(do let v <- eval e env;standAt pos;pure v:Sem Value))::backTo pos (starEach es env)\/(backTo pos ((false,eval e env)::starEach es env)).any (·.1)=(backTo pos (starEach es env)).any (·.1):=.inr (by unfold backTo;simp);rcases e1 with q|q
 .rw[q,S3,h];rfl
 .rw[q];exact h
end
section
variable{P:Program}{w:World}{K:Fg}{mg:Str->Option Value}
theorem Fun.okM{base:Heap}{x:Str}{st:Stmt}{N ps:List Str}{k:Nat}{b:SF}{f:Addr}{fd:FuncData}(F:Fun K x x st f fd)(S:bA N ps (aJ st))
 (hbody:∀(f:Addr)(cdv:Value)(A:Around)(outer:List Env)(s:Shared)(H:Hp)(E:XK),eB k (A.deeper (envOfC x (aJ st) s.heap.objs.size f cdv))->
  ∃t,PSs (qT CX0 P w K mg base N x (aJ st) f cdv A outer s H E).nox (cQ st) t/\SS K t b):oE P w K mg base CX0 (k+1) f fd ps (spM K (fnF ps.length N.length b)):=by
 have len:∀vs H Q E,spM K (fnF ps.length N.length b) vs H Q E->vs.length=ps.length:=fun vs H Q E h=>by
  obtain⟨xs,M,W,y,M',G,R,hf,_⟩:=h;by_cases hl:xs.length=ps.length
  .rw[<- Paired.len R];exact hl
  .unfold fnF at hf;rw[A6 hl]at hf;cases hf
 refine F.ok S len fun cdv A outer s H vs Q E hr h=>?_;obtain⟨t,hP,hS⟩:=hbody f cdv A outer s H E hr;refine⟨t,hP,?_⟩;obtain⟨xs,M,W,y,M',G,R,hf,k⟩:=h;by_cases hl:xs.length=ps.length
 .unfold fnF at hf;rw[A4 hl]at hf;obtain⟨⟨o,M1⟩,h1,hf⟩:=aI hf
  have hR:dC K W (xs.map some++List.replicate (N.length-xs.length) none) (start N vs):=by
   unfold start;rw[<- Paired.len R];exact Paired.app (bS.some R) (uD _)
  refine hS _ _ _ _ h1 W H _ _ G hR fun W1 H1 e1 G1=>?_;cases o with
  |rt x=>cases hf;exact fun v r=>k v W1 H1 e1 G1 r
  |nx γ=>cases hf;exact fun σ r=>k .non W1 H1 e1 G1 rfl
  |bk γ=>cases hf
  |ct γ=>cases hf
 .unfold fnF at hf;rw[A6 hl]at hf;cases hf
theorem Def.okL{x p:Str}{st:Stmt}{N:List Str}{k:Nat}{b:SF}{F:FN}(D:Def K mg x st)(S:bA N [p] (aJ st))(hF:F=fnF 1 N.length b)
 (hb:∀(kV doc pm:Value)(an:Option Addr)(cdv ct:Value)(us:List Value),us.length=[p].length->bindArgs (PySem.W.fnOf x x (fF st) (cQ st) (aJ st) .none kV doc pm an cdv ct) ⟨us,[]⟩=pure ([p].zip us))
 (hbody:∀(base:Heap)(f:Addr)(cdv:Value)(A:Around)(outer:List Env)(s:Shared)(H:Hp)(E:XK),eB k (A.deeper (envOfC x (aJ st) s.heap.objs.size f cdv))->
  ∃t,PSs (qT CX0 P w K mg base N x (aJ st) f cdv A outer s H E).nox (cQ st) t/\SS K t b):
 ∃f fd,mg x=some (.ref f)/\(∀(s:Shared)(u:Value),BindsTo s fd ⟨[u],[]⟩ [(p,u)])/\∀base,oE P w K mg base CX0 (k+1) f fd [p] (spM K F):=by
 subst hF;obtain⟨f,fd,Fu,m⟩:=D.ex;refine⟨f,fd,m,fun s u=>?_,fun base=>Fu.okM S (hbody base)⟩;obtain⟨oc,od,kV,doc,pm,an,cdv,ct,osl,rfl,lk,hcd⟩:=Fu.ex;exact .of_eq (hb kV doc pm an cdv ct [u] rfl)
theorem AE{H:Hp}:∀ns:List Int,aH K H (ns.map .int) (ns.map V.int)
 |[]=>rfl
 |n::ns=>⟨.int n,ns.map V.int,rfl,rfl,AE ns⟩
theorem YA{F:FN}(hF:∀ns:List Int,ns.length<=63->∃M',F [.d (.list (ns.map .int))] []=some (.d (.bool true),M')){a:Addr}{ns:List Int}(hl:ns.length<=63)(hS:SqL K H a (ns.map V.int))(E:XK):
 spM K F [.ref a] H (fun v _=>v=.bl true) E:=by
 obtain⟨M',h⟩:=hF ns hl;refine⟨[.d (.list (ns.map .int))],[],⟨H,fun _=>0,0⟩,_,M',⟨hV.refl H,rfl,fun i c h=>by simp at h,fun i j c c' h=>by simp at h⟩,.cons (show ∃a' vs,V.ref a=.ref a'/\SqL K H a' vs/\aH K H (ns.map .int) vs from⟨a,ns.map V.int,rfl,hS,AE ns⟩) .nil,h,fun v W' H' _ _ r=>r⟩
theorem law_walk{l:PySem.W.OpenLaw}{q:Program}{loose:List Str}{XP:(Str->Option Value)->Heap->Prop}{YP:World->Heap->Prop}{d:DefRec}{K:Params->Fg}{F:FN}{k:Nat}{p:Str}(hq:PyProof.Rows.importsNone q=true)(hn:l.most=some 63)(hdf:d.params.defaults=[])(hr:eB k callerA)
 (hY:∀(w:World)(h:Heap),YP w h->(K w.params).In h)
 (hT:∀(w:World)(mg:Str->Option Value)(h:Heap),(K w.params).In h->h.Ns mainGlobals mg->∃f fd,mg d.name=some (.ref f)/\(∀(s:Shared)(u:Value),BindsTo s fd ⟨[u],[]⟩ [(p,u)])/\∀base,oE l.prog w (K w.params) mg base CX0 k f fd [p] (spM (K w.params) F))
 (hF:∀ns:List Int,ns.length<=63->∃M',F [.d (.list (ns.map .int))] []=some (.d (.bool true),M')):
 PySem.W.WalkO q loose XP YP l.row.toRowW d [] (fun f vs=>PySem.call f vs):=
 L2.walk_of hq (n:=63) (k:=k) (x:=p) (CX:=fun _=>CX0) (sp:=fun w=>spM (K w.params) F) hn (by decide) hdf hr hY
  (fun w mg fa h KX G hmg=>by
   obtain⟨f,fd,m,hb,hf⟩:=hT w mg h KX G;have e:(some (Value.ref f))=some (.ref fa):=m.symm.trans hmg;cases e;exact⟨fd,hb,fun base _ _=>hf base⟩)
  (fun w H a ns hl _ hS=>YA hF hl hS _) fun _ _ _ _ _ z=>z
end
noncomputable def QF(e:Expr)(es:List Expr):Prop:=∀env:Env,starEach (e::es) env=(false,eval e env)::starEach es env
noncomputable def DG:List Expr->Prop
 |[]=>True
 |e::es=>QF e es/\DG es
theorem DG.plain:∀{es:List Expr},DG es->∀(env:Env)(pos:Pos),(backTo pos (starEach es env)).any (·.1)=false
 |[]=>fun _ _ _=>rfl
 |_::_=>fun h env pos=>oF (h.1 env) (h.2.plain env pos)
section
variable{ι:Type}
structure ME(K:Fg)(X:ι->Cx)(e:Expr)(f:EF):Prop where
 ex:∃t,(∀i,PE (X i) e t)/\SE K t f
structure MT(K:Fg)(X:ι->Cx)(e:Expr)(f:TF):Prop where
 ex:∃t,(∀i,PT (X i) e t)/\STt K t f
structure MW(K:Fg)(X:ι->Cx)(e:Expr)(f:TF):Prop where
 ex:∃t,(∀i,PW (X i) e t)/\STt K t f
structure MA(K:Fg)(X:ι->Cx)(es:List Expr)(f:AF):Prop where
 ex:∃t,(∀i,PA (X i) es t)/\SA K t f
 st:DG es
structure MG(K:Fg)(X:ι->Cx)(e:Expr)(f:GF):Prop where
 ex:∃t,(∀i,PG (X i) e t)/\SG K t f
structure MGs(K:Fg)(X:ι->Cx)(es:List Expr)(f:GsF):Prop where
 ex:∃t,(∀i,PGs (X i) es t)/\SGs K t f
structure MI(K:Fg)(X:ι->Cx)(tg e:Expr)(f:AF):Prop where
 ex:∃t,(∀i,PI (X i) tg e t)/\SI K t f
structure MF(K:Fg)(X:ι->Cx)(es:List Expr)(f:TF):Prop where
 ex:∃t,(∀i,KQ (X i) es t)/\STt K t f
structure MS(K:Fg)(X:ι->Cx)(st:Stmt)(f:SF):Prop where
 ex:∃t,(∀i,PS (X i) st t)/\SS K t f
structure ML(K:Fg)(X:ι->Cx)(st:List Stmt)(f:SF):Prop where
 ex:∃t,(∀i,PSs (X i) st t)/\SS K t f
structure Q2(K:Fg)(X:ι->Cx)(o:Value->Value->Sem Value)(h:F2):Prop where
 ex:∃r,(∀i,OpR (X i) o r)/\P2 K r h
structure Q1(K:Fg)(X:ι->Cx)(o:Value->Sem Value)(h:F1):Prop where
 ex:∃r,(∀i,UnR (X i) o r)/\P1 K r h
structure QN(K:Fg)(X:ι->Cx)(f:Value)(h:FN):Prop where
 ex:∃r,(∀i,eU (X i) f r)/\PN K r h
structure QI(K:Fg)(X:ι->Cx)(h:F2):Prop where
 ex:∃r,(∀i,IxR (X i) r)/\P2 K r h
structure QS(K:Fg)(X:ι->Cx)(h:F3):Prop where
 ex:∃r,(∀i,WW (X i) r)/\P3 K r h
variable{K:Fg}{X:ι->Cx}{a b c e:Expr}{es:List Expr}{f g h:EF}{ft gt:TF}{fa:AF}{pos:Pos}
theorem aC(i:Nat){x:Str}(hN:∀j,(X j).N[i]?=some x:=by intro _;rfl)(hv:∀j,Vis (X j).env.scope x:=by intro _;first|exact Or.inl rfl|exact Or.inr (Or.inl rfl)|exact Or.inr (Or.inr rfl))(hd:(x==("__debug__":Str))=false:=by decide)(hcd:(x==("__classdict__":Str))=false:=by decide):
 ME K X (.Name x pos) (aE i):=⟨_,fun j=>VU (hN j) (hv j) hd hcd,UJ⟩
theorem aD{i:Int}{j:Nat}:ME K X (.Constant (.int i) j pos) (fC (.int i)):=⟨_,fun _=>XU,NF⟩
theorem eW{i:Bool}{j:Nat}:ME K X (.Constant (.bool i) j pos) (fC (.bool i)):=⟨_,fun _=>aAE,aBj⟩
theorem VB{j:Nat}:ME K X (.Constant .none j pos) (fC .none):=⟨_,fun _=>ZW,VG⟩
theorem WV{i:Str}{j:Nat}:ME K X (.Constant (.str i) j pos) (fC (.str i)):=⟨_,fun _=>WR,aAa⟩
theorem LF{x:Str}{n:Int}(hm:∀i,∃t:Tok,(X i).mg x=some (.int n t))(hg:∀i,Gl (X i) x:=by intro _;rfl)(hd:(x==("__debug__":Str))=false:=by decide):ME K X (.Name x pos) (fC (.int n)):=
 ⟨_,fun i=>RJ (v:=.int n) (hg i) (hm i).choose_spec ⟨_,rfl⟩ hd,NF⟩
theorem aP{op:Operator}{k:F2}(q:Q2 K X (binaryOp op) k)(x:ME K X a f)(y:ME K X b g):ME K X (.BinOp a op b pos) (fOp k f g):=by
 obtain⟨r,q1,q2⟩:=q.ex;obtain⟨t,x1,x2⟩:=x.ex;obtain⟨u,y1,y2⟩:=y.ex;exact⟨_,fun i=>aBi (q1 i) (x1 i) (y1 i),EJ q2 x2 y2⟩
theorem EK{op:UnaryOp}{k:F1}(q:Q1 K X (unaryOp op) k)(x:ME K X a f):ME K X (.UnaryOp op a pos) (fUn k f):=by
 obtain⟨r,q1,q2⟩:=q.ex;obtain⟨t,x1,x2⟩:=x.ex;exact⟨_,fun i=>aAs (q1 i) (x1 i),aBF q2 x2⟩
theorem fM{rest:List Expr}(x:ME K X a f)(y:ME K X (.BoolOp .And (b::rest) pos) g):ME K X (.BoolOp .And (a::b::rest) pos) (jQ f g):=by
 obtain⟨t,x1,x2⟩:=x.ex;obtain⟨u,y1,y2⟩:=y.ex;exact⟨_,fun i=>YT (x1 i) (y1 i),WI x2 y2⟩
theorem gZ{op:BoolOp}(x:ME K X a f):ME K X (.BoolOp op [a] pos) f:=by
 obtain⟨t,x1,x2⟩:=x.ex;exact⟨_,fun i=>ZS (x1 i),x2⟩
theorem KC(x:ME K X a f):ME K X (.UnaryOp .Not a pos) (BK f):=by
 obtain⟨t,x1,x2⟩:=x.ex;exact⟨_,fun i=>UO (x1 i),ZE x2⟩
theorem iL{op:CmpOp}{k:F2}(q:Q2 K X (compareOp op) k)(x:ME K X a f)(y:ME K X b g)(hm:behindInMarks op b=false:=by rfl):ME K X (.Compare a [op] [b] pos) (fOp k f g):=by
 obtain⟨r,q1,q2⟩:=q.ex;obtain⟨t,x1,x2⟩:=x.ex;obtain⟨u,y1,y2⟩:=y.ex;exact⟨_,fun i=>OY (q1 i) (x1 i) (y1 i) hm,EJ q2 x2 y2⟩
theorem zG{op op':CmpOp}{k k':F2}(q:Q2 K X (compareOp op) k)(q':Q2 K X (compareOp op') k')(x:ME K X a f)(y:ME K X b g)(z:ME K X c h)(hm:lastMarks [op,op'] [b,c]=false:=by with_unfolding_all rfl):ME K X (.Compare a [op,op'] [b,c] pos) (nP k k' f g h):=by
 obtain⟨r,q1,q2⟩:=q.ex;obtain⟨r',q1',q2'⟩:=q'.ex;obtain⟨t,x1,x2⟩:=x.ex;obtain⟨u,y1,y2⟩:=y.ex;obtain⟨v,z1,z2⟩:=z.ex;exact⟨_,fun i=>IB (q1 i) (q1' i) (x1 i) (y1 i) (z1 i) hm,IC q2 q2' x2 y2 z2⟩
theorem aF:MA K X [] aG:=⟨⟨_,fun _=>xT,ZL⟩,trivial⟩
theorem aA(x:ME K X e f)(y:MA K X es fa)(hs:QF e es:=by intro _;rfl):MA K X (e::es) (aB f fa):=by
 obtain⟨t,x1,x2⟩:=x.ex;obtain⟨u,y1,y2⟩:=y.ex;exact⟨⟨_,fun i=>kQ (x1 i) (y1 i) (hs _),QR x2 y2⟩,hs,y.st⟩
theorem aO{k:Nat}(x:MA K X es fa):ME K X (.Tuple es k pos) (bE fa):=by
 obtain⟨t,x1,x2⟩:=x.ex;exact⟨_,fun i=>MH (x1 i),UM x2⟩
theorem hZ(x:MA K X es fa):ME K X (.List es pos) (gI fa):=by
 obtain⟨t,x1,x2⟩:=x.ex;exact⟨_,fun i=>JB (x1 i),WA x2⟩
theorem nR(x:MA K X es fa):ME K X (.List es pos) (kS fa):=by
 obtain⟨t,x1,x2⟩:=x.ex;exact⟨_,fun i=>JB (x1 i),ZF x2⟩
theorem aY{k:F2}(q:QI K X k)(x:ME K X a f)(y:ME K X b g)(hs:DA b:=by intro _ _;rfl):ME K X (.Subscript a b pos) (fOp k f g):=by
 obtain⟨r,q1,q2⟩:=q.ex;obtain⟨t,x1,x2⟩:=x.ex;obtain⟨u,y1,y2⟩:=y.ex;exact⟨_,fun i=>aAo (q1 i) (x1 i) (y1 i) hs,EJ q2 x2 y2⟩
theorem aS{k:Nat}{x:Str}{ps:List Str}{F:FN}{p:Pos}{q:Bool}(C:∀i,Callee (X i).prog (X i).w (X i).K (X i).mg (X i).base k x ps (spM K F) q)(hr:∀i,eB k (X i).A q)(y:MA K X (e::es) fa)(hg:∀i,Gl (X i) x:=by intro _;rfl)(hd:(x==("__debug__":Str))=false:=by decide):
 ME K X (.Call (.Name x p) (e::es) [] pos) (aM F fa):=by
 obtain⟨u,y1,y2⟩:=y.ex;exact⟨_,fun i=>ZI (C i) (hr i) (y1 i) (hg i) hd (y.st.1 _) (y.st.2.plain _ _),SB y2⟩
theorem dS{x:Str}{id:String}{F:FN}{p:Pos}(q:QN K X (.builtin id) F)(hm:∀i,(X i).mg x=none)(hv:bootBuiltins x=some (.builtin id))(y:MA K X (e::es) fa)(hg:∀i,Gl (X i) x:=by intro _;rfl)(hn:x≠"__name__":=by decide)(hd:(x==("__debug__":Str))=false:=by decide):
 ME K X (.Call (.Name x p) (e::es) [] pos) (aM F fa):=by
 obtain⟨r,q1,q2⟩:=q.ex;obtain⟨u,y1,y2⟩:=y.ex;exact⟨_,fun i=>sN (q1 i) (hg i) (hm i) hv (y1 i) hn hd (y.st.1 _) (y.st.2.plain _ _),SR q2 y2⟩
theorem gH{x:Str}{id:String}{F:FN}{p:Pos}(q:QN K X (.type id) F)(hm:∀i,(X i).mg x=none)(hv:bootBuiltins x=some (.type id))(y:MA K X (e::es) fa)(hg:∀i,Gl (X i) x:=by intro _;rfl)(hn:x≠"__name__":=by decide)(hd:(x==("__debug__":Str))=false:=by decide):
 ME K X (.Call (.Name x p) (e::es) [] pos) (aM F fa):=by
 obtain⟨r,q1,q2⟩:=q.ex;obtain⟨u,y1,y2⟩:=y.ex;exact⟨_,fun i=>HL (q1 i) (hg i) (hm i) hv (y1 i) hn hd (y.st.1 _) (y.st.2.plain _ _),SR q2 y2⟩
theorem pJ{T:String}{y:Str}{p p':Pos}(hK:∀i,(X i).K=K)(hT:T∈asked)(x:ME K X a f)(hs:QF a [.Name y p'])(hm:∀i,(X i).mg "isinstance"=none)(hmy:∀i,(X i).mg y=none)(hb:bootBuiltins y=some (.type T))(hg:∀i,Gl (X i) "isinstance":=by intro _;rfl)(hgy:∀i,Gl (X i) y:=by intro _;rfl)
 (hn:y≠"__name__":=by decide) (hd:(y==("__debug__":Str))=false:=by decide):ME K X (.Call (.Name "isinstance" p) [a,.Name y p'] [] pos) (pB T f):=by
 obtain⟨t,x1,x2⟩:=x.ex;refine⟨_,fun i=>sN (aBZ (hK i)) (hg i) (hm i) boot_isinstance (kQ (x1 i) (kQ (xM (v:=.ty T) (hgy i) (hmy i) hb rfl hn hd) xT cV) (hs _)) (by decide) (by decide) (hs _) (oF cV vG),YW hT x2⟩
theorem EL{T U:String}{y z:Str}{p p' p'' p3:Pos}{k:Nat}(hK:∀i,(X i).K=K)(hT:T∈asked)(hU:U∈asked)(x:ME K X a f)(hs:QF a [.Tuple [.Name y p',.Name z p''] k p3])(hm:∀i,(X i).mg "isinstance"=none)(hmy:∀i,(X i).mg y=none)(hmz:∀i,(X i).mg z=none)
 (hb:bootBuiltins y=some (.type T)) (hbz:bootBuiltins z=some (.type U)) (hg:∀i,Gl (X i) "isinstance":=by intro _;rfl) (hgy:∀i,Gl (X i) y:=by intro _;rfl) (hgz:∀i,Gl (X i) z:=by intro _;rfl)
 (hn:y≠"__name__":=by decide) (hd:(y==("__debug__":Str))=false:=by decide) (hn':z≠"__name__":=by decide) (hd':(z==("__debug__":Str))=false:=by decide):ME K X (.Call (.Name "isinstance" p) [a,.Tuple [.Name y p',.Name z p''] k p3] [] pos) (zF T U f):=by
 obtain⟨t,x1,x2⟩:=x.ex;refine⟨_,fun i=>sN (aAA (hK i)) (hg i) (hm i) boot_isinstance (kQ (x1 i) (kQ (MH (kQ (xM (v:=.ty T) (hgy i) (hmy i) hb rfl hn hd) (kQ (xM (v:=.ty U) (hgz i) (hmz i) hbz rfl hn' hd') xT cV) cV)) xT sY) (hs _)) (by decide) (by decide) (hs _) (oF sY vG),OD hT hU x2⟩
theorem dO(x:MT K X a ft):MT K X (.UnaryOp .Not a pos) (fB ft):=by
 obtain⟨t,x1,x2⟩:=x.ex;exact⟨_,fun i=>XE (x1 i),VR x2⟩
theorem iA{rest:List Expr}(x:MT K X a ft)(y:MW K X (.BoolOp .Or (b::rest) pos) gt):MW K X (.BoolOp .Or (a::b::rest) pos) (gOr ft gt):=by
 obtain⟨t,x1,x2⟩:=x.ex;obtain⟨u,y1,y2⟩:=y.ex;exact⟨_,fun i=>aBA (x1 i) (y1 i),aAR x2 y2⟩
theorem iC(x:MT K X a ft):MW K X (.BoolOp .Or [a] pos) ft:=by
 obtain⟨t,x1,x2⟩:=x.ex;exact⟨_,fun i=>XX (x1 i),x2⟩
theorem sT(x:MW K X a ft):MT K X a ft:=by
 obtain⟨t,x1,x2⟩:=x.ex;exact⟨_,fun i=>(x1 i).pt,x2⟩
theorem dG{op:CmpOp}{k:F2}(q:Q2 K X (compareOp op) k)(x:ME K X a f)(y:ME K X b g)(hm:behindInMarks op b=false:=by rfl):MT K X (.Compare a [op] [b] pos) (gB (fOp k f g)):=by
 obtain⟨r,q1,q2⟩:=q.ex;obtain⟨t,x1,x2⟩:=x.ex;obtain⟨u,y1,y2⟩:=y.ex;exact⟨_,fun i=>RE (q1 i) (x1 i) (y1 i) hm,PQ (EJ q2 x2 y2)⟩
theorem dR(x:ME K X a f)(he:∀(env:Env)(whole:Sem Value),isTrue a env whole=(do let v <- whole;standAt a.pos;holding [v] (truthy v)):=by intro _ _;rfl):MT K X a (gB f):=by
 obtain⟨t,x1,x2⟩:=x.ex;exact⟨_,fun i=>VD (x1 i) (he _),VE x2⟩
theorem IZ(hK:∀i,(X i).K=K)(x:ME K X a f)(he:∀(env:Env)(whole:Sem Value),isTrue a env whole=(do let v <- whole;standAt a.pos;holding [v] (truthy v)):=by intro _ _;rfl):MT K X a (uK f):=by
 obtain⟨t,x1,x2⟩:=x.ex;exact⟨_,fun i=>OA (hK i) (x1 i) (he _),QA x2⟩
theorem rF{tg:Expr}{p:Pos}(hm:∀i,(X i).mg "range"=none)(x:MA K X [a] fa)(hg:∀i,Gl (X i) "range":=by intro _;rfl):MI K X tg (.Call (.Name "range" p) [a] [] pos) (gS fa):=by
 obtain⟨t,x1,x2⟩:=x.ex;exact⟨_,fun i=>GX (hg i) (hm i) (x1 i) (x.st.1 _),OX x2⟩
theorem QD{tg:Expr}{p:Pos}(hm:∀i,(X i).mg "range"=none)(x:MA K X [a,b] fa)(hg:∀i,Gl (X i) "range":=by intro _;rfl):MI K X tg (.Call (.Name "range" p) [a,b] [] pos) (vK fa):=by
 obtain⟨t,x1,x2⟩:=x.ex;exact⟨_,fun i=>FW (hg i) (hm i) (x1 i) (by rw[x.st.1,x.st.2.1];rfl) (by rw[x.st.2.1];rfl),QT x2⟩
theorem nZ{tg:Expr}(hK:∀i,(X i).K=K)(x:ME K X a f):MI K X tg a (eE f):=by
 obtain⟨t,x1,x2⟩:=x.ex;exact⟨_,fun i=>DF (hK i) (x1 i),ZJ x2⟩
theorem cD(i:Nat){x:Str}(hN:∀j,(X j).N.Nodup)(hi:∀j,(X j).N[i]?=some x:=by intro _;rfl)(hx:∀j,Loc (X j).env.scope x:=by intro _;first|exact Or.inl rfl|exact Or.inr rfl)(hf:∀j,(X j).fn x=true\/(X j).env.scope.names.lookup x=some .local:=by intro _;first|exact .inl rfl|exact .inr rfl):
 MG K X (.Name x pos) (hName i):=⟨_,fun j=>OQ (hN j) (hi j) (hx j) (hf j),xC⟩
theorem rE:MGs K X [] oB:=⟨_,fun _=>RV,QW⟩
theorem fD{gf:GF}{gs:GsF}(x:MG K X e gf)(y:MGs K X es gs)(hs:∀env:Env,(assignEach (e::es) env).map (·.2)=assign e env::(assignEach es env).map (·.2):=by intro _;rfl):MGs K X (e::es) (dA gf gs):=by
 obtain⟨t,x1,x2⟩:=x.ex;obtain⟨u,y1,y2⟩:=y.ex;exact⟨_,fun i=>KL (x1 i) (y1 i) (hs _),NU x2 y2⟩
theorem yB{gs:GsF}{k n:Nat}(hK:∀i,(X i).K=K)(hc:∀i,(X i).calm=true)(x:MGs K X es gs)(hn:∀env:Env,(assignEach es env).length=n:=by intro _;rfl)(hst:∀env:Env,(assignEach es env).findIdx? (·.1)=none:=by intro _;rfl):MG K X (.Tuple es k pos) (nV n gs):=by
 obtain⟨t,x1,x2⟩:=x.ex;exact⟨_,fun i=>PV (hK i) (hc i) (x1 i) (hn _) (hst _),XG x2⟩
theorem NA{s:F3}(q:QS K X s)(x:ME K X a f)(y:ME K X b g) (hs:∀(env:Env)(v:Value),assign (.Subscript a b pos) env v=(do
 let ov <- holding [v] (eval a env);let iv <- holding [v,ov] (eval b env)
 standAt pos
 holding [v,ov,iv] (setItem ov iv v)
 release [v,ov,iv] []):=by intro _ _;rfl):MG K X (.Subscript a b pos) (hSub f g s):=by
 obtain⟨r,q1,q2⟩:=q.ex;obtain⟨t,x1,x2⟩:=x.ex;obtain⟨u,y1,y2⟩:=y.ex;exact⟨_,fun i=>YX (x1 i) (y1 i) (q1 i) (hs _),VO q2 x2 y2⟩
theorem pR:MF K X [] jP:=⟨_,fun _=>KU,UW⟩
noncomputable abbrev LcI(ι:Type):Type:=ι×Addr×Shared×Hp×List Addr×List (Addr×Obj)
noncomputable def vJ(X:ι->Cx)(N':List Str)(scope:Scope):LcI ι->Cx:=fun j=>jR (X j.1) N' scope j.2.1 j.2.2.1 j.2.2.2.1 j.2.2.2.2.1 j.2.2.2.2.2
variable{N':List Str}{cap:List (Option Nat)}{scope:Scope}{tg iter elt:Expr}{ifs:List Expr}{gf:GF}
theorem zU(hc:∀i,(X i).calm=true)(S:∀i,pH (X i) N' cap scope)(x:MI K X tg iter fa)(y:MG K (vJ X N' scope) tg gf)(z:MF K (vJ X N' scope) ifs ft)(w:ME K (vJ X N' scope) elt f)(hs:∀(env:Env)(x:Value),foldedSetIterable iter env x=pure x:=by intro _ _;rfl):
 ME K X (.ListComp elt [⟨tg,iter,ifs,0⟩] scope pos) (fLc cap fa gf ft f):=by
 obtain⟨t,x1,x2⟩:=x.ex;obtain⟨u,y1,y2⟩:=y.ex;obtain⟨v,z1,z2⟩:=z.ex;obtain⟨o,w1,w2⟩:=w.ex;exact⟨_,fun i=>aBB (hc i) (S i) (x1 i) (fun C s H fp pn=>y1 (i,C,s,H,fp,pn)) (fun C s H fp pn=>z1 (i,C,s,H,fp,pn)) (fun C s H fp pn=>w1 (i,C,s,H,fp,pn)) (hs _),aAH x2 y2 z2 w2⟩
theorem GE(i:Nat){x':Str}{pos' pos'':Pos}(hN:∀j,(X j).N.Nodup)(hc:∀i,(X i).calm=true)(S:∀i,pH (X i) N' cap scope)(x:MI K X tg iter fa)(y:MG K (vJ X N' scope) tg gf)(z:MF K (vJ X N' scope) ifs ft)(w:ME K (vJ X N' scope) elt f)
 (hix:∀j,(X j).N[i]?=some x':=by intro _;rfl) (hsw:∀j,swapsWith (.ListComp elt [⟨tg,iter,ifs,0⟩] scope pos) (some (.Name x' pos')) pos''.line (X j).env=pure true:=by intro _;rfl) (hx:∀j,(X j).env.scope.names.lookup x'=some .local:=by intro _;rfl) (hs:∀(env:Env)(x:Value),foldedSetIterable iter env x=pure x:=by intro _ _;rfl):
 MS K X (.Assign [.Name x' pos'] (.ListComp elt [⟨tg,iter,ifs,0⟩] scope pos) pos'') (bM (IM cap fa gf ft f) (hName i)):=by
 obtain⟨t,x1,x2⟩:=x.ex;obtain⟨u,y1,y2⟩:=y.ex;obtain⟨v,z1,z2⟩:=z.ex;obtain⟨o,w1,w2⟩:=w.ex;exact⟨_,fun j=>JG (hN j) (hix j) (hc j) (S j) (x1 j) (fun C s H fp pn=>y1 (j,C,s,H,fp,pn)) (fun C s H fp pn=>z1 (j,C,s,H,fp,pn)) (fun C s H fp pn=>w1 (j,C,s,H,fp,pn)) (hsw j) (hx j) (hs _),CT (XR x2 y2 z2 w2) xC⟩
variable{st:Stmt}{sts:List Stmt}{sf sg:SF}
theorem cP:ML K X [] cL:=⟨_,fun _=>OL,RH⟩
theorem aN(x:MS K X st sf):ML K X [st] sf:=by
 obtain⟨t,x1,x2⟩:=x.ex;exact⟨_,fun i=>QZ (x1 i),x2⟩
theorem aK(x:MS K X st sf)(y:ML K X sts sg):ML K X (st::sts) (aZ sf sg):=by
 obtain⟨t,x1,x2⟩:=x.ex;obtain⟨u,y1,y2⟩:=y.ex;exact⟨_,fun i=>IT (x1 i) (y1 i),VI x2 y2⟩
theorem aV(x:ME K X e f):MS K X (.Return (some e) pos) (bU f):=by
 obtain⟨t,x1,x2⟩:=x.ex;exact⟨_,fun i=>WJ (x1 i),ZH x2⟩
theorem iO(x:ME K X e f)(hs:∀i,swapsWith e none pos.line (X i).env=pure false:=by intro _;rfl):MS K X (.Expr e pos) (lC f):=by
 obtain⟨t,x1,x2⟩:=x.ex;exact⟨_,fun i=>RT (x1 i) (hs i),RC x2⟩
theorem dY{sts':List Stmt}(x:MT K X c ft)(y:ML K X sts sf)(z:ML K X sts' sg):MS K X (.If c sts sts' pos) (sIf ft sf sg):=by
 obtain⟨t,x1,x2⟩:=x.ex;obtain⟨u,y1,y2⟩:=y.ex;obtain⟨v,z1,z2⟩:=z.ex;exact⟨_,fun i=>aBy (x1 i) (y1 i) (z1 i),aAQ x2 y2 z2⟩
theorem tV(hp:∀i,PassesOwn (model (X i).prog (X i).w) (X i).A (X i).env (X i).xe)(x:MT K X c ft)(y:ML K X sts sf):MS K X (.While c sts [] pos) (mG ft sf):=by
 obtain⟨t,x1,x2⟩:=x.ex;obtain⟨u,y1,y2⟩:=y.ex;exact⟨_,fun i=>IG (hp i) (x1 i) (y1 i),KW x2 y2⟩
theorem lV(hp:∀i,PassesOwn (model (X i).prog (X i).w) (X i).A (X i).env (X i).xe)(hc:∀i,(X i).calm=true)(x:MI K X tg iter fa)(y:MG K X tg gf)(z:ML K X sts sf)(hs:∀(env:Env)(x:Value),foldedSetIterable iter env x=pure x:=by intro _ _;rfl):MS K X (.For tg iter sts [] pos) (jA fa gf sf):=by
 obtain⟨t,x1,x2⟩:=x.ex;obtain⟨u,y1,y2⟩:=y.ex;obtain⟨v,z1,z2⟩:=z.ex;exact⟨_,fun i=>NG (hp i) (hc i) (x1 i) (y1 i) (z1 i) (hs _),WQ x2 y2 z2⟩
theorem bF(i:Nat){x':Str}{pos':Pos}(hN:∀j,(X j).N.Nodup)(x:ME K X e f)(hi:∀j,(X j).N[i]?=some x':=by intro _;rfl)(hx:∀j,Loc (X j).env.scope x':=by intro _;first|exact Or.inl rfl|exact Or.inr rfl)(hs:∀j,swapsWith e (some (.Name x' pos')) pos.line (X j).env=pure false:=by intro _;rfl)
 (hf:∀j,(X j).fn x'=true\/(X j).env.scope.names.lookup x'=some .local:=by intro _;first|exact .inl rfl|exact .inr rfl):MS K X (.Assign [.Name x' pos'] e pos) (bM f (hName i)):=by
 obtain⟨t,x1,x2⟩:=x.ex;exact⟨_,fun j=>ZU (hN j) (hi j) (hx j) (x1 j) (hs j) (hf j),CT x2 xC⟩
theorem CH(i j:Nat){x' y':Str}{px py pt pt2:Pos}{kt k2:Nat}(hc:∀j,(X j).calm=true)(hN:∀j,(X j).N.Nodup)(x:MA K X [a,b] fa)(hij:i≠j:=by decide)(hi:∀k,(X k).N[i]?=some x':=by intro _;rfl)(hj:∀k,(X k).N[j]?=some y':=by intro _;rfl)(hx:∀k,(X k).env.scope.names.lookup x'=some .local:=by intro _;rfl)(hy:∀k,(X k).env.scope.names.lookup y'=some .local:=by intro _;rfl)
 (h1:∀k,swappedStores [.Tuple [.Name x' px,.Name y' py] kt pt] (.Tuple [a,b] k2 pt2) (X k).env=pure (some [x',y']):=by intro _;rfl) (h2:∀k,swapsWithSole [.Tuple [.Name x' px,.Name y' py] kt pt] (.Tuple [a,b] k2 pt2) pos.line (X k).env=pure false:=by intro _;rfl):
 MS K X (.Assign [.Tuple [.Name x' px,.Name y' py] kt pt] (.Tuple [a,b] k2 pt2) pos) (uU i j fa):=by
 obtain⟨t,x1,x2⟩:=x.ex;exact⟨_,fun k=>ZA (hc k) (hN k) (hi k) (hj k) hij (hx k) (hy k) (x1 k) (h1 k) (h2 k),ZG x2⟩
theorem BZ(x:ME K X e f)(y:MG K X tg gf)(h1:∀k,swapsWithSole [tg] e pos.line (X k).env=pure false:=by intro _;rfl)(h2:∀k,swappedStores [tg] e (X k).env=pure none:=by intro _;rfl)(h3:∀env:Env,(assignEach [tg] env).map (·.2)=[assign tg env]:=by intro _;rfl):MS K X (.Assign [tg] e pos) (bM f gf):=by
 obtain⟨t,x1,x2⟩:=x.ex;obtain⟨u,y1,y2⟩:=y.ex;exact⟨_,fun k=>UP (x1 k) (y1 k) (h1 k) (h2 k) (h3 _),CT x2 y2⟩
theorem cY(hK:∀i,(X i).K=K:=by intro _;rfl):Q2 K X (binaryOp .Add) cH:=⟨_,fun i=>aCb (hK i),RB⟩
theorem zT:Q2 K X (binaryOp .Sub) zE:=⟨_,fun _=>YK,VT⟩
theorem uE:Q2 K X (binaryOp .Mult) uV:=⟨_,fun _=>QP,YY⟩
theorem iZ:Q2 K X (binaryOp .FloorDiv) hX:=⟨_,fun _=>KZ,NY⟩
theorem fH:Q2 K X (binaryOp .Mod) eT:=⟨_,fun _=>VM,VP⟩
theorem EG:Q2 K X (binaryOp .Pow) BY:=⟨_,fun _=>UN,WU⟩
theorem DR:Q1 K X (unaryOp .USub) yC:=⟨_,fun _=>UR,ZM⟩
theorem aBo:Q2 K X (compareOp .Lt) ltI:=⟨_,fun _=>op_lt,UG⟩
theorem YU:Q2 K X (compareOp .LtE) leI:=⟨_,fun _=>aAk,aAC⟩
theorem aBC:Q2 K X (compareOp .Gt) gtI:=⟨_,fun _=>aBD,aAG⟩
theorem YN:Q2 K X (compareOp .GtE) geI:=⟨_,fun _=>aBc,aBJ⟩
theorem lP(hK:∀i,(X i).K=K)(hu:∀i,(X i).A.units+64<cLine):Q2 K X (compareOp .Eq) (eqX false):=⟨_,fun i=>kEq (hK i) (hu i),NI⟩
theorem JJ(hK:∀i,(X i).K=K)(hu:∀i,(X i).A.units+64<cLine):Q2 K X (compareOp .NotEq) (eqX true):=⟨_,fun i=>kNe (hK i) (hu i),YV⟩
theorem bO(hK:∀i,(X i).K=K:=by intro _;rfl):QI K X ixF:=⟨_,fun i=>kIx (hK i),UT⟩
theorem qR(hK:∀i,(X i).K=K:=by intro _;rfl):QN K X (.builtin "len") gN:=⟨_,fun i=>aBR (hK i),OP⟩
theorem oY(hK:∀i,(X i).K=K):QN K X (.type "tuple") fV:=⟨_,fun i=>XJ (hK i),FV⟩
theorem TH(hK:∀i,(X i).K=K)(hc:∀i,(X i).calm=true):QN K X (.builtin "all") zV:=⟨_,fun i=>aBQ (hK i) (hc i),PF⟩
theorem TK:QS K X xY:=⟨_,fun _=>set_list,XI⟩
end
section
variable{P:Program}{w:World}{K:Fg}{mg:Str->Option Value}
theorem Def.okG{base:Heap}{x:Str}{st:Stmt}{N ps:List Str}{k:Nat}{b:SF}{q:Bool}(D:Def K mg x st)(S:bA N ps (aJ st))
 (hb:∀(kV doc pm:Value)(an:Option Addr)(cdv ct:Value)(us:List Value),us.length=ps.length->bindArgs (PySem.W.fnOf x x (fF st) (cQ st) (aJ st) .none kV doc pm an cdv ct) ⟨us,[]⟩=pure (ps.zip us))
 (hbody:∀(f:Addr)(cdv:Value)(A:Around)(outer:List Env)(s:Shared)(H:Hp)(E:XK),eB k (A.deeper (envOfC x (aJ st) s.heap.objs.size f cdv)) q->
  ML K (fun _:Unit=>(qT CX0 P w K mg base N x (aJ st) f cdv A outer s H E q).nox) (cQ st) b):Callee P w K mg base (k+1) x ps (spM K (fnF ps.length N.length b)) q:=
 D.okM S hb fun f cdv A outer s H E hr=>by
  obtain⟨t,h1,h2⟩:=(hbody f cdv A outer s H E hr).ex;exact⟨t,h1 (),h2⟩
theorem Def.okLG{x p:Str}{st:Stmt}{N:List Str}{k:Nat}{b:SF}{F:FN}(D:Def K mg x st)(S:bA N [p] (aJ st))(hF:F=fnF 1 N.length b)
 (hb:∀(kV doc pm:Value)(an:Option Addr)(cdv ct:Value)(us:List Value),us.length=[p].length->bindArgs (PySem.W.fnOf x x (fF st) (cQ st) (aJ st) .none kV doc pm an cdv ct) ⟨us,[]⟩=pure ([p].zip us))
 (hbody:∀(base:Heap)(f:Addr)(cdv:Value)(A:Around)(outer:List Env)(s:Shared)(H:Hp)(E:XK),eB k (A.deeper (envOfC x (aJ st) s.heap.objs.size f cdv))->
  ML K (fun _:Unit=>(qT CX0 P w K mg base N x (aJ st) f cdv A outer s H E).nox) (cQ st) b):
 ∃f fd,mg x=some (.ref f)/\(∀(s:Shared)(u:Value),BindsTo s fd ⟨[u],[]⟩ [(p,u)])/\∀base,oE P w K mg base CX0 (k+1) f fd [p] (spM K F):=
 D.okL S hF hb fun base f cdv A outer s H E hr=>by
  obtain⟨t,h1,h2⟩:=(hbody base f cdv A outer s H E hr).ex;exact⟨t,h1 (),h2⟩
end
end L2
namespace HT
open PySem PyProof.Rows PySem.Spec
section
variable{prog:Program}{w:World}{A:Around}{E:Value->Shared->Prop}{s:Shared}
theorem getItem_tuple_whole{t sl:Addr}{items:Array Value}{vl vu:Value}{lo hi:Option Int}{Q:Value->Shared->Prop}(ht:IsTup s.heap t items)(hs:s.heap.IsSliceOf sl vl vu .none)(pl:IsPart vl lo)(pu:IsPart vu hi)
 (hw:sIx items.size 0 lo=0/\sIx items.size items.size hi=items.size) (h:Q (.ref t) s):wpAny (model prog w) A (getItem (.ref t) (.ref sl)) Q E s:=by
 obtain⟨os,hos,hcs,hds⟩:=id hs;have hTs:s.TypeIs (.ref sl) "slice":=⟨os,hos,hcs⟩;unfold getItem
 try with_reducible refine L3 ?_
 first|refine A0 (B3 ?_)|skip
 refine A0 (wpAny_sequenceKey ht.typeIs (by decide) ?_)
 refine A0 (O1 (name:=Str.ofString "__getitem__") ht.typeIs E1
  (L5 E1 ht.typeIs entry_tuple_getitem ?_ (args_tuple_getitem _ _)))
 show wpAny _ _ (Builtin.Tuple.tupleItemsOf (.ref t) >>= _) _ _ s;refine A0 (tupleItemsOf_ ht ?_);refine A0 (wpAny_typeOf hTs ?_);rw[A4 (by decide)];refine A0 (jW hs pl pu ?_)
 have hyes:(((sIx items.size 0 lo:Nat):Int)==0&&(1:Int)==1&&(sIx items.size items.size hi-sIx items.size 0 lo)==items.size)=true:=by
  rw[hw.1,hw.2];simp
 show wpAny _ _ (if (((sIx items.size 0 lo:Nat):Int)==0&&(1:Int)==1&&(sIx items.size items.size hi-sIx items.size 0 lo)==items.size)=true then _ else _) _ _ s;rw[A4 hyes];refine A0 (m:=Builtin.Tuple.tupleIsExact (.ref t)) ?_;unfold Builtin.Tuple.tupleIsExact;refine A0 (wpAny_typeOf ht.typeIs (B3 ?_));rw[A4 (by decide)];exact A0 (wpAny_rule (B3 ⟨_,rfl,B3 h⟩))
end
end HT
namespace L2
variable{W:Wd}{K:Fg}{H:Hp}{apos cpos pos:Pos}
open PySem PySem.Spec PyProof.Rows
noncomputable def aBa(K:Fg):V->Option Int->Option Int->Hp->VK->Prop:=fun x lo hi H Q=>∃a xs,x=.ref a/\SqT K H a xs/\(HT.sIx xs.length 0 lo=0/\HT.sIx xs.length xs.length hi=xs.length)/\Q (.ref a) H
theorem HZ{X:Cx}:SlR X (aBa X.K):=by
 intro pins s σ H x v vl vu lo hi sl Q I rx hs pl pu h;obtain⟨a,xs,rfl,hx,hw,q⟩:=h;cases rx;obtain⟨its,r,ht,hz⟩:=I.tuple hx;have hlen:its.toArray.size=xs.length:=by rw[C0];exact r.length.symm
 refine⟨"tuple",_,PyProof.Rows.slot_tuple_getitem.lookup,ht.typeIs,?_⟩;exact HT.getItem_tuple_whole ht hs pl pu (by rw[hlen];exact hw) ⟨.ref a,H,I,rfl,q⟩
noncomputable def cU{α:Type}(xs:List α)(lo hi:Option Int):List α:=(xs.drop (HT.sIx xs.length 0 lo)).take (HT.sIx xs.length xs.length hi-HT.sIx xs.length 0 lo)
noncomputable abbrev OF:=Ga->Sto->Option (Option Int×Sto)
noncomputable def bQ:OF:=fun _ M=>some (none,M)
noncomputable def asI:CD->Option Int
 |.d (.int i)=>some i
 |_=>none
noncomputable def dF(f:EF):OF:=fun γ M=>(f γ M).bind fun r=>(asI r.1).bind fun i=>some (some i,r.2)
noncomputable def slF(x:CD)(lo hi:Option Int)(M:Sto):Option (CD×Sto):=match x with
 |.d (.list ds)=>some (.d (.list (cU ds lo hi)),M)
 |.d (.tuple ds)=>some (.d (.tuple (cU ds lo hi)),M)
 |.c i=>match M[i]? with
  |some (.lst xs)=>(kG (cU xs lo hi)).bind fun ds=>some (.d (.list ds),M)
  |_=>none
 |_=>none
noncomputable def fSl(f:EF)(l u:OF):EF:=fun γ M=>(f γ M).bind fun r=>(l γ r.2).bind fun p=>(u γ p.2).bind fun q=>slF r.1 p.1 q.1 q.2
noncomputable def YZ(K:Fg):V->Option Int->Option Int->Hp->VK->Prop:=fun x lo hi H Q=>aAB K x lo hi H Q\/aBE K x lo hi H Q\/aBa K x lo hi H Q
theorem kSl{X:Cx}(h:X.K=K):SlR X (YZ K):=by subst h;exact sl_list.or (sl_tup.or HZ)
section
variable{K:Fg}
noncomputable def SO(K:Fg)(t:TO)(f:OF):Prop:=∀γ M b M',f γ M=some (b,M')->∀(W:Wd)(H:Hp)(σ:St)(Q:Option Int->Hp->Prop),Good K W M H->dC K W γ σ->(∀W' H',W.Ext W'->Good K W' M' H'->Q b H')->t σ H Q
theorem PX:SO K DZ bQ:=by
 intro γ M x M' hh W H σ Q G R k;cases hh;exact k W H (.refl _) G
theorem ZD{x:CD}{i:Int}(h:asI x=some i):x=.d (.int i):=by
 cases x with
 |c n=>cases h
 |t n=>cases h
 |f n=>cases h
 |d x=>cases x<;>first|cases h;rfl|cases h
theorem QM{ta:TE}{f:EF}(a:SE K ta f):SO K (TL ta) (dF f):=by
 intro γ M x M' hh W H σ Q G R k;obtain⟨⟨y,M1⟩,h1,hh⟩:=aI hh;obtain⟨i,h2,hh⟩:=aI hh;cases hh;refine a _ _ _ _ h1 W H σ _ G R fun v W1 H1 e1 G1 r1=>?_;have hy:y=_:=ZD h2;subst hy;exact⟨i,r1,k W1 H1 e1 G1⟩
theorem aH.drop{H:Hp}:∀{ds:List PyData}{vs:List V}(n:Nat),aH K H ds vs->aH K H (ds.drop n) (vs.drop n)
 |_,_,0=>fun h=>h
 |[],vs,n+1=>fun h=>by rw[show vs=[]from h];rfl
 |d::ds,vs,n+1=>fun h=>by
  obtain⟨v,r,rfl,_,h3⟩:=h;exact aH.drop n h3
theorem aH.take{H:Hp}:∀{ds:List PyData}{vs:List V}(n:Nat),aH K H ds vs->aH K H (ds.take n) (vs.take n)
 |_,_,0=>fun h=>rfl
 |[],vs,n+1=>fun h=>by rw[show vs=[]from h];rfl
 |d::ds,vs,n+1=>fun h=>by
  obtain⟨v,r,rfl,h2,h3⟩:=h;exact⟨v,r.take n,rfl,h2,aH.take n h3⟩
theorem aH.cut{ds:List PyData}{vs:List V}(h:aH K H ds vs)(lo hi:Option Int):aH K H (cU ds lo hi) (pM vs lo hi):=by
 unfold cU pM;rw[h.length];exact(h.drop _).take _
theorem tP{α β:Type}{R:α->β->Prop}:∀{xs:List α}{ys:List β}(n:Nat),Paired R xs ys->Paired R (xs.drop n) (ys.drop n)
 |_,_,0,h=>h
 |_,_,_+1,.nil=>.nil
 |_,_,n+1,.cons _ t=>tP n t
theorem nN{α β:Type}{R:α->β->Prop}:∀{xs:List α}{ys:List β}(n:Nat),Paired R xs ys->Paired R (xs.take n) (ys.take n)
 |_,_,0,h=>.nil
 |_,_,_+1,.nil=>.nil
 |_,_,n+1,.cons r t=>.cons r (nN n t)
theorem FY{xs:List CD}{vs:List V}(h:bS K W xs vs)(lo hi:Option Int):bS K W (cU xs lo hi) (pM vs lo hi):=by
 unfold cU pM;rw[Paired.len h];exact nN _ (tP _ h)
theorem LC{x:CD}{lo hi:Option Int}{M:Sto}{z:CD}{M':Sto}(h:slF x lo hi M=some (z,M')){v:V}{Q:VK}(G:Good K W M H)(rx:cA K W x v)(k:∀w W' H',W.Ext W'->Good K W' M' H'->cA K W' z w->Q w H'):YZ K v lo hi H Q:=by
 unfold slF at h;split at h
 .rename_i ds;cases h;obtain⟨p,us,rfl,hq,hr⟩:=(show ∃a us,_=V.ref a/\SqL K W.F a us/\aH K W.F ds us from rx);refine .inl ⟨p,us,rfl,G.fh.seq hq,fun l hl=>?_⟩;obtain⟨e2,G2⟩:=G.lay (o:=.lst (pM us lo hi)) hl;exact k _ _ _ e2 G2 ⟨l,_,rfl,SqL.of aT,aH.same e2.ff _ _ (hr.cut lo hi)⟩
 .rename_i ds;cases h;obtain⟨p,us,rfl,hq,hr⟩:=(show ∃a us,_=V.ref a/\SqT K W.F a us/\aH K W.F ds us from rx);by_cases hw:HT.sIx us.length 0 lo=0/\HT.sIx us.length us.length hi=us.length
  .refine .inr (.inr ⟨p,us,rfl,G.fh.seqT hq,hw,?_⟩)
   have e:cU ds lo hi=ds:=by
    unfold cU;rw[hr.length,hw.1,hw.2,<- hr.length];simp
   rw[e]at k;exact k _ W H (.refl _) G ⟨p,us,rfl,hq,hr⟩
  .refine .inr (.inl ⟨p,us,rfl,G.fh.seqT hq,hw,fun l hl=>?_⟩);obtain⟨e2,G2⟩:=G.lay (o:=.tup (pM us lo hi)) hl;exact k _ _ _ e2 G2 ⟨l,_,rfl,SqT.of aT,aH.same e2.ff _ _ (hr.cut lo hi)⟩
 .rename_i i;split at h
  .rename_i xs hx;obtain⟨ds,h1,h⟩:=aI h;cases h;obtain⟨us,hv,hr⟩:=G.lstAt hx;rw[rx.2];refine .inl ⟨_,us,rfl,SqL.of hv,fun l hl=>?_⟩;obtain⟨e2,G2⟩:=G.lay (o:=.lst (pM us lo hi)) hl;exact k _ _ _ e2 G2 ⟨l,_,rfl,SqL.of aT,aH.same e2.ff _ _ (eK h1 (FY hr lo hi))⟩
  .cases h
 .cases h
theorem aAZ{ta:TE}{f:EF}{tl th:TO}{l u:OF}(a:SE K ta f)(b:SO K tl l)(c:SO K th u):SE K (tSl (YZ K) ta tl th) (fSl f l u):=by
 intro γ M x M' hh W H σ Q G R k;obtain⟨⟨y,M1⟩,h1,hh⟩:=aI hh;obtain⟨⟨p,M2⟩,h2,hh⟩:=aI hh;obtain⟨⟨q,M3⟩,h3,hh⟩:=aI hh;refine a _ _ _ _ h1 W H σ _ G R fun v W1 H1 e1 G1 r1=>?_;refine b _ _ _ _ h2 W1 H1 σ _ G1 (R.up e1) fun W2 H2 e2 G2=>?_;refine c _ _ _ _ h3 W2 H2 σ _ G2 (R.up (e1.trans e2)) fun W3 H3 e3 G3=>?_;exact LC hh G3 (r1.up (e2.trans e3)) fun w W4 H4 e4 G4 r4=>k w W4 H4 (((e1.trans e2).trans e3).trans e4) G4 r4
noncomputable def qX:FN:=fun xs M=>match xs with
 |[.d (.int i)]=>some (.d (.int i),M)
 |[.d (.bool b)]=>some (.d (.int (if b then 1 else 0)),M)
 |_=>none
theorem XH:PN K (fun xs H Q=>(∃i,xs=[.int i]/\Q (.int i) H)\/∃k,xs=[.bl k]/\Q (.int (if k then 1 else 0)) H) qX:=by
 intro xs M z M' h W H vs Q G r k;unfold qX at h;split at h
 .rename_i i;cases h;rcases r with _|⟨r1,_|_⟩;exact .inl ⟨i,by rw[show _=V.int i from r1],k _ W H (.refl _) G rfl⟩
 .rename_i b;cases h;rcases r with _|⟨r1,_|_⟩;exact .inr ⟨b,by rw[show _=V.bl b from r1],k _ W H (.refl _) G rfl⟩
 .cases h
noncomputable def tyB(T:String)(M:Sto):CD->Bool
 |.d (.list _)=>T=="list"
 |.d (.str _)=>T=="str"
 |.c i=>match M[i]? with
  |some (.lst _)=>T=="list"
  |some (.dk _)=>T=="dict"
  |some (.dt _)=>T=="dict"
  |_=>false
 |_=>false
theorem JN{T:String}{M:Sto}{x:CD}{v:V}(h:tyB T M x=true)(G:Good K W M H)(r:cA K W x v):tyV K T v H:=by
 unfold tyB at h;split at h
 .rename_i ds;obtain⟨p,us,rfl,hq,hr⟩:=(show ∃a us,_=V.ref a/\SqL K W.F a us/\aH K W.F ds us from r);exact .inl ⟨eq_of_beq h,us,G.fh.seq hq⟩
 .rename_i x;rw[show v=.str x from r];exact eq_of_beq h
 .rename_i i;rw[r.2];split at h
  .rename_i xs hx;obtain⟨us,hv,hr⟩:=G.lstAt hx;exact .inl ⟨eq_of_beq h,us,SqL.of hv⟩
  .rename_i kvs hx;obtain⟨_,o,g2,g3⟩:=G.cs i _ hx (by intro z;cases z);cases o with
   |dK us=>exact .inr (.inr (.inl ⟨eq_of_beq h,.inl ⟨us,g2⟩⟩))
   |_=>exact False.elim g3
  .rename_i kvs hx;obtain⟨_,o,g2,g3⟩:=G.cs i _ hx (by intro z;cases z);cases o with
   |dT us=>exact .inr (.inr (.inl ⟨eq_of_beq h,.inr ⟨us,g2⟩⟩))
   |_=>exact False.elim g3
  .cases h
 .cases h
noncomputable abbrev FM:=CD->List CD->Sto->Option (CD×Sto)
noncomputable def cM(T:String)(h:FM)(f:EF)(fa:AF):EF:=fun γ M=>(f γ M).bind fun r=>if tyB T r.2 r.1=true then(fa γ r.2).bind fun q=>h r.1 q.1 q.2 else none
noncomputable def PM(K:Fg)(r:V->List V->Hp->VK->Prop)(f:FM):Prop:=∀x xs M z M',f x xs M=some (z,M')->∀(W:Wd)(H:Hp)(v:V)(vs:List V)(Q:VK),Good K W M H->cA K W x v->bS K W xs vs->(∀w W' H',W.Ext W'->Good K W' M' H'->cA K W' z w->Q w H')->r v vs H Q
theorem RD{T:String}{r:V->List V->Hp->VK->Prop}{h:FM}{ta:TE}{f:EF}{tA:TA}{fa:AF}(p:PM K r h)(a:SE K ta f)(b:SA K tA fa):SE K (tBM K T r ta tA) (cM T h f fa):=by
 intro γ M x M' hh W H σ Q G R k;obtain⟨⟨y,M1⟩,h1,hh⟩:=aI hh;by_cases hT:tyB T M1 y=true
 .have hh:(if tyB T M1 y=true then(fa γ M1).bind fun q=>h y q.1 q.2 else none)=some (x,M'):=hh;rw[A4 hT]at hh;obtain⟨⟨ys,M2⟩,h2,hh⟩:=aI hh;refine a _ _ _ _ h1 W H σ _ G R fun v W1 H1 e1 G1 r1=>⟨JN hT G1 r1,?_⟩;refine b _ _ _ _ h2 W1 H1 σ _ G1 (R.up e1) fun vs W2 H2 e2 G2 r2=>?_;exact p _ _ _ _ _ hh W2 H2 v vs Q G2 (r1.up e2) r2 fun w W3 H3 e3 G3 r3=>k w W3 H3 ((e1.trans e2).trans e3) G3 r3
 .have hh:(if tyB T M1 y=true then(fa γ M1).bind fun q=>h y q.1 q.2 else none)=some (x,M'):=hh;rw[A6 hT]at hh;cases hh
theorem yQ{T:String}{r:V->List V->Hp->VK->Prop}{h:FM}{ta:TE}{f:EF}(p:PM K r h)(a:SE K ta f):SE K (aAT K T r ta) (cM T h f aG):=by
 intro γ M x M' hh W H σ Q G R k;obtain⟨⟨y,M1⟩,h1,hh⟩:=aI hh;have hh:(if tyB T M1 y=true then h y [] M1 else none)=some (x,M'):=hh;by_cases hT:tyB T M1 y=true
 .rw[A4 hT]at hh;refine a _ _ _ _ h1 W H σ _ G R fun v W1 H1 e1 G1 r1=>⟨JN hT G1 r1,?_⟩;exact p _ _ _ _ _ hh W1 H1 v [] Q G1 r1 .nil fun w W3 H3 e3 G3 r3=>k w W3 H3 (e1.trans e3) G3 r3
 .rw[A6 hT]at hh;cases hh
noncomputable def bY:FM:=fun x ys M=>match x,ys with
 |.c i,[y]=>match M[i]? with
  |some (.lst xs)=>if xs.length<sizeLine then some (.d .none,M.set i (.lst (xs++[y])))else none
  |_=>none
 |_,_=>none
theorem FH:PM K DM bY:=by
 intro x ys M z M' h W H v vs Q G rx rs k;unfold bY at h;split at h
 .rename_i i y;split at h
  .rename_i xs hx;by_cases hl:xs.length<sizeLine
   .rw[A4 hl]at h;cases h;obtain⟨us,hv,hr⟩:=G.lstAt hx;rcases rs with _|⟨r1,_|_⟩;refine⟨W.α i,us,_,rx.2,rfl,hv,by rw[<- Paired.len hr];exact hl,?_⟩;exact k _ W _ (.refl _) (G.set hx (by intro q;cases q) (c':=.lst (xs++[y])) (show bS K W _ _ from Paired.app hr (.cons r1 .nil))) rfl
   .rw[A6 hl]at h;cases h
  .cases h
 .cases h
noncomputable def nW:FM:=fun x ys M=>match x,ys with
 |.c i,[]=>match M[i]? with
  |some (.lst xs)=>(xs[xs.length-1]?).bind fun y=>some (y,M.set i (.lst xs.dropLast))
  |_=>none
 |_,_=>none
theorem sX{α β:Type}{R:α->β->Prop}{xs:List α}{ys:List β}(h:Paired R xs ys):Paired R xs.dropLast ys.dropLast:=by
 rw[List.dropLast_eq_take,List.dropLast_eq_take,Paired.len h];exact nN _ h
theorem VJ:PM K aBv nW:=by
 intro x ys M z M' h W H v vs Q G rx rs k;unfold nW at h;split at h
 .rename_i i;split at h
  .rename_i xs hx;obtain⟨y,h1,h⟩:=aI h;cases h;obtain⟨us,hv,hr⟩:=G.lstAt hx;obtain⟨u,hu,ru⟩:=Paired.get hr h1;cases rs;refine⟨W.α i,us,u,rx.2,rfl,hv,by rw[<- Paired.len hr];exact hu,?_⟩;exact k _ W _ (.refl _) (G.set hx (by intro q;cases q) (c':=.lst xs.dropLast) (show bS K W _ _ from sX hr)) ru
  .cases h
 .cases h
end
section
variable{ι:Type}{K:Fg}{X:ι->Cx}{a b c e o:Expr}{es:List Expr}{f g h:EF}{fa:AF}{pos:Pos}
structure MO(K:Fg)(X:ι->Cx)(e:Option Expr)(f:OF):Prop where
 ex:∃t,(∀i,PO (X i) e t)/\SO K t f
theorem eM:MO K X none bQ:=⟨_,fun _=>NV,PX⟩
theorem dB(x:ME K X e f):MO K X (some e) (dF f):=by
 obtain⟨t,x1,x2⟩:=x.ex;exact⟨_,fun i=>OK (x1 i),QM x2⟩
theorem iR{lo hi:Option Expr}{l u:OF}{p2:Pos}(hK:∀i,(X i).K=K)(x:ME K X a f)(y:MO K X lo l)(z:MO K X hi u):ME K X (.Subscript a (.Slice lo hi none p2) pos) (fSl f l u):=by
 obtain⟨t,x1,x2⟩:=x.ex;obtain⟨t',y1,y2⟩:=y.ex;obtain⟨t'',z1,z2⟩:=z.ex;exact⟨_,fun i=>JK (kSl (hK i)) (x1 i) (y1 i) (z1 i),aAZ x2 y2 z2⟩
theorem SC:QN K X (.type "int") qX:=⟨_,fun _=>FA,XH⟩
theorem fX(hK:∀i,(X i).K=K)(x:ME K X o f)(y:MA K X [e] fa)(hb:∀env:Env,attributeBase o "append" env (eval o env)=eval o env:=by intro _;rfl)(hl:(apos.endLine==cpos.line)=true:=by rfl):
 ME K X (.Call (.Attribute o "append" apos) [e] [] cpos) (cM "list" bY f fa):=by
 obtain⟨t,x1,x2⟩:=x.ex;obtain⟨u,y1,y2⟩:=y.ex;refine⟨_,fun i=>?_,RD FH x2 y2⟩;have:=aBd PySem.F.plainAttrs_list PySem.F.slot_list_append PySem.F.type_list_append FB (x1 i) (y1 i) (apos:=apos) (cpos:=cpos) (hb _) (by rw[y.st.1];rfl) hl (y.st.1 _) (y.st.2.plain _ _);rw[hK i]at this;exact this
theorem xB(hK:∀i,(X i).K=K)(x:ME K X o f)(hb:∀env:Env,attributeBase o "pop" env (eval o env)=eval o env:=by intro _;rfl)(hl:(apos.endLine==cpos.line)=true:=by rfl):
 ME K X (.Call (.Attribute o "pop" apos) [] [] cpos) (cM "list" nW f aG):=by
 obtain⟨t,x1,x2⟩:=x.ex;refine⟨_,fun i=>?_,yQ VJ x2⟩;have:=JM PySem.F.plainAttrs_list PySem.F.slot_list_pop PySem.F.type_list_pop XM (x1 i) (apos:=apos) (cpos:=cpos) (hb _) hl;rw[hK i]at this;exact this
end
theorem Def.okNone{P:Program}{w:World}{mg:Str->Option Value}{base:Heap}{x:Str}{st:Stmt}{N ps:List Str}{k:Nat}(D:Def K mg x st)(S:bA N ps (aJ st))
 (hb:∀(kV doc pm:Value)(an:Option Addr)(cdv ct:Value)(us:List Value),us.length=ps.length->bindArgs (PySem.W.fnOf x x (fF st) (cQ st) (aJ st) .none kV doc pm an cdv ct) ⟨us,[]⟩=pure (ps.zip us)):
 Callee P w K mg base (k+1) x ps (spM K fun _ _=>none):=by
 refine D.ok S hb (fun vs H Q E h=>?_) fun f cdv A outer s H vs Q E hr h=>?_
 .obtain⟨xs,M,W,y,M',G,R,hf,_⟩:=h;cases hf
 .obtain⟨xs,M,W,y,M',G,R,hf,_⟩:=h;cases hf
noncomputable def BL:EF:=fun _ M=>some (.d (.dict []),M)
theorem JU:SE K LJ BL:=by
 intro γ M x M' hh W H σ Q G R k;cases hh;intro p hp;obtain⟨e2,G2⟩:=G.lay (o:=.dK []) hp;exact k _ _ _ e2 G2 ⟨p,[],rfl,aT,rfl⟩
noncomputable def xW:List (EF×EF)->Ga->Sto->Option (List (CD×CD)×Sto)
 |[],_,M=>some ([],M)
 |(f,g)::r,γ,M=>(f γ M).bind fun a=>(g γ a.2).bind fun b=>(xW r γ b.2).bind fun q=>some ((a.1,b.1)::q.1,q.2)
noncomputable def keyOf:CD->Option Key
 |.d (.int i)=>some (.inl i)
 |.d (.str x)=>some (.inr x)
 |_=>none
section
variable{K:Fg}
noncomputable def SPs(K:Fg):List (TE×TE)->List (EF×EF)->Prop:=Paired fun t f=>SE K t.1 f.1/\SE K t.2 f.2
theorem LM:∀{ts:List (TE×TE)}{fs:List (EF×EF)},SPs K ts fs->∀{γ:Ga}{M:Sto}{xs:List (CD×CD)}{M':Sto},xW fs γ M=some (xs,M')->∀{W:Wd}{H:Hp}{σ:St}{Q:List (V×V)->Hp->Prop},Good K W M H->dC K W γ σ->
 (∀vs W' H',W.Ext W'->Good K W' M' H'->Paired (fun a b=>cA K W' a.1 b.1/\cA K W' a.2 b.2) xs vs->Q vs H')->xO ts σ H Q
 |_,_,.nil,γ,M,xs,M',h,W,H,σ,Q,G,R,k=>by
  cases h;exact k [] W H (.refl _) G .nil
 |_,_,.cons s1 s2,γ,M,xs,M',h,W,H,σ,Q,G,R,k=>by
  obtain⟨⟨a,M1⟩,h1,h⟩:=aI h;obtain⟨⟨b,M2⟩,h2,h⟩:=aI h;obtain⟨⟨q,M3⟩,h3,h⟩:=aI h;cases h;refine s1.1 _ _ _ _ h1 W H σ _ G R fun v W1 H1 e1 G1 r1=>?_;refine s1.2 _ _ _ _ h2 W1 H1 σ _ G1 (R.up e1) fun u W2 H2 e2 G2 r2=>?_;refine LM s2 h3 G2 (R.up (e1.trans e2)) fun vs W3 H3 e3 G3 r3=>?_;exact k _ W3 H3 ((e1.trans e2).trans e3) G3 (.cons ⟨r1.up (e2.trans e3),r2.up e3⟩ r3)
theorem vX{x:CD}{k:Key}{v:V}(h:keyOf x=some k)(r:cA K W x v):v=kV k:=by
 unfold keyOf at h;split at h
 .cases h;exact r
 .cases h;exact r
 .cases h
theorem vR:∀(more acc:List (Key×V)),((acc++more).map (·.1)).Nodup->mF acc more=acc++more
 |[]=>fun acc _=>by simp[mF]
 |p::more=>fun acc h=>by
  have hn:fS acc p.1=none:=by
   unfold fS;rw[Option.map_eq_none_iff,List.find?_eq_none];intro x hx hd;have:x.1=p.1:=D3 hd;rw[E3,List.nodup_append]at h;exact h.2.2 x.1 (List.mem_map_of_mem hx) p.1 (by simp) this
  show mF (putK acc p.1 p.2) more=_;rw[IS _ hn,vR more _ (by rw[D9];exact h),D9];rfl
end
section
variable{ι:Type}{K:Fg}{X:ι->Cx}
structure MD(K:Fg)(X:ι->Cx)(pos:Pos)(ks:List (Option Expr))(vs:List Expr)(fs:List (EF×EF)):Prop where
 ex:∃ts,(∀i,PPs (X i) pos ks vs ts)/\SPs K ts fs
theorem ZN:MD K X pos [] [] []:=⟨_,fun _=>QL,.nil⟩
theorem RL{k v:Expr}{ks:List (Option Expr)}{vs:List Expr}{f g:EF}{fs:List (EF×EF)}(x:ME K X k f)(y:ME K X v g)(z:MD K X pos ks vs fs):MD K X pos (some k::ks) (v::vs) ((f,g)::fs):=by
 obtain⟨t,x1,x2⟩:=x.ex;obtain⟨u,y1,y2⟩:=y.ex;obtain⟨o,z1,z2⟩:=z.ex;exact⟨_,fun i=>ID (x1 i) (y1 i) (z1 i),.cons ⟨x2,y2⟩ z2⟩
theorem JS:ME K X (.Dict [] [] pos) BL:=⟨_,fun _=>NS,JU⟩
end
section
variable{K:Fg}
theorem vS{α β:Type}{R:α->β->Prop}:∀{xs:List α}{ys:List β},Paired R xs ys->Paired R xs.reverse ys.reverse
 |_,_,.nil=>.nil
 |_,_,.cons h t=>by
  rw[J3,J3];exact Paired.app (vS t) (.cons h .nil)
noncomputable def iH:FM:=fun x ys M=>match x,ys with
 |.c i,[]=>match M[i]? with
  |some (.lst xs)=>some (.d .none,M.set i (.lst xs.reverse))
  |_=>none
 |_,_=>none
theorem CJ:PM K zL iH:=by
 intro x ys M z M' h W H v vs Q G rx rs k;unfold iH at h;split at h
 .rename_i i;split at h
  .rename_i xs hx;cases h;obtain⟨us,hv,hr⟩:=G.lstAt hx;cases rs;refine⟨W.α i,us,rx.2,rfl,hv,?_⟩;exact k _ W _ (.refl _) (G.set hx (by intro q;cases q) (c':=.lst xs.reverse) (show bS K W _ _ from vS hr)) rfl
  .cases h
 .cases h
end
section
variable{ι:Type}{K:Fg}{X:ι->Cx}{a b c e o:Expr}{es:List Expr}{f g h:EF}{fa:AF}{pos:Pos}
theorem BR(hK:∀i,(X i).K=K)(x:ME K X o f)(hb:∀env:Env,attributeBase o "reverse" env (eval o env)=eval o env:=by intro _;rfl)(hl:(apos.endLine==cpos.line)=true:=by rfl):
 ME K X (.Call (.Attribute o "reverse" apos) [] [] cpos) (cM "list" iH f aG):=by
 obtain⟨t,x1,x2⟩:=x.ex;refine⟨_,fun i=>?_,yQ CJ x2⟩;have:=JM PySem.F.plainAttrs_list PySem.F.slot_list_reverse PySem.F.type_list_reverse CQ (x1 i) (apos:=apos) (cpos:=cpos) (hb _) hl;rw[hK i]at this;exact this
end
open PySem PySem.W PyProof.Rows
noncomputable def KS{α:Type}(lt:Nat->Nat->Bool)(n:Nat):KasT α->(α->Prop)->Prop
 |.ret a,Q=>Q a
 |.ask i j k,Q=>i<n/\j<n/\KS lt n (k (lt i j)) Q
theorem KS.bind{α β:Type}{lt:Nat->Nat->Bool}{n:Nat}{f:α->KasT β}{Q:β->Prop}:∀{t:KasT α},KS lt n t (fun a=>KS lt n (f a) Q)->KS lt n (t.bind f) Q
 |.ret _=>fun h=>h
 |.ask _ _ _=>fun h=>⟨h.1,h.2.1,KS.bind h.2.2⟩
theorem KS.mono{α:Type}{lt:Nat->Nat->Bool}{n:Nat}{Q R:α->Prop}(m:∀a,Q a->R a):∀{t:KasT α},KS lt n t Q->KS lt n t R
 |.ret _=>fun h=>m _ h
 |.ask _ _ _=>fun h=>⟨h.1,h.2.1,KS.mono m h.2.2⟩
theorem KS.wp{α:Type}{lt:Nat->Nat->Bool}{n:Nat}{Q:α->Prop}{R:α->Shared->Prop}{s:Shared}{cmp:Nat->Nat->(Bool->Shared->Prop)->Shared->Prop}
 (hc:∀i j C,i<n->j<n->C (lt i j) s->cmp i j C s) (m:∀a,Q a->R a s):∀{t:KasT α},KS lt n t Q->KasT.kasWp cmp t R s
 |.ret _=>fun h=>m _ h
 |.ask _ _ _=>fun h=>hc _ _ _ h.1 h.2.1 (KS.wp hc m h.2.2)
section
variable{lt:Nat->Nat->Bool}{n:Nat}
structure oI(lt:Nat->Nat->Bool):Prop where
 as:∀a b,lt a b=true->lt b a=false
 tr:∀a b c,lt b a=false->lt c b=false->lt c a=false
theorem oI.up(o:oI lt){a b c:Nat}(h:lt c a=true)(h':lt b a=false):lt c b=true:=by
 cases e:lt c b with
 |true=>rfl
 |false=>rw[o.tr _ _ _ h' e]at h;cases h
noncomputable def Inv2(n:Nat)(p:Array Nat):Prop:=p.Perm (List.range n).toArray
theorem Inv2.sz{p:Array Nat}(h:Inv2 n p):p.size=n:=by
 have:=(Array.perm_iff_toList_perm.mp h).length_eq;simpa using this
theorem Inv2.ent{p:Array Nat}(h:Inv2 n p)(h0:0<n)(k:Nat):p.getD k 0<n:=by
 rw[D4];cases e:p[k]? with
 |none=>exact h0
 |some x=>
  have hm:x∈p:=Array.mem_of_getElem? e;have:=(h.mem_iff (a:=x)).mp hm;simpa using this
noncomputable def fE(lt:Nat->Nat->Bool)(p:Array Nat)(n:Nat):Prop:=∀i j,i<j->j<n->lt (p.getD j 0) (p.getD i 0)=false
noncomputable def oK(lt:Nat->Nat->Bool)(p:Array Nat)(n:Nat):Prop:=∀i j,i<j->j<n->lt (p.getD i 0) (p.getD j 0)=false
noncomputable def HU(lt:Nat->Nat->Bool)(p:Array Nat)(n q:Nat):Prop:=∀i j,n<=i+q+1->i<j->j<n->lt (p.getD j 0) (p.getD i 0)=false
theorem fE.ext(o:oI lt){p:Array Nat}{m:Nat}(h:fE lt p m)(h1:1<=m)(h2:lt (p.getD m 0) (p.getD (m-1) 0)=false):fE lt p (m+1):=by
 intro i j hij hj;by_cases e:j=m
 .subst e;by_cases e':i=j-1
  .subst e';exact h2
  .exact o.tr _ _ _ (h i (j-1) (by omega) (by omega)) h2
 .exact h i j hij (by omega)
theorem oK.ext(o:oI lt){p:Array Nat}{m:Nat}(h:oK lt p m)(h1:1<=m)(h2:lt (p.getD (m-1) 0) (p.getD m 0)=false):oK lt p (m+1):=by
 intro i j hij hj;by_cases e:j=m
 .subst e;by_cases e':i=j-1
  .subst e';exact h2
  .exact o.tr _ _ _ h2 (h i (j-1) (by omega) (by omega))
 .exact h i j hij (by omega)
theorem CU(o:oI lt){p:Array Nat}(hp:Inv2 n p)(h0:0<n){Q:Nat->Prop}:∀(f m:Nat),1<=m->fE lt p m->(∀r,m<=r->r<=m+f->fE lt p r->(r<m+f->lt (p.getD r 0) (p.getD (r-1) 0)=true)->Q r)->KS lt n (kas_asc p f m) Q
 |0=>fun m h1 hs k=>by
  rw[kas_asc.eq_def];exact k m (A7 _) (A7 _) hs (fun h=>absurd h (F0 _))
 |f+1=>fun m h1 hs k=>by
  rw[kas_asc.eq_def];refine⟨hp.ent h0 _,hp.ent h0 _,?_⟩;cases e:lt (p.getD m 0) (p.getD (m-1) 0)with
  |true=>exact k m (A7 _) (by omega) hs (fun _=>e)
  |false=>exact CU o hp h0 f (m+1) (by omega) (hs.ext o h1 e) fun r a b c d=>k r (by omega) (by omega) c (fun z=>d (by omega))
theorem eV{p:Array Nat}(hp:Inv2 n p)(i j:Nat):Inv2 n (kas_rev p i j):=(mirror_perm p i j _).trans hp
theorem mL{p:Array Nat}{i j:Nat}(hj:j<=p.size)(k:Nat):(kas_rev p i j).getD k 0=if i<=k/\k<j then p.getD (i+j-1-k) 0 else p.getD k 0:=by
 rw[D4,show(kas_rev p i j)[k]?=_ from getElem?_mirror_all hj k];by_cases e:i<=k/\k<j
 .rw[A4 e,A4 e,D4]
 .rw[A6 e,A6 e,D4]
theorem zB(o:oI lt){p:Array Nat}{lo hi m:Nat}(hm:m<=p.size)(hh:hi<=m)(d:oK lt p m)(e:∀i j,lo<=i->i<j->j<hi->lt (p.getD j 0) (p.getD i 0)=false):oK lt (kas_rev p lo hi) m:=by
 intro i j hij hj;rw[mL (by omega),mL (by omega)];by_cases a:lo<=i/\i<hi
 .rw[A4 a];by_cases b:lo<=j/\j<hi
  .rw[A4 b];exact e _ _ (by omega) (by omega) (by omega)
  .rw[A6 b];exact d _ _ (by omega) hj
 .rw[A6 a];by_cases b:lo<=j/\j<hi
  .rw[A4 b];exact d _ _ (by omega) (by omega)
  .rw[A6 b];exact d _ _ hij hj
theorem rJ(o:oI lt)(h0:0<n){Q:Array Nat×Nat×Nat->Prop}:∀(f:Nat)(p:Array Nat)(m q:Nat),Inv2 n p->1<=m->m+f<=n->oK lt p m->HU lt p m q->q+1<=m->
 (∀p' m' q',Inv2 n p'->m<=m'->m'<=m+f->oK lt p' m'->HU lt p' m' q'->q'+1<=m'->Q (p',m',q'))->KS lt n (kas_desc f p m q) Q
 |0=>fun p m q hp h1 h2 hd he hq k=>by
  rw[kas_desc.eq_def];exact k p m q hp (A7 _) (A7 _) hd he hq
 |f+1=>fun p m q hp h1 h2 hd he hq k=>by
  rw[kas_desc.eq_def];refine⟨hp.ent h0 _,hp.ent h0 _,?_⟩;have hsz:=hp.sz;have e0:∀p':Array Nat,HU lt p' (m+1) 0:=fun p' i j a b c=>by omega
  cases c:lt (p.getD m 0) (p.getD (m-1) 0)with
  |true=>
   have hd1:=hd.ext o h1 (o.as _ _ c);dsimp only;rw[A4 rfl];by_cases hq0:q > 0
   .rw[A4 hq0];exact rJ o h0 f _ (m+1) 0 (eV hp _ _) (by omega) (by omega) (zB o (by omega) (by omega) hd1 (fun i j a b d=>he i j (by omega) b (by omega))) (e0 _) (by omega) fun p' m' q' a b c' d e g=>k p' m' q' a (by omega) (by omega) d e g
   .rw[A6 hq0];exact rJ o h0 f _ (m+1) 0 hp (by omega) (by omega) hd1 (e0 _) (by omega) fun p' m' q' a b c' d e g=>k p' m' q' a (by omega) (by omega) d e g
  |false=>
   dsimp only;rw[A6 A8];refine⟨hp.ent h0 _,hp.ent h0 _,?_⟩;cases d:lt (p.getD (m-1) 0) (p.getD m 0)with
   |true=>
    dsimp only;rw[A4 rfl];exact k p m q hp (A7 _) (by omega) hd he hq
   |false=>
    dsimp only;rw[A6 A8];refine rJ o h0 f p (m+1) (q+1) hp (by omega) (by omega) (hd.ext o h1 d) ?_ (by omega) fun p' m' q' a b c' d e g=>k p' m' q' a (by omega) (by omega) d e g;intro i j a b e;by_cases ej:j=m
    .subst ej;by_cases ei:i=j-1
     .subst ei;exact c
     .exact o.tr _ _ _ (he i (j-1) (by omega) (by omega) (by omega)) c
    .exact he i j (by omega) b (by omega)
noncomputable def Part(lt:Nat->Nat->Bool)(n:Nat)(r:Nat×Array Nat):Prop:=Inv2 n r.2/\1<=r.1/\r.1<=n/\fE lt r.2 r.1
theorem zJ(o:oI lt)(h0:0<n){p:Array Nat}{m:Nat}(hp:Inv2 n p)(h1:1<=m)(h2:m<=n)(hd:oK lt p m):KS lt n (kas_tail3 m n p) (Part lt n):=by
 have hsz:=hp.sz;rw[kas_tail3.eq_def];refine KS.bind (CU o (eV hp 0 m) h0 _ _ h1 ?_ fun r a b c _=>⟨eV hp 0 m,by omega,by omega,c⟩);intro i j hij hj;rw[mL (by omega),mL (by omega),A4 (by omega),A4 (by omega)];exact hd _ _ (by omega) (by omega)
theorem qS(o:oI lt)(h0:0<n){p:Array Nat}{m:Nat}(hp:Inv2 n p)(h2:m+1<=n)(hd:oK lt p (m+1)):KS lt n (kas_descPart m n p) (Part lt n):=by
 rw[kas_descPart.eq_def];refine KS.bind (rJ o h0 _ _ _ _ hp (by omega) (by omega) hd (fun i j a b c=>by omega) (by omega) fun p' m' q' a b c d e g=>?_);have hsz:=a.sz;show KS lt n (if q' > 0 then kas_tail3 m' n (kas_rev p' (m'-(q'+1)) m')else kas_tail3 m' n p') _;by_cases hq:q' > 0
 .rw[A4 hq];exact zJ o h0 (eV a _ _) (by omega) (by omega) (zB o (by omega) (A7 _) d fun i j x y z=>e i j (by omega) y z)
 .rw[A6 hq];exact zJ o h0 a (by omega) (by omega) d
theorem IW(o:oI lt)(h0:0<n){p:Array Nat}(hp:Inv2 n p):KS lt n (kas_count n p) (Part lt n):=by
 have hsz:=hp.sz;rw[kas_count.eq_def];refine KS.bind (CU o hp h0 _ _ (A7 _) (fun i j a b=>by omega) fun r a b c d=>?_);by_cases e:(r==n)=true
 .rw[A4 e];exact⟨hp,a,by omega,c⟩
 .rw[A6 e];have e':r≠n:=by simpa using e
  have hl:=d (by omega);by_cases g:r > 1
  .rw[A4 g];refine⟨hp.ent h0 _,hp.ent h0 _,?_⟩;cases l:lt (p.getD 0 0) (p.getD (r-1) 0)with
   |true=>dsimp only;rw[A4 rfl];exact⟨hp,a,by omega,c⟩
   |false=>
    dsimp only;rw[A6 A8];have le:∀i j,i<=j->j<r->i<j\/i=j:=fun i j x y=>by omega
    have irr:∀x,lt x x=false:=fun x=>by
     cases q:lt x x with
     |false=>rfl
     |true=>rw[o.as _ _ q]at q;cases q
    have up:∀i,i<r->lt (p.getD i 0) (p.getD (r-1) 0)=false:=fun i hi=>by
     have x1:lt (p.getD i 0) (p.getD 0 0)=false:=by
      by_cases z:i=0
      .subst z;exact irr _
      .exact c 0 i (by omega) hi
     exact o.tr _ _ _ l x1
    have dn:∀i,i<r->lt (p.getD (r-1) 0) (p.getD i 0)=false:=fun i hi=>by
     by_cases z:i=r-1
     .subst z;exact irr _
     .exact c i (r-1) (by omega) (by omega)
    have al:∀i j,i<r->j<r->lt (p.getD i 0) (p.getD j 0)=false:=fun i j hi hj=>o.tr _ _ _ (dn j hj) (up i hi);refine qS o h0 (eV hp _ _) (by omega) ?_;intro i j hij hj;rw[mL (by omega),mL (by omega),A4 (by omega)];by_cases z:j<r
    .rw[A4 (by omega)];exact al _ _ (by omega) (by omega)
    .rw[A6 (by omega)];have:j=r:=by omega
     subst this;exact o.tr _ _ _ (o.as _ _ hl) (up _ (by omega))
  .rw[A6 g];have:r=1:=by omega
   subst this;refine qS o h0 hp (by omega) ?_;intro i j hij hj;have:i=0:=by omega
   have:j=1:=by omega
   subst i;subst j;exact o.as _ _ hl
theorem tM(o:oI lt)(h0:0<n){p:Array Nat}(hp:Inv2 n p){k:Nat}(hs:fE lt p k){Q:Nat->Prop}(q:∀l,l<=k->(∀i,i<l->lt (p.getD k 0) (p.getD i 0)=false)->(∀i,l<=i->i<k->lt (p.getD k 0) (p.getD i 0)=true)->Q l):
 ∀(f l r:Nat),l<=r->r<=k->r-l<=f->(∀i,i<l->lt (p.getD k 0) (p.getD i 0)=false)->(∀i,r<=i->i<k->lt (p.getD k 0) (p.getD i 0)=true)->KS lt n (kas_place p k f l r) Q
 |0=>fun l r h1 h2 h3 a b=>by
  rw[kas_place.eq_def];have:l=r:=by omega
  subst this;exact q l h2 a b
 |f+1=>fun l r h1 h2 h3 a b=>by
  rw[kas_place.eq_def];show KS lt n (if l>=r then _ else _) Q;by_cases g:l>=r
  .rw[A4 g];have:l=r:=by omega
   subst this;exact q l h2 a b
  .rw[A6 g];refine⟨hp.ent h0 _,hp.ent h0 _,?_⟩;cases c:lt (p.getD k 0) (p.getD ((l+r) / 2) 0)with
   |true=>
    dsimp only;rw[A4 rfl];refine tM o h0 hp hs q f _ _ (by omega) (by omega) (by omega) a fun i x y=>?_;by_cases z:i=(l+r) / 2
    .subst z;exact c
    .exact o.up c (hs _ _ (by omega) y)
   |false=>
    dsimp only;rw[A6 A8];refine tM o h0 hp hs q f _ _ (by omega) (by omega) (by omega) (fun i x=>?_) b;by_cases z:i=(l+r) / 2
    .subst z;exact c
    .exact o.tr _ _ _ (hs i ((l+r) / 2) (by omega) (by omega)) c
theorem DS{p:Array Nat}{src d:Nat}(h:src<p.size)(hd:d<=src)(k:Nat):(bubble p src d).getD k 0=if k=src-d then p.getD src 0 else if src-d<k/\k<=src then p.getD (k-1) 0 else p.getD k 0:=by
 rw[D4,getElem?_bubble h d hd k];by_cases e:k=src-d
 .rw[A4 e,A4 e,D4]
 .rw[A6 e,A6 e];by_cases e2:src-d<k/\k<=src
  .rw[A4 e2,A4 e2,D4]
  .rw[A6 e2,A6 e2,D4]
theorem JV(o:oI lt)(h0:0<n){Q:Array Nat->Prop}(q:∀p,Inv2 n p->fE lt p n->Q p):∀(f:Nat)(p:Array Nat)(k:Nat),Inv2 n p->k+f=n->fE lt p k->KS lt n (kas_bin f p k) Q
 |0=>fun p k hp hk hs=>by
  rw[kas_bin.eq_def];have:k=n:=by omega
  subst this;exact q p hp hs
 |f+1=>fun p k hp hk hs=>by
  rw[kas_bin.eq_def];have hsz:=hp.sz;refine KS.bind (tM o h0 hp hs (fun l hl a b=>?_) k 0 k (by omega) (by omega) (by omega) (fun i x=>by omega) (fun i x y=>by omega));refine JV o h0 q f _ (k+1) ((bubble_perm p k (k-l)).trans hp) (by omega) ?_;intro i j hij hj;rw[DS (by omega) (by omega),DS (by omega) (by omega)];have hkl:k-(k-l)=l:=by omega
  rw[hkl];by_cases j1:j=l
  .rw[A4 j1,A6 (by omega),A6 (by omega)];exact a i (by omega)
  .rw[A6 j1];by_cases j2:l<j/\j<=k
   .rw[A4 j2];by_cases i1:i=l
    .rw[A4 i1];exact o.as _ _ (b _ (by omega) (by omega))
    .rw[A6 i1];by_cases i2:l<i/\i<=k
     .rw[A4 i2];exact hs _ _ (by omega) (by omega)
     .rw[A6 i2];exact hs _ _ (by omega) (by omega)
   .rw[A6 j2,A6 (by omega),A6 (by omega)];exact hs _ _ hij (by omega)
theorem OC(o:oI lt)(h0:0<n):KS lt n (kas_sort n) (fun p=>Inv2 n p/\fE lt p n):=by
 unfold kas_sort;refine KS.bind (KS.mono (fun r h=>?_) (IW o h0 (p:=(List.range n).toArray) (Array.Perm.refl _)));obtain⟨a,b,c,d⟩:=h;by_cases e:r.fst<n
 .rw[A4 e];have hm:max r.fst 1=r.fst:=by omega
  rw[hm];exact JV o h0 (fun p x y=>⟨x,y⟩) _ _ _ a (by omega) d
 .rw[A6 e];have:r.fst=n:=by omega
  exact⟨a,this▸d⟩
end
end L2
namespace L2
open PySem PySem.Spec PyProof.Rows
noncomputable def hG:List PyData->Option (List Int)
 |[]=>some []
 |.int n::r=>(hG r).bind fun ns=>some (n::ns)
 |_=>none
theorem jX{h:Heap}:∀{ds:List PyData}{us:List Value}{as:List Addr}{ns:List Int},ReadsAll h us ds as->hG ds=some ns->IntsAre us ns
 |[],_,_,_=>fun r e=>by cases r;cases e;exact .nil
 |d::ds,_,_,_=>fun r e=>by
  cases r with
  |cons r1 r2=>
   cases d with
   |int n=>
    have e:(hG ds).bind (fun ns=>some (n::ns))=some _:=e;obtain⟨ms,h1,h2⟩:=Option.bind_eq_some_iff.mp e;cases h2;cases r1;exact .cons _ _ (jX r2 h1)
   |_=>cases e
noncomputable def dP:PyData->PyData->Option Bool
 |.int a,.int b=>some (decide (a<b))
 |.tuple xs,.tuple ys=>(hG xs).bind fun ns=>(hG ys).bind fun ms=>some (HT.lexLt ns ms)
 |_,_=>none
noncomputable def cC:List PyData->List PyData->Option Bool
 |[],ys=>some (decide (0<ys.length))
 |_::_,[]=>some false
 |x::xs,y::ys=>if PyData.eqv x y=true then cC xs ys else dP x y
noncomputable def isI:PyData->Bool
 |.int _=>true
 |_=>false
section
variable{prog:Program}{w:World}{A:Around}{E:Value->Shared->Prop}{s:Shared}
theorem PR{p q:Value}{x y:PyData}{as bs:List Addr}{c fl:Bool}{Q:Bool->Shared->Prop}(hu:A.units<cLine)(r1:Reads s.heap p x as)(r2:Reads s.heap q y bs)(h:dP x y=some c)(hf:fl=true->isI x=true/\isI y=true)(k:Q c s):
 wpAny (model prog w) A (oneLt' fl p q) Q E s:=by
 unfold dP at h;split at h
 .rename_i a b;cases r1;cases r2;cases h;cases fl with
  |true=>exact oneLt_int k
  |false=>exact PySem.W.kat_one _ _ (lt_int k)
 .rename_i xs ys;obtain⟨ns,h1,h⟩:=Option.bind_eq_some_iff.mp h;obtain⟨ms,h2,h⟩:=Option.bind_eq_some_iff.mp h;cases h;cases fl with
  |true=>exact absurd (hf rfl).1 (by intro z;cases z)
  |false=>
   cases r1 with
   |tuple g1 g2 g3 g4=>
    cases r2 with
    |tuple k1 k2 k3 k4=>
     exact PySem.W.kat_one _ _ (HT.lt_tupInts ⟨_,g1,g2,_,g3⟩ ⟨_,k1,k2,_,k3⟩ (jX g4 h1) (jX k4 h2) hu k)
 .cases h
theorem CZ{b fin c:Bool}{Q:Bool->Shared->Prop}(hu:A.units+64<cLine)(k:Q c s):∀(xs ys:List PyData)(us ws:List Value)(as bs:List Addr)(i:Nat),ReadsAll s.heap us xs as->ReadsAll s.heap ws ys bs->xs.all SeqAt.shaped=true->ys.all SeqAt.shaped=true->
 cC xs ys=some c->fin=decide (us.length<ws.length)->((b&&i==0)=true->xs.head?.all isI=true/\ys.head?.all isI=true)->PySem.W.KatLex prog w A b fin Q (us.zip ws) i s
 |[],ys=>fun us ws as bs i r1 r2 s1 s2 h hf hb=>by
  cases r1
  have hl:ws.length=ys.length:=by
   clear k h hf hb s2
   induction r2 using ReadsAll.rec (motive_1:=fun _ _ _ _=>True)with
   |nil=>rfl
   |cons _ _ _ ih=>simp[ih]
   |_=>trivial
  rw[List.zip_nil_left];refine PySem.W.kat_nil ?_;have h:some (decide (0<ys.length))=some c:=h;cases h;rw[hf,hl];exact k
 |x::xs,[]=>fun us ws as bs i r1 r2 s1 s2 h hf hb=>by
  cases r2;rw[List.zip_nil_right];refine PySem.W.kat_nil ?_;cases h;rw[hf];simpa using k
 |x::xs,y::ys=>fun us ws as bs i r1 r2 s1 s2 h hf hb=>by
  cases r1 with
  |cons a1 a2=>
   cases r2 with
   |cons b1 b2=>
    rw[U2,B2]at s1 s2;rw[S6];refine PySem.W.kat_cons ?_;refine SeqAt.eqAt_reads x y A s _ _ _ _ a1 b1 (U4 s1.1) (U4 s2.1) (SeqAt.room_of_shaped s1.1 hu) _ _ _ _ ?_;have h:(if PyData.eqv x y=true then cC xs ys else dP x y)=some c:=h;cases e:PyData.eqv x y with
    |true=>
     rw[e,A4 rfl]at h;refine PySem.W.kat_yes (CZ hu k xs ys _ _ _ _ (i+1) a2 b2 s1.2 s2.2 h ?_ (fun z=>?_))
     .rw[hf];simp
     .simp at z
    |false=>
     rw[e,A6 A8]at h;refine PySem.W.kat_no (PR (by omega) a1 b1 h (fun z=>?_) k);have:=hb z;simpa using this
end
open PySem PySem.W PyProof.Rows
noncomputable def GQ{α:Type}(lt:Nat->Nat->Bool):KasT α->α
 |.ret a=>a
 |.ask i j k=>GQ lt (k (lt i j))
noncomputable def KA{α:Type}(n:Nat):KasT α->(α->Prop)->Prop
 |.ret a,Q=>Q a
 |.ask i j k,Q=>i<n/\j<n/\∀b,KA n (k b) Q
section
variable{n:Nat}
theorem KA.bind{α β:Type}{f:α->KasT β}{Q:β->Prop}:∀{t:KasT α},KA n t (fun a=>KA n (f a) Q)->KA n (t.bind f) Q
 |.ret _=>fun h=>h
 |.ask _ _ _=>fun h=>⟨h.1,h.2.1,fun b=>KA.bind (h.2.2 b)⟩
theorem KA.ks{α:Type}{lt:Nat->Nat->Bool}{Q:α->Prop}:∀{t:KasT α},KA n t Q->KS lt n t (fun a=>a=GQ lt t/\Q a)
 |.ret _=>fun h=>⟨rfl,h⟩
 |.ask i j _=>fun h=>⟨h.1,h.2.1,KA.ks (h.2.2 (lt i j))⟩
theorem KS.run{α:Type}{lt:Nat->Nat->Bool}{Q:α->Prop}:∀{t:KasT α},KS lt n t Q->Q (GQ lt t)
 |.ret _=>fun h=>h
 |.ask i j k=>fun h=>KS.run (t:=k (lt i j)) h.2.2
theorem CI{p:Array Nat}(hp:Inv2 n p)(h0:0<n){Q:Nat->Prop}(q:∀r,Q r):∀(f m:Nat),KA n (kas_asc p f m) Q
 |0=>fun m=>by rw[kas_asc.eq_def];exact q m
 |f+1=>fun m=>by
  rw[kas_asc.eq_def];refine⟨hp.ent h0 _,hp.ent h0 _,fun b=>?_⟩;cases b with
  |true=>exact q m
  |false=>exact CI hp h0 q f (m+1)
theorem qY(h0:0<n){Q:Array Nat×Nat×Nat->Prop}(k:∀p m q,Inv2 n p->Q (p,m,q)):∀(f:Nat)(p:Array Nat)(m q:Nat),Inv2 n p->KA n (kas_desc f p m q) Q
 |0=>fun p m q hp=>by rw[kas_desc.eq_def];exact k p m q hp
 |f+1=>fun p m q hp=>by
  rw[kas_desc.eq_def];refine⟨hp.ent h0 _,hp.ent h0 _,fun b=>?_⟩;cases b with
  |true=>
   dsimp only;rw[A4 rfl];by_cases hq:q > 0
   .rw[A4 hq];exact qY h0 k f _ _ _ (eV hp _ _)
   .rw[A6 hq];exact qY h0 k f _ _ _ hp
  |false=>
   dsimp only;rw[A6 A8];refine⟨hp.ent h0 _,hp.ent h0 _,fun b=>?_⟩;cases b with
   |true=>exact k p m q hp
   |false=>exact qY h0 k f _ _ _ hp
theorem yW(h0:0<n){p:Array Nat}{m:Nat}(hp:Inv2 n p):KA n (kas_tail3 m n p) (fun r=>Inv2 n r.2):=by
 rw[kas_tail3.eq_def];exact KA.bind (CI (eV hp 0 m) h0 (fun r=>eV hp 0 m) _ _)
theorem qG(h0:0<n){p:Array Nat}{m:Nat}(hp:Inv2 n p):KA n (kas_descPart m n p) (fun r=>Inv2 n r.2):=by
 rw[kas_descPart.eq_def];refine KA.bind (qY h0 (fun p' m' q' a=>?_) _ _ _ _ hp);show KA n (if q' > 0 then kas_tail3 m' n (kas_rev p' (m'-(q'+1)) m')else kas_tail3 m' n p') _;by_cases hq:q' > 0
 .rw[A4 hq];exact yW h0 (eV a _ _)
 .rw[A6 hq];exact yW h0 a
theorem LG(h0:0<n){p:Array Nat}(hp:Inv2 n p):KA n (kas_count n p) (fun r=>Inv2 n r.2):=by
 rw[kas_count.eq_def];refine KA.bind (CI hp h0 (fun r=>?_) _ _);by_cases e:(r==n)=true
 .rw[A4 e];exact hp
 .rw[A6 e];by_cases g:r > 1
  .rw[A4 g];refine⟨hp.ent h0 _,hp.ent h0 _,fun b=>?_⟩;cases b with
   |true=>exact hp
   |false=>exact qG h0 (eV hp _ _)
  .rw[A6 g];exact qG h0 hp
theorem rV(h0:0<n){p:Array Nat}(hp:Inv2 n p){k:Nat}{Q:Nat->Prop}(q:∀l,Q l):∀(f l r:Nat),KA n (kas_place p k f l r) Q
 |0=>fun l r=>by rw[kas_place.eq_def];exact q l
 |f+1=>fun l r=>by
  rw[kas_place.eq_def];show KA n (if l>=r then _ else _) Q;by_cases g:l>=r
  .rw[A4 g];exact q l
  .rw[A6 g];refine⟨hp.ent h0 _,hp.ent h0 _,fun b=>?_⟩;cases b with
   |true=>exact rV h0 hp q f _ _
   |false=>exact rV h0 hp q f _ _
theorem NL(h0:0<n):∀(f:Nat)(p:Array Nat)(k:Nat),Inv2 n p->KA n (kas_bin f p k) (Inv2 n)
 |0=>fun p k hp=>by rw[kas_bin.eq_def];exact hp
 |f+1=>fun p k hp=>by
  rw[kas_bin.eq_def];exact KA.bind (rV h0 hp (fun l=>NL h0 f _ (k+1) ((bubble_perm p k (k-l)).trans hp)) k 0 k)
theorem xJ(h0:0<n):KA n (kas_sort n) (Inv2 n):=by
 unfold kas_sort;have:=LG h0 (p:=(List.range n).toArray) (Array.Perm.refl _);refine KA.bind ?_
 have mono:∀{α:Type}{Q R:α->Prop}(m:∀a,Q a->R a)(t:KasT α),KA n t Q->KA n t R:=by
  intro α Q R m t
  induction t with
  |ret a=>exact m a
  |ask i j k ih=>exact fun h=>⟨h.1,h.2.1,fun b=>ih b (h.2.2 b)⟩
 refine mono (fun r a=>?_) _ this;by_cases e:r.fst<n
 .rw[A4 e];exact NL h0 _ _ _ a
 .rw[A6 e];exact a
noncomputable def cT(lt:Nat->Nat->Bool)(n:Nat):List Nat:=(GQ lt (kas_sort n)).toList
theorem iU(lt:Nat->Nat->Bool)(h0:0<n):(cT lt n).Perm (List.range n):=by
 have:=KS.run (KA.ks (lt:=lt) (xJ h0));simpa[cT]using Array.perm_iff_toList_perm.mp this.2
end
end L2
namespace L2
variable{K:Fg}
open PySem PySem.Spec PyProof.Rows
mutual
noncomputable def dH:PyData->Bool
 |.int _=>true
 |.tuple xs=>cE xs
 |_=>false
noncomputable def cE:List PyData->Bool
 |[]=>true
 |x::r=>dH x&&cE r
end
mutual
theorem rk{h h':Heap}(k:∀b o vs n,h.get? b=some o->o.data=.seq vs n->h'.get? b=some o):∀(d:PyData)(v:Value)(as:List Addr),dH d=true->Reads h v d as->Reads h' v d as
 |.int n=>fun _ _ _ r=>by cases r;exact .int _ _
 |.tuple xs=>fun _ _ e r=>by
  cases r with
  |tuple a b c d=>exact .tuple (k _ _ _ _ a c) b c (DE k xs _ _ (by unfold dH at e;exact e) d)
 |.none=>fun _ _ e _=>by unfold dH at e;cases e
 |.bool _=>fun _ _ e _=>by unfold dH at e;cases e
 |.str _=>fun _ _ e _=>by unfold dH at e;cases e
 |.list _=>fun _ _ e _=>by unfold dH at e;cases e
 |.dict _=>fun _ _ e _=>by unfold dH at e;cases e
theorem DE{h h':Heap}(k:∀b o vs n,h.get? b=some o->o.data=.seq vs n->h'.get? b=some o):∀(ds:List PyData)(vs:List Value)(as:List Addr),cE ds=true->ReadsAll h vs ds as->ReadsAll h' vs ds as
 |[]=>fun _ _ _ r=>by cases r;exact .nil
 |d::ds=>fun _ _ e r=>by
  cases r with
  |cons a b=>
   unfold cE at e;rw[B2]at e;exact .cons (rk k d _ _ e.1 a) (DE k ds _ _ e.2 b)
end
theorem ReadsAll.at{h:Heap}:∀{ds:List PyData}{vs:List Value}{as:List Addr}(i:Nat),ReadsAll h vs ds as->i<ds.length->∃bs,Reads h (vs.getD i .none) (ds.getD i .none) bs
 |[],_,_,i=>fun _ hi=>absurd hi (Nat.not_lt_zero _)
 |d::ds,_,_,0=>fun r _=>by cases r with|cons a b=>exact⟨_,a⟩
 |d::ds,_,_,i+1=>fun r hi=>by
  cases r with
  |cons a b=>
   obtain⟨bs,x⟩:=ReadsAll.at i b (Nat.lt_of_succ_lt_succ hi);exact⟨bs,x⟩
theorem ReadsAll.len{h:Heap}:∀{ds:List PyData}{vs:List Value}{as:List Addr},ReadsAll h vs ds as->vs.length=ds.length
 |[],_,_=>fun r=>by cases r;rfl
 |d::ds,_,_=>fun r=>by
  cases r with
  |cons a b=>simp[ReadsAll.len b]
section
variable{prog:Program}{w:World}{A:Around}{E:Value->Shared->Prop}{s:Shared}
theorem IV{b c:Bool}{p q:Value}{xs ys:List PyData}{as bs:List Addr}{Q:Bool->Shared->Prop}(hu:A.units+64<cLine)(r1:Reads s.heap p (.tuple xs) as)(r2:Reads s.heap q (.tuple ys) bs)
 (s1:xs.all SeqAt.shaped=true) (s2:ys.all SeqAt.shaped=true) (h:cC xs ys=some c) (hb:b=true->xs.head?.all isI=true/\ys.head?.all isI=true) (k:Q c s):wpAny (model prog w) A (keyLt' (tuples' b) p q) Q E s:=by
 cases r1 with
 |tuple a1 a2 a3 a4=>
  cases r2 with
  |tuple b1 b2 b3 b4=>
   refine PySem.W.kat_lt a1 a3 b1 b3 (CZ hu k xs ys _ _ _ _ 0 a4 b4 s1 s2 h (by simp) (fun z=>hb ?_));simpa using z
noncomputable def gJ(rows:List (List PyData)):Bool:=rows.all fun r=>match r with
 |.int _::_=>true
 |_=>false
noncomputable def lM(rows:List (List PyData)):Bool:=rows.all fun r=>match r with
 |.tuple _::_=>true
 |_=>false
theorem VY{M:Model}{h:Heap}(n:Int)(t:Tok):PySem.W.Looks M h (typeOf (.int n t)) (.type "int"):=fun A Q E s _ q=>by
 show wpAny M A (pure _) Q E s;exact B3 q
theorem firstsI{h:Heap}:∀{rows:List (List PyData)}{vs:List Value}{as:List Addr},ReadsAll h vs (rows.map .tuple) as->gJ rows=true->∃fs,PySem.W.KatTups h vs fs/\fs.length=rows.length/\∀v∈fs,∃n t,v=.int n t
 |[],_,_=>fun r _=>by cases r;exact⟨[],.nil,rfl,fun v hv=>nomatch hv⟩
 |x::rows,_,_=>fun r e=>by
  unfold gJ at e;rw[U2,B2]at e;cases r with
  |cons a b=>
   obtain⟨fs,h1,h2,h3⟩:=firstsI b (by unfold gJ;exact e.2);cases x with
   |nil=>exact absurd e.1 (by decide)
   |cons d ds=>
    cases d with
    |int n=>
     cases a with
     |tuple g1 g2 g3 g4=>
      rename_i o vs n' ;generalize hv:vs.toList=l at g4;cases g4 with
      |cons q1 q2=>
       cases q1 with
       |int _ t=>
        refine⟨.int n t::fs,.cons g1 g2 g3 (f:=.int n t) ?_ h1,by simp[h2],?_⟩
        .rw[<- O2,hv];rfl
        .intro v hv';rcases List.mem_cons.mp hv' with z|z
         .exact⟨_,_,z⟩
         .exact h3 v z
    |_=>exact absurd e.1 (by intro z;cases z)
end
section
variable{prog:Program}{w:World}{A:Around}{E:Value->Shared->Prop}{s:Shared}
theorem ZO{M:Model}{h:Heap}{a:Addr}{o:Obj}(g:h.get? a=some o)(c:o.cls=.type "tuple"):PySem.W.Looks M h (typeOf (.ref a)) (.type "tuple"):=fun A Q E s k q=>wpAny_typeOf (show s.TypeIs (.ref a) "tuple" from⟨o,k _ _ g,c⟩) q
theorem DV{h:Heap}:∀{rows:List (List PyData)}{vs:List Value}{as:List Addr},ReadsAll h vs (rows.map .tuple) as->lM rows=true->∃fs,PySem.W.KatTups h vs fs/\fs.length=rows.length/\∀v∈fs,∃a o,v=.ref a/\h.get? a=some o/\o.cls=.type "tuple"
 |[],_,_=>fun r _=>by cases r;exact⟨[],.nil,rfl,fun v hv=>nomatch hv⟩
 |x::rows,_,_=>fun r e=>by
  unfold lM at e;rw[U2,B2]at e;cases r with
  |cons a b=>
   obtain⟨fs,h1,h2,h3⟩:=DV b (by unfold lM;exact e.2);cases x with
   |nil=>exact absurd e.1 (by decide)
   |cons d ds=>
    cases d with
    |tuple ys=>
     cases a with
     |tuple g1 g2 g3 g4=>
      rename_i o vs n';generalize hv:vs.toList=l at g4;cases g4 with
      |cons q1 q2=>
       cases q1 with
       |@tuple a' _ _ _ _ _ k1 k2 k3 k4=>
        refine⟨.ref a'::fs,.cons g1 g2 g3 (f:=.ref a') ?_ h1,by simp[h2],?_⟩
        .rw[<- O2,hv];rfl
        .intro v hv';rcases List.mem_cons.mp hv' with z|z
         .exact⟨_,_,z,k1,k2⟩
         .exact h3 v z
    |_=>exact absurd e.1 (by intro z;cases z)
theorem wQ{M:Model}{rows:List (List PyData)}{vs:List Value}{as:List Addr}{Q:SortKind->Shared->Prop}(r:ReadsAll s.heap vs (rows.map .tuple) as)(h0:0<rows.length)(hk:gJ rows=true\/lM rows=true)(q:Q (tuples' (gJ rows)) s):wpAny M A (keyKind' vs.toArray) Q E s:=by
 rcases hk with hk|hk
 .obtain⟨fs,h1,h2,h3⟩:=firstsI r hk;rw[hk]at q;refine PySem.W.kat_kind (T:=.type "int") h1 (by omega) (fun v hv=>?_) (by decide) q;obtain⟨n,t,rfl⟩:=h3 v hv;exact VY n t
 .obtain⟨fs,h1,h2,h3⟩:=DV r hk
  have e:gJ rows=false:=by
   cases rows with
   |nil=>cases h0
   |cons x r=>
    unfold lM at hk;rw[U2,B2]at hk;cases x with
    |nil=>rfl
    |cons d ds=>cases d<;>first|rfl|exact absurd hk.1 (by intro z;cases z)
  rw[e]at q;refine PySem.W.kat_kind (T:=.type "tuple") h1 (by omega) (fun v hv=>?_) (by decide) q;obtain⟨a,o,rfl,g,c⟩:=h3 v hv;exact ZO g c
end
section
variable{X:Cx}{pins:List (Addr×Obj)}{σ:St}{H:Hp}{s:Shared}{h':Heap}
theorem cZ.there{P:Program}{w:World}{H:Hp}{h:Heap}{a:Addr}{o:HO}(x:cZ P w H h a o):∃u,h.get? a=some u:=by
 induction o with
 |lst xs=>obtain⟨_,_,_,_,e⟩:=x;exact⟨_,e⟩
 |tup xs=>obtain⟨_,_,_,_,e,_⟩:=x;exact⟨_,e⟩
 |dK kvs=>obtain⟨_,_,_,_,o,_,_,e,_⟩:=x;exact⟨_,e⟩
 |dT kvs=>obtain⟨_,_,_,_,o,_,_,e,_⟩:=x;exact⟨_,e⟩
 |set S n=>obtain⟨o,_,_,_,e,_⟩:=x;exact⟨_,e⟩
 |ins C dx fs=>obtain⟨_,_,_,e,_⟩:=x;exact⟨_,e⟩
 |own y=>exact x
 |xd fs=>obtain⟨_,⟨_,_,_,e,_⟩,_⟩:=x;exact⟨_,e⟩
 |rng lo hi=>obtain⟨_,_,_,e⟩:=x;exact⟨_,e⟩
 |frz o u=>exact⟨_,x.1⟩
 |tbl ps=>exact⟨_,x⟩
 |met f x'=>exact⟨_,x⟩
 |ext φ=>exact x.2.1
theorem HOk.none{P:Program}{w:World}{H:Hp}{h:Heap}{a:Addr}(x:HOk P w H h)(e:h.get? a=none):H a=none:=by
 cases q:H a with
 |none=>rfl
 |some o=>
  obtain⟨u,z⟩:=(x a o q).there;rw[e]at z;cases z
theorem Inv.laidL{a:Addr}{o:HO}(I:Inv X pins σ H s)(k:∀b u,b≠X.env.locals->s.heap.get? b=some u->h'.get? b=some u)(ns:∀m,s.heap.Ns X.env.locals m->h'.Ns X.env.locals m)(hp:s.heap.get? a=none)(new:cZ X.prog X.w (upd H a o) h' a o):
 Inv X pins σ (upd H a o) { s with heap:=h' }:=by
 have hn:=I.hok.none hp;have nt:∀b u,H b=some u->b≠X.env.locals:=fun b u e z=>by rw[z,I.free]at e;cases e
 refine I.step (g':=s.gens) (t':=s.toks) (d':=s.drawn) (ch:=[]) (fun _ z=>nomatch z) (fun b o h1 _ _ e _=>k b o h1 e) (fun b o h1 _ _ e _=>⟨o.slots,k b o h1 e⟩) (fun b o _ e n=>?_) (fun b o _ e=>?_) (fun b xs e=>?_) (fun b o u e=>?_) (fun b ps e=>⟨#[],?_⟩) ns ?_ I.bare
 .rw[aU (fun z=>by subst z;rw[hp]at e;cases e)];exact n
 .by_cases z:b=X.env.locals
  .subst z;obtain⟨m,hm,_⟩:=I.loc;obtain⟨o',_,_,q,_⟩:=ns m hm;exact⟨o',q⟩
  .exact⟨o,k b o z e⟩
 .rw[aU (aQ e hn)];exact e
 .rw[aU (aQ e hn)];exact e
 .rw[aU (aQ e hn)];simpa using e
 .intro b u e;by_cases hb:b=a
  .subst hb;rw[aT]at e;cases e;exact new
  .rw[aU hb]at e;refine(I.hok b u e).stay (fun c v hc q=>k c v ?_ q) (fun c q=>by rw[aU (aQ q hn)];exact q) fun c xs q=>by rw[aU (aQ q hn)];exact q
   rcases hc with z|z
   .rw[z];exact nt b _ e
   .exact nt c _ z
theorem EU{h:Heap}{L:Addr}{m m':Str->Option Value}(a:h.Ns L m)(b:h.Ns L m'):m=m':=by
 obtain⟨o,es,ep,h1,h2,_,h3⟩:=a;obtain⟨o',es',ep',k1,k2,_,k3⟩:=b;rw[h1]at k1;cases k1;rw[h2]at k2;cases k2;funext x;rw[<- h3 x,k3 x]
noncomputable def dM(rows:List (List PyData))(i j:Nat):Bool:=(cC (rows.getD i []) (rows.getD j [])).getD false
noncomputable def BI(K:Fg):List V->Hp->VK->Prop:=fun xs H Q=>∃(p:Addr)(vs:List V)(rows:List (List PyData)),xs=[.ref p]/\SqL K H p vs/\aH K H (rows.map .tuple) vs/\2<=rows.length/\rows.length<64 /\
 (∀r∈rows,r.all SeqAt.shaped=true/\cE r=true)/\(gJ rows=true\/lM rows=true)/\(∀i j,i<rows.length->j<rows.length->(cC (rows.getD i []) (rows.getD j [])).isSome=true) /\
 ∀l,H l=none->Q (.ref l) (upd H l (.lst ((cT (dM rows) rows.length).map fun i=>vs.getD i .non)))
theorem pQ{vs:List V}{us:List Value}(r:bB vs us):∀ps:List Nat,bB (ps.map fun i=>vs.getD i .non) (ps.map fun i=>us.getD i .none)
 |[]=>.nil
 |p::ps=>by
  refine .cons ?_ (pQ r ps)
  have go:∀{vs:List V}{us:List Value}(i:Nat),bB vs us->RelV (vs.getD i .non) (us.getD i .none):=by
   intro vs us i r
   induction r generalizing i with
   |nil=>exact rfl
   |cons a b ih=>cases i with
    |zero=>exact a
    |succ i=>exact ih i
  exact go p r
theorem wR(hu:X.A.in1.in1.units+64<cLine):eU X (.builtin "sorted") (BI X.K):=by
 intro pins s σ H xs us Q I r h;obtain⟨p,vs,rows,rfl,hp,hrep,h2,h64,hsh,hknd,hlt,q⟩:=h;obtain⟨u,rfl,ru⟩:=vals1 r;cases ru;obtain⟨its,rv,pl,hz⟩:=I.list hp;obtain⟨as,hr⟩:=aH.reads I _ vs its hrep rv;have hlen:its.length=rows.length:=by rw[ReadsAll.len hr,A1]
 obtain⟨m,F⟩:=I.fr;have N:News X.base X.env.locals s.heap (iP X.base s.heap X.env.locals):=zN;refine PySem.W.kat_sorted F N pl.isList (by omega) (by omega) fun D e1 h' F' N' hD=>?_
 have kp:∀(h1:Heap),Fr X.base X.env.locals h1 m->(∀q∈iP X.base s.heap X.env.locals,h1.get? q.1=some q.2)->∀b o,b≠X.env.locals->s.heap.get? b=some o->h1.get? b=some o:=fun h1 G1 M1 b o hb e=>by
  cases z:X.base.get? b with
  |some v=>
   have:=I.bk b v z;rw[e]at this;cases this;exact G1.keep b _ z
  |none=>exact M1 (b,o) (iW hb z e)
 have k':=kp h' F' (fun q hq=>(N' q (B1 _ hq)).1)
 have hsz:s.heap.get? D=none:=by
  have hN:=N' _ B6;cases e:s.heap.get? D with
  |none=>rfl
  |some o=>exact absurd (hD (D,o) (iW hN.2.1 hN.2.2 e)) (F0 _)
 have seqL:∀b o vs n,s.heap.get? b=some o->o.data=.seq vs n->b≠X.env.locals:=fun b o vs n e d z=>by
  obtain⟨o',es,ep,x1,x2,_⟩:=F.ns;subst z;rw[e]at x1;cases x1;rw[d]at x2;cases x2
 have onl:cE (rows.map .tuple)=true:=by
  clear hrep hr hlen q hknd hlt h2 h64
  induction rows with
  |nil=>rfl
  |cons x r ih=>
   show(cE x&&cE (r.map .tuple))=true;rw[(hsh x B6).2,ih fun y hy=>hsh y (B1 _ hy)];rfl
 have hr':ReadsAll h' its (rows.map .tuple) as:=DE (fun b o vs n e d=>k' b o (seqL b o vs n e d) e) _ _ _ onl hr;refine wQ (s:={ s with heap:=h' }) hr' (by omega) hknd ?_;rw[hlen];refine KS.wp (lt:=dM rows) (n:=rows.length) (fun i j C hi hj c=>?_) (fun p hp'=>?_) ((xJ (by omega)).ks (lt:=dM rows))
 .have at_:∀i,i<rows.length->∃bs,Reads h' (its.getD i .none) (.tuple (rows.getD i [])) bs:=fun i hi=>by
   obtain⟨bs,x⟩:=ReadsAll.at i hr' (by simpa using hi)
   have:(rows.map PyData.tuple).getD i .none=.tuple (rows.getD i []):=by
    rw[A9,C6,A9,B4 hi];rfl
   rw[this]at x;exact⟨bs,x⟩
  obtain⟨b1,r1⟩:=at_ i hi;obtain⟨b2,r2⟩:=at_ j hj
  have mem:∀i,i<rows.length->rows.getD i []∈rows:=fun i hi=>by
   rw[A9,B4 hi];exact J7 hi
  have hd:gJ rows=true->∀r∈rows,r.head?.all isI=true:=fun z r hr=>by
   unfold gJ at z;have:=List.all_eq_true.mp z r hr;cases r with
   |nil=>rfl
   |cons d ds=>cases d<;>first|rfl|exact absurd this (by intro z;cases z)
  obtain⟨c0,hc0⟩:=Option.isSome_iff_exists.mp (hlt i j hi hj);have hc:dM rows i j=c0:=by unfold dM;rw[hc0];rfl
  rw[hc]at c;exact IV (s:={ s with heap:=h' }) hu r1 r2 (hsh _ (mem i hi)).1 (hsh _ (mem j hj)).1 hc0 (fun z=>⟨hd z _ (mem i hi),hd z _ (mem j hj)⟩) c
 .obtain⟨e,_⟩:=hp';subst e;refine PySem.W.KasFin.intro F' N' (.head fun q hq=>C5 (hD q hq)) fun h'' c F'' N''=>?_;have k'':=kp h'' F'' (fun q hq=>(N'' q (B1 _ hq)).1);refine⟨.ref D,upd H D (.lst ((cT (dM rows) rows.length).map fun i=>vs.getD i .non)),?_,rfl,q D (I.hok.none hsz)⟩;refine I.laidL k'' (fun m' hm'=>?_) hsz ⟨?_,_,c,pQ rv _,(N'' _ B6).1⟩
  .rw[<- EU F.ns hm'];exact F''.ns
  .rw[A1,(iU (dM rows) (by omega)).length_eq,O5];have:64<=sizeLine:=by decide
   omega
end
noncomputable def rowsOf:List PyData->Option (List (List PyData))
 |[]=>some []
 |.tuple r::ds=>(rowsOf ds).bind fun rs=>some (r::rs)
 |_=>none
theorem mU:∀{ds:List PyData}{rows:List (List PyData)},rowsOf ds=some rows->ds=rows.map .tuple
 |[],_=>fun h=>by cases h;rfl
 |d::ds,rows=>fun h=>by
  cases d with
  |tuple r=>
   have h:(rowsOf ds).bind (fun rs=>some (r::rs))=some rows:=h;obtain⟨rs,h1,h2⟩:=Option.bind_eq_some_iff.mp h;cases h2;rw[mU h1];rfl
  |_=>cases h
noncomputable def sortable(rows:List (List PyData)):Bool:=decide (2<=rows.length)&&decide (rows.length<64)&&rows.all (fun r=>r.all SeqAt.shaped&&cE r)&&(gJ rows || lM rows)&&(List.range rows.length).all fun i=>(List.range rows.length).all fun j=>(cC (rows.getD i []) (rows.getD j [])).isSome
noncomputable def vY(rows:List (List PyData)):List PyData:=(cT (dM rows) rows.length).map fun i=>.tuple (rows.getD i [])
noncomputable def rB:FN:=fun xs M=>match xs with
 |[.d (.list ds)]=>(rowsOf ds).bind fun rows=>if sortable rows=true then some (.d (.list (vY rows)),M)else none
 |[.c i]=>match M[i]? with
  |some (.lst ys)=>(kG ys).bind fun ds=>(rowsOf ds).bind fun rows=>if sortable rows=true then some (.d (.list (vY rows)),M)else none
  |_=>none
 |_=>none
theorem gK{rows:List (List PyData)}(h:sortable rows=true):2<=rows.length/\rows.length<64/\(∀r∈rows,r.all SeqAt.shaped=true/\cE r=true)/\(gJ rows=true\/lM rows=true)/\(∀i j,i<rows.length->j<rows.length->(cC (rows.getD i []) (rows.getD j [])).isSome=true):=by
 unfold sortable at h;rw[B2,B2,B2,B2,Bool.or_eq_true]at h;obtain⟨⟨⟨⟨h1,h2⟩,h3⟩,h4⟩,h5⟩:=h;refine⟨D3 h1,D3 h2,fun r hr=>?_,h4,fun i j hi hj=>?_⟩
 .have:=List.all_eq_true.mp h3 r hr
  rwa [B2]at this
 .exact List.all_eq_true.mp (List.all_eq_true.mp h5 i (List.mem_range.mpr hi)) j (List.mem_range.mpr hj)
section
variable{K:Fg}
theorem aH.len{H:Hp}:∀{ds:List PyData}{vs:List V},aH K H ds vs->vs.length=ds.length
 |[],_=>fun h=>by
  have h:_=[]:=h;rw[h];rfl
 |d::ds,_=>fun h=>by
  obtain⟨v,r,rfl,_,h2⟩:=(show ∃v r,_=v::r/\Rep K H d v/\aH K H ds r from h);simp[aH.len h2]
theorem oW{H:Hp}{rows:List (List PyData)}{us:List V}(r:aH K H (rows.map .tuple) us):∀ps:List Nat,(∀i∈ps,i<rows.length)->aH K H (ps.map fun i=>.tuple (rows.getD i [])) (ps.map fun i=>us.getD i .non)
 |[]=>fun _=>rfl
 |p::ps=>fun hp=>by
  refine⟨_,_,rfl,?_,oW r ps fun i hi=>hp i (B1 _ hi)⟩;have hi:=hp p B6;have hl:=aH.len r;rw[A1]at hl
  have hu:us[p]?=some (us.getD p .non):=by
   rw[A9,B4 (by omega)];rfl
  obtain⟨d,h1,h2⟩:=aH.get r hu;rw[C6,B4 hi]at h1;cases h1;have e:rows.getD p []=rows[p]:=by rw[A9,B4 hi];rfl
  show Rep K H (.tuple (rows.getD p [])) (us.getD p .non);rw[e];exact h2
theorem LO{lt:Nat->Nat->Bool}{n:Nat}(h0:0<n):∀i∈cT lt n,i<n:=fun i hi=>List.mem_range.mp ((iU lt h0).mem_iff.mp hi)
theorem FG:PN K (BI K) rB:=by
 intro xs M z M' h W H vs Q G r k;unfold rB at h;split at h
 .rename_i ds;obtain⟨rows,h1,h⟩:=aI h;by_cases hs:sortable rows=true
  .rw[A4 hs]at h;cases h;obtain⟨a1,a2,a3,a4,a5⟩:=gK hs;rcases r with _|⟨r1,_|_⟩;obtain⟨p,us,rfl,hq,hr⟩:=(show ∃a us,_=V.ref a/\SqL K W.F a us/\aH K W.F ds us from r1);rw[mU h1]at hr;refine⟨p,us,rows,rfl,G.fh.seq hq,aH.same G.fh _ _ hr,a1,a2,a3,a4,a5,fun l hl=>?_⟩;obtain⟨e2,G2⟩:=G.lay (o:=.lst ((cT (dM rows) rows.length).map fun i=>us.getD i .non)) hl;exact k _ _ _ e2 G2 ⟨l,_,rfl,SqL.of aT,oW (aH.same e2.ff _ _ hr) _ (LO (by omega))⟩
  .rw[A6 hs]at h;cases h
 .rename_i i;split at h
  .rename_i ys hy;obtain⟨ds,h0,h⟩:=aI h;obtain⟨rows,h1,h⟩:=aI h;by_cases hs:sortable rows=true
   .rw[A4 hs]at h;cases h;obtain⟨a1,a2,a3,a4,a5⟩:=gK hs;rcases r with _|⟨r1,_|_⟩;obtain⟨us,hv,hr⟩:=G.lstAt hy;have hr:=eK h0 hr;rw[mU h1]at hr;rw[r1.2];refine⟨_,us,rows,rfl,SqL.of hv,aH.same G.fh _ _ hr,a1,a2,a3,a4,a5,fun l hl=>?_⟩;obtain⟨e2,G2⟩:=G.lay (o:=.lst ((cT (dM rows) rows.length).map fun i=>us.getD i .non)) hl;exact k _ _ _ e2 G2 ⟨l,_,rfl,SqL.of aT,oW (aH.same e2.ff _ _ hr) _ (LO (by omega))⟩
   .rw[A6 hs]at h;cases h
  .cases h
 .cases h
end
theorem eB.units2{k:Nat}{A:Around}(r:eB k A):A.in1.in1.units+64<cLine:=by have:=r.un;show A.units+1+1+64<_;omega
section
variable{prog:Program}{w:World}{A:Around}{E:Value->Shared->Prop}{s:Shared}
theorem kX{a:Addr}{vs:List Value}{n:Nat}{P:PySem.Fin->Shared->Prop}(g:s.heap.get? a=some (seqObj "list" vs.toArray n))(h2:vs.length<2)
 (k:P (.done (.ret .none)) { s with heap:=sortedHeap s.heap a vs vs.toArray }):wpAny (model prog w) A (Builtin.«list.sort» ⟨[.ref a],[]⟩) P E s:=by
 rw[list_sort_plain];have hz:vs.toArray.size<=sizeLine:=by rw[C0,E6];omega
 refine A0 (listItems_at g rfl ?_);refine A0 (listUpdate_at g rfl ?_ hz (by simp));have g1:=U5 g (fun _=>#[]);have hlt:=B5 g1;refine A0 (seqEpoch_at g1 rfl ?_);refine A0 (wpAny_newTuple ?_ (by simpa using hz));refine A0 (wpAny_newList ?_);refine L3 ?_;have hs:vs.toArray.size<2:=by simpa using h2
 dsimp only;rw[A4 hs,A4 hs];refine A0 (B3 ?_);refine A0 ?_;show wpAny (model prog w) A (pure ((),SortSt.mk' general' (vs.toArray.zip vs.toArray) #[] 7 none)) _ E _;refine B3 ?_;dsimp only;have g2:=A3 { cls:=.type "tuple",data:=.seq vs.toArray.toList.toArray } g1;have g3:=A3 { cls:=.type "list",data:=.seq ([]:List Value).toArray } g2;refine A0 (seqEpoch_at g3 rfl ?_)
 have hm:Array.map (fun x=>x.snd) (arrOf (SortSt.mk' general' (vs.toArray.zip vs.toArray) #[] 7 none))=vs.toArray:=by
  show Array.map (fun x=>x.snd) (vs.toArray.zip vs.toArray)=vs.toArray
  apply Array.ext
  .simp
  .intro i h1 h2;simp
 rw[hm];refine A0 (listUpdate_at g3 rfl ?_ (by simp) (by omega));rw[A6 (by simp)];exact B3 k
theorem wW{l:Addr}{vs:List Value}{Q:Value->Shared->Prop}(g:s.heap.IsList l vs.toArray)(h2:vs.length<2)
 (k:∀(h':Heap)(D:Addr),(∀b o,s.heap.get? b=some o->h'.get? b=some o)->s.heap.objs.size<=D->(∃c,h'.get? D=some (seqObj "list" vs.toArray c))->Q (.ref D) { s with heap:=h' }):wpAny (model prog w) A (call (.builtin "sorted") [.ref l]) Q E s:=by
 refine Calls.call_function_entry kind_sorted plain_sorted entry_sorted (args_sorted1 _) ?_;have hz:vs.length<=sizeLine:=by rw[E6];omega
 unfold Builtin.sorted;refine A0 (show wpAny _ _ (pure ()) _ _ _ from B3 ?_);refine A0 (collect_list g ?_ hz);refine A0 (wpAny_newList ?_ hz);generalize hh1:(s.heap.push (seqObj "list" #[] 0)).update s.heap.objs.size (Obj.mapSeq fun x=>x++vs.toArray)=h1
 have k1:∀b o,s.heap.get? b=some o->h1.get? b=some o:=fun b o e=>by
  rw[<- hh1,S9 _ _ _ _ (C5 (B5 e))];exact A3 _ e
 have sz1:s.heap.objs.size<=h1.objs.size:=by
  have e1:(s.heap.push (seqObj "list" #[] 0)).get? s.heap.objs.size=some (seqObj "list" #[] 0):=C7 _ rfl;have e2:=U5 e1 (fun x=>x++vs.toArray);rw[hh1]at e2;exact U8 (B5 e2)
 refine A0 (L3 ?_);have gD:(h1.push { cls:=.type "list",data:=.seq vs.toArray }).get? h1.objs.size=some (seqObj "list" vs.toArray 0):=C7 _ rfl;refine L5 slot_list_sort ⟨_,gD,rfl⟩ entry_list_sort (kX gD h2 ⟨_,rfl,?_⟩) (args_list_sort _);refine B3 ⟨_,rfl,k _ _ (fun b o e=>?_) sz1 ?_⟩
 .have hb:b≠h1.objs.size:=C5 (B5 (k1 b o e));unfold sortedHeap;rw[S9 _ _ _ _ hb];refine A3 _ (A3 _ ?_);rw[S9 _ _ _ _ hb];exact A3 _ (k1 b o e)
 .unfold sortedHeap;have g1:=U5 gD (fun _=>#[]);have g2:=A3 (seqObj "tuple" vs.toArray 0) g1;have g3:=A3 (seqObj "list" #[] 0) g2;exact⟨_,U5 g3 (fun _=>vs.toArray)⟩
end
noncomputable def CV(K:Fg):List V->Hp->VK->Prop:=fun xs H Q=>∃(p:Addr)(vs:List V),xs=[.ref p]/\SqL K H p vs/\vs.length<2/\∀l,H l=none->Q (.ref l) (upd H l (.lst vs))
theorem xS{X:Cx}:eU X (.builtin "sorted") (CV X.K):=by
 intro pins s σ H xs us Q I r h;obtain⟨p,vs,rfl,hp,h2,q⟩:=h;obtain⟨u,rfl,ru⟩:=vals1 r;cases ru;obtain⟨its,rv,pl,hz⟩:=I.list hp;have hl:=rv.length;refine wW pl.isList (by omega) fun h' D k hD ⟨c,g⟩=>?_;exact⟨.ref D,upd H D (.lst vs),I.laid (t':=s.toks) k hD ⟨hz,its,c,rv,g⟩,rfl,q D (I.hok.fresh hD)⟩
noncomputable def JQ(K:Fg):List V->Hp->VK->Prop:=fun xs H Q=>BI K xs H Q\/CV K xs H Q
theorem XN{X:Cx}(h:X.K=K)(hu:X.A.in1.in1.units+64<cLine):eU X (.builtin "sorted") (JQ K):=by
 subst h;intro pins s σ H xs us Q I r h;rcases h with h|h
 .exact wR hu pins s σ H xs us Q I r h
 .exact xS pins s σ H xs us Q I r h
noncomputable def nL:FN:=fun xs M=>match xs with
 |[.d (.list ds)]=>if ds.length<2 then some (.d (.list ds),M)else none
 |[.c i]=>match M[i]? with
  |some (.lst ys)=>(kG ys).bind fun ds=>if ds.length<2 then some (.d (.list ds),M)else none
  |_=>none
 |_=>none
theorem JL:PN K (CV K) nL:=by
 intro xs M z M' h W H vs Q G r k;unfold nL at h;split at h
 .rename_i ds;by_cases hs:ds.length<2
  .rw[A4 hs]at h;cases h;rcases r with _|⟨r1,_|_⟩;obtain⟨p,us,rfl,hq,hr⟩:=(show ∃a us,_=V.ref a/\SqL K W.F a us/\aH K W.F ds us from r1);refine⟨p,us,rfl,G.fh.seq hq,by rw[aH.len hr];exact hs,fun l hl=>?_⟩;obtain⟨e2,G2⟩:=G.lay (o:=.lst us) hl;exact k _ _ _ e2 G2 ⟨l,_,rfl,SqL.of aT,aH.same e2.ff _ _ hr⟩
  .rw[A6 hs]at h;cases h
 .rename_i i;split at h
  .rename_i ys hy;obtain⟨ds,h0,h⟩:=aI h;by_cases hs:ds.length<2
   .rw[A4 hs]at h;cases h;rcases r with _|⟨r1,_|_⟩;obtain⟨us,hv,hr⟩:=G.lstAt hy;have hr:=eK h0 hr;rw[r1.2];refine⟨_,us,rfl,SqL.of hv,by rw[aH.len hr];exact hs,fun l hl=>?_⟩;obtain⟨e2,G2⟩:=G.lay (o:=.lst us) hl;exact k _ _ _ e2 G2 ⟨l,_,rfl,SqL.of aT,aH.same e2.ff _ _ hr⟩
   .rw[A6 hs]at h;cases h
  .cases h
 .cases h
noncomputable def pU:FN:=fun xs M=>match nL xs M with
 |some r=>some r
 |none=>rB xs M
theorem JP:PN K (JQ K) pU:=by
 intro xs M z M' h W H vs Q G r k;unfold pU at h;split at h
 .rename_i q hq;cases h;exact .inr (JL xs M z M' hq W H vs Q G r k)
 .exact .inl (FG xs M z M' h W H vs Q G r k)
theorem PD{ι:Type}{X:ι->Cx}(hK:∀i,(X i).K=K)(hu:∀i,(X i).A.in1.in1.units+64<cLine):QN K X (.builtin "sorted") pU:=⟨_,fun i=>XN (hK i) (hu i),JP⟩
mutual
theorem xE:∀(x y:PyData),dH x=true->dH y=true->(PyData.eqv x y=true↔x=y)
 |.int a,.int b=>fun _ _=>by rw[PyData.eqv.eq_def];simp
 |.int a,.tuple b=>fun _ _=>by rw[PyData.eqv.eq_def];simp
 |.tuple a,.int b=>fun _ _=>by rw[PyData.eqv.eq_def];simp
 |.tuple xs,.tuple ys=>fun h k=>by
  unfold dH at h k;rw[PyData.eqv.eq_def];have:=SQ xs ys h k;simpa using this
 |.none,_=>fun h _=>by unfold dH at h;cases h
 |.bool _,_=>fun h _=>by unfold dH at h;cases h
 |.str _,_=>fun h _=>by unfold dH at h;cases h
 |.list _,_=>fun h _=>by unfold dH at h;cases h
 |.dict _,_=>fun h _=>by unfold dH at h;cases h
 |.int _,.none=>fun _ h=>by unfold dH at h;cases h
 |.int _,.bool _=>fun _ h=>by unfold dH at h;cases h
 |.int _,.str _=>fun _ h=>by unfold dH at h;cases h
 |.int _,.list _=>fun _ h=>by unfold dH at h;cases h
 |.int _,.dict _=>fun _ h=>by unfold dH at h;cases h
 |.tuple _,.none=>fun _ h=>by unfold dH at h;cases h
 |.tuple _,.bool _=>fun _ h=>by unfold dH at h;cases h
 |.tuple _,.str _=>fun _ h=>by unfold dH at h;cases h
 |.tuple _,.list _=>fun _ h=>by unfold dH at h;cases h
 |.tuple _,.dict _=>fun _ h=>by unfold dH at h;cases h
theorem SQ:∀(xs ys:List PyData),cE xs=true->cE ys=true->(PyData.eqvAll xs ys=true↔xs=ys)
 |[],[]=>fun _ _=>by rw[U9];simp
 |[],_::_=>fun _ _=>by rw[U9];simp
 |_::_,[]=>fun _ _=>by rw[U9];simp
 |x::xs,y::ys=>fun h k=>by
  unfold cE at h k;rw[B2]at h k;rw[U9];show(PyData.eqv x y&&PyData.eqvAll xs ys)=true↔_;rw[B2,xE x y h.1 k.1,SQ xs ys h.2 k.2,List.cons.injEq]
end
theorem MU:∀a b:List Int,HT.lexLt a b=true->HT.lexLt b a=false
 |[],[]=>fun h=>by cases h
 |[],_::_=>fun _=>rfl
 |_::_,[]=>fun h=>by cases h
 |x::xs,y::ys=>fun h=>by
  rw[HT.lexLt_cons]at h ⊢;by_cases e:x=y
  .rw[A4 e]at h;rw[A4 e.symm];exact MU xs ys h
  .rw[A6 e]at h;rw[A6 (O3 e)];have:=D3 h;exact C3 (by omega)
theorem LI:∀a b c:List Int,HT.lexLt b a=false->HT.lexLt c b=false->HT.lexLt c a=false
 |[],_,[]=>fun _ _=>rfl
 |[],_,_::_=>fun _ _=>rfl
 |x::xs,[],_=>fun h _=>by cases h
 |x::xs,y::ys,[]=>fun _ h=>by cases h
 |x::xs,y::ys,z::zs=>fun h k=>by
  rw[HT.lexLt_cons]at h k ⊢;by_cases e:y=x
  .rw[A4 e]at h;by_cases e':z=y
   .rw[A4 e']at k;rw[A4 (e'.trans e)];exact LI xs ys zs h k
   .rw[A6 e']at k;subst e;rw[A6 e'];exact k
  .rw[A6 e]at h;have h:=E2 h;by_cases e':z=y
   .subst e';rw[A6 e];exact C3 h
   .rw[A6 e']at k;have k:=E2 k;rw[A6 (by omega)];exact C3 (by omega)
theorem NK:∀a b:List Int,HT.lexLt a b=false->HT.lexLt b a=false->a=b
 |[],[]=>fun _ _=>rfl
 |[],_::_=>fun h _=>by cases h
 |_::_,[]=>fun _ h=>by cases h
 |x::xs,y::ys=>fun h k=>by
  rw[HT.lexLt_cons]at h k;by_cases e:x=y
  .rw[A4 e]at h;rw[A4 e.symm]at k;rw[e,NK xs ys h k]
  .rw[A6 e]at h;rw[A6 (O3 e)]at k;have h:=E2 h;have k:=E2 k;omega
theorem FP:∀{xs ys:List PyData}{ns:List Int},hG xs=some ns->hG ys=some ns->xs=ys:=by
 have go:∀{xs:List PyData}{ns:List Int},hG xs=some ns->xs=ns.map .int:=by
  intro xs
  induction xs with
  |nil=>intro ns h;cases h;rfl
  |cons d ds ih=>
   intro ns h;cases d with
   |int n=>
    have h:(hG ds).bind (fun ns=>some (n::ns))=some ns:=h;obtain⟨ms,h1,h2⟩:=Option.bind_eq_some_iff.mp h;cases h2;rw[ih h1];rfl
   |_=>cases h
 intro xs ys ns h k;rw[go h,go k]
theorem mN{x y:PyData}{c:Bool}(h:dP x y=some c):(∃a b,x=.int a/\y=.int b/\c=decide (a<b))\/∃xs ys ns ms,x=.tuple xs/\y=.tuple ys/\hG xs=some ns/\hG ys=some ms/\c=HT.lexLt ns ms:=by
 unfold dP at h;split at h
 .cases h;exact .inl ⟨_,_,rfl,rfl,rfl⟩
 .obtain⟨ns,h1,h⟩:=Option.bind_eq_some_iff.mp h;obtain⟨ms,h2,h⟩:=Option.bind_eq_some_iff.mp h;cases h;exact .inr ⟨_,_,_,_,rfl,rfl,h1,h2,rfl⟩
 .cases h
theorem AU{x y:PyData}{c:Bool}(h:dP x y=some c):∃d,dP y x=some d/\(c=true->d=false)/\(c=false->d=false->x=y):=by
 rcases mN h with⟨a,b,rfl,rfl,rfl⟩|⟨xs,ys,ns,ms,rfl,rfl,h1,h2,rfl⟩
 .refine⟨decide (b<a),rfl,fun z=>C3 (by have:=D3 z;omega),fun z z'=>?_⟩;have z:=E2 z;have z':=E2 z';rw[show a=b by omega]
 .refine⟨HT.lexLt ms ns,?_,fun z=>MU _ _ z,fun z z'=>?_⟩
  .show(hG ys).bind _=_;rw[h2];show(hG xs).bind _=_;rw[h1];rfl
  .have:=NK _ _ z z';subst this;rw[FP h1 h2]
theorem RZ{x y z:PyData}(h:dP y x=some false)(k:dP z y=some false):dP z x=some false:=by
 rcases mN h with⟨a,b,rfl,rfl,hh⟩|⟨xs,ys,ns,ms,rfl,rfl,h1,h2,hh⟩
 .rcases mN k with⟨c,d,rfl,e,kk⟩|⟨_,_,_,_,_,e,_⟩
  .cases e;have hh:=E2 hh.symm;have kk:=E2 kk.symm;show some (decide (c<b))=some false;rw[C3 (by omega)]
  .cases e
 .rcases mN k with⟨c,d,rfl,e,kk⟩|⟨zs,ys',ns',ms',rfl,e,k1,k2,kk⟩
  .cases e
  .cases e;rw[h1]at k2;cases k2;have:=LI _ _ _ hh.symm kk.symm;show(hG zs).bind _=_;rw[k1];show(hG ys).bind _=_;rw[h2];show some _=some false;rw[this]
theorem LH:∀a b:List PyData,cE a=true->cE b=true->cC a b=some true->cC b a=some false
 |[],[]=>fun _ _ h=>by cases h
 |[],_::_=>fun _ _ _=>rfl
 |_::_,[]=>fun _ _ h=>by cases h
 |x::xs,y::ys=>fun p q h=>by
  unfold cE at p q;rw[B2]at p q;have h:(if PyData.eqv x y=true then cC xs ys else dP x y)=some true:=h;show(if PyData.eqv y x=true then cC ys xs else dP y x)=some false;by_cases e:PyData.eqv x y=true
  .rw[A4 e]at h;have e':=(xE x y p.1 q.1).mp e;rw[A4 ((xE y x q.1 p.1).mpr e'.symm)];exact LH xs ys p.2 q.2 h
  .rw[A6 e]at h;rw[A6 fun z=>e ((xE x y p.1 q.1).mpr ((xE y x q.1 p.1).mp z).symm)];obtain⟨d,h1,h2,_⟩:=AU h;rw[h1,h2 rfl]
theorem NO:∀a b c:List PyData,cE a=true->cE b=true->cE c=true->cC b a=some false->cC c b=some false->cC c a=some false
 |[],_,[]=>fun _ _ _ _ _=>rfl
 |[],_,_::_=>fun _ _ _ _ _=>rfl
 |x::xs,[],_=>fun _ _ _ h _=>by cases h
 |x::xs,y::ys,[]=>fun _ _ _ _ h=>by cases h
 |x::xs,y::ys,z::zs=>fun p q r h k=>by
  unfold cE at p q r;rw[B2]at p q r;have hA:(if PyData.eqv y x=true then cC ys xs else dP y x)=some false:=h;clear h;have kA:(if PyData.eqv z y=true then cC zs ys else dP z y)=some false:=k;clear k;show(if PyData.eqv z x=true then cC zs xs else dP z x)=some false;by_cases e:PyData.eqv y x=true
  .rw[A4 e]at hA;have e1:=(xE y x q.1 p.1).mp e;subst e1;by_cases e':PyData.eqv z y=true
   .rw[A4 e']at kA ⊢;exact NO xs ys zs p.2 q.2 r.2 hA kA
   .rw[A6 e']at kA ⊢;exact kA
  .rw[A6 e]at hA;by_cases e':PyData.eqv z y=true
   .have e1:=(xE z y r.1 q.1).mp e';subst e1;rw[A6 e];exact hA
   .rw[A6 e']at kA
    have ez:¬PyData.eqv z x=true:=fun w=>by
     have w:=(xE z x r.1 p.1).mp w;subst w;obtain⟨d,h1,_,h3⟩:=AU hA;rw[h1]at kA;cases kA;exact e ((xE y z q.1 p.1).mpr (h3 rfl rfl))
    rw[A6 ez];exact RZ hA kA
theorem MN{rows:List (List PyData)}(h:sortable rows=true):oI (dM rows):=by
 obtain⟨a1,a2,a3,a4,a5⟩:=gK h
 have onl:∀i,cE (rows.getD i [])=true:=fun i=>by
  rw[A9];cases e:rows[i]? with
  |none=>rfl
  |some r=>exact(a3 r (List.mem_of_getElem? e)).2
 have out:∀i,¬i<rows.length->rows.getD i []=[]:=fun i hi=>by
  rw[A9,List.getElem?_eq_none (by omega)];rfl
 have ans:∀i j,∃c,cC (rows.getD i []) (rows.getD j [])=some c:=fun i j=>by
  by_cases hi:i<rows.length
  .by_cases hj:j<rows.length
   .exact Option.isSome_iff_exists.mp (a5 i j hi hj)
   .rw[out j hj];cases rows.getD i []with
    |nil=>exact⟨_,rfl⟩
    |cons _ _=>exact⟨_,rfl⟩
  .rw[out i hi];exact⟨_,rfl⟩
 have is:∀i j c,dM rows i j=c->cC (rows.getD i []) (rows.getD j [])=some c:=fun i j c e=>by
  obtain⟨d,hd⟩:=ans i j;unfold dM at e;rw[hd]at e ⊢;exact F4 some e
 have un:∀i j c,cC (rows.getD i []) (rows.getD j [])=some c->dM rows i j=c:=fun i j c e=>by
  unfold dM;rw[e];rfl
 exact⟨fun a b e=>un _ _ _ (LH _ _ (onl a) (onl b) (is _ _ _ e)),fun a b c e e'=>un _ _ _ (NO _ _ _ (onl a) (onl b) (onl c) (is _ _ _ e) (is _ _ _ e'))⟩
theorem uS{rows:List (List PyData)}(h:sortable rows=true):fE (dM rows) (GQ (dM rows) (PySem.W.kas_sort rows.length)) rows.length:=
 (KS.run (OC (MN h) (by have:=(gK h).1;omega))).2
section
variable{X:Cx}{pins:List (Addr×Obj)}{σ:St}{H:Hp}{s:Shared}
end
structure Exc where
 nm:Str
 fs:List (Str×CD)
inductive Rs where
 |v (x:CD)|x (e:Exc)
inductive aBb where
 |o (o:Out)|xc (γ:Ga) (e:Exc)
noncomputable abbrev EX:=Ga->Sto->Option (Rs×Sto)
noncomputable abbrev AX:=Ga->Sto->Option ((List CD ⊕ Exc)×Sto)
noncomputable abbrev SFX:=Ga->Sto->Option (aBb×Sto)
noncomputable abbrev FX:=List CD->Sto->Option (Rs×Sto)
section
variable(K:Fg)
noncomputable def ExR(W:Wd)(ex:Exc)(c:Value)(dx:Option Addr):Prop:=c=.ref (WK K ex.nm)/\JT K W dx ex.fs
noncomputable def OutOkX(EE:St->XK)(D:Ends)(W:Wd)(H:Hp):aBb->Prop
 |.o o=>TU K D W H o
 |.xc γ ex=>∀σ c dx,dC K W γ σ->ExR K W ex c dx->EE σ c dx H
end
noncomputable def liE(f:EF):EX:=fun γ M=>(f γ M).bind fun r=>some (.v r.1,r.2)
noncomputable def liA(f:AF):AX:=fun γ M=>(f γ M).bind fun r=>some (.inl r.1,r.2)
noncomputable def liS(f:SF):SFX:=fun γ M=>(f γ M).bind fun r=>some (.o r.1,r.2)
noncomputable def xCons(f:EX)(g:AX):AX:=fun γ M=>(f γ M).bind fun r=>match r.1 with
 |.x e=>some (.inr e,r.2)
 |.v x=>(g γ r.2).bind fun q=>match q.1 with
  |.inr e=>some (.inr e,q.2)
  |.inl xs=>some (.inl (x::xs),q.2)
noncomputable def aAl(f:EX)(k:CD->Sto->Option (Rs×Sto)):EX:=fun γ M=>(f γ M).bind fun r=>match r.1 with
 |.x e=>some (.x e,r.2)
 |.v x=>k x r.2
noncomputable def TZ(f:AX)(k:List CD->Sto->Option (Rs×Sto)):EX:=fun γ M=>(f γ M).bind fun r=>match r.1 with
 |.inr e=>some (.x e,r.2)
 |.inl xs=>k xs r.2
noncomputable def okR(o:Option (CD×Sto)):Option (Rs×Sto):=o.bind fun r=>some (.v r.1,r.2)
noncomputable def aAI(h:FX)(f:AX):EX:=TZ f h
noncomputable def aAV(f g:SFX):SFX:=fun γ M=>(f γ M).bind fun r=>match r.1 with
 |.o (.nx γ')=>g γ' r.2
 |o=>some (o,r.2)
noncomputable def aBw(f:EX):SFX:=fun γ M=>(f γ M).bind fun r=>match r.1 with
 |.x e=>some (.xc γ e,r.2)
 |.v x=>some (.o (.rt x),r.2)
noncomputable def YG(f:EX):SFX:=fun γ M=>(f γ M).bind fun r=>match r.1 with
 |.x e=>some (.xc γ e,r.2)
 |.v _=>some (.o (.nx γ),r.2)
noncomputable def aBx(f:EX)(g:GF):SFX:=fun γ M=>(f γ M).bind fun r=>match r.1 with
 |.x e=>some (.xc γ e,r.2)
 |.v x=>(g x γ r.2).bind fun q=>some (.o (.nx q.1),q.2)
noncomputable def aBV(c:TF)(f g:SFX):SFX:=fun γ M=>(c γ M).bind fun r=>if r.1=true then f γ r.2 else g γ r.2
noncomputable def YR(nm:Str):SFX:=fun γ M=>some (.xc γ ⟨nm,[]⟩,M)
noncomputable def fnX(ps N:Nat)(b:SFX):FX:=fun xs M=>if xs.length=ps then(b (xs.map some++List.replicate (N-xs.length) none) M).bind fun r=>match r.1 with
 |.o (.rt x)=>some (.v x,r.2)
 |.o (.nx _)=>some (.v (.d .none),r.2)
 |.xc _ e=>some (.x e,r.2)
 |_=>none else none
noncomputable def OZ:Option Nat->Ga->Ga
 |none,γ=>γ
 |some i,γ=>γ.set i none
noncomputable def setG:Option Nat->Ga->CD->Ga
 |none,γ,_=>γ
 |some i,γ,x=>γ.set i (some x)
noncomputable def aAh(n:Option Nat):Out->Out
 |.nx γ=>.nx (OZ n γ)
 |.bk γ=>.bk (OZ n γ)
 |.ct γ=>.ct (OZ n γ)
 |.rt x=>.rt x
structure HMi where
 tab:List (Str×Bool)
 n:Option Nat
 f:SF
noncomputable def WX:List HMi->Ga->Exc->Sto->Option (Out×Sto)
 |[],_,_,_=>none
 |h::r,γ,ex,M=>match h.tab.lookup ex.nm with
  |some true=>(h.f (setG h.n γ (.c M.length)) (M++[.exc false ex.nm ex.fs])).bind fun q=>some (aAh h.n q.1,q.2)
  |some false=>WX r γ ex M
  |none=>none
noncomputable def aBM(b:SFX)(hs:List HMi):SF:=fun γ M=>(b γ M).bind fun r=>match r.1 with
 |.o o=>some (o,r.2)
 |.xc γ' ex=>WX hs γ' ex r.2
section
variable{K:Fg}{EE:St->XK}{ta tb:TE}{tA:TA}{t u:TS}{f g:EX}{fa:AX}{p q:SFX}{tt:TT}{ft:TF}{tg:TG}{hg:GF}
end
section
variable{ι:Type}
variable{K:Fg}{X:ι->Cx}{EE:ι->St->XK}{e a b c tg iter:Expr}{es:List Expr}{f g:EX}{fa:AX}{p q:SFX}{ft:TF}{gf:GF}{st:Stmt}{sts sts':List Stmt}{pos:Pos}
end
section
variable{X:Cx}{K:Fg}
noncomputable def aBf(tab:List (Str×Bool))(nn:Option Bool)(f:EF):EF:=fun γ M=>(f γ M).bind fun r=>match r.1 with
 |.c i=>(match r.2[i]? with
  |some (.exc _ nm _)=>(tab.lookup nm).bind fun b=>some (.d (.bool b),r.2)
  |_=>none)
 |.d .none=>nn.bind fun b=>some (.d (.bool b),r.2)
 |_=>none
end
noncomputable def UV(h:FX)(f:AF):EF:=fun γ M=>(f γ M).bind fun r=>(h r.1 r.2).bind fun q=>match q.1 with
 |.v x=>some (x,q.2)
 |.x _=>none
mutual
noncomputable def snap:Nat->Sto->CD->Option PyData
 |_,_,.d x=>some x
 |0,_,.c _=>none
 |n+1,M,.c i=>match M[i]? with
  |some (.lst xs)=>(lY n M xs).bind fun ds=>some (.list ds)
  |_=>none
 |_,_,.f _=>none
 |0,_,.t _=>none
 |n+1,M,.t xs=>(lY n M (xs.map cdA)).bind fun ds=>some (.tuple ds)
noncomputable def lY:Nat->Sto->List CD->Option (List PyData)
 |_,_,[]=>some []
 |n,M,x::xs=>(snap n M x).bind fun d=>(lY n M xs).bind fun ds=>some (d::ds)
end
section
variable{K:Fg}{W:Wd}{M:Sto}{H:Hp}
theorem Good.lstAt'(G:Good K W M H){i:Nat}{xs:List CD}(h:M[i]?=some (.lst xs)):∃vs,H (W.α i)=some (.lst vs)/\bS K W xs vs:=by
 obtain⟨_,o,h2,h3⟩:=G.cs i _ h (by intro z;cases z);cases o with
 |lst vs=>exact⟨vs,h2,h3⟩
 |_=>exact False.elim h3
mutual
theorem rT(G:Good K W M H):∀(n:Nat)(x:CD)(d:PyData)(v:V),snap n M x=some d->cA K W x v->Rep K H d v
 |0,.d x=>fun d v h r=>by unfold snap at h;cases h;exact Rep.same G.fh _ _ r
 |n+1,.d x=>fun d v h r=>by unfold snap at h;cases h;exact Rep.same G.fh _ _ r
 |0,.c i=>fun d v h r=>by unfold snap at h;cases h
 |n+1,.c i=>fun d v h r=>by
  unfold snap at h;cases e:M[i]? with
  |none=>rw[e]at h;cases h
  |some c=>
   rw[e]at h;cases c with
   |lst xs=>
    obtain⟨ds,h1,h⟩:=aI (show(lY n M xs).bind _=_ from h);cases h;obtain⟨vs,h2,h3⟩:=G.lstAt' e;exact⟨W.α i,vs,r.2,SqL.of h2,pS G n xs ds vs h1 h3⟩
   |_=>cases h
 |0,.f xs=>fun d v h r=>by unfold snap at h;cases h
 |n+1,.f xs=>fun d v h r=>by unfold snap at h;cases h
 |0,.t xs=>fun d v h r=>by unfold snap at h;cases h
 |n+1,.t xs=>fun d v h r=>by
  unfold snap at h;obtain⟨ds,h1,h⟩:=aI h;cases h;obtain⟨a,vs,rfl,h2,h3⟩:=r;exact⟨a,vs,rfl,SqT.of (G.fh _ _ h2),pS G n _ ds vs h1 (DK h3)⟩
theorem pS(G:Good K W M H):∀(n:Nat)(xs:List CD)(ds:List PyData)(vs:List V),lY n M xs=some ds->bS K W xs vs->aH K H ds vs
 |_,[]=>fun ds vs h r=>by
  unfold lY at h;cases h;cases r;rfl
 |n,x::xs=>fun ds vs h r=>by
  unfold lY at h;obtain⟨d,h1,h⟩:=aI h;obtain⟨es,h2,h⟩:=aI h;cases h;cases r with
  |@cons _ v _ vs' r1 r2=>exact⟨v,vs',rfl,rT G n x d v h1 r1,pS G n xs es vs' h2 r2⟩
end
end
theorem KN{n:Nat}{M:Sto}{x:PyData}:snap n M (.d x)=some x:=by cases n<;>simp only[snap]
open PySem PySem.Spec PyProof.Rows PySem.Builtin PySem.Builtin.ObjectAttr
end L2
namespace L2
variable{W:Wd}{M:Sto}{H:Hp}
open PySem PySem.Spec PyProof.Rows
noncomputable abbrev KY:=Key ⊕ List Key
noncomputable abbrev KF:=Ga->Sto->Option (KY×Sto)
noncomputable def FE(W:Wd):KY->V->Prop
 |.inl k,v=>v=kV k
 |.inr ks,v=>∃b,v=.ref b/\W.F b=some (.tup (ks.map kV))
theorem FE.up{W':Wd}{k:KY}{v:V}(h:FE W k v)(e:W.Ext W'):FE W' k v:=by
 cases k with
 |inl k=>exact h
 |inr ks=>obtain⟨b,h1,h2⟩:=h;exact⟨b,h1,e.ff _ _ h2⟩
section
variable{K:Fg}
noncomputable def SK(K:Fg)(t:TE)(f:KF):Prop:=∀γ M k M',f γ M=some (k,M')->∀(W:Wd)(H:Hp)(σ:St)(Q:VK),Good K W M H->dC K W γ σ->(∀v W' H',W.Ext W'->Good K W' M' H'->FE W' k v->Q v H')->t σ H Q
noncomputable def HD(f:EF):KF:=fun γ M=>(f γ M).bind fun r=>(keyOf r.1).bind fun k=>some (.inl k,r.2)
variable{t td ty tx tv:TE}{tA:TA}{f fo fx fv:EF}{fk:KF}{fa:AF}
theorem UL(a:SE K t f):SK K t (HD f):=by
 intro γ M k M' hh W H σ Q G R c;obtain⟨⟨x,M1⟩,h1,hh⟩:=aI hh;obtain⟨k',h2,hh⟩:=aI hh;cases hh;exact a _ _ _ _ h1 W H σ _ G R fun v W1 H1 e1 G1 r1=>c v W1 H1 e1 G1 (vX h2 r1)
section
variable{κ:Type}[DecidableEq κ]
noncomputable def lkC(kvs:List (κ×CD))(k:κ):Option CD:=(kvs.find? fun kv=>decide (kv.1=k)).map (·.2)
noncomputable def putD(kvs:List (κ×CD))(k:κ)(v:CD):List (κ×CD):=
 if (kvs.any fun kv=>decide (kv.1=k))=true then kvs.map (fun kv=>if kv.1=k then(kv.1,v)else kv)else kvs++[(k,v)]
noncomputable abbrev PKV(K:Fg)(W:Wd)(kvs:List (κ×CD))(us:List (κ×V)):Prop:=Paired (fun p q=>p.1=q.1/\cA K W p.2 q.2) kvs us
theorem yE{W:Wd}{k:κ}:∀{kvs:List (κ×CD)}{us:List (κ×V)},PKV K W kvs us->AM K W (lkC kvs k) (fS us k)
 |_,_,.nil=>True.intro
 |_,_,.cons (a:=p) (b:=q) (l₁:=ps) (l₂:=qs) r1 r2=>by
  by_cases h:p.1=k
  .have h':q.1=k:=r1.1▸h;rw[show lkC (p::ps) k=some p.2 by simp[lkC,List.find?_cons,h],show fS (q::qs) k=some q.2 by simp[fS,List.find?_cons,h']];exact r1.2
  .have h':¬q.1=k:=r1.1▸h;rw[show lkC (p::ps) k=lkC ps k by simp[lkC,List.find?_cons,h],show fS (q::qs) k=fS qs k by simp[fS,List.find?_cons,h']];exact yE r2
theorem yY{W:Wd}{k:κ}:∀{kvs:List (κ×CD)}{us:List (κ×V)},PKV K W kvs us->(kvs.any fun kv=>decide (kv.1=k))=us.any fun kv=>decide (kv.1=k)
 |_,_,.nil=>rfl
 |_,_,.cons r1 r2=>by rw[S3,S3,yY r2,r1.1]
theorem zZ{W:Wd}{k:κ}{x:CD}{v:V}(rv:cA K W x v):∀{kvs:List (κ×CD)}{us:List (κ×V)},PKV K W kvs us->PKV K W (kvs.map fun kv=>if kv.1=k then(kv.1,x)else kv) (us.map fun kv=>if kv.1=k then(kv.1,v)else kv)
 |_,_,.nil=>.nil
 |_,_,.cons (a:=p) (b:=q) r1 r2=>by
  rw[B8,B8];refine .cons ?_ (zZ rv r2);by_cases h:p.1=k
  .rw[A4 h,A4 (r1.1▸h)];exact⟨r1.1,rv⟩
  .rw[A6 h,A6 (r1.1▸h)];exact r1
theorem vZ{k:κ}{x:CD}{v:V}{kvs:List (κ×CD)}{us:List (κ×V)}(r:PKV K W kvs us)(rv:cA K W x v):PKV K W (putD kvs k x) (putK us k v):=by
 unfold putD putK;rw[yY r];split
 .exact zZ rv r
 .exact Paired.app r (.cons ⟨rfl,rv⟩ .nil)
end
noncomputable def lkP(kvs:List (List Key×PyData))(k:List Key):Option PyData:=(kvs.find? fun kv=>decide (kv.1=k)).map (·.2)
theorem zA{W:Wd}{k:List Key}:∀{kvs:List (List Key×PyData)}{us:List (List Key×V)},Paired (fun p q=>p.1=q.1/\Rep K W.F p.2 q.2) kvs us->AM K W ((lkP kvs k).map .d) (fS us k)
 |_,_,.nil=>True.intro
 |_,_,.cons (a:=p) (b:=q) (l₁:=ps) (l₂:=qs) r1 r2=>by
  by_cases h:p.1=k
  .have h':q.1=k:=r1.1▸h;rw[show lkP (p::ps) k=some p.2 by simp[lkP,List.find?_cons,h],show fS (q::qs) k=some q.2 by simp[fS,List.find?_cons,h']];exact r1.2
  .have h':¬q.1=k:=r1.1▸h;rw[show lkP (p::ps) k=lkP ps k by simp[lkP,List.find?_cons,h],show fS (q::qs) k=fS qs k by simp[fS,List.find?_cons,h']];exact zA r2
noncomputable def atD(M:Sto):CD->KY->Option (Option CD)
 |.c i,.inl k=>match M[i]? with
  |some (.dk kvs)=>some (lkC kvs k)
  |_=>none
 |.c i,.inr ks=>match M[i]? with
  |some (.dt kvs)=>some (lkC kvs ks)
  |_=>none
 |.f kvs,.inr ks=>some ((lkP kvs ks).map .d)
 |_,_=>none
noncomputable def LB(M:Sto):CD->KY->CD->Option Sto
 |.c i,.inl k,x=>match M[i]? with
  |some (.dk kvs)=>if kvs.length<sizeLine then some (M.set i (.dk (putD kvs k x)))else none
  |_=>none
 |.c i,.inr ks,x=>match M[i]? with
  |some (.dt kvs)=>if kvs.length<sizeLine then some (M.set i (.dt (putD kvs ks x)))else none
  |_=>none
 |_,_,_=>none
theorem Good.dkAt{i:Nat}{kvs:List (Key×CD)}(G:Good K W M H)(h:M[i]?=some (.dk kvs)):∃us,H (W.α i)=some (.dK us)/\PKV K W kvs us:=by
 obtain⟨_,o,h2,h3⟩:=G.cs i _ h (by intro z;cases z);cases o<;>first|exact⟨_,h2,h3⟩|exact False.elim h3
theorem Good.dtAt{i:Nat}{kvs:List (List Key×CD)}(G:Good K W M H)(h:M[i]?=some (.dt kvs)):∃us,H (W.α i)=some (.dT us)/\PKV K W kvs us:=by
 obtain⟨_,o,h2,h3⟩:=G.cs i _ h (by intro z;cases z);cases o<;>first|exact⟨_,h2,h3⟩|exact False.elim h3
theorem RI{x:CD}{k:KY}{r:Option CD}{v y:V}(G:Good K W M H)(h:atD M x k=some r)(rx:cA K W x v)(ry:FE W k y):∃a o,v=.ref a/\wY H a y o/\AM K W r o:=by
 unfold atD at h;split at h
 .rename_i i k';split at h
  .rename_i kvs hk;cases h;obtain⟨us,h1,h2⟩:=G.dkAt hk;refine⟨_,_,rx.2,?_,yE h2⟩;rw[show y=kV k' from ry];exact wY.k h1
  .cases h
 .rename_i i ks;split at h
  .rename_i kvs hk;cases h;obtain⟨us,h1,h2⟩:=G.dtAt hk;obtain⟨b,rfl,hb⟩:=ry;exact⟨_,_,rx.2,wY.t h1 (G.fh _ _ hb),yE h2⟩
  .cases h
 .rename_i kvs ks;cases h;obtain⟨a,o,us,rfl,h1,h2⟩:=rx;obtain⟨b,rfl,hb⟩:=ry;exact⟨_,_,rfl,.inr ⟨us,ks,b,.inr ⟨o,G.fh _ _ h1⟩,rfl,G.fh _ _ hb,rfl⟩,zA h2⟩
 .cases h
theorem IJ{M':Sto}{x z:CD}{k:KY}{v y u:V}(G:Good K W M H)(h:LB M x k z=some M')(rx:cA K W x v)(ry:FE W k y)(rz:cA K W z u):∃a H',v=.ref a/\yG H a y u H'/\Good K W M' H':=by
 unfold LB at h;split at h
 .rename_i z' i k';split at h
  .rename_i kvs hk;by_cases hl:kvs.length<sizeLine
   .rw[A4 hl]at h;cases h;obtain⟨us,h1,h2⟩:=G.dkAt hk;refine⟨_,_,rx.2,?_,G.set hk (by intro q;cases q) (o':=.dK (putK us k' u)) (vZ h2 rz)⟩;rw[show y=kV k' from ry];exact yG.k h1 (by rw[<- Paired.len h2];exact hl)
   .rw[A6 hl]at h;cases h
  .cases h
 .rename_i z' i ks;split at h
  .rename_i kvs hk;by_cases hl:kvs.length<sizeLine
   .rw[A4 hl]at h;cases h;obtain⟨us,h1,h2⟩:=G.dtAt hk;obtain⟨b,rfl,hb⟩:=ry;exact⟨_,_,rx.2,yG.t h1 (G.fh _ _ hb) (by rw[<- Paired.len h2];exact hl),G.set hk (by intro q;cases q) (o':=.dT (putK us ks u)) (vZ h2 rz)⟩
   .rw[A6 hl]at h;cases h
  .cases h
 .cases h
noncomputable def KO(neg:Bool)(fk:KF)(fo:EF):EF:=fun γ M=>(fk γ M).bind fun k=>(fo γ k.2).bind fun o=>(atD o.2 o.1 k.1).bind fun r=>some (.d (.bool (if neg then !r.isSome else r.isSome)),o.2)
noncomputable def wV(fo:EF)(fk:KF)(fv:EF):SF:=fun γ M=>(fv γ M).bind fun v=>(fo γ v.2).bind fun o=>(fk γ o.2).bind fun k=>(LB k.2 o.1 k.1 v.1).bind fun M'=>some (.nx γ,M')
theorem GC{r:Option CD}{o:Option V}(h:AM K W r o):o.isSome=r.isSome:=by
 cases r<;>cases o<;>first|rfl|exact False.elim h
theorem HF(b:SK K ty fk)(a:SE K td fo):SE K (ED ty td) (KO true fk fo):=by
 intro γ M x M' hh W H σ Q G R k;obtain⟨⟨ky,M1⟩,h1,hh⟩:=aI hh;obtain⟨⟨o,M2⟩,h2,hh⟩:=aI hh;obtain⟨r,h3,hh⟩:=aI hh;cases hh;refine b _ _ _ _ h1 W H σ _ G R fun y W1 H1 e1 G1 r1=>a _ _ _ _ h2 W1 H1 σ _ G1 (R.up e1) fun v W2 H2 e2 G2 r2=>?_;obtain⟨p,ov,ev,g,ro⟩:=RI G2 h3 r2 (r1.up e2);refine⟨p,ov,ev,g,k _ W2 H2 (e1.trans e2) G2 ?_⟩;show _=V.bl (!r.isSome);rw[GC ro]
theorem RK(a:SE K td fo)(b:SK K ty fk)(c:SE K tv fv):SS K (SN td ty tv) (wV fo fk fv):=by
 intro γ M o M' hh W H σ D G R k;obtain⟨⟨z,M1⟩,h1,hh⟩:=aI hh;obtain⟨⟨x,M2⟩,h2,hh⟩:=aI hh;obtain⟨⟨ky,M3⟩,h3,hh⟩:=aI hh;obtain⟨M4,h4,hh⟩:=aI hh;cases hh;refine c _ _ _ _ h1 W H σ _ G R fun u W1 H1 e1 G1 r1=>a _ _ _ _ h2 W1 H1 σ _ G1 (R.up e1) fun v W2 H2 e2 G2 r2=>b _ _ _ _ h3 W2 H2 σ _ G2 (R.up (e1.trans e2)) fun y W3 H3 e3 G3 r3=>?_;obtain⟨p,H4,ev,g,G4⟩:=IJ G3 h4 (r2.up e3) r3 ((r1.up e2).up e3);exact⟨p,H4,ev,g,k W3 H4 ((e1.trans e2).trans e3) G4 σ (R.up ((e1.trans e2).trans e3))⟩
end
section
variable{ι:Type}
structure MK(K:Fg)(X:ι->Cx)(e:Expr)(f:KF):Prop where
 ex:∃t,(∀i,PE (X i) e t)/\SK K t f
variable{K:Fg}{X:ι->Cx}{e o i a b:Expr}{es:List Expr}{f g fx:EF}{fk:KF}{fa:AF}{pos:Pos}
theorem mk_one(x:ME K X e f):MK K X e (HD f):=by
 obtain⟨t,x1,x2⟩:=x.ex;exact⟨_,x1,UL x2⟩
theorem EZ(hu:∀j,(X j).A.units+1<cLine)(y:MK K X i fk)(x:ME K X o f)(hm:behindInMarks .NotIn o=false:=by rfl):MT K X (.Compare i [.NotIn] [o] pos) (gB (KO true fk f)):=by
 obtain⟨t,x1,x2⟩:=x.ex;obtain⟨u,y1,y2⟩:=y.ex;exact⟨_,fun j=>YS (HA (hu j) (y1 j) (x1 j)) hm,VE (HF y2 x2)⟩
theorem OR{pos':Pos}(hu:∀j,(X j).A.units+1<cLine)(x:ME K X o f)(y:MK K X i fk)(z:ME K X e g)(hs:∀j,swapsWith e (some (.Subscript o i pos')) pos.line (X j).env=pure false:=by intro _;rfl):MS K X (.Assign [.Subscript o i pos'] e pos) (wV f fk g):=by
 obtain⟨t,x1,x2⟩:=x.ex;obtain⟨u,y1,y2⟩:=y.ex;obtain⟨v,z1,z2⟩:=z.ex;exact⟨_,fun j=>OT (hu j) (x1 j) (y1 j) (z1 j) (hs j),RK x2 y2 z2⟩
end
end L2
namespace PySem
open Sem (wp)
open AutoSeq1 (wpAny_loadPart')
section
variable{prog:Program}{w:World}{A:Around}{E:Value->Shared->Prop}{s:Shared}
theorem uR{it l:Addr}{i:Nat}{items}{x:Value}{Q:Value->Shared->Prop}(hit:s.heap.IsTupleIter it l i)(hl:s.heap.IsTuple l items)(hx:items[i]?=some x)
 (hQ:∀h',h'.IsTupleIter it l (i+1)->Heap.SameBut it s.heap h'->Q x { s with heap:=h' }):wpAny (model prog w) A (Builtin.SmallTypes.nextOf (.ref it)) Q E s:=by
 obtain⟨o,ho,hc,hd⟩:=id hit;obtain⟨ol,hol,_,nl,hdl⟩:=hl;unfold Builtin.SmallTypes.nextOf;refine A0 (O1 (name:=Str.ofString "__next__") hit.typeIs S4 (L5 S4 hit.typeIs F.entry_tuple_iterator_next ?_ (F.args_tuple_iterator_next_1 _)));show wpAny _ _ (field (.ref it) 0 >>= _) _ _ s;refine A0 (O4 ho hd (x:=.ref l) rfl ?_);show wpAny _ _ (if (Value.ref l==Value.none)=true then _ else _) _ _ s;rw[A6 (show ¬((Value.ref l==Value.none)=true)from A8)];show wpAny _ _ (field (.ref it) 1 >>= _) _ _ s;refine A0 (O4 ho hd (x:=.int i 0) rfl ?_);show wpAny _ _ (seqItems? (.ref l) >>= _) _ _ s;refine A0 (wpAny_seqItems hol hdl ?_);simp only[Int.toNat_natCast,hx];refine A0 (wpAny_setField ho hd (by simp) (B3 ⟨x,rfl,B3 (hQ _ ?_ (Heap.SameBut.update ..))⟩));exact⟨_,Heap.get?_update_self _ ho (Obj.isFreed_of_fields (Obj.data_mapFields hd _)),(Obj.cls_mapFields ..).trans hc,by rw[Obj.data_mapFields hd];simp[rawInt]⟩
theorem pG{it l:Addr}{i:Nat}{items}{Q:Value->Shared->Prop}(hh:A.handled=none)(hit:s.heap.IsTupleIter it l i)(hl:s.heap.IsTuple l items)(hx:items[i]?=none)
 (hE:∀h' e,Heap.ExtBut it s.heap h'->(∃o,h'.get? e=some o/\o.cls=.type "StopIteration")->E (.ref e) { s with heap:=h' }):wpAny (model prog w) A (Builtin.SmallTypes.nextOf (.ref it)) Q E s:=by
 obtain⟨o,ho,hc,hd⟩:=id hit;obtain⟨ol,hol,_,nl,hdl⟩:=hl;unfold Builtin.SmallTypes.nextOf;refine A0 (O1 (name:=Str.ofString "__next__") hit.typeIs S4 (L5 S4 hit.typeIs F.entry_tuple_iterator_next ?_ (F.args_tuple_iterator_next_1 _)));show wpAny _ _ (field (.ref it) 0 >>= _) _ _ s;refine A0 (O4 ho hd (x:=.ref l) rfl ?_);show wpAny _ _ (if (Value.ref l==Value.none)=true then _ else _) _ _ s;rw[A6 (show ¬((Value.ref l==Value.none)=true)from A8)];show wpAny _ _ (field (.ref it) 1 >>= _) _ _ s;refine A0 (O4 ho hd (x:=.int i 0) rfl ?_);show wpAny _ _ (seqItems? (.ref l) >>= _) _ _ s;refine A0 (wpAny_seqItems hol hdl ?_);simp only[Int.toNat_natCast,hx];refine A0 (wpAny_rule (A0 (wpAny_setField ho hd (by simp) ?_)));show wpAny _ _ (newExc (.type "StopIteration") [] >>= _) _ _ _;refine A0 ?_;simp only[newExc,newTuple];refine A0 (D7 ?_ (by size_fits));refine A0 (m:=firstArgMember _ _) (wpAny_of_eq (a:=Value.none) (by first|rfl|(simp only[firstArgMember];rfl)) ?_);refine D7 ?_ (by size_fits);simp only[raiseNew];refine A0 (wpAny_handled ?_)
 first|rw[show A.in1.handled=none from hh]|rw[hh]
 refine A0 (B3 (wpAny_throw ?_));exact hE _ _ (((Heap.SameBut.update ..).extBut.push _).push _) ⟨_,C7 _ rfl,rfl⟩
end
theorem HH{prog:Program}{w:World}{A:Around}(hh:A.handled=none)(it l:Addr)(hne:l≠it)(items:Array Value):
 Draws prog w A it [it,l] items.size (fun i v=>items[i]?=some v) (fun i h=>h.IsTupleIter it l i/\h.IsTuple l items) where
 live:=fun _ _ st=>let⟨o,ho,_⟩:=st.1;⟨o,ho⟩
 frame:=fun _ _ _ st hk=>⟨st.1.at fun o e=>hk it (by simp) o e,let⟨o,ho,r⟩:=st.2;⟨o,hk l (by simp) o ho,r⟩⟩
 item:=fun i s Q E hi st hQ=>by
  refine uR st.1 st.2 (x:=items[i]) (by simp[hi]) fun h' hit' hs'=>?_;exact hQ _ h' s.toks (by simp[hi]) ⟨hit',let⟨o,ho,r⟩:=st.2;⟨o,(hs'.2 l hne).trans ho,r⟩⟩ hs'
 done:=fun s Q E st hE=>pG hh st.1 st.2 (by simp) hE
theorem rP(l:Addr)(items:Array Value)(n:Nat)(dct:Option Addr)(sl:Array (Option Value)):
 Meets (Builtin.«enumerate.__new__» ⟨[.type "enumerate",.ref l],[]⟩) (fun _ R s=>s.heap.get? l=some { cls:=.type "tuple",dict:=dct,data:=.seq items n,slots:=sl } /\
  R (.ok (.ret (.ref (s.heap.push { cls:=.type "tuple_iterator",data:=.fields #[.ref l,.int 0 0] }).objs.size)))
   { s with heap:=(s.heap.push { cls:=.type "tuple_iterator",data:=.fields #[.ref l,.int 0 0] }).push { cls:=.type "enumerate",data:=.fields #[.none,.bool false,.ref s.heap.objs.size,rawInt 0,.none,.none] } }):=
 .of_wp fun prog w A R s h=>by
  obtain⟨hp,g,d,tk,os⟩:=s;obtain⟨hl,h⟩:=h;have hsub:=sub_enumerate;have hL:Heap.IsTuple (Shared.heap ⟨hp,g,d,tk,os⟩) l items:=⟨_,hl,rfl,n,rfl⟩
  wp_walk using L7 hl
  refine wpAny_stack_any fun st=>B3 ?_;split
  .rename_i c _ _ _ _ _;cases (c==Value.type "enumerate")
   .wp_walk using L7 hl,Y3 hL
    exact⟨_,rfl,h⟩
   .wp_walk using L7 hl,Y3 hL
    exact⟨_,rfl,h⟩
  .wp_walk using L7 hl,Y3 hL
   exact⟨_,rfl,h⟩
section
variable{prog:Program}{w:World}{A:Around}{E:Value->Shared->Prop}{s:Shared}
theorem uL{l:Addr}{items:Array Value}{Q:Value->Shared->Prop}(hL:s.heap.IsTuple l items)
 (h:∀h',IsEnum h' (s.heap.objs.size+1) s.heap.objs.size 0 .none->h'.IsTupleIter s.heap.objs.size l 0->h'.objs.size=s.heap.objs.size+2->
  (∀b o,s.heap.get? b=some o->h'.get? b=some o)->Q (.ref (s.heap.objs.size+1)) { s with heap:=h' }):
 wpAny (model prog w) A (call (.type "enumerate") [.ref l]) Q E s:=by
 obtain⟨⟨c,dct,dt,sl⟩,hl,hc,n,hd⟩:=hL
 replace hc:c=.type "tuple":=hc
 replace hd:dt=.seq items n:=hd
 subst hc hd
 refine callType_new F.called_enumerate (by decide) (F.typeCall_enumerate_1 _) (F.newCall_enumerate_1 _) (fun obj=>F.args_object_init_2 obj _) F.entry_enumerate_new
  (rP l items n dct sl) ⟨hl,?_⟩
 have hz:(s.heap.push { cls:=.type "tuple_iterator",data:=.fields #[.ref l,.int 0 0] }).objs.size=s.heap.objs.size+1:=Heap.size_push ..;show _/\_;rw[hz]
 have he:IsEnum ((s.heap.push { cls:=.type "tuple_iterator",data:=.fields #[.ref l,.int 0 0] }).push
  { cls:=.type "enumerate",data:=.fields #[.none,.bool false,.ref s.heap.objs.size,rawInt 0,.none,.none] }) (s.heap.objs.size+1) s.heap.objs.size 0 .none:=by
  have:=C7 (s.heap.push { cls:=.type "tuple_iterator",data:=.fields #[.ref l,.int 0 0] })
   (o:={ cls:=.type "enumerate",data:=.fields #[.none,.bool false,.ref s.heap.objs.size,rawInt 0,.none,.none] }) rfl
  rw[hz]at this;exact this
 refine⟨⟨_,he,rfl⟩,h _ he ⟨_,A3 _ (C7 _ rfl),rfl,rfl⟩ (by rw[Heap.size_push,hz]) fun b o x=>A3 _ (A3 _ x)⟩
end
end PySem
namespace L2
open PySem PySem.Spec PyProof.Rows
section
variable{X:Cx}{pins:List (Addr×Obj)}{σ:St}{H:Hp}{s:Shared}{h':Heap}
theorem Inv.turnLay{fp:List Addr}{a:Addr}{o:HO}{t':Nat}(I:Inv X pins σ H s)(hf:∀b∈fp,oV X pins H b)(k:∀b u,b∉fp->s.heap.get? b=some u->h'.get? b=some u)(hp:s.heap.objs.size<=a)(new:cZ X.prog X.w (upd H a o) h' a o):
 Inv X pins σ (upd H a o) { s with heap:=h',toks:=t' }:=by
 have hn:H a=none:=I.hok.fresh hp;have nf:∀b u,H b=some u->b∉fp:=fun b u e z=>by rw[(hf b z).1]at e;cases e
 refine I.step (g':=s.gens) (d':=s.drawn) (ch:=fp) (fun b hb=>?_) (fun b o _ _ hc e _=>k b o hc e) (fun b o _ _ hc e _=>⟨o.slots,k b o hc e⟩) (fun b o _ e n=>?_) (fun b o hc e=>⟨o,k b o hc e⟩)
  (fun b xs e=>?_) (fun b o u e=>?_) (fun b ps e=>⟨#[],?_⟩) (fun m hm=>?_) ?_ I.bare
 .obtain⟨_,f1,_,f3,f4,f5⟩:=hf b hb;exact⟨f3,f1,f4,f5⟩
 .rw[aU (fun z=>by subst z;exact absurd (B5 e) (Nat.not_lt.mpr hp))];exact n
 .rw[aU (aQ e hn)];exact e
 .rw[aU (aQ e hn)];exact e
 .rw[aU (aQ e hn)];simpa using e
 .obtain⟨o,es,ep,ho,r⟩:=hm;exact⟨o,es,ep,k _ o (fun z=>(hf _ z).2.1 rfl) ho,r⟩
 .intro b u e;by_cases hb:b=a
  .subst hb;rw[aT]at e;cases e;exact new
  .rw[aU hb]at e;refine(I.hok b u e).stay (fun c v hc q=>k c v ?_ q) (fun c q=>by rw[aU (aQ q hn)];exact q) fun c xs q=>by rw[aU (aQ q hn)];exact q
   rcases hc with z|z
   .rw[z];exact nf b _ e
   .exact nf c _ z
theorem Inv.turnF{fp:List Addr}{t':Nat}(I:Inv X pins σ H s)(hf:∀b∈fp,oV X pins H b)(k:∀b u,b∉fp->s.heap.get? b=some u->h'.get? b=some u):Inv X pins σ H { s with heap:=h',toks:=t' }:=by
 have nf:∀b u,H b=some u->b∉fp:=fun b u e z=>by rw[(hf b z).1]at e;cases e
 refine I.step (g':=s.gens) (d':=s.drawn) (ch:=fp) (fun b hb=>?_) (fun b o _ _ hc e _=>k b o hc e) (fun b o _ _ hc e _=>⟨o.slots,k b o hc e⟩) (fun _ _ _ _ n=>n) (fun b o hc e=>⟨o,k b o hc e⟩)
  (fun _ _ e=>e) (fun _ _ _ e=>e) (fun b ps e=>⟨#[],by simpa using e⟩) (fun m hm=>?_) (fun b u e=>?_) I.bare
 .obtain⟨_,f1,_,f3,f4,f5⟩:=hf b hb;exact⟨f3,f1,f4,f5⟩
 .obtain⟨o,es,ep,ho,r⟩:=hm;exact⟨o,es,ep,k _ o (fun z=>(hf _ z).2.1 rfl) ho,r⟩
 .refine(I.hok b u e).stay (fun c v hc q=>k c v ?_ q) (fun _ q=>q) fun _ _ q=>q;rcases hc with z|z
  .rw[z];exact nf b _ e
  .exact nf c _ z
end
noncomputable def Ite(Sq:Hp->List V->Prop):It:=
 ⟨fun i H=>∃xs x,Sq H xs/\xs[i]?=some x,fun i H v H'=>∃p x,H p=none/\v=.ref p/\H'=upd H p (.tup [.int i,x])/\∀xs,Sq H xs->xs[i]?=some x,fun i H=>∃xs,Sq H xs/\xs.length=i⟩
noncomputable def tnE(e it:Addr)(It:Heap->Nat->Prop)(i:Nat)(h:Heap):Prop:=(∃old,IsEnum h e it i old)/\It h i
section
variable{P:Program}{w:World}{K:Fg}{elts:List Expr}{x1:Nat}{tpos:Pos}
theorem vD{e it a:Addr}{Sq:Hp->List V->Prop}{It:Heap->Nat->Prop}(hei:e≠it)
 (hobj:∀h i,It h i->∃o vs,h.get? it=some o/\o.data=.fields vs) (hkeep:∀h h' i,It h i->(∀o,h.get? it=some o->h'.get? it=some o)->It h' i)
 (hinj:∀(X:Cx),X.K=K->∀pins σ H s,Inv X pins σ H s->∀xs ys,Sq H xs->Sq H ys->xs=ys)
 (draw:∀(X:Cx),X.prog=P->X.w=w->X.K=K->X.calm=true->∀pins σ H s,Inv X pins σ H s->∀xs,Sq H xs->(∃o vs,s.heap.get? it=some o/\o.data=.fields vs)->(∃o vs,s.heap.get? e=some o/\o.data=.fields vs)->∃(its:List Value)(fp:List Addr)(S:Nat->Heap->Prop),bB xs its/\e∉fp /\
  Draws P w X.A.in1 it fp its.length (fun i v=>its[i]?=some v) S/\(∀i,It s.heap i->S i s.heap)/\∀i h,S i h->It h i):
 Turn P w K (.Tuple elts x1 tpos) (Ite Sq) [e,it] e (tnE e it It) where
 mem:=by simp
 obj:=fun i h st b hb=>by
  obtain⟨⟨old,h1⟩,h2⟩:=st;rcases List.mem_cons.mp hb with rfl|hb
  .exact⟨_,h1,fun v z=>by cases z⟩
  .obtain⟨o,vs,q1,q2⟩:=hobj _ _ h2;rw[List.mem_singleton.mp hb];exact⟨o,q1,fun v z=>by rw[q2]at z;cases z⟩
 keep:=fun i h h' st k=>by
  obtain⟨⟨old,h1⟩,h2⟩:=st;exact⟨⟨old,k e (by simp) _ h1⟩,hkeep _ _ _ h2 fun o q=>k it (by simp) o q⟩
 item:=by
  intro X hP hw hK hc i pins s σ H E I hf st hg;obtain⟨xs,x,hq,hx⟩:=hg;obtain⟨⟨old,he⟩,hit⟩:=st;obtain⟨its,fp,S,rv,hef,D,s1,s2⟩:=draw X hP hw hK hc pins σ H s I xs hq (hobj _ _ hit) ⟨_,_,he,rfl⟩;subst hP hw hK;obtain⟨u,hu,ru⟩:=rv.get hx;have hlt:i<its.length:=(List.getElem?_eq_some_iff.mp hu).1;refine wpAny_pyNext_enum_itemD D he (s1 _ hit) hlt hei hef fun v h1 tk hv ho st1 ht hsz hk=>⟨_,rfl,?_⟩;rw[hu]at hv;cases hv;refine wpAny_letOwnedTupleGo_enum ho fun h2 he2 sb=>?_;have ne:s.heap.objs.size≠e:=Nat.ne_of_gt (B5 he);have ht2:h2.get? s.heap.objs.size=some { cls:=.type "tuple",data:=.seq #[.int i tk,u] }:=(sb.2 _ ne).trans ht
  have I2:Inv X pins σ (upd H s.heap.objs.size (.tup [.int i,x])) { s with heap:=h2,toks:=tk+1 }:=by
   refine I.turnLay hf (fun b o hb q=>(sb.2 b fun z=>hb (by simp[z])).trans (hk b o (fun z=>hb (by simp[z])) (fun z=>hb (by simp[z])) q)) (A7 _) ⟨by show 2<=sizeLine;rw[E6];decide,[.int i tk,u],.cons ⟨tk,rfl⟩ (.cons ru .nil),⟨_,ht2,rfl,_,rfl⟩⟩
  refine⟨.ref s.heap.objs.size,_,I2,rfl,⟨_,x,I.hok.fresh (A7 _),rfl,rfl,fun ys hy=>by rw[hinj X rfl _ _ _ _ I ys xs hy hq];exact hx⟩,⟨⟨_,by have:=he2;push_cast;exact this⟩,?_⟩,fun b hb=>?_⟩
  .exact hkeep _ _ _ (s2 _ _ st1) fun o q=>(sb.2 it (O3 hei)).trans q
  .have hb0:=(hf b hb).1;rw[aU (fun z=>?_)]
   .exact hb0
   .subst z;rcases List.mem_cons.mp hb with q|q
    .exact ne q
    .obtain⟨o,vs,q1,_⟩:=hobj _ _ hit;rw[<- List.mem_singleton.mp q]at q1;exact absurd (B5 q1) (F0 _)
 done:=by
  intro X hP hw hK hc i pins s σ H E I hf st hg;obtain⟨xs,hq,hx⟩:=hg;obtain⟨⟨old,he⟩,hit⟩:=st;obtain⟨its,fp,S,rv,hef,D,s1,s2⟩:=draw X hP hw hK hc pins σ H s I xs hq (hobj _ _ hit) ⟨_,_,he,rfl⟩;subst hP hw hK;have hl:=rv.length;rw[hl]at hx;subst hx;exact wpAny_pyNext_enum_endD D he (s1 _ hit) fun h1 hx=>⟨rfl,I.turnF (t':=s.toks) hf fun b o hb q=>hx b o (fun z=>hb (by simp[z])) q⟩
 self:=fun A i s Q E st h=>by
  obtain⟨⟨old,he⟩,_⟩:=st;exact wpAny_pyIter_enum he h
theorem AZ{e it a:Addr}(hei:e≠it):Turn P w K (.Tuple elts x1 tpos) (Ite fun H xs=>SqL K H a xs) [e,it] e (tnE e it fun h i=>h.IsListIter it a i):=by
 refine vD (a:=a) hei (fun h i st=>?_) (fun h h' i st k=>st.at k) (fun X hK pins σ H s I xs ys h1 h2=>?_) fun X hP hw hK hc pins σ H s I xs hq hi he=>?_
 .obtain⟨o,q,_,d⟩:=st;exact⟨o,_,q,d⟩
 .subst hK;exact I.list_inj h1 h2
 .subst hP hw hK;obtain⟨its,rv,p,hz⟩:=I.list hq
  have ne:∀b,(∃o vs,s.heap.get? b=some o/\o.data=.fields vs)->a≠b:=fun b ⟨o,vs,q,d⟩ z=>by
   subst z;obtain⟨o',q',_,n,d'⟩:=p.isList;rw[q]at q';cases q';rw[d]at d';cases d'
  refine⟨its,[it,a],fun i h=>h.IsListIter it a i/\h.IsList a its.toArray,rv,?_,?_,fun i st=>⟨st,p.isList⟩,fun i h st=>st.1⟩
  .intro z;rcases List.mem_cons.mp z with z|z
   .exact hei z
   .exact ne e he (List.mem_singleton.mp z).symm
  .have:=Draws.list (prog:=X.prog) (w:=X.w) (A:=X.A.in1) (I.ok.hd hc) it a (ne it hi) its.toArray;simpa using this
theorem CP{e it a:Addr}(hei:e≠it):Turn P w K (.Tuple elts x1 tpos) (Ite fun H xs=>SqT K H a xs) [e,it] e (tnE e it fun h i=>h.IsTupleIter it a i):=by
 refine vD (a:=a) hei (fun h i st=>?_) (fun h h' i st k=>st.at k) (fun X hK pins σ H s I xs ys h1 h2=>?_) fun X hP hw hK hc pins σ H s I xs hq hi he=>?_
 .obtain⟨o,q,_,d⟩:=st;exact⟨o,_,q,d⟩
 .subst hK;exact I.tuple_inj h1 h2
 .subst hP hw hK;obtain⟨its,rv,p,hz⟩:=I.tuple hq;have pt:s.heap.IsTuple a its.toArray:=p
  have ne:∀b,(∃o vs,s.heap.get? b=some o/\o.data=.fields vs)->a≠b:=fun b ⟨o,vs,q,d⟩ z=>by
   subst z;obtain⟨o',q',_,n,d'⟩:=pt;rw[q]at q';cases q';rw[d]at d';cases d'
  refine⟨its,[it,a],fun i h=>h.IsTupleIter it a i/\h.IsTuple a its.toArray,rv,?_,?_,fun i st=>⟨st,pt⟩,fun i h st=>st.1⟩
  .intro z;rcases List.mem_cons.mp z with z|z
   .exact hei z
   .exact ne e he (List.mem_singleton.mp z).symm
  .have:=HH (prog:=X.prog) (w:=X.w) (A:=X.A.in1) (I.ok.hd hc) it a (ne it hi) its.toArray;simpa using this
end
section
variable{X:Cx}{elts:List Expr}{x1:Nat}{tpos:Pos}
noncomputable def TV(K:Fg)(ta:TA):TI:=fun σ H R=>ta σ H fun vs H1=>∃a,vs=[.ref a]/\((∃xs,SqL K H1 a xs/\R (Ite fun H xs=>SqL K H a xs) H1)\/(∃xs,SqT K H1 a xs/\R (Ite fun H xs=>SqT K H a xs) H1))
theorem OM{a:Expr}{ta:TA}{p pos:Pos}(hg:Gl X "enumerate")(hm:X.mg "enumerate"=none)(ha:PA X [a] ta)(hs:starEach [a] X.env=[(false,eval a X.env)]:=by rfl):PI X (.Tuple elts x1 tpos) (.Call (.Name "enumerate" p) [a] [] pos) (TV X.K ta):=by
 intro pins s σ H R I h;refine Call_ (kK I hg hm boot_enumerate (D8 (thn (ha pos pins s σ H _ I h) fun us s1 ⟨vs,H1,I1,r1,q1⟩=>?_) hs rfl));obtain⟨l,e,q⟩:=q1;subst e;cases r1 with
 |cons r rr=>
  cases rr;cases (show _=Value.ref l from r)
  have fp:∀b∈[s1.heap.objs.size+1,s1.heap.objs.size],oV X pins H1 b:=fun b hb=>by
   rcases List.mem_cons.mp hb with rfl|hb
   .exact I1.fpOk (U3 _) (I1.hok.fresh (U3 _))
   .rw[List.mem_singleton.mp hb];exact I1.fpOk (A7 _) (I1.hok.fresh (A7 _))
  rcases q with⟨xs,hq,q⟩|⟨xs,hq,q⟩
  .obtain⟨its,rv,p,hz⟩:=I1.list hq;refine call_enumerate_list p.isList fun h' he hit hsz hk=>?_;refine wpAny_pyIter_enum he ?_;exact⟨_,_,_,_,H1,rfl,I1.kept (t':=s1.toks) hk,AZ (a:=l) (Nat.succ_ne_self _),⟨⟨_,he⟩,hit⟩,fp,q⟩
  .obtain⟨its,rv,p,hz⟩:=I1.tuple hq;refine uL (show s1.heap.IsTuple l its.toArray from p) fun h' he hit hsz hk=>?_;refine wpAny_pyIter_enum he ?_;exact⟨_,_,_,_,H1,rfl,I1.kept (t':=s1.toks) hk,CP (a:=l) (Nat.succ_ne_self _),⟨⟨_,he⟩,hit⟩,fp,q⟩
end
noncomputable def vC(ds:List PyData):List CD:=ds.zipIdx.map fun p=>.d (.tuple [.int (p.2:Nat),p.1])
noncomputable def yZ(f:AF):AF:=fun γ M=>(f γ M).bind fun r=>match r.1 with
 |[.d x]=>(aR x).bind fun ds=>some (vC ds,r.2)
 |_=>none
theorem FS{ds:List PyData}{i:Nat}{x:CD}(h:(vC ds)[i]?=some x):∃d,ds[i]?=some d/\x=.d (.tuple [.int (i:Nat),d]):=by
 unfold vC at h;rw[C6,List.getElem?_zipIdx]at h;cases e:ds[i]? with
 |none=>rw[e]at h;cases h
 |some d=>
  rw[e]at h;exact⟨d,rfl,by simpa using h.symm⟩
theorem RQ{K:Fg}{tA:TA}{fa:AF}(b:SA K tA fa):SI K (TV K tA) (yZ fa):=by
 intro γ M xs M' hh W H σ R G Rs k;obtain⟨⟨ys,M1⟩,h1,hh⟩:=aI hh;refine b _ _ _ _ h1 W H σ _ G Rs fun vs W1 H1 e1 G1 r1=>?_;revert hh;dsimp only;split
 .rename_i y;intro hh;obtain⟨ds,h2,hh⟩:=aI hh;cases hh;cases r1 with
  |cons r r'=>
   cases r';obtain⟨p,us,rfl,hs,hr⟩:=kF (show Rep K W1.F y _ from r) h2
   have gv:∀Sq:Hp->List V->Prop,(∀W2 M2 H2,W1.Ext W2->Good K W2 M2 H2->Sq H2 us)->CM K (Ite Sq) (vC ds) W1:=fun Sq hS W2 M2 H2 e2 G2=>by
    have hq:=hS W2 M2 H2 e2 G2;refine⟨fun i x hx=>?_,us,hq,by rw[show(vC ds).length=ds.length by simp[vC],hr.length]⟩;obtain⟨d,hd,rfl⟩:=FS hx;obtain⟨u,hu,ru⟩:=Paired.get (eQ hr) (show(ds.map CD.d)[i]?=some (.d d)by rw[C6,hd];rfl);refine⟨⟨us,u,hq,hu⟩,fun v H3 hy=>?_⟩;obtain⟨p',x',hn,rfl,rfl,hx'⟩:=hy;have:=hx' us hq;rw[hu]at this;cases this;obtain⟨e3,G3⟩:=G2.lay (o:=.tup [.int i,u]) hn;refine⟨_,e3,G3,⟨p',_,rfl,SqT.of aT,?_⟩⟩;exact⟨_,_,rfl,rfl,_,_,rfl,Rep.same e3.ff _ _ (show Rep K W2.F d u from(ru.up e2)),rfl⟩
   refine⟨p,rfl,?_⟩;rcases hs with hs|hs
   .exact .inl ⟨us,G1.fh.seq hs,k _ W1 H1 e1 G1 (gv _ fun W2 M2 H2 e2 G2=>G2.fh.seq (e2.ff.seq hs))⟩
   .exact .inr ⟨us,G1.fh.seqT hs,k _ W1 H1 e1 G1 (gv _ fun W2 M2 H2 e2 G2=>G2.fh.seqT (e2.ff.seqT hs))⟩
 .intro hh;cases hh
theorem PP{ι:Type}{K:Fg}{X:ι->Cx}{a:Expr}{fa:AF}{pos:Pos}{elts:List Expr}{x1:Nat}{tpos p:Pos}(hK:∀i,(X i).K=K)(hm:∀i,(X i).mg "enumerate"=none)(x:MA K X [a] fa)(hg:∀i,Gl (X i) "enumerate":=by intro _;rfl):MI K X (.Tuple elts x1 tpos) (.Call (.Name "enumerate" p) [a] [] pos) (yZ fa):=by
 obtain⟨t,x1',x2⟩:=x.ex;exact⟨_,fun i=>by have:=OM (elts:=elts) (x1:=x1) (tpos:=tpos) (p:=p) (pos:=pos) (hg i) (hm i) (x1' i) (x.st.1 _);rw[hK i]at this;exact this,RQ x2⟩
end L2
namespace PySem
open PySem.Calls PyProof.Rows
end PySem
namespace PySem.W
open PySem PySem.Calls PyProof.Rows PyProof.V PySem.Spec
section
variable{prog:Program}{w:World}{A:Around}{E:Value->Shared->Prop}{s:Shared}{h₀:Heap}{L:Addr}{m:Str->Option Value}{news:List (Addr×Obj)}{vs:List Value}
theorem l2_tail{Q:Value->Shared->Prop}(F:Fr h₀ L s.heap m)(N:News h₀ L s.heap news)(h2:2<=vs.length)(h64:vs.length<64)
 (h:∀D e1 h',Fr h₀ L h' m->News h₀ L h' ((D,seqObj "list" #[] e1)::news)->(∀q∈news,q.1<D)->
  wpAny (model prog w) A.in1 (keyKind' vs.toArray) (fun κ s'=>(kas_sort vs.length).kasWp (kas_ask prog w A.in1 κ vs) (fun p s''=>KasFin h₀ L m D e1 (p.toList.map fun i=>vs.getD i Value.none) (fun s3=>Q (.ref D) s3) s'') s') (fun _ _=>False) { s with heap:=h' }):
 wpAny (model prog w) A (do let l <- newList vs;let _ <- holding [l] (call (.builtin "list.sort") [l]);ret l) (fun fin s'=>∃v,fin=.done (.ret v)/\Q v s') E s:=by
 refine A0 (wpAny_newList ?_ (by rw[E6];omega));have hoL:(s.heap.push (seqObj "list" vs.toArray 0)).get? s.heap.objs.size=some (seqObj "list" vs.toArray 0):=C7 _ rfl;have keep:∀b o,s.heap.get? b=some o->(s.heap.push (seqObj "list" vs.toArray 0)).get? b=some o:=fun b o q=>A3 _ q;have hL:L<s.heap.objs.size:=F.ns.lt;show wpAny _ _ _ _ _ { s with heap:=s.heap.push (seqObj "list" vs.toArray 0) };refine A0 (L3 (L5 slot_list_sort ⟨_,hoL,rfl⟩ entry_list_sort ?body (args_list_sort _)))
 case body=>
  refine kat_list_sort (s:={ s with heap:=s.heap.push (seqObj "list" vs.toArray 0) }) (F.kept keep) (N.grown keep) hoL (Nat.ne_of_gt hL) (Heap.get?_none_of_le (E5 F.above (U8 hL)))
   (fun p hp=>C5 (B5 (N p hp).1)) h2 h64 fun e1 h' F' N'=>?_
  refine S2 (h _ e1 h' F' N' fun q hq=>B5 (N q hq).1) (fun κ s' hk=>?_) fun _ _ x=>x;rw[kat_ask_eq rfl]at hk ⊢;exact kas_wp_mono hk fun p s'' hk'=>hk'.mono fun s3 hq=>⟨_,rfl,B3 ⟨_,rfl,hq⟩⟩
end
end PySem.W
namespace L2
variable{A:Around}{H:Hp}
open PySem PySem.Spec PyProof.Rows
section
variable{X:Cx}{pins:List (Addr×Obj)}{σ:St}{H:Hp}{s:Shared}{E:Value->Shared->Prop}
noncomputable def lW(its:List Value):Sem PySem.Fin:=do let l <- newList its;let _ <- holding [l] (call (.builtin "list.sort") [l]);ret l
noncomputable def JC(K:Fg)(vs:List V)(H:Hp)(Q:VK):Prop:=
 (∃rows:List (List PyData),aH K H (rows.map .tuple) vs/\2<=rows.length/\rows.length<64/\(∀r∈rows,r.all SeqAt.shaped=true/\cE r=true)/\(gJ rows=true\/lM rows=true)/\(∀i j,i<rows.length->j<rows.length->(cC (rows.getD i []) (rows.getD j [])).isSome=true) /\
  ∀l,H l=none->Q (.ref l) (upd H l (.lst ((cT (dM rows) rows.length).map fun i=>vs.getD i .non))))\/(vs.length<2/\∀l,H l=none->Q (.ref l) (upd H l (.lst vs)))
theorem ZY{rows:List (List PyData)}{vs:List V}{its:List Value}{Q:VK}(hu:A.in1.units+64<cLine)(I:Inv X pins σ H s)(rv:bB vs its)(hrep:aH X.K H (rows.map .tuple) vs)(h2:2<=rows.length)(h64:rows.length<64)
 (hsh:∀r∈rows,r.all SeqAt.shaped=true/\cE r=true) (hknd:gJ rows=true\/lM rows=true) (hlt:∀i j,i<rows.length->j<rows.length->(cC (rows.getD i []) (rows.getD j [])).isSome=true)
 (q:∀l,H l=none->Q (.ref l) (upd H l (.lst ((cT (dM rows) rows.length).map fun i=>vs.getD i .non)))):
 wpAny (model X.prog X.w) A (lW its) (fun fin s'=>∃v,fin=.done (.ret v)/\∃x H',Inv X pins σ H' s'/\RelV x v/\Q x H') E s:=by
 obtain⟨as,hr⟩:=aH.reads I _ vs its hrep rv;have hlen:its.length=rows.length:=by rw[ReadsAll.len hr,A1]
 obtain⟨m,F⟩:=I.fr;have N:News X.base X.env.locals s.heap (iP X.base s.heap X.env.locals):=zN;unfold lW;refine PySem.W.l2_tail (Q:=fun v s'=>∃x H',Inv X pins σ H' s'/\RelV x v/\Q x H') F N (by omega) (by omega) fun D e1 h' F' N' hD=>?_
 have kp:∀(h1:Heap),Fr X.base X.env.locals h1 m->(∀q∈iP X.base s.heap X.env.locals,h1.get? q.1=some q.2)->∀b o,b≠X.env.locals->s.heap.get? b=some o->h1.get? b=some o:=fun h1 G1 M1 b o hb e=>by
  cases z:X.base.get? b with
  |some v=>
   have:=I.bk b v z;rw[e]at this;cases this;exact G1.keep b _ z
  |none=>exact M1 (b,o) (iW hb z e)
 have k':=kp h' F' (fun q hq=>(N' q (B1 _ hq)).1)
 have hsz:s.heap.get? D=none:=by
  have hN:=N' _ B6;cases e:s.heap.get? D with
  |none=>rfl
  |some o=>exact absurd (hD (D,o) (iW hN.2.1 hN.2.2 e)) (F0 _)
 have seqL:∀b o vs n,s.heap.get? b=some o->o.data=.seq vs n->b≠X.env.locals:=fun b o vs n e d z=>by
  obtain⟨o',es,ep,x1,x2,_⟩:=F.ns;subst z;rw[e]at x1;cases x1;rw[d]at x2;cases x2
 have onl:cE (rows.map .tuple)=true:=by
  clear hrep hr hlen q hknd hlt h2 h64
  induction rows with
  |nil=>rfl
  |cons x r ih=>
   show(cE x&&cE (r.map .tuple))=true;rw[(hsh x B6).2,ih fun y hy=>hsh y (B1 _ hy)];rfl
 have hr':ReadsAll h' its (rows.map .tuple) as:=DE (fun b o vs n e d=>k' b o (seqL b o vs n e d) e) _ _ _ onl hr;refine wQ (s:={ s with heap:=h' }) hr' (by omega) hknd ?_;rw[hlen];refine KS.wp (lt:=dM rows) (n:=rows.length) (fun i j C hi hj c=>?_) (fun p hp'=>?_) ((xJ (by omega)).ks (lt:=dM rows))
 .have at_:∀i,i<rows.length->∃bs,Reads h' (its.getD i .none) (.tuple (rows.getD i [])) bs:=fun i hi=>by
   obtain⟨bs,x⟩:=ReadsAll.at i hr' (by simpa using hi)
   have:(rows.map PyData.tuple).getD i .none=.tuple (rows.getD i []):=by
    rw[A9,C6,A9,B4 hi];rfl
   rw[this]at x;exact⟨bs,x⟩
  obtain⟨b1,r1⟩:=at_ i hi;obtain⟨b2,r2⟩:=at_ j hj
  have mem:∀i,i<rows.length->rows.getD i []∈rows:=fun i hi=>by
   rw[A9,B4 hi];exact J7 hi
  have hd:gJ rows=true->∀r∈rows,r.head?.all isI=true:=fun z r hr=>by
   unfold gJ at z;have:=List.all_eq_true.mp z r hr;cases r with
   |nil=>rfl
   |cons d ds=>cases d<;>first|rfl|exact absurd this (by intro z;cases z)
  obtain⟨c0,hc0⟩:=Option.isSome_iff_exists.mp (hlt i j hi hj);have hc:dM rows i j=c0:=by unfold dM;rw[hc0];rfl
  rw[hc]at c;exact IV (s:={ s with heap:=h' }) hu r1 r2 (hsh _ (mem i hi)).1 (hsh _ (mem j hj)).1 hc0 (fun z=>⟨hd z _ (mem i hi),hd z _ (mem j hj)⟩) c
 .obtain⟨e,_⟩:=hp';subst e;refine PySem.W.KasFin.intro F' N' (.head fun q hq=>C5 (hD q hq)) fun h'' c F'' N''=>?_;have k'':=kp h'' F'' (fun q hq=>(N'' q (B1 _ hq)).1);refine⟨.ref D,upd H D (.lst ((cT (dM rows) rows.length).map fun i=>vs.getD i .non)),?_,rfl,q D (I.hok.none hsz)⟩;refine I.laidL k'' (fun m' hm'=>?_) hsz ⟨?_,_,c,pQ rv _,(N'' _ B6).1⟩
  .rw[<- EU F.ns hm'];exact F''.ns
  .rw[A1,(iU (dM rows) (by omega)).length_eq,O5];have:64<=sizeLine:=by decide
   omega
theorem WO{A:Around}{vs:List V}{its:List Value}{Q:VK}(I:Inv X pins σ H s)(rv:bB vs its)(h2:vs.length<2)(q:∀l,H l=none->Q (.ref l) (upd H l (.lst vs))):
 wpAny (model X.prog X.w) A (lW its) (fun fin s'=>∃v,fin=.done (.ret v)/\∃x H',Inv X pins σ H' s'/\RelV x v/\Q x H') E s:=by
 have hl:=rv.length;have hz:its.length<=sizeLine:=by rw[E6];omega
 unfold lW;refine A0 (wpAny_newList ?_ hz);refine A0 (L3 ?_);have gD:(s.heap.push { cls:=.type "list",data:=.seq its.toArray }).get? s.heap.objs.size=some (seqObj "list" its.toArray 0):=C7 _ rfl;refine L5 slot_list_sort ⟨_,gD,rfl⟩ entry_list_sort (kX gD (by omega) ⟨_,rfl,?_⟩) (args_list_sort _)
 obtain⟨c,gg⟩:∃c,(sortedHeap (s.heap.push { cls:=.type "list",data:=.seq its.toArray }) s.heap.objs.size its its.toArray).get? s.heap.objs.size=some (seqObj "list" its.toArray c):=by
  unfold sortedHeap;have g1:=U5 gD (fun _=>#[]);have g2:=A3 (seqObj "tuple" its.toArray 0) g1;have g3:=A3 (seqObj "list" #[] 0) g2;exact⟨_,U5 g3 (fun _=>its.toArray)⟩
 refine B3 ⟨_,rfl,.ref s.heap.objs.size,upd H s.heap.objs.size (.lst vs),I.laid (t':=s.toks) (fun b o e=>?_) (A7 _) ⟨by omega,its,c,rv,gg⟩,rfl,q _ (I.hok.fresh (A7 _))⟩
 .have hb:b≠s.heap.objs.size:=C5 (B5 e);unfold sortedHeap;rw[S9 _ _ _ _ hb];refine A3 _ (A3 _ ?_);rw[S9 _ _ _ _ hb];exact A3 _ e
theorem WM{vs:List V}{its:List Value}{Q:VK}(hu:A.in1.units+64<cLine)(I:Inv X pins σ H s)(rv:bB vs its)(h:JC X.K vs H Q):
 wpAny (model X.prog X.w) A (lW its) (fun fin s'=>∃v,fin=.done (.ret v)/\∃x H',Inv X pins σ H' s'/\RelV x v/\Q x H') E s:=by
 rcases h with⟨rows,a,b,c,d,e,f,g⟩|⟨a,b⟩
 .exact ZY hu I rv a b c d e f g
 .exact WO I rv a b
end
section
variable{K:Fg}{td:TE}{fo:EF}
noncomputable def wX(kv:List Key×PyData):List PyData:=[.tuple (kv.1.map aAP),kv.2]
noncomputable def lZ(rows:List (List PyData)):Option (List PyData):=if sortable rows=true then some (vY rows)else if rows.length<2 then some (rows.map .tuple)else none
end
section
variable{K:Fg}
noncomputable def fFreeze(f:EF):EF:=fun γ M=>(f γ M).bind fun r=>match r.1 with
 |.c i=>match r.2[i]? with
  |some (.lst xs)=>(kG xs).bind fun ds=>some (.d (.list ds),r.2.set i .dead)
  |_=>none
 |.d x=>some (.d x,r.2)
 |_=>none
noncomputable def wJ:FN:=fun xs M=>match xs with
 |[.d a]=>(aR a).bind fun ds=>some (.c M.length,M++[.lst (ds.map .d)])
 |[.c i]=>match M[i]? with
  |some (.lst ys)=>some (.c M.length,M++[.lst ys])
  |_=>none
 |_=>none
theorem JI:PN K (LS K) wJ:=by
 intro xs M z M' h W H vs Q G r k;unfold wJ at h;split at h
 .rename_i a;obtain⟨ds,h1,h⟩:=aI h;cases h;rcases r with _|⟨r1,_|_⟩;obtain⟨p,us,rfl,hs,hr⟩:=kF (show Rep K W.F a _ from r1) h1;refine⟨p,us,rfl,hs.elim (fun q=>.inl (G.fh.seq q)) (fun q=>.inr (G.fh.seqT q)),fun l hl=>?_⟩;exact k _ (W.more l) _ (W.ext_more l) (G.new hl (c:=.lst (ds.map .d)) (o:=.lst us) (eQ hr)) G.newV
 .rename_i i;split at h
  .rename_i ys hy;cases h;rcases r with _|⟨r1,_|_⟩;obtain⟨us,hv,hr⟩:=G.lstAt hy;refine⟨_,us,by rw[r1.2],.inl (SqL.of hv),fun l hl=>?_⟩;exact k _ (W.more l) _ (W.ext_more l) (G.new hl (c:=.lst ys) (o:=.lst us) hr) G.newV
  .cases h
 .cases h
theorem RA{ι:Type}{X:ι->Cx}(hK:∀i,(X i).K=K):QN K X (.type "list") wJ:=⟨_,fun i=>aBH (hK i),JI⟩
noncomputable def eqC(neg:Bool):F2:=fun x y M=>(snap 5 M x).bind fun a=>(snap 5 M y).bind fun b=>if (SeqAt.shaped a&&SeqAt.shaped b)=true then some (.d (.bool (if neg then !PyData.eqv a b else PyData.eqv a b)),M)else none
theorem UZ{neg:Bool}:P2 K (CO K neg) (eqC neg):=by
 intro x y M z M' h W H v u Q G rx ry k;obtain⟨a,h1,h⟩:=aI h;obtain⟨b,h2,h⟩:=aI h;by_cases hs:(SeqAt.shaped a&&SeqAt.shaped b)=true
 .rw[A4 hs]at h;cases h;rw[B2]at hs;exact⟨a,b,rT G 5 x a v h1 rx,rT G 5 y b u h2 ry,hs.1,hs.2,k _ W H (.refl _) G rfl⟩
 .rw[A6 hs]at h;cases h
noncomputable def eqY(neg:Bool):F2:=yU (eqX neg) (eqC neg)
theorem aAU{ι:Type}{X:ι->Cx}(hK:∀i,(X i).K=K)(hu:∀i,(X i).A.units+64<cLine):Q2 K X (compareOp .Eq) (eqY false):=⟨_,fun i=>(kEq (hK i) (hu i)).or (show OpR (X i) (compareOp .Eq) (CO K false)by have:=KP (X:=X i) (hu i);rw[hK i]at this;exact this),P2.or NI UZ⟩
end
theorem eB.u1{k:Nat}(r:eB k A):A.units+1<cLine:=by have:=r.un;omega
noncomputable abbrev IPF:=Ga->Sto->Option ((List CD×(Sto->Prop))×Sto)
noncomputable def ZZ(K:Fg)(J:It)(P:Sto->Prop)(xs:List CD)(W:Wd):Prop:=∀W' M' H',W.Ext W'->Good K W' M' H'->P M'->
 (∀i x,xs[i]?=some x->J.go i H'/\∀y H'',J.yld i H' y H''->∃W'',W'.Ext W''/\Good K W'' M' H''/\cA K W'' x y)/\J.stop xs.length H'
noncomputable def SIP(K:Fg)(wi:TI)(f:IPF):Prop:=∀γ M xs P M',f γ M=some ((xs,P),M')->∀(W:Wd)(H:Hp)(σ:St)(R:It->Hp->Prop),Good K W M H->dC K W γ σ->(∀J W' H',W.Ext W'->Good K W' M' H'->ZZ K J P xs W'->R J H')->wi σ H R
noncomputable def walked(M:Sto):CD->Option (List CD×(Sto->Prop))
 |.d x=>(aR x).bind fun ds=>some (ds.map .d,fun _=>True)
 |.c i=>match M[i]? with
  |some (.lst xs)=>some (xs,fun M'=>M'[i]?=some (.lst xs))
  |_=>none
 |_=>none
noncomputable def mP(f:EF):IPF:=fun γ M=>(f γ M).bind fun r=>(walked r.2 r.1).bind fun p=>some (p,r.2)
open Classical in
noncomputable def qW(P:Sto->Prop)(g:GF)(b:SF):List CD->Ga->Sto->Option (Out×Sto)
 |[],γ,M=>if P M then some (.nx γ,M)else none
 |x::xs,γ,M=>if P M then(g x γ M).bind fun r=>(b r.1 r.2).bind fun q=>match q.1 with
  |.nx γ'=>qW P g b xs γ' q.2
  |.ct γ'=>qW P g b xs γ' q.2
  |.bk γ'=>some (.nx γ',q.2)
  |.rt x=>some (.rt x,q.2)else none
noncomputable def vO(f:IPF)(g:GF)(b:SF):SF:=fun γ M=>(f γ M).bind fun r=>qW r.1.2 g b r.1.1 γ r.2
section
variable{K:Fg}{ta:TE}{f:EF}{fp:IPF}{tg:TG}{hg:GF}{t:TS}{p:SF}
theorem BU{W:Wd}{M:Sto}{x:CD}{v:V}{xs:List CD}{P:Sto->Prop}(h:walked M x=some (xs,P))(G:Good K W M H)(r:cA K W x v):
 ∃a,v=.ref a/\((∃vs,SqL K H a vs)/\(∀W' M' H',W.Ext W'->Good K W' M' H'->P M'->∃vs,SqL K H' a vs/\bS K W' xs vs)\/(∃vs,SqT K H a vs)/\∀W' M' H',W.Ext W'->Good K W' M' H'->P M'->∃vs,SqT K H' a vs/\bS K W' xs vs):=by
 unfold walked at h;split at h
 .rename_i y;obtain⟨ds,h2,h⟩:=aI h;cases h;obtain⟨a,vs,rfl,hs,hr⟩:=kF (show Rep K W.F y v from r) h2;refine⟨a,rfl,?_⟩;rcases hs with hs|hs
  .exact .inl ⟨⟨vs,G.fh.seq hs⟩,fun W' M' H' e G' _=>⟨vs,G'.fh.seq (e.ff.seq hs),bS.up (eQ hr) e⟩⟩
  .exact .inr ⟨⟨vs,G.fh.seqT hs⟩,fun W' M' H' e G' _=>⟨vs,G'.fh.seqT (e.ff.seqT hs),bS.up (eQ hr) e⟩⟩
 .rename_i i;split at h
  .rename_i ys hy;cases h;obtain⟨vs,hv,hr⟩:=G.lstAt hy;refine⟨_,r.2,.inl ⟨⟨vs,SqL.of hv⟩,fun W' M' H' e G' hP=>?_⟩⟩;obtain⟨us,hu,hr'⟩:=G'.lstAt hP;rw[e.al i r.1]at hu;exact⟨us,SqL.of hu,hr'⟩
  .cases h
 .cases h
theorem OJ(a:SE K ta f):SIP K (RM K ta) (mP f):=by
 intro γ M xs P M' hh W H σ R G Rs k;obtain⟨⟨y,M1⟩,h1,hh⟩:=aI hh;obtain⟨q,h2,hh⟩:=aI hh;cases hh;refine a _ _ _ _ h1 W H σ _ G Rs fun v W1 H1 e1 G1 r1=>?_;obtain⟨l,rfl,hw⟩:=BU h2 G1 r1;refine⟨l,rfl,?_⟩;rcases hw with⟨⟨vs,hv⟩,hw⟩|⟨⟨vs,hv⟩,hw⟩
 .refine .inl ⟨vs,hv,k _ W1 H1 e1 G1 fun W2 M2 H2 e2 G2 hP=>?_⟩;obtain⟨us,hu,hr⟩:=hw W2 M2 H2 e2 G2 hP;refine⟨fun i x hx=>?_,us,hu,by rw[Paired.len hr];exact A7 _⟩;obtain⟨u,hu',ru⟩:=Paired.get hr hx;refine⟨⟨us,u,hu,hu'⟩,fun y H3 hy=>⟨W2,.refl _,by rw[hy.1];exact G2,?_⟩⟩;have:=hy.2 us hu;rw[hu']at this;cases this;exact ru
 .refine .inr ⟨vs,hv,k _ W1 H1 e1 G1 fun W2 M2 H2 e2 G2 hP=>?_⟩;obtain⟨us,hu,hr⟩:=hw W2 M2 H2 e2 G2 hP;refine⟨fun i x hx=>?_,us,hu,by rw[Paired.len hr];exact A7 _⟩;obtain⟨u,hu',ru⟩:=Paired.get hr hx;refine⟨⟨us,u,hu,hu'⟩,fun y H3 hy=>⟨W2,.refl _,by rw[hy.1];exact G2,?_⟩⟩;have:=hy.2 us hu;rw[hu']at this;cases this;exact ru
theorem QX{wi:TI}(i:SIP K wi fp)(a:SG K tg hg)(b:SS K t p):SS K (UQ wi tg t) (vO fp hg p):=by
 intro γ M o M' hh W H σ D G R k;obtain⟨⟨⟨xs,P⟩,M1⟩,h1,hh⟩:=aI hh;have hh:qW P hg p xs γ M1=some (o,M'):=hh;refine i _ _ _ _ _ h1 W H σ _ G R fun J W1 H1 e1 G1 gv=>?_;refine⟨fun j m σ' H'=>∃γ' M2 W2,j<=xs.length/\m=xs.length-j/\W1.Ext W2/\Good K W2 M2 H'/\dC K W2 γ' σ'/\qW P hg p (xs.drop j) γ' M2=some (o,M'),⟨_,γ,M1,W1,E9 _,rfl,.refl _,G1,R.up e1,hh⟩,?_⟩;rintro j m σ' H' ⟨γ',M2,W2,hj,rfl,e2,G2,R2,h2⟩
 have hP:P M2:=by
  by_cases hP:P M2
  .exact hP
  .cases hd:xs.drop j<;>rw[hd]at h2<;>unfold qW at h2<;>rw[A6 hP]at h2<;>cases h2
 obtain⟨gv1,gv2⟩:=gv W2 M2 H' e2 G2 hP;by_cases hlt:j<xs.length
 .obtain⟨go,yl⟩:=gv1 j xs[j] (B4 hlt);rw[List.drop_eq_getElem_cons hlt]at h2;unfold qW at h2;rw[A4 hP]at h2;refine .inr ⟨go,fun σ3 H3=>∃γ3 M3 W3,W2.Ext W3/\Good K W3 M3 H3/\dC K W3 γ3 σ3/\qW P hg p (xs.drop (j+1)) γ3 M3=some (o,M'),?_,fun y H3 hy=>?_⟩
  .rintro σ3 H3 ⟨γ3,M3,W3,e3,G3,R3,h3⟩;exact⟨_,by omega,γ3,M3,W3,hlt,rfl,e2.trans e3,G3,R3,h3⟩
  .obtain⟨W8,e8,G8,ry⟩:=yl y H3 hy;obtain⟨⟨γ4,M4⟩,h4,h2⟩:=aI h2;obtain⟨⟨o5,M5⟩,h5,h2⟩:=aI h2;refine a _ _ _ _ _ h4 W8 _ σ' y _ G8 (R2.up e8) ry fun σ4 W4 H4 e4 G4 R4=>?_;refine b _ _ _ _ h5 W4 H4 σ4 _ G4 R4 fun W5 H5 e5 G5=>?_;have e25:=(e8.trans e4).trans e5;cases o5 with
   |nx γ5=>exact fun σ5 R5=>⟨γ5,M5,W5,e25,G5,R5,h2⟩
   |ct γ5=>exact fun σ5 R5=>⟨γ5,M5,W5,e25,G5,R5,h2⟩
   |bk γ5=>cases h2;exact k W5 H5 ((e1.trans e2).trans e25) G5
   |rt x=>cases h2;exact k W5 H5 ((e1.trans e2).trans e25) G5
 .have e:j=xs.length:=by omega
  subst e;rw[List.drop_length]at h2;unfold qW at h2;rw[A4 hP]at h2;cases h2;exact .inl ⟨gv2,k W2 H' (e1.trans e2) G2 σ' R2⟩
end
section
variable{ι:Type}{K:Fg}{X:ι->Cx}{tg iter a:Expr}{es sts':List Expr}{sts:List Stmt}{f:EF}{fa:AF}{gf:GF}{gs:GsF}{sf:SF}{pos:Pos}
theorem OB(hp:∀i,PassesOwn (model (X i).prog (X i).w) (X i).A (X i).env (X i).xe)(hc:∀i,(X i).calm=true)(hK:∀i,(X i).K=K)(x:ME K X iter f)(y:MG K X tg gf)(z:ML K X sts sf)(hs:∀(env:Env)(x:Value),foldedSetIterable iter env x=pure x:=by intro _ _;rfl):MS K X (.For tg iter sts [] pos) (vO (mP f) gf sf):=by
 obtain⟨t,x1,x2⟩:=x.ex;obtain⟨u,y1,y2⟩:=y.ex;obtain⟨v,z1,z2⟩:=z.ex;exact⟨_,fun i=>NG (hp i) (hc i) (DF (hK i) (x1 i)) (y1 i) (z1 i) (hs _),QX (OJ x2) y2 z2⟩
end
section
variable{X:Cx}{a b:Expr}{ta:TA}{p p' pos pos':Pos}
noncomputable def qU(lo:Int)(n:Nat):List V:=(List.range n).map fun(i:Nat)=>V.int (lo+(i:Nat))
theorem FJ{lo:Int}{n:Nat}{acc:Array Value}(h:ItemsOf (fun i v=>∃t,v=.int (lo+i*1) t) acc n):bB (qU lo n) acc.toList:=by
 have key:∀(k:Nat)(l:List Value)(m:Nat),l.length=k->(∀j v,l[j]?=some v->∃t,v=Value.int (lo+((m+j:Nat):Int)*1) t)->bB ((List.range' m k).map fun(i:Nat)=>V.int (lo+(i:Nat))) l:=by
  intro k
  induction k with
  |zero=>intro l m hl _;rw[List.eq_nil_of_length_eq_zero hl];exact .nil
  |succ k ih=>
   intro l m hl hv
   match l,hl,hv with
   |v::l,hl,hv=>
    obtain⟨t,rfl⟩:=hv 0 v rfl;rw[List.range'_succ,B8];refine .cons ⟨t,by simp⟩ (ih l (m+1) (Nat.succ.inj hl) fun j v e=>?_);obtain⟨t',e'⟩:=hv (j+1) v e;exact⟨t',by rw[e'];congr 2;omega⟩
 have:=key n acc.toList 0 (by rw[U7];exact h.1) fun j v e=>by
  obtain⟨t,e'⟩:=h.2 j v (by rw[<- O2];exact e);exact⟨t,by rw[e',Nat.zero_add]⟩
 unfold qU;rw[List.range_eq_range'];exact this
theorem HP{pins:List (Addr×Obj)}{σ:St}{s:Shared}{Q:VK}{lo hi:Int}{t u v:Tok}{tk:Nat}(hc:X.calm=true)(I:Inv X pins σ H s)(h1:-(2 ^ 62)<=lo)(h2:lo<2 ^ 62)(h3:-(2 ^ 62)<=hi)(h4:hi<2 ^ 62)(hz:(hi-lo).toNat<=sizeLine)
 (q:∀l,H l=none->Q (.ref l) (upd H l (.lst (qU lo (hi-lo).toNat)))):
 wpAny (model X.prog X.w) X.A (call (.type "list") [.ref s.heap.objs.size]) (fun v s'=>∃x H',Inv X pins σ H' s'/\RelV x v/\Q x H') X.xe { s with heap:=s.heap.push { cls:=.type "range",data:=.fields #[.int lo t,.int hi u,.int 1 v] },toks:=tk }:=by
 have hsz:(hi-lo).toNat<=2 ^ 24:=by rw[E6]at hz;exact hz
 refine call_list_range (n:=(hi-lo).toNat) (I.ok.hd hc) (IsRange.new ..) (small_one h1 h2 h3 h4) (by rw[rangeSize_one];split<;>omega) hsz fun h' tk' acc c hk hS hacc=>?_;have I1:Inv X pins σ H { s with heap:=s.heap.push { cls:=.type "range",data:=.fields #[.int lo t,.int hi u,.int 1 v] },toks:=tk }:=I.kept fun b o e=>A3 _ e;refine⟨.ref _,upd H _ (.lst (qU lo (hi-lo).toNat)),I1.laid (t':=tk') hk (A7 _) ⟨by rw[qU,A1,O5];exact hz,acc.toList,c,FJ hacc,by simpa using hS⟩,rfl,q _ (I1.hok.fresh (A7 _))⟩
noncomputable def IR(ta:TA):TE:=fun σ H Q=>ta σ H fun vs H1=>∃j:Int,vs=[.int j]/\-(2 ^ 62)<=j/\j<2 ^ 62/\j.toNat<=sizeLine/\∀l,H1 l=none->Q (.ref l) (upd H1 l (.lst (qU 0 j.toNat)))
theorem JY(hc:X.calm=true)(hg:Gl X "range")(hm:X.mg "range"=none)(hgl:Gl X "list")(hml:X.mg "list"=none)(ha:PA X [a] ta)(hs:starEach [a] X.env=[(false,eval a X.env)]):
 PE X (.Call (.Name "list" p) [.Call (.Name "range" p') [a] [] pos'] [] pos) (IR ta):=by
 intro pins s σ H Q I h;refine Y2 (kK I hgl hml boot_list ?_ (by decide) (by decide));refine D8 ?_ vI rfl;rw[vI];show wpAny _ _ (spliced ((false,eval (.Call (.Name "range" p') [a] [] pos') X.env)::[])) _ _ s;refine Calls.spliced_cons ?_;refine Call_ (kK I hg hm boot_range (D8 (thn (ha pos' pins s σ H _ I h) fun us s1 ⟨vs,H1,I1,r1,q1⟩=>?_) hs rfl));obtain⟨j,e,q1,q2,q3,q⟩:=q1;subst e;cases r1 with
 |cons r rr=>
  cases rr;obtain⟨t,rfl⟩:=r;refine call_range_1 (Calls.spliced_nil ?_);exact HP hc I1 (by omega) (by omega) q1 q2 (by simpa using q3) (by simpa using q)
end
section
variable{K:Fg}{tA:TA}{fa:AF}
noncomputable def GY(lo:Int)(n:Nat):List PyData:=(List.range n).map fun(i:Nat)=>.int (lo+(i:Nat))
noncomputable def nQ(cell:Bool)(f:AF):EF:=fun γ M=>(f γ M).bind fun r=>match r.1 with
 |[.d (.int j)]=>if cJ j=true/\j.toNat<=sizeLine then(if cell=true then some (.c r.2.length,r.2++[.lst (fN 0 j.toNat)])else some (.d (.list (GY 0 j.toNat)),r.2))else none
 |_=>none
theorem QB{lo:Int}{n:Nat}:aH K H (GY lo n) (qU lo n):=by
 unfold GY qU;generalize List.range n=l
 induction l with
 |nil=>rfl
 |cons i l ih=>exact⟨_,_,rfl,rfl,ih⟩
theorem GU{W:Wd}{lo:Int}{n:Nat}:bS K W (fN lo n) (qU lo n):=by
 unfold fN qU;generalize List.range n=l
 induction l with
 |nil=>exact .nil
 |cons i l ih=>exact .cons rfl ih
theorem HQ{cell:Bool}(b:SA K tA fa):SE K (IR tA) (nQ cell fa):=by
 intro γ M x M' hh W H σ Q G R k;obtain⟨⟨ys,M1⟩,h1,hh⟩:=aI hh;refine b _ _ _ _ h1 W H σ _ G R fun vs W1 H1 e1 G1 r1=>?_;revert hh;dsimp only;split
 .rename_i j;intro hh;by_cases hs:cJ j=true/\j.toNat<=sizeLine
  .rw[A4 hs]at hh;cases r1 with
   |cons r r'=>
    cases r';refine⟨j,by rw[show _=V.int j from r],(eF hs.1).1,(eF hs.1).2,hs.2,fun l hl=>?_⟩;cases cell with
    |true=>
     rw[A4 rfl]at hh;cases hh;exact k _ (W1.more l) _ (e1.trans (W1.ext_more l)) (G1.new hl (c:=.lst (fN 0 j.toNat)) (o:=.lst (qU 0 j.toNat)) GU) G1.newV
    |false=>
     rw[A6 A8]at hh;cases hh;obtain⟨e2,G2⟩:=G1.lay (o:=.lst (qU 0 j.toNat)) hl;exact k _ _ _ (e1.trans e2) G2 ⟨l,_,rfl,SqL.of aT,QB⟩
  .rw[A6 hs]at hh;cases hh
 .intro hh;cases hh
theorem NR(cell:Bool){ι:Type}{X:ι->Cx}{a:Expr}{p p' pos pos':Pos}(hc:∀i,(X i).calm=true)(hm:∀i,(X i).mg "range"=none)(hml:∀i,(X i).mg "list"=none)(x:MA K X [a] fa)(hg:∀i,Gl (X i) "range":=by intro _;rfl)(hgl:∀i,Gl (X i) "list":=by intro _;rfl):
 ME K X (.Call (.Name "list" p) [.Call (.Name "range" p') [a] [] pos'] [] pos) (nQ cell fa):=by
 obtain⟨t,x1,x2⟩:=x.ex;exact⟨_,fun i=>JY (hc i) (hg i) (hm i) (hgl i) (hml i) (x1 i) (x.st.1 _),HQ x2⟩
end
noncomputable def Itz(K:Fg)(l1 l2:Addr):It:=
 ⟨fun i H=>∃xs ys x y,SqL K H l1 xs/\SqL K H l2 ys/\xs[i]?=some x/\ys[i]?=some y,
  fun i H v H'=>∃p x y,H p=none/\v=.ref p/\H'=upd H p (.tup [x,y])/\(∀xs,SqL K H l1 xs->xs[i]?=some x)/\∀ys,SqL K H l2 ys->ys[i]?=some y,
  fun i H=>∃xs ys,SqL K H l1 xs/\SqL K H l2 ys/\(xs[i]?=none\/ys[i]?=none)⟩
noncomputable def tnZ(z TI TO i1 i2 l1 l2:Addr)(i:Nat)(h:Heap):Prop:=IsZip h z TI TO .none/\IsPair h TI (.ref i1) (.ref i2)/\(∃a b,IsPair h TO a b)/\h.IsListIter i1 l1 i/\h.IsListIter i2 l2 i
structure CF(z TI TO i1 i2:Addr):Prop where
 TIz:TI≠z
 TOz:TO≠z
 i1z:i1≠z
 i2z:i2≠z
 TITO:TI≠TO
 TIi1:TI≠i1
 TIi2:TI≠i2
 TOi1:TO≠i1
 TOi2:TO≠i2
 i12:i1≠i2
theorem HC(n:Nat):CF (n+4) (n+2) (n+3) n (n+1):=by
 have key:∀a b:Nat,¬a=b->(a:Addr)≠b:=fun _ _ h=>h;exact⟨key _ _ (by omega),key _ _ (by omega),key _ _ (by omega),key _ _ (by omega),key _ _ (by omega),key _ _ (by omega),key _ _ (by omega),key _ _ (by omega),key _ _ (by omega),key _ _ (by omega)⟩
section
variable{P:Program}{w:World}{K:Fg}{elts:List Expr}{x1:Nat}{tpos:Pos}{z TI TO i1 i2 l1 l2:Addr}
theorem uZ{h:Heap}{i:Nat}{xs ys:Array Value}(A5:CF z TI TO i1 i2)(st:tnZ z TI TO i1 i2 l1 l2 i h)(h1:h.IsList l1 xs)(h2:h.IsList l2 ys):ZipApart z TI TO i1 i2 l1 l2:=by
 obtain⟨hz,hTI,⟨a,b,hTO⟩,⟨o1,e1,c1,d1⟩,⟨o2,e2,c2,d2⟩⟩:=st
 have nl:∀(l:Addr)(ws:Array Value),h.IsList l ws->∀(b:Addr)(o:Obj),h.get? b=some o->o.cls≠.type "list"->l≠b:=fun l ws hl b o e n q=>by
  subst q;obtain⟨o',e',c',_⟩:=hl;rw[e]at e';cases e';exact n c'
 have nz:(Value.type "zip")≠.type "list":=by intro q;injection q with q;exact absurd q (by decide)
 have nt:(Value.type "tuple")≠.type "list":=by intro q;injection q with q;exact absurd q (by decide)
 have ni:(Value.type "list_iterator")≠.type "list":=by intro q;injection q with q;exact absurd q (by decide)
 exact⟨A5.TIz,A5.TOz,A5.i1z,A5.i2z,A5.TITO,A5.TIi1,A5.TIi2,A5.TOi1,A5.TOi2,A5.i12,
  nl l1 xs h1 z _ hz nz,nl l1 xs h1 TO _ hTO nt,nl l1 xs h1 i1 _ e1 (by rw[c1];exact ni),nl l1 xs h1 i2 _ e2 (by rw[c2];exact ni),
  nl l2 ys h2 z _ hz nz,nl l2 ys h2 TO _ hTO nt,nl l2 ys h2 i1 _ e1 (by rw[c1];exact ni),nl l2 ys h2 i2 _ e2 (by rw[c2];exact ni)⟩
theorem MB(A5:CF z TI TO i1 i2):Turn P w K (.Tuple elts x1 tpos) (Itz K l1 l2) [z,TI,TO,i1,i2] z (tnZ z TI TO i1 i2 l1 l2) where
 mem:=by simp
 obj:=fun i h st b hb=>by
  obtain⟨hz,hTI,⟨a,c,hTO⟩,⟨o1,e1,_,d1⟩,⟨o2,e2,_,d2⟩⟩:=st;simp only[List.mem_cons,List.not_mem_nil,or_false]at hb;rcases hb with rfl|rfl|rfl|rfl|rfl
  .exact⟨_,hz,fun v q=>by cases q⟩
  .exact⟨_,hTI,fun v q=>by cases q⟩
  .exact⟨_,hTO,fun v q=>by cases q⟩
  .exact⟨_,e1,fun v q=>by rw[d1]at q;cases q⟩
  .exact⟨_,e2,fun v q=>by rw[d2]at q;cases q⟩
 keep:=fun i h h' st k=>by
  obtain⟨hz,hTI,⟨a,c,hTO⟩,h1,h2⟩:=st;exact⟨k z (by simp) _ hz,k TI (by simp) _ hTI,⟨a,c,k TO (by simp) _ hTO⟩,h1.at fun o e=>k i1 (by simp) o e,h2.at fun o e=>k i2 (by simp) o e⟩
 item:=by
  intro X hP hw hK hc i pins s σ H E I hf st hg;subst hP hw hK;obtain⟨xs,ys,x,y,hq1,hq2,hx,hy⟩:=hg;obtain⟨its,rv,p,_⟩:=I.list hq1;obtain⟨jts,rw',p',_⟩:=I.list hq2;obtain⟨u,hu,ru⟩:=rv.get hx;obtain⟨v,hv,rv'⟩:=rw'.get hy;have D:=uZ A5 st p.isList p'.isList;obtain⟨hz,hTI,⟨a,c,hTO⟩,h1,h2⟩:=id st;refine wpAny_pyNext_zip_item D hz hTI hTO h1 h2 p.isList p'.isList (x:=u) (y:=v) (by simpa using hu) (by simpa using hv) fun h' a1 a2 a3 a4 a5 a6 hk=>⟨_,rfl,?_⟩;refine wpAny_letOwnedTupleGo_zip a1 fun h2' hz2 sb=>?_
  have lt:∀b∈[z,TI,TO,i1,i2],s.heap.objs.size≠b:=fun b hb q=>by
   obtain⟨o1,e1,_⟩:=id h1;obtain⟨o2,e2,_⟩:=id h2;simp only[List.mem_cons,List.not_mem_nil,or_false]at hb
   have:∃o,s.heap.get? b=some o:=by
    rcases hb with rfl|rfl|rfl|rfl|rfl
    .exact⟨_,hz⟩
    .exact⟨_,hTI⟩
    .exact⟨_,hTO⟩
    .exact⟨_,e1⟩
    .exact⟨_,e2⟩
   obtain⟨o,e⟩:=this;rw[<- q]at e;exact absurd (B5 e) (F0 _)
  have kk:∀b o,b∉[z,TI,TO,i1,i2]->s.heap.get? b=some o->h2'.get? b=some o:=fun b o hb q=>by
   simp only[List.mem_cons,List.not_mem_nil,or_false,not_or]at hb;exact(sb.2 b hb.1).trans (hk b o hb.1 hb.2.2.1 hb.2.2.2.1 hb.2.2.2.2 q)
  have ht2:h2'.get? s.heap.objs.size=some { cls:=.type "tuple",data:=.seq #[u,v] }:=(sb.2 _ (lt z (by simp))).trans a5
  have I2:Inv X pins σ (upd H s.heap.objs.size (.tup [x,y])) { s with heap:=h2',toks:=s.toks }:=
   I.turnLay hf kk (A7 _) ⟨by show 2<=sizeLine;rw[E6];decide,[u,v],.cons ru (.cons rv' .nil),⟨_,ht2,rfl,_,rfl⟩⟩
  refine⟨.ref s.heap.objs.size,_,I2,rfl,⟨_,x,y,I.hok.fresh (A7 _),rfl,rfl,fun ws hw=>by rw[I.list_inj hw hq1];exact hx,fun ws hw=>by rw[I.list_inj hw hq2];exact hy⟩,⟨hz2,?_,⟨_,_,(sb.2 TO A5.TOz).trans a2⟩,a3.at fun o e=>(sb.2 i1 A5.i1z).trans e,a4.at fun o e=>(sb.2 i2 A5.i2z).trans e⟩,fun b hb=>?_⟩
  .exact(sb.2 TI A5.TIz).trans (hk TI _ A5.TIz A5.TITO A5.TIi1 A5.TIi2 hTI)
  .rw[aU (fun q=>lt b hb q.symm)];exact(hf b hb).1
 done:=by
  intro X hP hw hK hc i pins s σ H E I hf st hg;subst hP hw hK;obtain⟨xs,ys,hq1,hq2,hend⟩:=hg;obtain⟨its,rv,p,_⟩:=I.list hq1;obtain⟨jts,rw',p',_⟩:=I.list hq2;have D:=uZ A5 st p.isList p'.isList;obtain⟨hz,hTI,⟨a,c,hTO⟩,h1,h2⟩:=id st;have l1':=rv.length;have l2':=rw'.length;refine wpAny_pyNext_zip_end (I.ok.hd hc) D hz hTI hTO h1 h2 p.isList p'.isList ?_ fun h' hk=>⟨rfl,I.turnF (t':=s.toks) hf fun b o hb q=>?_⟩
  .rcases hend with e|e
   .refine .inl ?_;have:=List.getElem?_eq_none_iff.mp e;exact Array.getElem?_eq_none (by rw[C0];omega)
   .refine .inr ?_;have:=List.getElem?_eq_none_iff.mp e;exact Array.getElem?_eq_none (by rw[C0];omega)
  .simp only[List.mem_cons,List.not_mem_nil,or_false,not_or]at hb;exact hk b o hb.1 hb.2.2.1 hb.2.2.2.1 hb.2.2.2.2 q
 self:=fun A i s Q E st h=>wpAny_pyIter_zip st.1 h
end
section
variable{X:Cx}{elts:List Expr}{x1:Nat}{tpos:Pos}
noncomputable def aAw(K:Fg)(ta:TA):TI:=fun σ H R=>ta σ H fun vs H1=>∃a b xs ys,vs=[.ref a,.ref b]/\SqL K H1 a xs/\SqL K H1 b ys/\R (Itz K a b) H1
theorem boot_zip:bootBuiltins "zip"=some (.type "zip"):=by decide +kernel
theorem YL{a b:Expr}{ta:TA}{p pos:Pos}(hg:Gl X "zip")(hm:X.mg "zip"=none)(ha:PA X [a,b] ta)(hs:starEach [a,b] X.env=[(false,eval a X.env),(false,eval b X.env)])(hs2:starEach [b] X.env=[(false,eval b X.env)]):PI X (.Tuple elts x1 tpos) (.Call (.Name "zip" p) [a,b] [] pos) (aAw X.K ta):=by
 intro pins s σ H R I h;refine Call_ (kK I hg hm boot_zip (D8 (thn (ha pos pins s σ H _ I h) fun us s1 ⟨vs,H1,I1,r1,q1⟩=>?_) (by rw[hs,hs2]) (by rw[hs2];rfl)));obtain⟨l,l',xs,ys,e,hq1,hq2,q⟩:=q1;subst e;cases r1 with
 |cons r rr=>
  cases rr with
  |cons r' rr=>
   cases rr;cases (show _=Value.ref l from r);cases (show _=Value.ref l' from r');obtain⟨its,rv,p1,_⟩:=I1.list hq1;obtain⟨jts,rw',p2,_⟩:=I1.list hq2;refine call_zip_2 p1.isList p2.isList fun h' hz hTI hTO h1 h2 hsz hk=>?_;refine wpAny_pyIter_zip hz ?_
   have fp:∀b∈[s1.heap.objs.size+4,s1.heap.objs.size+2,s1.heap.objs.size+3,s1.heap.objs.size,s1.heap.objs.size+1],oV X pins H1 b:=fun b hb=>by
    have hb':s1.heap.objs.size<=b:=by
     simp only[List.mem_cons,List.not_mem_nil,or_false]at hb;omega
    exact I1.fpOk hb' (I1.hok.fresh hb')
   exact⟨_,_,_,_,H1,rfl,I1.kept (t':=s1.toks) hk,MB (z:=s1.heap.objs.size+4) (TI:=s1.heap.objs.size+2) (TO:=s1.heap.objs.size+3) (i1:=s1.heap.objs.size) (i2:=s1.heap.objs.size+1) (l1:=l) (l2:=l') (HC _),⟨hz,hTI,⟨_,_,hTO⟩,h1,h2⟩,fp,q⟩
end
noncomputable def mX:List PyData->List PyData->List CD
 |x::xs,y::ys=>.d (.tuple [x,y])::mX xs ys
 |_,_=>[]
noncomputable def RU(f:AF):AF:=fun γ M=>(f γ M).bind fun r=>match r.1 with
 |[.d (.list xs),.d (.list ys)]=>some (mX xs ys,r.2)
 |_=>none
theorem zC:∀{xs ys:List PyData}{i:Nat}{x:CD},(mX xs ys)[i]?=some x->∃a b,xs[i]?=some a/\ys[i]?=some b/\x=.d (.tuple [a,b])
 |[],_,i,x=>fun h=>by unfold mX at h;cases i<;>cases h
 |_::_,[],i,x=>fun h=>by unfold mX at h;cases i<;>cases h
 |a::xs,b::ys,0,x=>fun h=>⟨a,b,rfl,rfl,by unfold mX at h;exact(C9 h).symm⟩
 |a::xs,b::ys,i+1,x=>fun h=>by
  obtain⟨c,d,h1,h2,h3⟩:=zC (xs:=xs) (ys:=ys) (i:=i) (by unfold mX at h;exact h);exact⟨c,d,h1,h2,h3⟩
theorem AS:∀{xs ys:List PyData},xs[(mX xs ys).length]?=none\/ys[(mX xs ys).length]?=none
 |[],_=>.inl rfl
 |_::_,[]=>.inr rfl
 |a::xs,b::ys=>by
  show(a::xs)[(mX xs ys).length+1]?=none\/(b::ys)[(mX xs ys).length+1]?=none;exact AS (xs:=xs) (ys:=ys)
theorem XS{K:Fg}{tA:TA}{fa:AF}(b:SA K tA fa):SI K (aAw K tA) (RU fa):=by
 intro γ M xs M' hh W H σ R G Rs k;obtain⟨⟨ys,M1⟩,h1,hh⟩:=aI hh;refine b _ _ _ _ h1 W H σ _ G Rs fun vs W1 H1 e1 G1 r1=>?_;revert hh;dsimp only;split
 .rename_i as bs;intro hh;cases hh;cases r1 with
  |cons r r'=>
   cases r' with
   |cons r2 r''=>
    cases r'';obtain⟨p,us,rfl,hs,hr⟩:=(show ∃a us,_=V.ref a/\SqL K W1.F a us/\aH K W1.F as us from r);obtain⟨p',us',rfl,hs',hr'⟩:=(show ∃a us,_=V.ref a/\SqL K W1.F a us/\aH K W1.F bs us from r2);refine⟨p,p',us,us',rfl,G1.fh.seq hs,G1.fh.seq hs',k _ W1 H1 e1 G1 fun W2 M2 H2 e2 G2=>?_⟩;have q1:SqL K H2 p us:=G2.fh.seq (e2.ff.seq hs);have q2:SqL K H2 p' us':=G2.fh.seq (e2.ff.seq hs');refine⟨fun i x hx=>?_,us,us',q1,q2,?_⟩
    .obtain⟨c,d,hc,hd,rfl⟩:=zC hx;obtain⟨u,hu,ru⟩:=Paired.get (eQ hr) (show(as.map CD.d)[i]?=some (.d c)by rw[C6,hc];rfl);obtain⟨v,hv,rv⟩:=Paired.get (eQ hr') (show(bs.map CD.d)[i]?=some (.d d)by rw[C6,hd];rfl);refine⟨⟨us,us',u,v,q1,q2,hu,hv⟩,fun y H3 hy=>?_⟩;obtain⟨p3,x',y',hn,rfl,rfl,hx',hy'⟩:=hy;have:=hx' us q1;rw[hu]at this;cases this;have:=hy' us' q2;rw[hv]at this;cases this;obtain⟨e3,G3⟩:=G2.lay (o:=.tup [u,v]) hn;refine⟨_,e3,G3,⟨p3,_,rfl,SqT.of aT,?_⟩⟩;exact⟨_,_,rfl,Rep.same e3.ff _ _ (show Rep K W2.F c u from ru.up e2),_,_,rfl,Rep.same e3.ff _ _ (show Rep K W2.F d v from rv.up e2),rfl⟩
    .rcases AS (xs:=as) (ys:=bs)with e|e
     .exact .inl (by have:=List.getElem?_eq_none_iff.mp e;rw[hr.length]at this;exact List.getElem?_eq_none_iff.mpr this)
     .exact .inr (by have:=List.getElem?_eq_none_iff.mp e;rw[hr'.length]at this;exact List.getElem?_eq_none_iff.mpr this)
 .intro hh;cases hh
theorem US{ι:Type}{K:Fg}{X:ι->Cx}{a b:Expr}{fa:AF}{pos:Pos}{elts:List Expr}{x1:Nat}{tpos p:Pos}(hK:∀i,(X i).K=K)(hm:∀i,(X i).mg "zip"=none)(x:MA K X [a,b] fa)(hg:∀i,Gl (X i) "zip":=by intro _;rfl):MI K X (.Tuple elts x1 tpos) (.Call (.Name "zip" p) [a,b] [] pos) (RU fa):=by
 obtain⟨t,x1',x2⟩:=x.ex;exact⟨_,fun i=>by have:=YL (elts:=elts) (x1:=x1) (tpos:=tpos) (p:=p) (pos:=pos) (hg i) (hm i) (x1' i) (by rw[x.st.1,x.st.2.1];rfl) (by rw[x.st.2.1];rfl);rw[hK i]at this;exact this,XS x2⟩
end L2
namespace PySem
open Sem (wp)
namespace F
end F
end PySem
namespace L2
open PySem PySem.Spec PyProof.Rows
theorem eB.le{ι:Type}{j k:Nat}{A:Around}{q:Bool}(r:eB k A q)(h:j<=k:=by decide):ι->eB j A q:=fun _=>r.mono h
end L2
namespace PySem
open PySem.Calls PyProof.Rows
end PySem
namespace L2
open PySem PySem.Spec PyProof.Rows
section
variable{K:Fg}
end
end L2
namespace HT
open PySem  PySem.Spec PyProof.Rows
theorem fm_congr{α β:Type}{f g:α->Option β}:∀{l:List α},(∀x∈l,f x=g x)->l.filterMap f=l.filterMap g
 |[]=>fun _=>rfl
 |x::l=>fun h=>by
  rw[L6,L6,h x B6,fm_congr fun y hy=>h y (B1 _ hy)]
theorem rev_pick{α:Type}(xs:List α):(List.range xs.length).filterMap (fun m=>xs[xs.length-1-m]?)=xs.reverse:=by
 have e:∀m∈List.range xs.length,xs[xs.length-1-m]?=xs.reverse[m]?:=fun m hm=>by
  rw[List.getElem?_reverse (List.mem_range.mp hm)]
 rw[fm_congr e];refine List.ext_getElem? fun i=>?_;have l:xs.length=xs.reverse.length:=List.length_reverse.symm;rw[l];generalize xs.reverse=ys;clear e l xs
 have:(List.range ys.length).filterMap (fun m=>ys[m]?)=ys:=by
  induction ys with
  |nil=>rfl
  |cons y ys ih=>
   rw[C8,List.range_succ_eq_map,L6];show y::_=_;rw[List.filterMap_map];congr 1
 rw[this]
section
variable{prog:Program}{w:World}{A:Around}{E:Value->Shared->Prop}{s:Shared}
theorem BO(n:Nat):Builtin.Slice.slicePlaces ((n:Int)-1) (-1) (-1)=n:=by
 unfold Builtin.Slice.slicePlaces;rw[A6 (by decide)];by_cases h:(n:Int)-1 > -1
 .rw[A4 h,show(-(-1:Int))=1 from rfl,Int.ediv_one];omega
 .rw[A6 h];omega
theorem pN{sl:Addr}{vs:Value}{n:Nat}{Q:Int×Int×Nat->Shared->Prop}(hs:s.heap.IsSliceOf sl .none .none vs)(ps:IsPart vs (some (-1)))
 (h:Q ((n:Int)-1,-1,n) s):wpAny (model prog w) A (Builtin.Slice.sliceApplied (.ref sl) (pure (n:Int))) Q E s:=by
 obtain⟨os,hos,hcs,hds⟩:=id hs;unfold Builtin.Slice.sliceApplied Builtin.Slice.sliceFields;refine A0 (A0 (O4 hos hds (x:=.none) rfl (A0 (O4 hos hds (x:=.none) rfl (A0 (O4 hos hds (x:=vs) rfl (B3 ?_)))))));refine A0 (oA ps ?_);show wpAny _ _ (if ((-1:Int)==0)=true then _ else _) _ _ s;rw[A6 (by decide)];refine A0 (slicePart_none (A0 (slicePart_none (A0 (B3 ?_)))));show wpAny _ _ (pure ((n:Int)-1,(-1:Int),Builtin.Slice.slicePlaces ((n:Int)-1) (-1) (-1))) _ _ s;rw[BO];exact B3 h
theorem KH(xs:Array Value):((List.range xs.size).filterMap fun(m:Nat)=>xs[((xs.size:Int)-1+(m:Int)*(-1)).toNat]?).toArray=xs.toList.reverse.toArray:=by
 have l:xs.size=xs.toList.length:=Array.length_toList.symm;rw[<- rev_pick xs.toList,l];congr 1;refine fm_congr fun m hm=>?_;have:=List.mem_range.mp hm;rw[show((xs.toList.length:Int)-1+(m:Int)*(-1)).toNat=xs.toList.length-1-m by omega,O2]
theorem getItem_tuple_rev{t sl:Addr}{items:Array Value}{vs:Value}{Q:Value->Shared->Prop}(ht:IsTup s.heap t items)(hs:s.heap.IsSliceOf sl .none .none vs)(ps:IsPart vs (some (-1)))
 (h:Q (.ref s.heap.objs.size) { s with heap:=s.heap.push { cls:=.type "tuple",data:=.seq items.toList.reverse.toArray } })
 (hsz:items.size<=sizeLine):wpAny (model prog w) A (getItem (.ref t) (.ref sl)) Q E s:=by
 have htake:sizeOk (.seq items.toList.reverse.toArray):=by
  show items.toList.reverse.toArray.size<=sizeLine;rw[C0,L8,U7];exact hsz
 obtain⟨os,hos,hcs,hds⟩:=id hs;have hTs:s.TypeIs (.ref sl) "slice":=⟨os,hos,hcs⟩;unfold getItem
 try with_reducible refine L3 ?_
 first|refine A0 (B3 ?_)|skip
 refine A0 (wpAny_sequenceKey ht.typeIs (by decide) ?_)
 refine A0 (O1 (name:=Str.ofString "__getitem__") ht.typeIs E1
  (L5 E1 ht.typeIs entry_tuple_getitem ?_ (args_tuple_getitem _ _)))
 show wpAny _ _ (Builtin.Tuple.tupleItemsOf (.ref t) >>= _) _ _ s;refine A0 (tupleItemsOf_ ht ?_);refine A0 (wpAny_typeOf hTs ?_);rw[A4 (by decide)];refine A0 (pN hs ps ?_);show wpAny _ _ (if (((items.size:Int)-1)==0&&(-1:Int)==1&&items.size==items.size)=true then _ else _) _ _ s;rw[A6 (by rw[show((-1:Int)==1)=false from rfl,Bool.and_false,J8];exact A8),KH]
 first
  |exact A0 (m:=Builtin.Tuple.tupleExact _) (D7 (B3 ⟨_,rfl,B3 h⟩) htake)
  |exact A0 (m:=Builtin.Tuple.tupleExact _) (D7 (A0 (B3 (B3 ⟨_,rfl,B3 h⟩))) htake)
  |exact A0 (A0 (m:=Builtin.Tuple.tupleExact _) (D7 (B3 (B3 ⟨_,rfl,B3 h⟩)) htake))
  |exact A0 (A0 (m:=Builtin.Tuple.tupleExact _) (D7 (B3 ⟨_,rfl,B3 h⟩) htake))
end
end HT
namespace L2
variable{K:Fg}
open PySem PySem.Spec PyProof.Rows
theorem bB.rev:∀{xs:List V}{us:List Value},bB xs us->bB xs.reverse us.reverse
 |_,_,.nil=>.nil
 |_,_,.cons r t=>by
  rw[J3,J3];exact(bB.rev t).append (.cons r .nil)
noncomputable def WS(K:Fg):V->Hp->VK->Prop:=fun x H Q=>(∃a xs,x=.ref a/\SqL K H a xs/\∀p,H p=none->Q (.ref p) (upd H p (.lst xs.reverse)))\/∃a xs,x=.ref a/\SqT K H a xs/\∀p,H p=none->Q (.ref p) (upd H p (.tup xs.reverse))
theorem uQ(its:List Value):slicePick its.toArray none none (some (-1))=its.reverse.toArray:=by
 have b:sliceBounds none none (some (-1)) its.toArray.size=((its.length:Int)-1,-1,-1):=by
  unfold sliceBounds;rfl
 unfold slicePick;rw[b];congr 1;rw[<- HT.rev_pick its];unfold sliceRange;dsimp only;rw[A6 (by decide)]
 have c:(if (its.length:Int)-1 > -1 then((its.length:Int)-1 - -1 - -1-1) / -(-1)else 0).toNat=its.length:=by
  by_cases h:(its.length:Int)-1 > -1
  .rw[A4 h,show(-(-1:Int))=1 from rfl,Int.ediv_one];omega
  .rw[A6 h];omega
 rw[c,List.filterMap_map];refine HT.fm_congr fun m hm=>?_;have:=List.mem_range.mp hm;show its.toArray[((its.length:Int)-1+-1*(m:Int)).toNat]?=_;rw[show((its.length:Int)-1+-1*(m:Int)).toNat=its.length-1-m by omega,List.getElem?_toArray]
section
variable{X:Cx}{e st:Expr}{te:TE}{th:TO}{pos p2:Pos}
theorem QY{pins:List (Addr×Obj)}{s:Shared}{σ:St}{H:Hp}{x:V}{v vs:Value}{sl:Addr}{Q:VK}(I:Inv X pins σ H s)(rx:RelV x v)(hs:s.heap.IsSliceOf sl .none .none vs)(ps:IsPart vs (some (-1)))(h:WS X.K x H Q):
 ∃T id,typeLookup (.type T) "__getitem__"=pure (some (.builtin id))/\s.TypeIs v T/\wpAny (model X.prog X.w) X.A (getItem v (.ref sl)) (EP X pins σ Q) X.xe s:=by
 rcases h with⟨a,xs,rfl,hx,q⟩|⟨a,xs,rfl,hx,q⟩
 .cases rx;obtain⟨its,r,ht,hz⟩:=I.list hx;have hlen:=r.length;refine⟨"list",_,slot_list_getitem.lookup,ht.isList.typeIs,?_⟩;refine wpAny_getItem_list_slice ht.isList hs .none .none ps (by decide) ?_ (by rw[C0]<;>omega);rw[uQ];refine⟨.ref s.heap.objs.size,_,I.laid (t':=s.toks) (o:=.lst xs.reverse) (fun b ob q=>A3 _ q) (A7 _) ?_,rfl,q _ (I.hok.fresh (A7 _))⟩;exact⟨by rw[L8];exact hz,_,0,r.rev,C7 _ rfl⟩
 .cases rx;obtain⟨its,r,ht,hz⟩:=I.tuple hx;have hlen:its.toArray.size=xs.length:=by rw[C0];exact r.length.symm
  refine⟨"tuple",_,PyProof.Rows.slot_tuple_getitem.lookup,ht.typeIs,?_⟩;refine HT.getItem_tuple_rev ht hs ps ?_ (by rw[hlen];exact hz);refine⟨.ref s.heap.objs.size,_,I.laid (t':=s.toks) (o:=.tup xs.reverse) (fun b ob q=>A3 _ q) (A7 _) ?_,rfl,q _ (I.hok.fresh (A7 _))⟩;exact⟨by rw[L8];exact hz,_,r.rev,IsTup.new _ _⟩
noncomputable def aAS(K:Fg)(te:TE)(th:TO):TE:=fun σ H Q=>te σ H fun x H1=>th σ H1 fun u H2=>u=some (-1)/\WS K x H2 Q
theorem VC(he:PE X e te)(hu:PO X (some st) th):PE X (.Subscript e (.Slice none none (some st) p2) pos) (aAS X.K te th):=by
 intro pins s σ H Q I h;refine Subscript_ (thn (he pins s σ H _ I h) fun v s1 ⟨x,H1,I1,r1,q1⟩=>?_);refine wpAny_Slice ?_;rw[evalPart_none];refine B3 (B3 ?_);refine thn (hu pins s1 σ H1 _ I1 q1) fun vu s3 ⟨u,H3,I3,pu,q3⟩=>?_;obtain⟨rfl,q⟩:=q3;have I4:Inv X pins σ H3 { s3 with heap:=s3.heap.push { cls:=.type "slice",data:=.fields #[.none,.none,vu] } }:=I3.kept (t':=s3.toks) fun b ob q=>A3 _ q;obtain⟨T,id,hT,ht,hg⟩:=QY I4 r1 (Heap.IsSliceOf.new ..) pu q;show wpAny (model X.prog X.w) X.A (subscriptTail e (.Slice none none (some st) p2) v (.ref s3.heap.objs.size)) (EP X pins σ Q) X.xe { s3 with heap:=s3.heap.push { cls:=.type "slice",data:=.fields #[.none,.none,vu] } };exact tail_any (ops:=[v,.ref s3.heap.objs.size]) ht hT hg (by with_unfolding_all rfl)
end
noncomputable def JW:CD->Sto->Option (CD×Sto)
 |.d (.list ds),M=>some (.d (.list ds.reverse),M)
 |.d (.tuple ds),M=>some (.d (.tuple ds.reverse),M)
 |_,_=>none
noncomputable def PJ(f:EF)(u:OF):EF:=fun γ M=>(f γ M).bind fun r=>(u γ r.2).bind fun q=>if q.1=some (-1)then JW r.1 q.2 else none
section
variable{K:Fg}
theorem aH.rev{H:Hp}:∀{ds:List PyData}{vs:List V},aH K H ds vs->aH K H ds.reverse vs.reverse
 |[],vs=>fun h=>by rw[show vs=[]from h];rfl
 |d::ds,vs=>fun h=>by
  obtain⟨v,r,rfl,h2,h3⟩:=h;rw[J3,J3];exact aH.app (aH.rev h3) ⟨v,[],rfl,h2,rfl⟩
theorem HE{x:CD}{M:Sto}{z:CD}{M':Sto}(h:JW x M=some (z,M')){W:Wd}{H:Hp}{v:V}{Q:VK}(G:Good K W M H)(rx:cA K W x v)(k:∀w W' H',W.Ext W'->Good K W' M' H'->cA K W' z w->Q w H'):WS K v H Q:=by
 unfold JW at h;split at h
 .rename_i ds;cases h;obtain⟨p,us,rfl,hq,hr⟩:=(show ∃a us,_=V.ref a/\SqL K W.F a us/\aH K W.F ds us from rx);refine .inl ⟨p,us,rfl,G.fh.seq hq,fun l hl=>?_⟩;obtain⟨e2,G2⟩:=G.lay (o:=.lst us.reverse) hl;exact k _ _ _ e2 G2 ⟨l,_,rfl,SqL.of aT,aH.same e2.ff _ _ hr.rev⟩
 .rename_i ds;cases h;obtain⟨p,us,rfl,hq,hr⟩:=(show ∃a us,_=V.ref a/\SqT K W.F a us/\aH K W.F ds us from rx);refine .inr ⟨p,us,rfl,G.fh.seqT hq,fun l hl=>?_⟩;obtain⟨e2,G2⟩:=G.lay (o:=.tup us.reverse) hl;exact k _ _ _ e2 G2 ⟨l,_,rfl,SqT.of aT,aH.same e2.ff _ _ hr.rev⟩
 .cases h
theorem XF{ta:TE}{f:EF}{th:TO}{u:OF}(a:SE K ta f)(c:SO K th u):SE K (aAS K ta th) (PJ f u):=by
 intro γ M x M' hh W H σ Q G R k;obtain⟨⟨y,M1⟩,h1,hh⟩:=aI hh;obtain⟨⟨q,M3⟩,h3,hh⟩:=aI hh;refine a _ _ _ _ h1 W H σ _ G R fun v W1 H1 e1 G1 r1=>?_;refine c _ _ _ _ h3 W1 H1 σ _ G1 (R.up e1) fun W3 H3 e3 G3=>?_;have hh:(if q=some (-1)then JW y M3 else none)=some (x,M'):=hh;by_cases hq:q=some (-1)
 .rw[A4 hq]at hh;exact⟨hq,HE hh G3 (r1.up e3) fun w W4 H4 e4 G4 r4=>k w W4 H4 ((e1.trans e3).trans e4) G4 r4⟩
 .rw[A6 hq]at hh;cases hh
end
section
variable{ι:Type}{K:Fg}{X:ι->Cx}{a st:Expr}{f:EF}{u:OF}{pos p2:Pos}
theorem UY(hK:∀i,(X i).K=K)(x:ME K X a f)(z:MO K X (some st) u):ME K X (.Subscript a (.Slice none none (some st) p2) pos) (PJ f u):=by
 obtain⟨t,x1,x2⟩:=x.ex;obtain⟨t',z1,z2⟩:=z.ex;exact⟨_,fun i=>by have:=VC (p2:=p2) (pos:=pos) (x1 i) (z1 i);rw[hK i]at this;exact this,XF x2 z2⟩
end
section
open PySem.SeqAt
open PySem.AutoSeq1 (wpAny_loadPart')
open PySem.MeetsSeq PySem.MeetsSeq2 PySem.MeetsSeq3
theorem PH{prog:Program}{w:World}{A:Around}{E:Value->Shared->Prop}{s:Shared}{p q:Value}{x y:PyData}{as bs:List Addr}{c:Bool}(hu:A.units<cLine)(r1:Reads s.heap p x as)(r2:Reads s.heap q y bs)(h:dP x y=some c):
 ∀Q:Value->Shared->Prop,Q (.bool c) s->wpAny (model prog w) A (richCompare .Lt p q) Q E s:=by
 intro Q k;unfold dP at h;split at h
 .rename_i a b;cases r1;cases r2;cases h;exact HT.rcLt_int _ _ _ _ _ _ _ _ _ _ k
 .rename_i xs ys;obtain⟨ns,h1,h⟩:=Option.bind_eq_some_iff.mp h;obtain⟨ms,h2,h⟩:=Option.bind_eq_some_iff.mp h;cases h;cases r1 with
  |tuple g1 g2 g3 g4=>
   cases r2 with
   |tuple k1 k2 k3 k4=>exact HT.lt_tupInts ⟨_,g1,g2,_,g3⟩ ⟨_,k1,k2,_,k3⟩ (jX g4 h1) (jX k4 h2) hu k
 .cases h
theorem uT(l b:Addr)(us us2:Array Value)(n n2:Nat)(dd dd2:Option Addr)(sl sl2:Array (Option Value))(xs ys:List PyData)(c:Bool):
 Meets (Builtin.«tuple.__lt__» ⟨[.ref l,.ref b],[]⟩)
  (fun A R s=>(A.in1.units+64<cLine/\(∃as,ReadsAll s.heap us.toList xs as)/\(∃bs,ReadsAll s.heap us2.toList ys bs)/\xs.all SeqAt.shaped=true/\ys.all SeqAt.shaped=true/\cC xs ys=some c) /\
   s.heap.get? l=some { cls:=.type "tuple",dict:=dd,data:=.seq us n,slots:=sl }/\s.heap.get? b=some { cls:=.type "tuple",dict:=dd2,data:=.seq us2 n2,slots:=sl2 } /\
   R (.ok (.ret (.bool c))) s):=
 .of_wp fun prog w A R s h=>by
  obtain⟨hp,g,d,tk,os⟩:=s;obtain⟨⟨hu,⟨as,hi⟩,⟨bs,hj⟩,s1,s2,hc⟩,hl,hb,h⟩:=h;have f2:=AutoSeq1.sub_tuple_tuple;have z1:us.size=xs.length:=by rw[<- ReadsAll.len hi];simp
  have z2:us2.size=ys.length:=by rw[<- ReadsAll.len hj];simp
  wp_walk using L7 hl,L7 hb,wpAny_forIn_list _ (fun rest b s'=>b.1=none/\s'=⟨hp,g,d,tk,os⟩/\∃(vs ws:List Value)(xs' ys':List PyData),rest=vs.zip ws /\
   (∃as,ReadsAll hp vs xs' as)/\(∃bs,ReadsAll hp ws ys' bs)/\xs'.all SeqAt.shaped=true/\ys'.all SeqAt.shaped=true/\xs'.length+us2.size=ys'.length+us.size/\cC xs' ys'=some c) _
  case turn=>
   rintro⟨y,x⟩ rest b s' ⟨hb',rfl,vs,ws,xs',ys',hz,⟨as',ha⟩,⟨bs',hb2⟩,t1,t2,hlen,hR⟩;cases ha with
   |nil=>rw[List.zip_nil_left]at hz;cases hz
   |cons a1 a2=>
    cases hb2 with
    |nil=>rw[List.zip_nil_right]at hz;cases hz
    |cons b1 b2=>
     rename_i dx dxs _ dy dys _;rw[S6]at hz;injection hz with hyx hrest
     injection hyx with hy hx
     subst hy hx;rw[U2,B2]at t1 t2;simp only[List.length_cons]at hlen;refine A0 (SeqAt.eqAt_reads _ _ A.in1 ⟨hp,g,d,tk,os⟩ _ _ _ _ a1 b1 (U4 t1.1) (U4 t2.1) (SeqAt.room_of_shaped t1.1 hu) prog w _ _ ?_);have hR:(if PyData.eqv _ _=true then cC _ _ else dP _ _)=some c:=hR;revert hR;split
     .rename_i e;intro hR;rw[e]
      wp_walk
      exact⟨rfl,rfl,_,_,_,_,hrest,⟨_,a2⟩,⟨_,b2⟩,t1.2,t2.2,by omega,hR⟩
     .rename_i e;intro hR;rw[Bool.eq_false_iff.mpr e];have hri:=fun E=>PH (prog:=prog) (w:=w) (A:=A.in1) (E:=E) (s:=⟨hp,g,d,tk,os⟩) (Nat.lt_of_le_of_lt (I0 _ 64) hu) a1 b1 hR
      wp_walk using hri
      exact⟨_,rfl,by simpa using h⟩
  case fin=>
   rintro⟨b1,b2⟩ s' ⟨hb',rfl,vs,ws,xs',ys',hz,⟨as',ha⟩,⟨bs',hb2⟩,t1,t2,hlen,hR⟩;simp only at hb';subst hb'
   have hv:c=decide (us.size<us2.size):=by
    cases ha with
    |nil=>
     have hR:some (decide (0<ys'.length))=some c:=hR;cases hR;simp only[List.length_nil]at hlen;exact decide_eq_decide.mpr (by omega)
    |cons a1 a2=>
     cases hb2 with
     |nil=>
      cases hR;simp only[List.length_nil,List.length_cons]at hlen;exact(C3 (by omega)).symm
     |cons b1 b2=>
      rw[S6]at hz;cases hz
   rw[hv]at h
   wp_walk
   exact⟨_,rfl,by simpa[Builtin.Tuple.tupleCompareSizes]using h⟩
  case h=>
   exact⟨rfl,rfl,us.toList,us2.toList,xs,ys,rfl,⟨_,hi⟩,⟨_,hj⟩,s1,s2,by omega,hc⟩
end
section
variable{prog:Program}{w:World}{A:Around}{E:Value->Shared->Prop}{s:Shared}
theorem OE{p q:Value}{xs ys:List PyData}{as bs:List Addr}{c:Bool}{Q:Value->Shared->Prop}(r1:Reads s.heap p (.tuple xs) as)(r2:Reads s.heap q (.tuple ys) bs)(s1:xs.all SeqAt.shaped=true)(s2:ys.all SeqAt.shaped=true)(hc:cC xs ys=some c)
 (hu:A.in1.units+64<cLine) (h:Q (.bool c) s):wpAny (model prog w) A (compareOp .Lt p q) Q E s:=by
 cases r1 with
 |tuple a1 a2 a3 a4=>
  cases r2 with
  |tuple b1 b2 b3 b4=>
   rename_i o1 _ _ _ o2 _ _;obtain⟨cls,dd,data,sl⟩:=o1;obtain⟨cls2,dd2,data2,sl2⟩:=o2;simp only at a2 a3 b2 b3;subst a2 a3 b2 b3
   exact richCompare_meets_room (op:=.Lt) ⟨_,a1,rfl⟩ ⟨_,b1,rfl⟩ PySem.F.slot_tuple_lt PySem.F.entry_tuple_lt (PySem.F.args_tuple_lt_2 _ _) (uT _ _ _ _ _ _ dd dd2 sl sl2 xs ys c)
    ⟨⟨hu,⟨_,a4⟩,⟨_,b4⟩,s1,s2,hc⟩,a1,b1,show Value.bool c≠Value.notImplemented/\Q (.bool c) s from⟨(fun x=>nomatch x),h⟩⟩ (Nat.lt_of_le_of_lt (U8 (B9 (J6 _) (I0 _ 64))) hu)
end
section
variable{X:Cx}
noncomputable def VL(K:Fg):R2:=fun x y H Q=>∃xs ys c,Rep K H (.tuple xs) x/\Rep K H (.tuple ys) y/\xs.all SeqAt.shaped=true/\ys.all SeqAt.shaped=true/\cC xs ys=some c/\Q (.bl c) H
theorem WZ(hu:X.A.in1.units+64<cLine):OpR X (compareOp .Lt) (VL X.K):=by
 intro pins s σ H x y v u Q I rx ry h;obtain⟨xs,ys,c,hx,hy,s1,s2,hc,q⟩:=h;obtain⟨as,ha⟩:=Rep.reads I _ x v hx rx;obtain⟨bs,hb⟩:=Rep.reads I _ y u hy ry;exact OE ha hb s1 s2 hc hu ⟨.bl _,H,I,rfl,q⟩
end
noncomputable def ltD:F2:=fun x y M=>match x,y with
 |.d (.tuple xs),.d (.tuple ys)=>if (xs.all SeqAt.shaped&&ys.all SeqAt.shaped)=true then(cC xs ys).bind fun c=>some (.d (.bool c),M)else none
 |_,_=>none
noncomputable def ltX:F2:=yU ltI ltD
section
variable{K:Fg}
theorem XQ:P2 K (VL K) ltD:=by
 intro x y M z M' h W H v u Q G rx ry k;unfold ltD at h;split at h
 .rename_i xs ys;by_cases hs:(xs.all SeqAt.shaped&&ys.all SeqAt.shaped)=true
  .rw[A4 hs]at h;obtain⟨c,h1,h⟩:=aI h;cases h;rw[B2]at hs;exact⟨xs,ys,c,Rep.same G.fh _ _ rx,Rep.same G.fh _ _ ry,hs.1,hs.2,h1,k _ W H (.refl _) G rfl⟩
  .rw[A6 hs]at h;cases h
 .cases h
end
section
variable{ι:Type}{K:Fg}{X:ι->Cx}
theorem QJ{X:Cx}(e:X.K=K)(hu:X.A.in1.units+64<cLine):OpR X (compareOp .Lt) (VL K):=by subst e;exact WZ hu
theorem UB(hK:∀i,(X i).K=K)(hu:∀i,(X i).A.in1.units+64<cLine):Q2 K X (compareOp .Lt) ltX:=⟨_,fun i=>op_lt.or (QJ (hK i) (hu i)),P2.or UG XQ⟩
end
noncomputable def CG:List (CD×CD)->Option (List (Key×CD))
 |[]=>some []
 |(k,x)::r=>(keyOf k).bind fun k'=>(CG r).bind fun q=>some ((k',x)::q)
noncomputable def sO(fs:List (EF×EF)):EF:=fun γ M=>(xW fs γ (M++[.dk []])).bind fun r=>match r.2[M.length]? with
 |some (.dk [])=>(CG r.1).bind fun kvs=>if kvs.length<=15/\(kvs.map (·.1)).Nodup then some (.c M.length,r.2.set M.length (.dk kvs))else none
 |_=>none
section
variable{K:Fg}
theorem tH{W:Wd}:∀{xs:List (CD×CD)}{kvs:List (Key×CD)}{vs:List (V×V)},CG xs=some kvs->Paired (fun a b=>cA K W a.1 b.1/\cA K W a.2 b.2) xs vs->
 ∃us:List (Key×V),vs=us.map (fun p=>(kV p.1,p.2))/\us.map (·.1)=kvs.map (·.1)/\Paired (fun p q=>p.1=q.1/\cA K W p.2 q.2) kvs us
 |[],kvs,vs=>fun h r=>by
  cases h;cases r;exact⟨[],rfl,rfl,.nil⟩
 |(k,x)::xs,kvs,vs=>fun h r=>by
  obtain⟨k',h1,h⟩:=aI (show(keyOf k).bind _=_ from h);obtain⟨q,h2,h⟩:=aI h;cases h;cases r with
  |@cons _ b _ vs' r1 r2=>
   obtain⟨us,e1,e2,e3⟩:=tH h2 r2;refine⟨(k',b.2)::us,?_,?_,.cons ⟨rfl,r1.2⟩ e3⟩
   .rw[B8,<- e1,<- vX h1 r1.1]
   .rw[B8,B8,e2]
theorem IH{ts:List (TE×TE)}{fs:List (EF×EF)}(sp:SPs K ts fs):SE K (UD ts) (sO fs):=by
 intro γ M x M' hh W H σ Q G R k;obtain⟨⟨xs,M1⟩,h1,hh⟩:=aI hh;intro p hp;have G1:=G.new hp (c:=.dk []) (o:=.dK []) (show Paired _ [] []from .nil);have e1:=W.ext_more p;refine LM sp h1 G1 (R.up e1) fun vs W2 H2 e2 G2 r2=>?_;dsimp only at hh;split at hh
 .rename_i hM;obtain⟨kvs,h2,hh⟩:=aI hh;by_cases hc:kvs.length<=15/\(kvs.map (·.1)).Nodup
  .rw[A4 hc]at hh;cases hh
   have al:W2.α M.length=p:=by
    rw[e2.al M.length (by show M.length<W.n+1;rw[G.n];exact J6 _)];show(if M.length=W.n then p else _)=p;rw[A4 G.n.symm]
   obtain⟨_,o,g2,g3⟩:=G2.cs _ _ hM (by intro z;cases z);rw[al]at g2
   have ho:o=.dK []:=by
    cases o with
    |dK us=>cases g3;rfl
    |_=>exact False.elim g3
   subst ho;obtain⟨us,z1,z2,z3⟩:=tH h2 r2;have nd:(us.map (·.1)).Nodup:=by rw[z2];exact hc.2
   have hl:us.length<=15:=by
    have:=F4 List.length z2;rw[A1,A1]at this;omega
   refine⟨g2,us,z1,hl,?_⟩;rw[vR us [] (by simpa using nd),List.nil_append];have G3:=G2.set (o':=.dK us) (c':=.dk kvs) hM (by intro z;cases z) z3;rw[al]at G3;refine k _ _ _ (e1.trans e2) G3 ⟨?_,by rw[al]⟩;exact B9 (by show M.length<W.n+1;rw[G.n];exact J6 _) e2.ln
  .rw[A6 hc]at hh;cases hh
 .cases hh
end
section
variable{ι:Type}{K:Fg}{X:ι->Cx}
theorem LL{pos:Pos}{ks:List (Option Expr)}{vs:List Expr}{fs:List (EF×EF)}(x:MD K X pos ks vs fs)(hall:ks.all (·.isSome)=true:=by rfl)(hl:ks.length=vs.length:=by rfl)(h0:ks≠[]:=by simp)(h15:ks.length<=15:=by simp):ME K X (.Dict ks vs pos) (sO fs):=by
 obtain⟨t,x1,x2⟩:=x.ex;exact⟨_,fun i=>RO (x1 i) hall hl h0 h15,IH x2⟩
end
noncomputable def BA(K:Fg):List V->Hp->VK->Prop:=fun xs H Q=>∃(p:Addr)(vs:List V),xs=[.ref p]/\SqT K H p vs/\JC K vs H Q
theorem xR{X:Cx}(hu:X.A.in1.in1.units+64<cLine):eU X (.builtin "sorted") (BA X.K):=by
 intro pins s σ H xs us Q I r h;obtain⟨p,vs,rfl,hp,q⟩:=h;obtain⟨u,rfl,ru⟩:=vals1 r;cases ru;obtain⟨its,rv,⟨o,ho,hc,n,hd⟩,hz⟩:=I.tuple hp;have hl:=rv.length;refine Calls.call_function_entry kind_sorted plain_sorted entry_sorted (args_sorted1 _) ?_;unfold Builtin.«sorted»;refine A0 (m:=checkCount "sorted" 1 1 _) (B3 ?_);refine A0 (wpAny_collect_seq _ (.inr rfl) ho hc hd (fun h' hk=>?_) (by simp;omega));exact WM (A:=X.A.in1) hu (I.kept (t':=s.toks) hk) (its:=its.toArray.toList) rv q
theorem VN{X:Cx}(h:X.K=K)(hu:X.A.in1.in1.units+64<cLine):eU X (.builtin "sorted") (BA K):=by subst h;exact xR hu
noncomputable def tQ:FN:=fun xs M=>match xs with
 |[.d (.tuple ds)]=>(rowsOf ds).bind fun rows=>(lZ rows).bind fun r=>some (.d (.list r),M)
 |_=>none
theorem JE:PN K (BA K) tQ:=by
 intro xs M z M' h W H vs Q G r k;unfold tQ at h;split at h
 .rename_i ds;obtain⟨rows,h1,h⟩:=aI h;obtain⟨y,h3,h⟩:=aI h;cases h;rcases r with _|⟨r1,_|_⟩;obtain⟨p,us,rfl,hq,hr⟩:=(show ∃a us,_=V.ref a/\SqT K W.F a us/\aH K W.F ds us from r1);rw[mU h1]at hr;refine⟨p,us,rfl,G.fh.seqT hq,?_⟩;unfold lZ at h3;by_cases hs:sortable rows=true
  .rw[A4 hs]at h3;cases h3;obtain⟨s1,s2,s3,s4,s5⟩:=gK hs;refine .inl ⟨rows,aH.same G.fh _ _ hr,s1,s2,s3,s4,s5,fun l hl=>?_⟩;obtain⟨e4,G4⟩:=G.lay (o:=.lst ((cT (dM rows) rows.length).map fun i=>us.getD i .non)) hl;exact k _ _ _ e4 G4 ⟨l,_,rfl,SqL.of aT,aH.same e4.ff _ _ (oW hr _ (LO (by omega)))⟩
  .rw[A6 hs]at h3;by_cases hl2:rows.length<2
   .rw[A4 hl2]at h3;cases h3;refine .inr ⟨by rw[<- hr.length,A1];exact hl2,fun l hl=>?_⟩;obtain⟨e4,G4⟩:=G.lay (o:=.lst us) hl;exact k _ _ _ e4 G4 ⟨l,_,rfl,SqL.of aT,aH.same e4.ff _ _ hr⟩
   .rw[A6 hl2]at h3;cases h3
 .cases h
theorem QC{ι:Type}{X:ι->Cx}(hK:∀i,(X i).K=K)(hu:∀i,(X i).A.in1.in1.units+64<cLine):QN K X (.builtin "sorted") tQ:=⟨_,fun i=>VN (hK i) (hu i),JE⟩
end L2
section
noncomputable section
namespace Q22
open PySem PySem.Spec PyProof.Rows L2
noncomputable def top(i:Nat):Stmt:=PySem.Challenge.pw_cutstree_k22_trees_told.main.body.getD i (.Pass ⟨0,0,0,0⟩)
theorem ar1{α:Type}{P:List α->Prop}{us:List α}(hl:us.length=1)(h:∀a0,P [a0]):P us:=by
 rcases us with _|⟨a0,_|⟨c,r⟩⟩<;>first|exact h _|cases hl
theorem ar2{α:Type}{P:List α->Prop}{us:List α}(hl:us.length=2)(h:∀a0 a1,P [a0,a1]):P us:=by
 rcases us with _|⟨a0,_|⟨a1,_|⟨c,r⟩⟩⟩<;>first|exact h _ _|cases hl
theorem ar3{α:Type}{P:List α->Prop}{us:List α}(hl:us.length=3)(h:∀a0 a1 a2,P [a0,a1,a2]):P us:=by
 rcases us with _|⟨a0,_|⟨a1,_|⟨a2,_|⟨c,r⟩⟩⟩⟩<;>first|exact h _ _ _|cases hl
set_option hygiene false
local macro_rules | `(tactic| sleep 990) => `(tactic| exact ⟨rfl, rfl, rfl, by decide +kernel, rfl, by decide +kernel, by decide +kernel⟩)
local macro_rules | `(tactic| sleep 991) => `(tactic| (intro _ _ _ _ _ _ _ hl; apply ar1 hl; intros; rfl))
local macro_rules | `(tactic| sleep 992) => `(tactic| (intro _ _ _ _ _ _ _ hl; apply ar2 hl; intros; rfl))
local macro_rules | `(tactic| sleep 993) => `(tactic| (intro _ _ _ _ _ _ _ hl; apply ar3 hl; intros; rfl))
set_option hygiene true
noncomputable abbrev kJ:Stmt:=top 18
noncomputable abbrev qA:List Str:=["_law_script","_law_many","_law_row","_law_odd_here","_law_deck_here","_law_k","_law_at","_law_one"]
noncomputable abbrev lT:List Str:=["_law_script","_law_many"]
theorem sc__law_deck:bA qA lT (aJ kJ):=by sleep 990
noncomputable def nK:EF:=(gI (aB (fC (.int 48271)) (aB (fC (.int 69621)) (aB (fC (.int 39373)) (aB (fC (.int 40692)) aG)))))
theorem uG(γ:Ga)(M:Sto):nK γ M=some (.d (.list [(.int 48271),(.int 69621),(.int 39373),(.int 40692)]),M):=rfl
noncomputable def dU:SF:=(aZ (bM (fOp eT (aE 5) (aM gN (aB (aE 2) aG))) (hName 6))
 (aZ (bM (fOp eT (fOp ixF (aE 2) (aE 6)) (fC (.int 1000000))) (hName 7))
 (aZ (sIf (gB (fOp (eqX false) (aE 3) (fC (.int 0))))
  (aZ (bM (fOp eT (fOp cH (fOp cH (fOp ixF (aE 2) (aE 6)) (fOp uV (fOp uV (aE 5) (aE 5)) (fC (.int 16807)))) (fOp uV (fC (.int 3)) (aE 5))) (fC (.int 2147483629))) (hName 7))
 (aZ (bM (fOp eT (fOp cH (fOp uV (aE 7) (fOp ixF nK (fOp eT (aE 5) (fC (.int 4))))) (fC (.int 7))) (fC (.int 2147483647))) (hName 7))
 (bM (fOp eT (fOp uV (aE 7) (aE 7)) (fC (.int 2147483629))) (hName 7))))
  (bM (fOp hX (fOp ixF (aE 2) (aE 6)) (fC (.int 1000000))) (hSub (aE 2) (aE 6) xY)))
 (lC (cM "list" bY (aE 4) (aB (aE 7) aG))))))
noncomputable def iT:SF:=(aZ (bM (aM wJ (aB (aE 0) aG)) (hName 2))
 (aZ (sIf (gB (fOp (eqY false) (aE 2) (gI aG)))
  (bM (kS (aB (fC (.int 4)) aG)) (hName 2))
  cL)
 (aZ (bM (fOp eT (fOp ixF (aE 2) (fC (.int 0))) (fC (.int 2))) (hName 3))
 (aZ (bM (fOp hX (fOp ixF (aE 2) (fC (.int 0))) (fC (.int 2))) (hSub (aE 2) (fC (.int 0)) xY))
 (aZ (bM (kS aG) (hName 4))
 (aZ (jA (gS (aB (aE 1) aG)) (hName 5) dU)
 (aZ (lC (cM "list" iH (aE 4) aG))
 (bU (aE 4)))))))))
noncomputable def iS:FN:=fnF 2 8 iT
noncomputable abbrev pL:Stmt:=top 2
noncomputable abbrev zR:List Str:=["thing"]
noncomputable abbrev uB:List Str:=["thing"]
theorem GG:bA zR uB (aJ pL):=by sleep 990
noncomputable def AJ:SF:=(bU (zF "list" "tuple" (aE 0)))
noncomputable def AO:FN:=fnF 1 1 AJ
noncomputable abbrev kL:Stmt:=top 3
noncomputable abbrev qI:List Str:=["thing","length"]
noncomputable abbrev mE:List Str:=["thing","length"]
theorem xG:bA qI mE (aJ kL):=by sleep 990
noncomputable def qB:SF:=(bU (jQ (aM AO (aB (aE 0) aG)) (fOp (eqX false) (aM gN (aB (aE 0) aG)) (aE 1))))
noncomputable def gE:FN:=fnF 2 2 qB
noncomputable abbrev pO:Stmt:=top 11
noncomputable abbrev zI:List Str:=["one","other"]
noncomputable abbrev tX:List Str:=["one","other"]
theorem sc_common:bA zI tX (aJ pO):=by sleep 990
noncomputable def nT:SF:=(mG (uK (aE 1)) (uU 0 1 (aB (aE 1) (aB (fOp eT (aE 0) (aE 1)) aG))))
noncomputable def AH:SF:=(aZ nT
 (bU (aE 0)))
noncomputable def rN:FN:=fnF 2 2 AH
noncomputable abbrev lR:Stmt:=top 1
noncomputable abbrev tR:List Str:=["thing"]
noncomputable abbrev nO:List Str:=["thing"]
theorem yP:bA tR nO (aJ lR):=by sleep 990
noncomputable def rM:SF:=(bU (jQ (pB "int" (aE 0)) (BK (pB "bool" (aE 0)))))
noncomputable def iI:FN:=fnF 1 1 rM
noncomputable abbrev dX:Stmt:=top 10
noncomputable abbrev gG:List Str:=["thing"]
noncomputable abbrev eG:List Str:=["thing"]
theorem lF:bA gG eG (aJ dX):=by sleep 990
noncomputable def cG:SF:=(aZ (sIf (gOr (fB (gB (aM gE (aB (aE 0) (aB (fC (.int 2)) aG))))) (gOr (fB (gB (aM iI (aB (fOp ixF (aE 0) (fC (.int 0))) aG)))) (fB (gB (aM iI (aB (fOp ixF (aE 0) (fC (.int 1))) aG))))))
 (bU (fC (.bool false)))
 cL)
 (bU (jQ (fOp geI (fOp ixF (aE 0) (fC (.int 0))) (fC (.int 0))) (fOp geI (fOp ixF (aE 0) (fC (.int 1))) (fC (.int 1))))))
noncomputable def bK:FN:=fnF 1 1 cG
noncomputable abbrev kH:Stmt:=top 9
noncomputable abbrev qD:List Str:=["thing"]
noncomputable abbrev mB:List Str:=["thing"]
theorem xD:bA qD mB (aJ kH):=by sleep 990
noncomputable def gF:SF:=(bU (jQ (aM bK (aB (aE 0) aG)) (fOp (eqX false) (aM rN (aB (fOp ixF (aE 0) (fC (.int 0))) (aB (fOp ixF (aE 0) (fC (.int 1))) aG))) (fC (.int 1)))))
noncomputable def eC:FN:=fnF 1 1 gF
noncomputable abbrev mH:Stmt:=top 4
noncomputable abbrev rZ:List Str:=["many","thing"]
noncomputable abbrev nS:List Str:=["many","thing"]
theorem AR:bA rZ nS (aJ mH):=by sleep 990
noncomputable def kM:SF:=(bU (jQ (aM iI (aB (aE 1) aG)) (nP leI ltI (fC (.int 0)) (aE 1) (aE 0))))
noncomputable def fR:FN:=fnF 2 2 kM
noncomputable abbrev eD:Stmt:=top 5
noncomputable abbrev gR:List Str:=["many","i","j"]
noncomputable abbrev eP:List Str:=["many","i","j"]
theorem lS:bA gR eP (aJ eD):=by sleep 990
noncomputable def cK:SF:=(bU (jQ (aM fR (aB (aE 0) (aB (aE 1) aG))) (jQ (aM fR (aB (aE 0) (aB (aE 2) aG))) (fOp (eqX true) (aE 1) (aE 2)))))
noncomputable def bG:FN:=fnF 3 3 cK
noncomputable abbrev dZ:Stmt:=top 6
noncomputable abbrev gQ:List Str:=["many","thing"]
noncomputable abbrev eO:List Str:=["many","thing"]
theorem lJ:bA gQ eO (aJ dZ):=by sleep 990
noncomputable def bT:SF:=(bU (jQ (aM gE (aB (aE 1) (aB (fC (.int 3)) aG))) (jQ (aM bG (aB (aE 0) (aB (fOp ixF (aE 1) (fC (.int 0))) (aB (fOp ixF (aE 1) (fC (.int 1))) aG)))) (fOp ltI (fOp ixF (aE 1) (fC (.int 0))) (fOp ixF (aE 1) (fC (.int 1)))))))
noncomputable def aX:FN:=fnF 2 2 bT
noncomputable abbrev fJ:Stmt:=top 16
noncomputable abbrev jM:List Str:=["tree","beside","at","row"]
noncomputable abbrev jI:List Str:=["tree"]
theorem sc_rows_beside:bA jM jI (aJ fJ):=by sleep 990
noncomputable def gM:EF:=(IM [none] (gS (aB (fOp cH (aM gN (aB (aE 0) aG)) (fC (.int 1))) aG)) (hName 0) jP (kS aG))
noncomputable def eZ:SF:=(aZ (lC (cM "list" bY (fOp ixF (aE 1) (fOp ixF (aE 3) (fC (.int 0)))) (aB (bE (aB (fOp ixF (aE 3) (fC (.int 1))) (aB (aE 2) aG))) aG)))
 (lC (cM "list" bY (fOp ixF (aE 1) (fOp ixF (aE 3) (fC (.int 1)))) (aB (bE (aB (fOp ixF (aE 3) (fC (.int 0))) (aB (aE 2) aG))) aG))))
noncomputable def jJ:SF:=(aZ (bM gM (hName 1))
 (aZ (jA (yZ (aB (aE 0) aG)) (nV 2 (dA (hName 2) (dA (hName 3) oB))) eZ)
 (bU (aE 1))))
noncomputable def gC:FN:=fnF 1 4 jJ
noncomputable abbrev jO:Stmt:=top 15
noncomputable abbrev oN:List Str:=["tree","start","beside","seen","waiting","steps","here","there","at"]
noncomputable abbrev kR:List Str:=["tree","start"]
theorem sc_steps_from:bA oN kR (aJ jO):=by sleep 990
noncomputable def cO:SF:=(sIf (gB (KO true (HD (aE 7)) (aE 3)))
 (aZ (wV (aE 3) (HD (aE 7)) (fC (.bool true)))
 (aZ (lC (cM "list" bY (aE 4) (aB (aE 7) aG)))
 (lC (cM "list" bY (aE 5) (aB (bE (aB (aE 6) (aB (aE 7) (aB (aE 8) aG)))) aG)))))
  cL)
noncomputable def mC:SF:=(mG (uK (aE 4)) (aZ (bM (cM "list" nW (aE 4) aG) (hName 6))
 (vO (mP (fOp ixF (aE 2) (aE 6))) (nV 2 (dA (hName 7) (dA (hName 8) oB))) cO)))
noncomputable def kC:SF:=(aZ (bM (aM gC (aB (aE 0) aG)) (hName 2))
 (aZ (bM (sO [((aE 1),(fC (.bool true)))]) (hName 3))
 (aZ (bM (kS (aB (aE 1) aG)) (hName 4))
 (aZ (bM (kS aG) (hName 5))
 (aZ mC
 (bU (aE 5)))))))
noncomputable def gT:FN:=fnF 2 9 kC
noncomputable abbrev gW:Stmt:=top 7
noncomputable abbrev lQ:List Str:=["row"]
noncomputable abbrev lH:List Str:=["row"]
theorem xF:bA lQ lH (aJ gW):=by sleep 990
noncomputable def jE:EF:=(fLc [none,none] (RU (aB (aE 0) (aB (fSl (aE 0) (dF (fC (.int 1))) bQ) aG))) (nV 2 (dA (hName 0) (dA (hName 1) oB))) jP (fOp ltX (aE 0) (aE 1)))
noncomputable def lO:SF:=(bU (aM zV (aB jE aG)))
noncomputable def iN:FN:=fnF 1 1 lO
noncomputable abbrev iK:Stmt:=top 14
noncomputable abbrev mS:List Str:=["many","tree"]
noncomputable abbrev pX:List Str:=["many","tree"]
theorem BM:bA mS pX (aJ iK):=by sleep 990
noncomputable def qE:EF:=(fLc [some 0,none] (eE (aE 1)) (hName 1) jP (jQ (aM aX (aB (aE 0) (aB (aE 1) aG))) (aM eC (aB (fOp ixF (aE 1) (fC (.int 2))) aG))))
noncomputable def qK:EF:=(fLc [none] (eE (aE 1)) (hName 0) jP (bE (aB (fOp ixF (aE 0) (fC (.int 0))) (aB (fOp ixF (aE 0) (fC (.int 1))) aG))))
noncomputable def fW:SF:=(aZ (sIf (gOr (gB (fOp gtI (aE 0) (fC (.int 40)))) (fB (gB (aM gE (aB (aE 1) (aB (fOp zE (aE 0) (fC (.int 1))) aG))))))
 (bU (fC (.bool false)))
 cL)
 (aZ (sIf (fB (gB (aM zV (aB qE aG))))
  (bU (fC (.bool false)))
  cL)
 (bU (jQ (aM iN (aB qK aG)) (fOp (eqX false) (aM gN (aB (aM gT (aB (aE 1) (aB (fC (.int 0)) aG))) aG)) (fOp zE (aE 0) (fC (.int 1))))))))
noncomputable def bL:FN:=fnF 2 2 fW
noncomputable abbrev iD:Stmt:=top 21
noncomputable abbrev nA:List Str:=["_law_draw","_law_some"]
noncomputable abbrev jB:List Str:=["_law_draw"]
theorem sc__law_amount:bA nA jB (aJ iD):=by sleep 990
noncomputable def gO:EF:=(gI (aB (bE (aB (fC (.int 0)) (aB (fC (.int 1)) aG))) (aB (bE (aB (fC (.int 1)) (aB (fC (.int 1)) aG))) (aB (bE (aB (fC (.int 1)) (aB (fC (.int 1)) aG))) (aB (bE (aB (fC (.int 2)) (aB (fC (.int 1)) aG))) (aB (bE (aB (fC (.int 1)) (aB (fC (.int 2)) aG))) (aB (bE (aB (fC (.int 3)) (aB (fC (.int 4)) aG))) (aB (bE (aB (fOp BY (fC (.int 10)) (fC (.int 30))) (aB (fC (.int 7)) aG))) (aB (bE (aB (fC (.int 5)) (aB (fOp cH (fOp BY (fC (.int 10)) (fC (.int 20))) (fC (.int 39))) aG))) aG)))))))))
theorem pA(γ:Ga)(M:Sto):gO γ M=some (.d (.list [(.tuple [(.int 0),(.int 1)]),(.tuple [(.int 1),(.int 1)]),(.tuple [(.int 1),(.int 1)]),(.tuple [(.int 2),(.int 1)]),(.tuple [(.int 1),(.int 2)]),(.tuple [(.int 3),(.int 4)]),(.tuple [(.int 1000000000000000000000000000000),(.int 7)]),(.tuple [(.int 5),(.int 100000000000000000039)])]),M):=rfl
noncomputable def jC:SF:=(aZ (bM gO (hName 1))
 (bU (fOp ixF (aE 1) (fOp eT (aE 0) (fC (.int 8))))))
noncomputable def fZ:FN:=fnF 1 2 jC
noncomputable abbrev jL:Stmt:=top 22
noncomputable abbrev oZ:List Str:=["_law_deck_here","_law_many","_law_rows","_law_k","_law_draw"]
noncomputable abbrev kN:List Str:=["_law_deck_here","_law_many"]
theorem sc__law_drawn:bA oZ kN (aJ jL):=by sleep 990
noncomputable def fL:SF:=(aZ (bM (cM "list" nW (aE 0) aG) (hName 4))
 (lC (cM "list" bY (aE 2) (aB (bE (aB (fOp eT (aE 4) (aE 3)) (aB (aE 3) (aB (aM fZ (aB (fOp hX (aE 4) (fC (.int 64))) aG)) aG)))) aG))))
noncomputable def kP:SF:=(aZ (bM (kS aG) (hName 2))
 (aZ (jA (vK (aB (fC (.int 1)) (aB (aE 1) aG))) (hName 3) fL)
 (bU (aM fV (aB (aM pU (aB (aE 2) aG)) aG)))))
noncomputable def eN:FN:=fnF 2 5 kP
noncomputable abbrev iJ:Stmt:=top 24
noncomputable abbrev nI:List Str:=["_law_thing"]
noncomputable abbrev jK:List Str:=["_law_thing"]
theorem rS:bA nI jK (aJ iJ):=by sleep 990
noncomputable def nF:SF:=(bU (zF "list" "tuple" (aE 0)))
noncomputable def eR:FN:=fnF 1 1 nF
noncomputable abbrev fQ:Stmt:=top 23
noncomputable abbrev kY:List Str:=["_law_thing","_law_least","_law_most"]
noncomputable abbrev gL:List Str:=["_law_thing","_law_least","_law_most"]
theorem pF:bA kY gL (aJ fQ):=by sleep 990
noncomputable def eX:SF:=(bU (jQ (pB "int" (aE 0)) (jQ (BK (pB "bool" (aE 0))) (nP leI leI (aE 1) (aE 0) (aE 2)))))
noncomputable def bX:FN:=fnF 3 3 eX
noncomputable abbrev hJ:Stmt:=top 19
noncomputable abbrev nH:List Str:=["_law_above","_law_below","_law_one","_law_other"]
noncomputable abbrev jH:List Str:=["_law_above","_law_below"]
theorem sc__law_lowest:bA nH jH (aJ hJ):=by sleep 990
noncomputable def kW:SF:=(mG (gB (fOp gtI (aE 3) (fC (.int 0)))) (uU 2 3 (aB (aE 3) (aB (fOp eT (aE 2) (aE 3)) aG))))
noncomputable def jD:SF:=(aZ (uU 2 3 (aB (aE 0) (aB (aE 1) aG)))
 (aZ kW
 (bU (bE (aB (fOp hX (aE 0) (aE 2)) (aB (fOp hX (aE 1) (aE 2)) aG))))))
noncomputable def gA:FN:=fnF 2 4 jD
noncomputable abbrev fG:Stmt:=top 25
noncomputable abbrev jY:List Str:=["_law_thing"]
noncomputable abbrev fU:List Str:=["_law_thing"]
theorem oT:bA jY fU (aJ fG):=by sleep 990
noncomputable def cB:SF:=(aZ (sIf (gOr (fB (gB (aM eR (aB (aE 0) aG)))) (gOr (gB (fOp (eqX true) (aM gN (aB (aE 0) aG)) (fC (.int 2)))) (fB (gB (aM bX (aB (fOp ixF (aE 0) (fC (.int 0))) (aB (fC (.int 0)) (aB (fOp BY (fC (.int 10)) (fC (.int 60))) aG))))))))
 (bU (fC (.bool false)))
 cL)
 (bU (jQ (aM bX (aB (fOp ixF (aE 0) (fC (.int 1))) (aB (fC (.int 1)) (aB (fOp BY (fC (.int 10)) (fC (.int 60))) aG)))) (fOp (eqX false) (aM gA (aB (fOp ixF (aE 0) (fC (.int 0))) (aB (fOp ixF (aE 0) (fC (.int 1))) aG))) (aM fV (aB (aE 0) aG))))))
noncomputable def bJ:FN:=fnF 1 1 cB
noncomputable abbrev eY:Stmt:=top 26
noncomputable abbrev iF:List Str:=["_law_many","_law_thing","_law_heaps","_law_before","_law_row","_law_old"]
noncomputable abbrev hW:List Str:=["_law_many","_law_thing"]
theorem sc__law_is_tree:bA iF hW (aJ eY):=by sleep 990
noncomputable def jU:EF:=(bE (aB (fUn yC (fC (.int 1))) (aB (fC (.int 0)) (aB (bE aG) aG))))
theorem iX(γ:Ga)(M:Sto):jU γ M=some (.d (.tuple [(.int (-1)),(.int 0),(.tuple [])]),M):=rfl
noncomputable def fP:EF:=(fLc [some 2,some 5,some 4,none] (eE (aE 2)) (hName 3) jP (fOp ixF (gI (aB (aE 3) (aB (fOp ixF (aE 0) (fOp ixF (aE 2) (fC (.int 0)))) aG))) (aM qX (aB (fOp (eqX false) (aE 3) (aE 1)) aG))))
noncomputable def aL:SF:=(aZ (sIf (gOr (fB (gB (aM eR (aB (aE 4) aG)))) (gOr (gB (fOp (eqX true) (aM gN (aB (aE 4) aG)) (fC (.int 3)))) (fB (gB (aM bJ (aB (fOp ixF (aE 4) (fC (.int 2))) aG))))))
 (bU (fC (.bool false)))
 cL)
 (aZ (sIf (gOr (fB (gB (aM bX (aB (fOp ixF (aE 4) (fC (.int 0))) (aB (fC (.int 0)) (aB (fOp zE (aE 0) (fC (.int 1))) aG)))))) (gOr (fB (gB (aM bX (aB (fOp ixF (aE 4) (fC (.int 1))) (aB (fC (.int 0)) (aB (fOp zE (aE 0) (fC (.int 1))) aG)))))) (gB (fOp geI (fOp ixF (aE 4) (fC (.int 0))) (fOp ixF (aE 4) (fC (.int 1)))))))
  (bU (fC (.bool false)))
  cL)
 (aZ (sIf (gOr (gB (fOp (eqX false) (fOp ixF (aE 2) (fOp ixF (aE 4) (fC (.int 0)))) (fOp ixF (aE 2) (fOp ixF (aE 4) (fC (.int 1)))))) (fB (gB (fOp ltX (aE 3) (bE (aB (fOp ixF (aE 4) (fC (.int 0))) (aB (fOp ixF (aE 4) (fC (.int 1))) (aB (aM fV (aB (fOp ixF (aE 4) (fC (.int 2))) aG)) aG))))))))
  (bU (fC (.bool false)))
  cL)
 (aZ (bM (bE (aB (fOp ixF (aE 4) (fC (.int 0))) (aB (fOp ixF (aE 4) (fC (.int 1))) (aB (aM fV (aB (fOp ixF (aE 4) (fC (.int 2))) aG)) aG)))) (hName 3))
 (aZ (bM (fOp ixF (aE 2) (fOp ixF (aE 4) (fC (.int 1)))) (hName 5))
 (bM fP (hName 2)))))))
noncomputable def dE:SF:=(aZ (sIf (gOr (fB (gB (aM eR (aB (aE 1) aG)))) (gB (fOp (eqX true) (aM gN (aB (aE 1) aG)) (fOp zE (aE 0) (fC (.int 1))))))
 (bU (fC (.bool false)))
 cL)
 (aZ (bM (nQ false (aB (aE 0) aG)) (hName 2))
 (aZ (bM jU (hName 3))
 (aZ (jA (eE (aE 1)) (hName 4) aL)
 (bU (fC (.bool true)))))))
noncomputable def bC:FN:=fnF 2 6 dE
noncomputable abbrev fY:Stmt:=top 20
noncomputable abbrev gX:List Str:=["_law_thing"]
noncomputable abbrev gU:List Str:=["_law_thing"]
theorem nD:bA gX gU (aJ fY):=by sleep 990
noncomputable def iB(self:FN):EF:=(fLc [none] (eE (aE 0)) (hName 0) jP (aM self (aB (aE 0) aG)))
noncomputable def gV(self:FN):SF:=(aZ (sIf (fB (gB (pB "tuple" (aE 0))))
 (bU (aE 0))
 cL)
 (bU (iB self)))
noncomputable def bI:Nat->FN
 |0=>fun _ _=>none
 |n+1=>fnF 1 1 (gV (bI n))
noncomputable abbrev jF:Stmt:=top 29
noncomputable abbrev oQ:List Str:=["_law_many","_law_thing","_law_other","_law_due","_law_one","_law_found"]
noncomputable abbrev kD:List Str:=["_law_many","_law_thing"]
theorem sc__law_right:bA oQ kD (aJ jF):=by sleep 990
noncomputable def fK:SF:=(aZ (bM (aM bL (aB (aE 2) (aB (aE 4) aG))) (hName 5))
 (sIf (gOr (fB (gB (pB "bool" (aE 5)))) (gB (fOp (eqX true) (aE 5) (aE 3))))
  (bU (fC (.bool false)))
  cL))
noncomputable def eI:SF:=(aZ (bM (aM bC (aB (aE 2) (aB (aE 1) aG))) (hName 3))
 (jA (eE (gI (aB (aE 1) (aB (aM (bI 6) (aB (aE 1) aG)) aG)))) (hName 4) fK))
noncomputable def jZ:SF:=(aZ (jA (eE (gI (aB (aE 0) (aB (fOp cH (fC (.int 1)) (fOp eT (aE 0) (fC (.int 40)))) aG)))) (hName 2) eI)
 (bU (fC (.bool true))))
noncomputable def dQ:FN:=fnF 2 6 jZ
noncomputable abbrev lN:Stmt:=top 27
noncomputable abbrev tE:List Str:=["_law_draw","_law_odd_here"]
noncomputable abbrev nX:List Str:=["_law_draw"]
theorem sc__law_odd:bA tE nX (aJ lN):=by sleep 990
noncomputable def kI:EF:=(gI (aB (fC .none) (aB (fC (.bool true)) (aB (fC (.int 0)) (aB (fC (.int 3)) (aB (fC (.str "0")) (aB (bE aG) (aB (gI aG) (aB BL (aB (bE (aB (fC (.int 0)) (aB (fC (.int 1)) aG))) (aB (bE (aB (bE (aB (fC (.int 0)) (aB (fC (.int 1)) aG))) aG)) (aB (bE (aB (bE (aB (fC (.int 0)) (aB (fC (.int 1)) (aB (bE (aB (fC (.int 1)) (aB (fC (.int 1)) aG))) (aB (fC (.int 0)) aG))))) aG)) (aB (bE (aB (bE (aB (fC (.int 0)) (aB (fC (.int 1)) (aB (fC (.int 1)) aG)))) aG)) (aB (bE (aB (bE (aB (fC (.int 0)) (aB (fC (.int 1)) (aB (bE (aB (fC (.int 2)) (aB (fC (.int 2)) aG))) aG)))) aG)) aG))))))))))))))
theorem uJ(γ:Ga)(M:Sto):kI γ M=some (.d (.list [.none,(.bool true),(.int 0),(.int 3),(.str "0"),(.tuple []),(.list []),(.dict []),(.tuple [(.int 0),(.int 1)]),(.tuple [(.tuple [(.int 0),(.int 1)])]),(.tuple [(.tuple [(.int 0),(.int 1),(.tuple [(.int 1),(.int 1)]),(.int 0)])]),(.tuple [(.tuple [(.int 0),(.int 1),(.int 1)])]),(.tuple [(.tuple [(.int 0),(.int 1),(.tuple [(.int 2),(.int 2)])])])]),M):=rfl
noncomputable def kB:EF:=(gI (aB (bE (aB (bE (aB (fC (.int 1)) (aB (fC (.int 0)) (aB (bE (aB (fC (.int 1)) (aB (fC (.int 1)) aG))) aG)))) aG)) (aB (bE (aB (bE (aB (fC (.int 0)) (aB (fC (.int 0)) (aB (bE (aB (fC (.int 1)) (aB (fC (.int 1)) aG))) aG)))) aG)) (aB (bE (aB (bE (aB (fC (.int 0)) (aB (fC (.int 1)) (aB (bE (aB (fUn yC (fC (.int 1))) (aB (fC (.int 1)) aG))) aG)))) aG)) (aB (bE (aB (bE (aB (fC (.int 0)) (aB (fC (.int 1)) (aB (bE (aB (fC (.int 1)) (aB (fC (.int 0)) aG))) aG)))) aG)) (aB (bE (aB (bE (aB (fC (.bool false)) (aB (fC (.bool true)) (aB (bE (aB (fC (.int 1)) (aB (fC (.int 1)) aG))) aG)))) aG)) aG))))))
theorem uH(γ:Ga)(M:Sto):kB γ M=some (.d (.list [(.tuple [(.tuple [(.int 1),(.int 0),(.tuple [(.int 1),(.int 1)])])]),(.tuple [(.tuple [(.int 0),(.int 0),(.tuple [(.int 1),(.int 1)])])]),(.tuple [(.tuple [(.int 0),(.int 1),(.tuple [(.int (-1)),(.int 1)])])]),(.tuple [(.tuple [(.int 0),(.int 1),(.tuple [(.int 1),(.int 0)])])]),(.tuple [(.tuple [(.bool false),(.bool true),(.tuple [(.int 1),(.int 1)])])])]),M):=rfl
noncomputable def nM:SF:=(aZ (bM kI (hName 1))
 (aZ (bM (fOp cH (aE 1) kB) (hName 1))
 (bU (fOp ixF (aE 1) (fOp eT (aE 0) (fC (.int 18)))))))
noncomputable def iE:FN:=fnF 1 2 nM
noncomputable abbrev kO:Stmt:=top 28
noncomputable abbrev qQ:List Str:=["_law_tree","_law_draw","_law_many","_law_way","_law_more","_law_at","_law_i","_law_j","_law_amount_here","_law_bent_here"]
noncomputable abbrev lU:List Str:=["_law_tree","_law_draw","_law_many"]
theorem sc__law_bent:bA qQ lU (aJ kO):=by sleep 990
noncomputable def mZ:EF:=(bE (aB (fUn yC (fC (.int 1))) (aB (fC (.int 1)) aG)))
theorem sL(γ:Ga)(M:Sto):mZ γ M=some (.d (.tuple [(.int (-1)),(.int 1)]),M):=rfl
noncomputable def mY:EF:=(gI (aB (fC (.bool true)) (aB (fC (.int 1)) aG)))
theorem rY(γ:Ga)(M:Sto):mY γ M=some (.d (.list [(.bool true),(.int 1)]),M):=rfl
noncomputable def bW:SF:=(aZ (bM (fOp eT (aE 1) (fC (.int 9))) (hName 3))
 (aZ (bM (fOp hX (aE 1) (fC (.int 9))) (hName 4))
 (aZ (sIf (gOr (gB (fOp (eqX false) (aE 3) (fC (.int 0)))) (gB (fOp (eqX false) (aE 0) (bE aG))))
  (bU (aM iE (aB (aE 4) aG)))
  cL)
 (aZ (bM (fOp eT (aE 4) (aM gN (aB (aE 0) aG))) (hName 5))
 (aZ (bM (fOp ixF (aE 0) (aE 5)) (nV 3 (dA (hName 6) (dA (hName 7) (dA (hName 8) oB)))))
 (aZ (sIf (gB (fOp (eqX false) (aE 3) (fC (.int 1))))
  (bU (fOp cH (fSl (aE 0) bQ (dF (aE 5))) (fSl (aE 0) (dF (fOp cH (aE 5) (fC (.int 1)))) bQ)))
  cL)
 (aZ (sIf (gB (fOp (eqX false) (aE 3) (fC (.int 2))))
  (bU (fOp cH (aE 0) (fSl (aE 0) (dF (aE 5)) (dF (fOp cH (aE 5) (fC (.int 1)))))))
  cL)
 (aZ (sIf (gB (fOp (eqX false) (aE 3) (fC (.int 3))))
  (bU (PJ (aE 0) (dF (fUn yC (fC (.int 1))))))
  cL)
 (aZ (sIf (gB (fOp (eqX false) (aE 3) (fC (.int 4))))
  (bU (fOp cH (fOp cH (fSl (aE 0) bQ (dF (aE 5))) (bE (aB (bE (aB (aE 7) (aB (aE 6) (aB (aE 8) aG)))) aG))) (fSl (aE 0) (dF (fOp cH (aE 5) (fC (.int 1)))) bQ)))
  cL)
 (aZ (sIf (gB (fOp (eqX false) (aE 3) (fC (.int 5))))
  (aZ (bM (kS (aB (bE (aB (fOp ixF (aE 8) (fC (.int 0))) (aB (fOp ixF (aE 8) (fC (.int 1))) (aB (fC (.int 1)) aG)))) (aB (bE (aB (fOp uV (fC (.int 2)) (fOp ixF (aE 8) (fC (.int 0)))) (aB (fOp uV (fC (.int 2)) (fOp ixF (aE 8) (fC (.int 1)))) aG))) (aB (bE (aB (fOp ixF (aE 8) (fC (.int 0))) (aB (fC (.int 0)) aG))) (aB mZ (aB (fOp ixF (aE 8) (fC (.int 0))) aG)))))) (hName 9))
 (aZ (lC (cM "list" bY (aE 9) (aB mY aG)))
 (bU (fOp cH (fOp cH (fSl (aE 0) bQ (dF (aE 5))) (bE (aB (bE (aB (aE 6) (aB (aE 7) (aB (fOp ixF (aE 9) (fOp eT (fOp hX (aE 4) (fC (.int 9))) (fC (.int 6)))) aG)))) aG))) (fSl (aE 0) (dF (fOp cH (aE 5) (fC (.int 1)))) bQ)))))
  cL)
 (aZ (sIf (gB (fOp (eqX false) (aE 3) (fC (.int 6))))
  (bU (fOp cH (fOp cH (fSl (aE 0) bQ (dF (aE 5))) (bE (aB (bE (aB (aE 6) (aB (fOp eT (fOp hX (aE 4) (fC (.int 9))) (fOp cH (aE 2) (fC (.int 1)))) (aB (aE 8) aG)))) aG))) (fSl (aE 0) (dF (fOp cH (aE 5) (fC (.int 1)))) bQ)))
  cL)
 (aZ (sIf (gB (fOp (eqX false) (aE 3) (fC (.int 7))))
  (bU (aM fV (aB (aM tQ (aB (fOp cH (fOp cH (fSl (aE 0) bQ (dF (aE 5))) (bE (aB (bE (aB (fC (.int 0)) (aB (fOp cH (fC (.int 1)) (fOp eT (fOp hX (aE 4) (fC (.int 9))) (aE 2))) (aB (aE 8) aG)))) aG))) (fSl (aE 0) (dF (fOp cH (aE 5) (fC (.int 1)))) bQ)) aG)) aG)))
  cL)
 (bU (fOp cH (fOp cH (fSl (aE 0) bQ (dF (aE 5))) (bE (aB (aM iE (aB (fOp hX (aE 4) (fC (.int 9))) aG)) aG))) (fSl (aE 0) (dF (fOp cH (aE 5) (fC (.int 1)))) bQ)))))))))))))))
noncomputable def bN:FN:=fnF 3 10 bW
noncomputable abbrev BH:Stmt:=top 30
noncomputable abbrev TJ:List Str:=["_law_script","_law_deck_here","_law_k","_law_many","_law_tree","_law_turn"]
noncomputable abbrev SM:List Str:=["_law_script"]
theorem sc_law:bA TJ SM (aJ BH):=by sleep 990
noncomputable def mM:SF:=(sIf (fB (gB (aM dQ (aB (aE 3) (aB (aM bN (aB (aE 4) (aB (cM "list" nW (aE 1) aG) (aB (aE 3) aG)))) aG)))))
 (bU (fC (.bool false)))
 cL)
noncomputable def oJ:SF:=(aZ (bM (fOp ixF (gI (aB (fOp cH (fC (.int 1)) (fOp eT (cM "list" nW (aE 1) aG) (fC (.int 9)))) (aB (fC (.int 40)) aG))) (aM qX (aB (fOp (eqX false) (aE 2) (fC (.int 2))) aG))) (hName 3))
 (aZ (bM (aM eN (aB (aE 1) (aB (aE 3) aG))) (hName 4))
 (aZ (sIf (gOr (fB (gB (aM bC (aB (aE 3) (aB (aE 4) aG))))) (fB (gB (aM dQ (aB (aE 3) (aB (aE 4) aG))))))
  (bU (fC (.bool false)))
  cL)
 (jA (gS (aB (fC (.int 4)) aG)) (hName 5) mM))))
noncomputable def LW:SF:=(aZ (bM (aM iS (aB (aE 0) (aB (fC (.int 110)) aG))) (hName 1))
 (aZ (sIf (gOr (fB (gB (aM bL (aB (fC (.int 1)) (aB (bE aG) aG))))) (gB (aM bL (aB (fC (.int 2)) (aB (bE aG) aG)))))
  (bU (fC (.bool false)))
  cL)
 (aZ (jA (gS (aB (fC (.int 3)) aG)) (hName 2) oJ)
 (bU (fC (.bool true))))))
noncomputable def F_law:FN:=fnF 1 6 LW
structure Txt(K:Fg)(mg:Str->Option Value):Prop where
 hB:GL mg ["all","bool","enumerate","int","isinstance","len","list","range","sorted","tuple","zip"]
 v38:∃t:Tok,mg "MOST_PLACES"=some (.int 40 t)
 v12:Def K mg "_law_deck" kJ
 v13:Def K mg "is_row" pL
 v14:Def K mg "is_row_of" kL
 v15:Def K mg "common" pO
 v16:Def K mg "is_whole" lR
 v17:Def K mg "has_amount_numbers" dX
 v18:Def K mg "is_amount" kH
 v19:Def K mg "is_place" mH
 v20:Def K mg "are_unlike_places" eD
 v21:Def K mg "is_between_places" dZ
 v22:Def K mg "rows_beside" fJ
 v23:Def K mg "steps_from" jO
 v24:Def K mg "is_rising" gW
 v25:Def K mg "is_tree" iK
 v26:Def K mg "_law_amount" iD
 v27:Def K mg "_law_drawn" jL
 v28:Def K mg "_law_is_row" iJ
 v29:Def K mg "_law_is_whole" fQ
 v30:Def K mg "_law_lowest" hJ
 v31:Def K mg "_law_is_amount" fG
 v32:Def K mg "_law_is_tree" eY
 v33:Def K mg "_law_lists" fY
 v34:Def K mg "_law_right" jF
 v35:Def K mg "_law_odd" lN
 v36:Def K mg "_law_bent" kO
 v37:Def K mg "law" BH
section
variable{P:Program}{w:World}{K:Fg}{mg:Str->Option Value}{base:Heap}
theorem xA(T:Txt K mg):Callee P w K mg base 1 "_law_deck" lT (spM K iS):=
 T.v12.okG (N:=qA) (ps:=lT) (k:=0) (b:=iT) sc__law_deck (by sleep 992) fun f cdv A outer s H E hr=>
  (aK (bF 2 (fun _=>sc__law_deck.nd) (gH (RA (fun _=>rfl)) (fun _=>T.hB.of "list") boot_list (aA (aC 0) aF)))
   (aK (dY (dG (aAU (fun _=>rfl) (fun _=>hr.units)) (aC 2) (hZ aF))
    (aN (bF 2 (fun _=>sc__law_deck.nd) (nR (aA aD aF))))
    cP)
   (aK (bF 3 (fun _=>sc__law_deck.nd) (aP fH (aY bO (aC 2) aD) aD))
   (aK (BZ (aP iZ (aY bO (aC 2) aD) aD) (NA TK (aC 2) aD))
   (aK (bF 4 (fun _=>sc__law_deck.nd) (nR aF))
   (aK (lV (fun _=>E7) (fun _=>rfl) (rF (fun _=>T.hB.of "range") (aA (aC 1) aF)) (cD 5 (fun _=>sc__law_deck.nd))
    (aK (bF 6 (fun _=>sc__law_deck.nd) (aP fH (aC 5) (dS qR (fun _=>T.hB.of "len") boot_len (aA (aC 2) aF))))
   (aK (bF 7 (fun _=>sc__law_deck.nd) (aP fH (aY bO (aC 2) (aC 6)) aD))
   (aK (dY (dG (lP (fun _=>rfl) (fun _=>hr.units)) (aC 3) aD)
    (aK (bF 7 (fun _=>sc__law_deck.nd) (aP fH (aP cY (aP cY (aY bO (aC 2) (aC 6)) (aP uE (aP uE (aC 5) (aC 5)) aD)) (aP uE aD (aC 5))) aD))
   (aK (bF 7 (fun _=>sc__law_deck.nd) (aP fH (aP cY (aP uE (aC 7) (aY bO (hZ (aA aD (aA aD (aA aD (aA aD aF))))) (aP fH (aC 5) aD))) aD) aD))
   (aN (bF 7 (fun _=>sc__law_deck.nd) (aP fH (aP uE (aC 7) (aC 7)) aD)))))
    (aN (BZ (aP iZ (aY bO (aC 2) (aC 6)) aD) (NA TK (aC 2) (aC 6)))))
   (aN (iO (fX (fun _=>rfl) (aC 4) (aA (aC 7) aF))))))))
   (aK (iO (BR (fun _=>rfl) (aC 4)))
   (aN (aV (aC 4))))))))))
theorem GV(T:Txt K mg):Callee P w K mg base 1 "is_row" uB (spM K AO):=
 T.v13.okG (N:=zR) (ps:=uB) (k:=0) (b:=AJ) GG (by sleep 991) fun f cdv A outer s H E hr=>
  (aN (aV (EL (T:="list") (U:="tuple") (fun _=>rfl) (by decide) (by decide) (aC 0) (fun _=>cV) (fun _=>T.hB.of "isinstance") (fun _=>T.hB.of "list") (fun _=>T.hB.of "tuple") boot_list Y1)))
theorem kT(T:Txt K mg):Callee P w K mg base 2 "is_row_of" mE (spM K gE):=
 T.v14.okG (N:=qI) (ps:=mE) (k:=1) (b:=qB) xG (by sleep 992) fun f cdv A outer s H E hr=>
  (aN (aV (fM (aS (fun _=>GV T) hr.le (aA (aC 0) aF)) (gZ (iL (lP (fun _=>rfl) (fun _=>hr.units)) (dS qR (fun _=>T.hB.of "len") boot_len (aA (aC 0) aF)) (aC 1))))))
theorem FT(T:Txt K mg):Callee P w K mg base 1 "common" tX (spM K rN):=
 T.v15.okG (N:=zI) (ps:=tX) (k:=0) (b:=AH) sc_common (by sleep 992) fun f cdv A outer s H E hr=>
  (aK (tV (fun _=>E7) (IZ (fun _=>rfl) (aC 1)) (aN (CH 0 1 (fun _=>rfl) (fun _=>sc_common.nd) (aA (aC 1) (aA (aP fH (aC 0) (aC 1)) aF)))))
   (aN (aV (aC 0))))
theorem mK(T:Txt K mg):Callee P w K mg base 1 "is_whole" nO (spM K iI):=
 T.v16.okG (N:=tR) (ps:=nO) (k:=0) (b:=rM) yP (by sleep 991) fun f cdv A outer s H E hr=>
  (aN (aV (fM (pJ (T:="int") (fun _=>rfl) (by decide) (aC 0) (fun _=>cV) (fun _=>T.hB.of "isinstance") (fun _=>T.hB.of "int") boot_int) (gZ (KC (pJ (T:="bool") (fun _=>rfl) (by decide) (aC 0) (fun _=>cV) (fun _=>T.hB.of "isinstance") (fun _=>T.hB.of "bool") boot_bool))))))
theorem lE(T:Txt K mg):Callee P w K mg base 3 "has_amount_numbers" eG (spM K bK):=
 T.v17.okG (N:=gG) (ps:=eG) (k:=2) (b:=cG) lF (by sleep 991) fun f cdv A outer s H E hr=>
  (aK (dY (sT (iA (dO (dR (aS (fun _=>kT T) hr.le (aA (aC 0) (aA aD aF))))) (iA (dO (dR (aS (fun _=>mK T) hr.le (aA (aY bO (aC 0) aD) aF)))) (iC (dO (dR (aS (fun _=>mK T) hr.le (aA (aY bO (aC 0) aD) aF))))))))
   (aN (aV eW))
   cP)
   (aN (aV (fM (iL YN (aY bO (aC 0) aD) aD) (gZ (iL YN (aY bO (aC 0) aD) aD))))))
theorem yH(T:Txt K mg):Callee P w K mg base 4 "is_amount" mB (spM K eC):=
 T.v18.okG (N:=qD) (ps:=mB) (k:=3) (b:=gF) xD (by sleep 991) fun f cdv A outer s H E hr=>
  (aN (aV (fM (aS (fun _=>lE T) hr.le (aA (aC 0) aF)) (gZ (iL (lP (fun _=>rfl) (fun _=>hr.units)) (aS (fun _=>FT T) hr.le (aA (aY bO (aC 0) aD) (aA (aY bO (aC 0) aD) aF))) aD)))))
theorem qF(T:Txt K mg):Callee P w K mg base 2 "is_place" nS (spM K fR):=
 T.v19.okG (N:=rZ) (ps:=nS) (k:=1) (b:=kM) AR (by sleep 992) fun f cdv A outer s H E hr=>
  (aN (aV (fM (aS (fun _=>mK T) hr.le (aA (aC 1) aF)) (gZ (zG YU aBo aD (aC 1) (aC 0))))))
theorem mI(T:Txt K mg):Callee P w K mg base 3 "are_unlike_places" eP (spM K bG):=
 T.v20.okG (N:=gR) (ps:=eP) (k:=2) (b:=cK) lS (by sleep 993) fun f cdv A outer s H E hr=>
  (aN (aV (fM (aS (fun _=>qF T) hr.le (aA (aC 0) (aA (aC 1) aF))) (fM (aS (fun _=>qF T) hr.le (aA (aC 0) (aA (aC 2) aF))) (gZ (iL (JJ (fun _=>rfl) (fun _=>hr.units)) (aC 1) (aC 2)))))))
theorem lI(T:Txt K mg):Callee P w K mg base 4 "is_between_places" eO (spM K aX):=
 T.v21.okG (N:=gQ) (ps:=eO) (k:=3) (b:=bT) lJ (by sleep 992) fun f cdv A outer s H E hr=>
  (aN (aV (fM (aS (fun _=>kT T) hr.le (aA (aC 1) (aA aD aF))) (fM (aS (fun _=>mI T) hr.le (aA (aC 0) (aA (aY bO (aC 1) aD) (aA (aY bO (aC 1) aD) aF)))) (gZ (iL aBo (aY bO (aC 1) aD) (aY bO (aC 1) aD)))))))
theorem sG(T:Txt K mg):Callee P w K mg base 1 "rows_beside" jI (spM K gC):=
 T.v22.okG (N:=jM) (ps:=jI) (k:=0) (b:=jJ) sc_rows_beside (by sleep 991) fun f cdv A outer s H E hr=>
  (aK (GE 1 (fun _=>sc_rows_beside.nd) (N':=(["place"]:List Str)) (cap:=[none]) (fun _=>rfl) (fun _=>mO (sc0:=aJ fJ) (N:=jM) rfl rfl (by decide +kernel)) (rF (fun _=>T.hB.of "range") (aA (aP cY (dS qR (fun _=>T.hB.of "len") boot_len (aA (aC 0) aF)) aD) aF)) (cD 0 (fun _=>(show(["place"]:List Str).Nodup by decide +kernel))) pR (nR aF))
   (aK (lV (fun _=>E7) (fun _=>rfl) (PP (fun _=>rfl) (fun _=>T.hB.of "enumerate") (aA (aC 0) aF)) (yB (fun _=>rfl) (fun _=>rfl) (fD (cD 2 (fun _=>sc_rows_beside.nd)) (fD (cD 3 (fun _=>sc_rows_beside.nd)) rE)))
    (aK (iO (fX (fun _=>rfl) (aY bO (aC 1) (aY bO (aC 3) aD)) (aA (aO (aA (aY bO (aC 3) aD) (aA (aC 2) aF))) aF)))
   (aN (iO (fX (fun _=>rfl) (aY bO (aC 1) (aY bO (aC 3) aD)) (aA (aO (aA (aY bO (aC 3) aD) (aA (aC 2) aF))) aF))))))
   (aN (aV (aC 1)))))
theorem uI(T:Txt K mg):Callee P w K mg base 2 "steps_from" kR (spM K gT):=
 T.v23.okG (N:=oN) (ps:=kR) (k:=1) (b:=kC) sc_steps_from (by sleep 992) fun f cdv A outer s H E hr=>
  (aK (bF 2 (fun _=>sc_steps_from.nd) (aS (fun _=>sG T) hr.le (aA (aC 0) aF)))
   (aK (bF 3 (fun _=>sc_steps_from.nd) (LL (RL (aC 1) eW ZN)))
   (aK (bF 4 (fun _=>sc_steps_from.nd) (nR (aA (aC 1) aF)))
   (aK (bF 5 (fun _=>sc_steps_from.nd) (nR aF))
   (aK (tV (fun _=>E7) (IZ (fun _=>rfl) (aC 4)) (aK (bF 6 (fun _=>sc_steps_from.nd) (xB (fun _=>rfl) (aC 4)))
   (aN (OB (fun _=>E7) (fun _=>rfl) (fun _=>rfl) (aY bO (aC 2) (aC 6)) (yB (fun _=>rfl) (fun _=>rfl) (fD (cD 7 (fun _=>sc_steps_from.nd)) (fD (cD 8 (fun _=>sc_steps_from.nd)) rE)))
    (aN (dY (EZ (fun _=>hr.u1) (mk_one (aC 7)) (aC 3))
    (aK (OR (fun _=>hr.u1) (aC 3) (mk_one (aC 7)) eW)
   (aK (iO (fX (fun _=>rfl) (aC 4) (aA (aC 7) aF)))
   (aN (iO (fX (fun _=>rfl) (aC 5) (aA (aO (aA (aC 6) (aA (aC 7) (aA (aC 8) aF)))) aF))))))
    cP))))))
   (aN (aV (aC 5))))))))
theorem xK(T:Txt K mg):Callee P w K mg base 1 "is_rising" lH (spM K iN):=
 T.v24.okG (N:=lQ) (ps:=lH) (k:=0) (b:=lO) xF (by sleep 991) fun f cdv A outer s H E hr=>
  (aN (aV (dS (TH (fun _=>rfl) (fun _=>rfl)) (fun _=>T.hB.of "all") boot_all (aA (zU (N':=(["one","other"]:List Str)) (cap:=[none,none]) (fun _=>rfl) (fun _=>mO (sc0:=aJ gW) (N:=lQ) rfl rfl (by decide +kernel)) (US (fun _=>rfl) (fun _=>T.hB.of "zip") (aA (aC 0) (aA (iR (fun _=>rfl) (aC 0) (dB aD) eM) aF))) (yB (fun _=>rfl) (fun _=>rfl) (fD (cD 0 (fun _=>(show(["one","other"]:List Str).Nodup by decide +kernel))) (fD (cD 1 (fun _=>(show(["one","other"]:List Str).Nodup by decide +kernel))) rE))) pR (iL (UB (fun _=>rfl) (fun _=>hr.units1)) (aC 0) (aC 1))) aF))))
theorem oG(T:Txt K mg):Callee P w K mg base 5 "is_tree" pX (spM K bL):=
 T.v25.okG (N:=mS) (ps:=pX) (k:=4) (b:=fW) BM (by sleep 992) fun f cdv A outer s H E hr=>
  (aK (dY (sT (iA (dG aBC (aC 0) (LF (fun _=>T.v38))) (iC (dO (dR (aS (fun _=>kT T) hr.le (aA (aC 1) (aA (aP zT (aC 0) aD) aF))))))))
   (aN (aV eW))
   cP)
   (aK (dY (dO (dR (dS (TH (fun _=>rfl) (fun _=>rfl)) (fun _=>T.hB.of "all") boot_all (aA (zU (N':=(["many","row"]:List Str)) (cap:=[some 0,none]) (fun _=>rfl) (fun _=>mO (sc0:=aJ iK) (N:=mS) rfl rfl (by decide +kernel)) (nZ (fun _=>rfl) (aC 1)) (cD 1 (fun _=>(show(["many","row"]:List Str).Nodup by decide +kernel))) pR (fM (aS (fun _=>lI T) hr.le (aA (aC 0) (aA (aC 1) aF))) (gZ (aS (fun _=>yH T) hr.le (aA (aY bO (aC 1) aD) aF))))) aF))))
    (aN (aV eW))
    cP)
   (aN (aV (fM (aS (fun _=>xK T) hr.le (aA (zU (N':=(["row"]:List Str)) (cap:=[none]) (fun _=>rfl) (fun _=>mO (sc0:=aJ iK) (N:=mS) rfl rfl (by decide +kernel)) (nZ (fun _=>rfl) (aC 1)) (cD 0 (fun _=>(show(["row"]:List Str).Nodup by decide +kernel))) pR (aO (aA (aY bO (aC 0) aD) (aA (aY bO (aC 0) aD) aF)))) aF)) (gZ (iL (lP (fun _=>rfl) (fun _=>hr.units)) (dS qR (fun _=>T.hB.of "len") boot_len (aA (aS (fun _=>uI T) hr.le (aA (aC 1) (aA aD aF))) aF)) (aP zT (aC 0) aD))))))))
theorem tI(T:Txt K mg):Callee P w K mg base 1 "_law_amount" jB (spM K fZ):=
 T.v26.okG (N:=nA) (ps:=jB) (k:=0) (b:=jC) sc__law_amount (by sleep 991) fun f cdv A outer s H E hr=>
  (aK (bF 1 (fun _=>sc__law_amount.nd) (hZ (aA (aO (aA aD (aA aD aF))) (aA (aO (aA aD (aA aD aF))) (aA (aO (aA aD (aA aD aF))) (aA (aO (aA aD (aA aD aF))) (aA (aO (aA aD (aA aD aF))) (aA (aO (aA aD (aA aD aF))) (aA (aO (aA (aP EG aD aD) (aA aD aF))) (aA (aO (aA aD (aA (aP cY (aP EG aD aD) aD) aF))) aF))))))))))
   (aN (aV (aY bO (aC 1) (aP fH (aC 0) aD)))))
theorem uO(T:Txt K mg):Callee P w K mg base 2 "_law_drawn" kN (spM K eN):=
 T.v27.okG (N:=oZ) (ps:=kN) (k:=1) (b:=kP) sc__law_drawn (by sleep 992) fun f cdv A outer s H E hr=>
  (aK (bF 2 (fun _=>sc__law_drawn.nd) (nR aF))
   (aK (lV (fun _=>E7) (fun _=>rfl) (QD (fun _=>T.hB.of "range") (aA aD (aA (aC 1) aF))) (cD 3 (fun _=>sc__law_drawn.nd))
    (aK (bF 4 (fun _=>sc__law_drawn.nd) (xB (fun _=>rfl) (aC 0)))
   (aN (iO (fX (fun _=>rfl) (aC 2) (aA (aO (aA (aP fH (aC 4) (aC 3)) (aA (aC 3) (aA (aS (fun _=>tI T) hr.le (aA (aP iZ (aC 4) aD) aF)) aF)))) aF))))))
   (aN (aV (gH (oY (fun _=>rfl)) (fun _=>T.hB.of "tuple") Y1 (aA (dS (PD (fun _=>rfl) (fun _=>hr.units2)) (fun _=>T.hB.of "sorted") boot_sorted (aA (aC 2) aF)) aF))))))
theorem gY(T:Txt K mg):Callee P w K mg base 1 "_law_is_row" jK (spM K eR):=
 T.v28.okG (N:=nI) (ps:=jK) (k:=0) (b:=nF) rS (by sleep 991) fun f cdv A outer s H E hr=>
  (aN (aV (EL (T:="list") (U:="tuple") (fun _=>rfl) (by decide) (by decide) (aC 0) (fun _=>cV) (fun _=>T.hB.of "isinstance") (fun _=>T.hB.of "list") (fun _=>T.hB.of "tuple") boot_list Y1)))
theorem eL(T:Txt K mg):Callee P w K mg base 1 "_law_is_whole" gL (spM K bX):=
 T.v29.okG (N:=kY) (ps:=gL) (k:=0) (b:=eX) pF (by sleep 993) fun f cdv A outer s H E hr=>
  (aN (aV (fM (pJ (T:="int") (fun _=>rfl) (by decide) (aC 0) (fun _=>cV) (fun _=>T.hB.of "isinstance") (fun _=>T.hB.of "int") boot_int) (fM (KC (pJ (T:="bool") (fun _=>rfl) (by decide) (aC 0) (fun _=>cV) (fun _=>T.hB.of "isinstance") (fun _=>T.hB.of "bool") boot_bool)) (gZ (zG YU YU (aC 1) (aC 0) (aC 2)))))))
theorem sQ(T:Txt K mg):Callee P w K mg base 1 "_law_lowest" jH (spM K gA):=
 T.v30.okG (N:=nH) (ps:=jH) (k:=0) (b:=jD) sc__law_lowest (by sleep 992) fun f cdv A outer s H E hr=>
  (aK (CH 2 3 (fun _=>rfl) (fun _=>sc__law_lowest.nd) (aA (aC 0) (aA (aC 1) aF)))
   (aK (tV (fun _=>E7) (dG aBC (aC 3) aD) (aN (CH 2 3 (fun _=>rfl) (fun _=>sc__law_lowest.nd) (aA (aC 3) (aA (aP fH (aC 2) (aC 3)) aF)))))
   (aN (aV (aO (aA (aP iZ (aC 0) (aC 2)) (aA (aP iZ (aC 1) (aC 2)) aF)))))))
theorem oM(T:Txt K mg):Callee P w K mg base 2 "_law_is_amount" fU (spM K bJ):=
 T.v31.okG (N:=jY) (ps:=fU) (k:=1) (b:=cB) oT (by sleep 991) fun f cdv A outer s H E hr=>
  (aK (dY (sT (iA (dO (dR (aS (fun _=>gY T) hr.le (aA (aC 0) aF)))) (iA (dG (JJ (fun _=>rfl) (fun _=>hr.units)) (dS qR (fun _=>T.hB.of "len") boot_len (aA (aC 0) aF)) aD) (iC (dO (dR (aS (fun _=>eL T) hr.le (aA (aY bO (aC 0) aD) (aA aD (aA (aP EG aD aD) aF))))))))))
   (aN (aV eW))
   cP)
   (aN (aV (fM (aS (fun _=>eL T) hr.le (aA (aY bO (aC 0) aD) (aA aD (aA (aP EG aD aD) aF)))) (gZ (iL (lP (fun _=>rfl) (fun _=>hr.units)) (aS (fun _=>sQ T) hr.le (aA (aY bO (aC 0) aD) (aA (aY bO (aC 0) aD) aF))) (gH (oY (fun _=>rfl)) (fun _=>T.hB.of "tuple") Y1 (aA (aC 0) aF))))))))
theorem lB(T:Txt K mg):Callee P w K mg base 3 "_law_is_tree" hW (spM K bC):=
 T.v32.okG (N:=iF) (ps:=hW) (k:=2) (b:=dE) sc__law_is_tree (by sleep 992) fun f cdv A outer s H E hr=>
  (aK (dY (sT (iA (dO (dR (aS (fun _=>gY T) hr.le (aA (aC 1) aF)))) (iC (dG (JJ (fun _=>rfl) (fun _=>hr.units)) (dS qR (fun _=>T.hB.of "len") boot_len (aA (aC 1) aF)) (aP zT (aC 0) aD)))))
   (aN (aV eW))
   cP)
   (aK (bF 2 (fun _=>sc__law_is_tree.nd) (NR false (fun _=>rfl) (fun _=>T.hB.of "range") (fun _=>T.hB.of "list") (aA (aC 0) aF)))
   (aK (bF 3 (fun _=>sc__law_is_tree.nd) (aO (aA (EK DR aD) (aA aD (aA (aO aF) aF)))))
   (aK (lV (fun _=>E7) (fun _=>rfl) (nZ (fun _=>rfl) (aC 1)) (cD 4 (fun _=>sc__law_is_tree.nd))
    (aK (dY (sT (iA (dO (dR (aS (fun _=>gY T) hr.le (aA (aC 4) aF)))) (iA (dG (JJ (fun _=>rfl) (fun _=>hr.units)) (dS qR (fun _=>T.hB.of "len") boot_len (aA (aC 4) aF)) aD) (iC (dO (dR (aS (fun _=>oM T) hr.le (aA (aY bO (aC 4) aD) aF))))))))
    (aN (aV eW))
    cP)
   (aK (dY (sT (iA (dO (dR (aS (fun _=>eL T) hr.le (aA (aY bO (aC 4) aD) (aA aD (aA (aP zT (aC 0) aD) aF)))))) (iA (dO (dR (aS (fun _=>eL T) hr.le (aA (aY bO (aC 4) aD) (aA aD (aA (aP zT (aC 0) aD) aF)))))) (iC (dG YN (aY bO (aC 4) aD) (aY bO (aC 4) aD))))))
    (aN (aV eW))
    cP)
   (aK (dY (sT (iA (dG (lP (fun _=>rfl) (fun _=>hr.units)) (aY bO (aC 2) (aY bO (aC 4) aD)) (aY bO (aC 2) (aY bO (aC 4) aD))) (iC (dO (dG (UB (fun _=>rfl) (fun _=>hr.units1)) (aC 3) (aO (aA (aY bO (aC 4) aD) (aA (aY bO (aC 4) aD) (aA (gH (oY (fun _=>rfl)) (fun _=>T.hB.of "tuple") Y1 (aA (aY bO (aC 4) aD) aF)) aF)))))))))
    (aN (aV eW))
    cP)
   (aK (bF 3 (fun _=>sc__law_is_tree.nd) (aO (aA (aY bO (aC 4) aD) (aA (aY bO (aC 4) aD) (aA (gH (oY (fun _=>rfl)) (fun _=>T.hB.of "tuple") Y1 (aA (aY bO (aC 4) aD) aF)) aF)))))
   (aK (bF 5 (fun _=>sc__law_is_tree.nd) (aY bO (aC 2) (aY bO (aC 4) aD)))
   (aN (bF 2 (fun _=>sc__law_is_tree.nd) (zU (N':=(["_law_heaps","_law_old","_law_row","_law_heap"]:List Str)) (cap:=[some 2,some 5,some 4,none]) (fun _=>rfl) (fun _=>mO (sc0:=aJ eY) (N:=iF) rfl rfl (by decide +kernel)) (nZ (fun _=>rfl) (aC 2)) (cD 3 (fun _=>(show(["_law_heaps","_law_old","_law_row","_law_heap"]:List Str).Nodup by decide +kernel))) pR (aY bO (hZ (aA (aC 3) (aA (aY bO (aC 0) (aY bO (aC 2) aD)) aF))) (gH SC (fun _=>T.hB.of "int") boot_int (aA (iL (lP (fun _=>rfl) (fun _=>hr.units)) (aC 3) (aC 1)) aF))))))))))))
   (aN (aV eW))))))
theorem nE(T:Txt K mg):∀n:Nat,Callee P w K mg base (n+1) "_law_lists" gU (spM K (bI n))
 |0=>(T.v33.okNone (N:=gX) (ps:=gU) (k:=0) nD (by intro _ _ _ _ _ _ _ hl;apply ar1 hl;intros;rfl)).mono (by decide)
 |n+1=>(T.v33.okG (N:=gX) (ps:=gU) (k:=n+1) (b:=gV (bI n)) nD (by sleep 991) fun f cdv A outer s H E hr=>
  (aK (dY (dO (dR (pJ (T:="tuple") (fun _=>rfl) (by decide) (aC 0) (fun _=>cV) (fun _=>T.hB.of "isinstance") (fun _=>T.hB.of "tuple") Y1)))
   (aN (aV (aC 0)))
   cP)
   (aN (aV (zU (N':=(["_law_part"]:List Str)) (cap:=[none]) (fun _=>rfl) (fun _=>mO (sc0:=aJ fY) (N:=gX) rfl rfl (by decide +kernel)) (nZ (fun _=>rfl) (aC 0)) (cD 0 (fun _=>(show(["_law_part"]:List Str).Nodup by decide +kernel))) pR (aS (fun _=>nE T n) (fun _=>hr.mono (by omega)) (aA (aC 0) aF))))))).mono (by omega)
theorem nG(T:Txt K mg):Callee P w K mg base 8 "_law_right" kD (spM K dQ):=
 T.v34.okG (N:=oQ) (ps:=kD) (k:=7) (b:=jZ) sc__law_right (by sleep 992) fun f cdv A outer s H E hr=>
  (aK (lV (fun _=>E7) (fun _=>rfl) (nZ (fun _=>rfl) (hZ (aA (aC 0) (aA (aP cY aD (aP fH (aC 0) aD)) aF)))) (cD 2 (fun _=>sc__law_right.nd))
   (aK (bF 3 (fun _=>sc__law_right.nd) (aS (fun _=>lB T) hr.le (aA (aC 2) (aA (aC 1) aF))))
   (aN (lV (fun _=>E7) (fun _=>rfl) (nZ (fun _=>rfl) (hZ (aA (aC 1) (aA (aS (fun _=>nE T 6) hr.le (aA (aC 1) aF)) aF)))) (cD 4 (fun _=>sc__law_right.nd))
    (aK (bF 5 (fun _=>sc__law_right.nd) (aS (fun _=>oG T) hr.le (aA (aC 2) (aA (aC 4) aF))))
   (aN (dY (sT (iA (dO (dR (pJ (T:="bool") (fun _=>rfl) (by decide) (aC 5) (fun _=>cV) (fun _=>T.hB.of "isinstance") (fun _=>T.hB.of "bool") boot_bool))) (iC (dG (JJ (fun _=>rfl) (fun _=>hr.units)) (aC 5) (aC 3)))))
    (aN (aV eW))
    cP)))))))
   (aN (aV eW)))
theorem qN(T:Txt K mg):Callee P w K mg base 1 "_law_odd" nX (spM K iE):=
 T.v35.okG (N:=tE) (ps:=nX) (k:=0) (b:=nM) sc__law_odd (by sleep 991) fun f cdv A outer s H E hr=>
  (aK (bF 1 (fun _=>sc__law_odd.nd) (hZ (aA VB (aA eW (aA aD (aA aD (aA WV (aA (aO aF) (aA (hZ aF) (aA JS (aA (aO (aA aD (aA aD aF))) (aA (aO (aA (aO (aA aD (aA aD aF))) aF)) (aA (aO (aA (aO (aA aD (aA aD (aA (aO (aA aD (aA aD aF))) (aA aD aF))))) aF)) (aA (aO (aA (aO (aA aD (aA aD (aA aD aF)))) aF)) (aA (aO (aA (aO (aA aD (aA aD (aA (aO (aA aD (aA aD aF))) aF)))) aF)) aF)))))))))))))))
   (aK (bF 1 (fun _=>sc__law_odd.nd) (aP cY (aC 1) (hZ (aA (aO (aA (aO (aA aD (aA aD (aA (aO (aA aD (aA aD aF))) aF)))) aF)) (aA (aO (aA (aO (aA aD (aA aD (aA (aO (aA aD (aA aD aF))) aF)))) aF)) (aA (aO (aA (aO (aA aD (aA aD (aA (aO (aA (EK DR aD) (aA aD aF))) aF)))) aF)) (aA (aO (aA (aO (aA aD (aA aD (aA (aO (aA aD (aA aD aF))) aF)))) aF)) (aA (aO (aA (aO (aA eW (aA eW (aA (aO (aA aD (aA aD aF))) aF)))) aF)) aF))))))))
   (aN (aV (aY bO (aC 1) (aP fH (aC 0) aD))))))
theorem yA(T:Txt K mg):Callee P w K mg base 2 "_law_bent" lU (spM K bN):=
 T.v36.okG (N:=qQ) (ps:=lU) (k:=1) (b:=bW) sc__law_bent (by sleep 993) fun f cdv A outer s H E hr=>
  (aK (bF 3 (fun _=>sc__law_bent.nd) (aP fH (aC 1) aD))
   (aK (bF 4 (fun _=>sc__law_bent.nd) (aP iZ (aC 1) aD))
   (aK (dY (sT (iA (dG (lP (fun _=>rfl) (fun _=>hr.units)) (aC 3) aD) (iC (dG (lP (fun _=>rfl) (fun _=>hr.units)) (aC 0) (aO aF)))))
    (aN (aV (aS (fun _=>qN T) hr.le (aA (aC 4) aF))))
    cP)
   (aK (bF 5 (fun _=>sc__law_bent.nd) (aP fH (aC 4) (dS qR (fun _=>T.hB.of "len") boot_len (aA (aC 0) aF))))
   (aK (BZ (aY bO (aC 0) (aC 5)) (yB (fun _=>rfl) (fun _=>rfl) (fD (cD 6 (fun _=>sc__law_bent.nd)) (fD (cD 7 (fun _=>sc__law_bent.nd)) (fD (cD 8 (fun _=>sc__law_bent.nd)) rE)))))
   (aK (dY (dG (lP (fun _=>rfl) (fun _=>hr.units)) (aC 3) aD)
    (aN (aV (aP cY (iR (fun _=>rfl) (aC 0) eM (dB (aC 5))) (iR (fun _=>rfl) (aC 0) (dB (aP cY (aC 5) aD)) eM))))
    cP)
   (aK (dY (dG (lP (fun _=>rfl) (fun _=>hr.units)) (aC 3) aD)
    (aN (aV (aP cY (aC 0) (iR (fun _=>rfl) (aC 0) (dB (aC 5)) (dB (aP cY (aC 5) aD))))))
    cP)
   (aK (dY (dG (lP (fun _=>rfl) (fun _=>hr.units)) (aC 3) aD)
    (aN (aV (UY (fun _=>rfl) (aC 0) (dB (EK DR aD)))))
    cP)
   (aK (dY (dG (lP (fun _=>rfl) (fun _=>hr.units)) (aC 3) aD)
    (aN (aV (aP cY (aP cY (iR (fun _=>rfl) (aC 0) eM (dB (aC 5))) (aO (aA (aO (aA (aC 7) (aA (aC 6) (aA (aC 8) aF)))) aF))) (iR (fun _=>rfl) (aC 0) (dB (aP cY (aC 5) aD)) eM))))
    cP)
   (aK (dY (dG (lP (fun _=>rfl) (fun _=>hr.units)) (aC 3) aD)
    (aK (bF 9 (fun _=>sc__law_bent.nd) (nR (aA (aO (aA (aY bO (aC 8) aD) (aA (aY bO (aC 8) aD) (aA aD aF)))) (aA (aO (aA (aP uE aD (aY bO (aC 8) aD)) (aA (aP uE aD (aY bO (aC 8) aD)) aF))) (aA (aO (aA (aY bO (aC 8) aD) (aA aD aF))) (aA (aO (aA (EK DR aD) (aA aD aF))) (aA (aY bO (aC 8) aD) aF)))))))
   (aK (iO (fX (fun _=>rfl) (aC 9) (aA (hZ (aA eW (aA aD aF))) aF)))
   (aN (aV (aP cY (aP cY (iR (fun _=>rfl) (aC 0) eM (dB (aC 5))) (aO (aA (aO (aA (aC 6) (aA (aC 7) (aA (aY bO (aC 9) (aP fH (aP iZ (aC 4) aD) aD)) aF)))) aF))) (iR (fun _=>rfl) (aC 0) (dB (aP cY (aC 5) aD)) eM))))))
    cP)
   (aK (dY (dG (lP (fun _=>rfl) (fun _=>hr.units)) (aC 3) aD)
    (aN (aV (aP cY (aP cY (iR (fun _=>rfl) (aC 0) eM (dB (aC 5))) (aO (aA (aO (aA (aC 6) (aA (aP fH (aP iZ (aC 4) aD) (aP cY (aC 2) aD)) (aA (aC 8) aF)))) aF))) (iR (fun _=>rfl) (aC 0) (dB (aP cY (aC 5) aD)) eM))))
    cP)
   (aK (dY (dG (lP (fun _=>rfl) (fun _=>hr.units)) (aC 3) aD)
    (aN (aV (gH (oY (fun _=>rfl)) (fun _=>T.hB.of "tuple") Y1 (aA (dS (QC (fun _=>rfl) (fun _=>hr.units2)) (fun _=>T.hB.of "sorted") boot_sorted (aA (aP cY (aP cY (iR (fun _=>rfl) (aC 0) eM (dB (aC 5))) (aO (aA (aO (aA aD (aA (aP cY aD (aP fH (aP iZ (aC 4) aD) (aC 2))) (aA (aC 8) aF)))) aF))) (iR (fun _=>rfl) (aC 0) (dB (aP cY (aC 5) aD)) eM)) aF)) aF))))
    cP)
   (aN (aV (aP cY (aP cY (iR (fun _=>rfl) (aC 0) eM (dB (aC 5))) (aO (aA (aS (fun _=>qN T) hr.le (aA (aP iZ (aC 4) aD) aF)) aF))) (iR (fun _=>rfl) (aC 0) (dB (aP cY (aC 5) aD)) eM))))))))))))))))
theorem fn_law(T:Txt K mg):∃f fd,mg "law"=some (.ref f)/\(∀(s:Shared)(u:Value),BindsTo s fd ⟨[u],[]⟩ [("_law_script",u)])/\∀base,oE P w K mg base CX0 9 f fd SM (spM K F_law):=
 T.v37.okLG (N:=TJ) (k:=8) (b:=LW) sc_law rfl (by sleep 991) fun base f cdv A outer s H E hr=>
  (aK (bF 1 (fun _=>sc_law.nd) (aS (fun _=>xA T) hr.le (aA (aC 0) (aA aD aF))))
   (aK (dY (sT (iA (dO (dR (aS (fun _=>oG T) hr.le (aA aD (aA (aO aF) aF))))) (iC (dR (aS (fun _=>oG T) hr.le (aA aD (aA (aO aF) aF)))))))
    (aN (aV eW))
    cP)
   (aK (lV (fun _=>E7) (fun _=>rfl) (rF (fun _=>T.hB.of "range") (aA aD aF)) (cD 2 (fun _=>sc_law.nd))
    (aK (bF 3 (fun _=>sc_law.nd) (aY bO (hZ (aA (aP cY aD (aP fH (xB (fun _=>rfl) (aC 1)) aD)) (aA aD aF))) (gH SC (fun _=>T.hB.of "int") boot_int (aA (iL (lP (fun _=>rfl) (fun _=>hr.units)) (aC 2) aD) aF))))
   (aK (bF 4 (fun _=>sc_law.nd) (aS (fun _=>uO T) hr.le (aA (aC 1) (aA (aC 3) aF))))
   (aK (dY (sT (iA (dO (dR (aS (fun _=>lB T) hr.le (aA (aC 3) (aA (aC 4) aF))))) (iC (dO (dR (aS (fun _=>nG T) hr.le (aA (aC 3) (aA (aC 4) aF))))))))
    (aN (aV eW))
    cP)
   (aN (lV (fun _=>E7) (fun _=>rfl) (rF (fun _=>T.hB.of "range") (aA aD aF)) (cD 5 (fun _=>sc_law.nd))
    (aN (dY (dO (dR (aS (fun _=>nG T) hr.le (aA (aC 3) (aA (aS (fun _=>yA T) hr.le (aA (aC 4) (aA (xB (fun _=>rfl) (aC 1)) (aA (aC 3) aF)))) aF)))))
    (aN (aV eW))
    cP))))))))
   (aN (aV eW)))))
theorem txt_mk{h:Heap}{v39:Tok}(X:K.In h)(G:h.Ns mainGlobals mg)(v0:PySem.W.nsIn K mainGlobals "all"=some none)(v1:PySem.W.nsIn K mainGlobals "bool"=some none)(v2:PySem.W.nsIn K mainGlobals "enumerate"=some none)(v3:PySem.W.nsIn K mainGlobals "int"=some none)(v4:PySem.W.nsIn K mainGlobals "isinstance"=some none)(v5:PySem.W.nsIn K mainGlobals "len"=some none)(v6:PySem.W.nsIn K mainGlobals "list"=some none)(v7:PySem.W.nsIn K mainGlobals "range"=some none)(v8:PySem.W.nsIn K mainGlobals "sorted"=some none)(v9:PySem.W.nsIn K mainGlobals "tuple"=some none)(v10:PySem.W.nsIn K mainGlobals "zip"=some none)(v11:PySem.W.nsIn K mainGlobals "MOST_PLACES"=some (some (.int 40 v39)))(v12:Def K mg "_law_deck" kJ)(v13:Def K mg "is_row" pL)(v14:Def K mg "is_row_of" kL)(v15:Def K mg "common" pO)(v16:Def K mg "is_whole" lR)(v17:Def K mg "has_amount_numbers" dX)(v18:Def K mg "is_amount" kH)(v19:Def K mg "is_place" mH)(v20:Def K mg "are_unlike_places" eD)(v21:Def K mg "is_between_places" dZ)(v22:Def K mg "rows_beside" fJ)(v23:Def K mg "steps_from" jO)(v24:Def K mg "is_rising" gW)(v25:Def K mg "is_tree" iK)(v26:Def K mg "_law_amount" iD)(v27:Def K mg "_law_drawn" jL)(v28:Def K mg "_law_is_row" iJ)(v29:Def K mg "_law_is_whole" fQ)(v30:Def K mg "_law_lowest" hJ)(v31:Def K mg "_law_is_amount" fG)(v32:Def K mg "_law_is_tree" eY)(v33:Def K mg "_law_lists" fY)(v34:Def K mg "_law_right" jF)(v35:Def K mg "_law_odd" lN)(v36:Def K mg "_law_bent" kO)(v37:Def K mg "law" BH):Txt K mg:=by
 exact⟨(dD (D6 X G v0) (dD (D6 X G v1) (dD (D6 X G v2) (dD (D6 X G v3) (dD (D6 X G v4) (dD (D6 X G v5) (dD (D6 X G v6) (dD (D6 X G v7) (dD (D6 X G v8) (dD (D6 X G v9) (dD (D6 X G v10) NJ))))))))))),⟨_,PySem.W.mg_of X G v11⟩,v12,v13,v14,v15,v16,v17,v18,v19,v20,v21,v22,v23,v24,v25,v26,v27,v28,v29,v30,v31,v32,v33,v34,v35,v36,v37⟩
end
end Q22
end
end
section
namespace Q22
variable{L M M':Sto}{c m n:Nat}{d x:PyData}{J a b i j p q r u y z:Int}{ba ds ys:List PyData}{us:List Tie}{γ:Ga}{l ws xs:List Int}{g:GF}{f:AF}{s:Tie}{ee:EF}{x0:CD}
open PySem PySem.Spec PyProof.Rows L2
local macro_rules | `(tactic| simp! [$a,*]) => `(tactic| simp only [fnF, fnX, aAV, aBV, aBw, YG, aBx, aAI, TZ, aAl, liA, liE, liS, YR, aBM, WX, aAh, OZ, setG, aBf, UV, aZ, sIf, bU, aAK, cL, bM, lC, hName, nV, dA, oB, hSub, gOr, aBU, fB, gB, uK, QE, aM, aB, aG, aE, fC, fOp, fUn, jQ, fOr, BK, fIf, nP, asB, bE, gI, kS, kG, pB, zF, pI, ifS, aAd, zE, uV, hX, eT, BY, ltI, leI, gtI, geI, Option.bind_some, Option.bind_none, Option.map_some, List.getElem?_cons_zero, List.getElem?_cons_succ, List.length_cons, List.length_nil, List.set_cons_zero, List.set_cons_succ, List.map_cons, List.map_nil, List.replicate_zero, List.replicate_succ, List.cons_append, List.nil_append, List.append_nil, if_true, ite_true, ite_false, Nat.reduceAdd, Nat.reduceSub, reduceIte, Bool.not_true, Bool.not_false, Bool.false_eq_true, $a,*])
noncomputable def lG:PyData->Bool
 |.int _=>true
 |_=>false
noncomputable def jG:PyData->Bool
 |.list _=>true
 |.tuple _=>true
 |_=>false
theorem kE(x:PyData)(M:Sto):iI [.d x] M=some (.d (.bool (lG x)),M):=by cases x<;>rfl
noncomputable def dI(d:PyData)(n:Int):Bool:=match aR d with
 |some ds=>((ds.length:Int)==n)
 |none=>false
theorem bV(x:PyData)(n:Int)(M:Sto):gE [.d x,.d (.int n)] M=some (.d (.bool (dI x n)),M):=by cases x<;>rfl
theorem yN(x y:Int):Int.gcd y (x % y)=Int.gcd x y:=by
 rw[Int.gcd_comm x y];have:x % y=x-y*(x / y):=by have:=Int.emod_add_mul_ediv x y;omega
 rw[this];simp
noncomputable abbrev I(n:Int):CD:=.d (.int n)
theorem cR{x:Int}(h:0<y):fI x y=true:=by simp[fI,h]
theorem qO(M:Sto):∀(n:Nat)(x y:Int),0<=x->0<=y->y.toNat<n->
 dW (uK (aE 1)) (uU 0 1 (aB (aE 1) (aB (fOp eT (aE 0) (aE 1)) aG))) n [some (I x),some (I y)] M=some (.nx [some (I (Int.gcd x y)),some (I 0)],M)
 |0=>fun _ _ _ _ h=>by omega
 |n+1=>fun x y hx hy h=>by
  by_cases e:y=0
  .subst e;have:(Int.gcd x 0:Int)=x:=by rw[Int.gcd_zero_right];omega
   rw[this];rfl
  .have hp:0<y:=by omega
   have ih:=qO M n y (x % y) hy (J4 _ e) (by have:=F5 x hp;omega);rw[yN]at ih;rw[<- ih];have hb:(y != 0)=true:=by simp[e]
   simp only[dW,uK,aE,QE,uU,aB,fOp,aG,eT,pI,ifS,cR hp,hb,Option.bind,List.getElem?_cons_succ,List.getElem?_cons_zero,if_true,List.set]
theorem JD(M:Sto)(ha:0<=a)(hb:0<=b):rN [I a,I b] M=some (I (Int.gcd a b),M):=by
 have h:nT [some (I a),some (I b)] M=_:=sH (qO M (b.toNat+1) a b ha hb (J6 _));show((aZ nT _ [some (I a),some (I b)] M).bind _)=_;unfold aZ;rw[h];rfl
noncomputable abbrev B(b:Bool):CD:=.d (.bool b)
noncomputable def qP(d:PyData):Bool:=match aR d with
 |some [.int a,.int b]=>decide (0<=a)&&decide (1<=b)
 |_=>false
theorem XY(h:dI x 2=true):∃a b,x=.list [a,b]\/x=.tuple [a,b]:=by
 unfold dI at h;cases x with
 |list ds=>
  have h:((ds.length:Int)==2)=true:=h;rcases ds with _|⟨a,_|⟨b,_|⟨c,r⟩⟩⟩
  .simp at h
  .simp at h
  .exact⟨a,b,.inl rfl⟩
  .simp at h;omega
 |tuple ds=>
  have h:((ds.length:Int)==2)=true:=h;rcases ds with _|⟨a,_|⟨b,_|⟨c,r⟩⟩⟩
  .simp at h
  .simp at h
  .exact⟨a,b,.inr rfl⟩
  .simp at h;omega
 |_=>simp[aR]at h
theorem ND(h:dI x 2=false):qP x=false:=by
 unfold qP;unfold dI at h;cases q:aR x with
 |none=>rfl
 |some ds=>
  rw[q]at h;rcases ds with _|⟨a,_|⟨b,_|⟨c,r⟩⟩⟩
  .rfl
  .cases a<;>rfl
  .simp at h
  .cases a<;>cases b<;>rfl
theorem aAz{a b:PyData}:ixF (.d (.list [a,b])) (I 0) M=some (.d a,M):=rfl
theorem aAF{a b:PyData}:ixF (.d (.list [a,b])) (I 1) M=some (.d b,M):=rfl
theorem aAj{a b:PyData}:ixF (.d (.tuple [a,b])) (I 0) M=some (.d a,M):=rfl
theorem aBq{a b:PyData}:ixF (.d (.tuple [a,b])) (I 1) M=some (.d b,M):=rfl
theorem aBh{p q:Bool}:(if p=true then some (B q,M)else some (B false,M))=some (B (p&&q),M):=by cases p<;>rfl
theorem eA(x:PyData)(M:Sto):bK [.d x] M=some (B (qP x),M):=by
 cases h:dI x 2 with
 |false=>
  rw[ND h];simp![bK,cG,bV,h]
 |true=>
  obtain⟨a,b,rfl|rfl⟩:=XY h
  .cases a<;>cases b<;>first|rfl|(rename_i a b;simp![bK,cG,bV,h,kE,aAz,aAF,lG,aBh];rfl)
  .cases a<;>cases b<;>first|rfl|(rename_i a b;simp![bK,cG,bV,h,kE,aAj,aBq,lG,aBh];rfl)
theorem iM:eqX false (I i) (I j) M=some (B (i==j),M):=rfl
theorem mV:eqX true (I i) (I j) M=some (B (!(i==j)),M):=rfl
theorem aBK(n m:Nat):((n:Int)==(m:Int))=(n==m):=by
 rw[O0];simp;omega
noncomputable def mW(a b:Int):Bool:=decide (0<=a)&&decide (1<=b)&&(Int.gcd a b==1)
noncomputable def fA(d:PyData):Bool:=match aR d with
 |some [.int a,.int b]=>mW a b
 |_=>false
theorem aAu(h:qP x=true):∃a b,(x=.list [.int a,.int b]\/x=.tuple [.int a,.int b])/\0<=a/\1<=b:=by
 unfold qP at h;split at h
 .rename_i a b e;rw[B2,F7,F7]at h;refine⟨a,b,?_,h⟩;cases x with
  |list ds=>left;exact F4 PyData.list (C9 e)
  |tuple ds=>right;exact F4 PyData.tuple (C9 e)
  |_=>cases e
 .cases h
theorem MZ(h:qP x=false):fA x=false:=by
 unfold qP at h;unfold fA;split
 .rename_i a b e;rw[e]at h;unfold mW;rw[show(decide (0<=a)&&decide (1<=b))=false from h];rfl
 .rfl
theorem zK(x:PyData)(M:Sto):eC [.d x] M=some (B (fA x),M):=by
 cases h:qP x with
 |false=>
  rw[MZ h];simp![eC,gF,eA,h]
 |true=>
  obtain⟨a,b,hx,ha,hb⟩:=aAu h;have e:mW a b=(Int.gcd a b==1):=by unfold mW;rw[B7 ha,B7 hb];rfl
  have c:=fun M=>JD M ha (U0 (by decide) hb);rcases hx with rfl|rfl
  .rw[show fA (.list [.int a,.int b])=mW a b from rfl,e];simp![eC,gF,eA,h,aAz,aAF,c,iM];rw[show(1:Int)=((1:Nat):Int)from rfl,aBK]
  .rw[show fA (.tuple [.int a,.int b])=mW a b from rfl,e];simp![eC,gF,eA,h,aAj,aBq,c,iM];rw[show(1:Int)=((1:Nat):Int)from rfl,aBK]
theorem pY(M:Sto)(a b:Int):∀(n:Nat)(x y:Int),0<=x->0<=y->y.toNat<n->
 dW (gB (fOp gtI (aE 3) (fC (.int 0)))) (uU 2 3 (aB (aE 3) (aB (fOp eT (aE 2) (aE 3)) aG))) n [some (I a),some (I b),some (I x),some (I y)] M=some (.nx [some (I a),some (I b),some (I (Int.gcd x y)),some (I 0)],M)
 |0=>fun _ _ _ _ h=>by omega
 |n+1=>fun x y hx hy h=>by
  by_cases e:y=0
  .subst e;have:(Int.gcd x 0:Int)=x:=by rw[Int.gcd_zero_right];omega
   rw[this];rfl
  .have hp:0<y:=by omega
   have ih:=pY M a b n y (x % y) hy (J4 _ e) (by have:=F5 x hp;omega);rw[yN]at ih;rw[<- ih];have hb:decide (0<y)=true:=B7 hp;simp![dW,uU,cR hp,hb]
theorem DP(h:1<=b):1<=(Int.gcd a b:Int):=by
 have:Int.gcd a b≠0:=fun z=>by have:=(Int.gcd_eq_zero_iff.mp z).2;omega
 omega
theorem ZX(h:1<=b):(Int.gcd a b:Int)<=b:=Int.le_of_dvd (by omega) (Int.gcd_dvd_right a b)
theorem wsm(h:0<=y)(h2:y<2 ^ 200):y.natAbs<qM:=by
 have h1:y.natAbs<2 ^ 200:=by omega
 exact B9 h1 (Nat.pow_le_pow_right (by decide) (by decide))
theorem oP{x:Int}(h:0<y)(h2:y.natAbs<qM):oX x y=true:=by simp[oX,h,h2]
theorem IP(M:Sto)(ha:0<=a)(hb:1<=b)(hw:b.natAbs<qM):gA [I a,I b] M=some (.d (.tuple [.int (a / (Int.gcd a b:Int)),.int (b / (Int.gcd a b:Int))]),M):=by
 have h:kW [some (I a),some (I b),some (I a),some (I b)] M=_:=sH (pY M a b (b.toNat+1) a b ha (by omega) (J6 _));have p:uU 2 3 (aB (aE 0) (aB (aE 1) aG)) [some (I a),some (I b),none,none] M=some (.nx [some (I a),some (I b),some (I a),some (I b)],M):=rfl;have g1:=DP (a:=a) hb;have g2:=ZX (a:=a) hb;have d1:∀x,oX x (Int.gcd a b:Int)=true:=fun x=>oP (by omega) (Nat.lt_of_le_of_lt (by omega) hw);have sz:(2:Nat)<=sizeLine:=by decide
 simp![gA,jD,p,h,d1,sz]
theorem aBP{c d:Int}:eqX false (.d (.tuple [.int a,.int b])) (.d (.tuple [.int c,.int d])) M=some (B (a==c&&(b==d&&true)),M):=rfl
theorem KJ(ha:0<=a)(hb:1<=b):((a / (Int.gcd a b:Int)==a)&&((b / (Int.gcd a b:Int)==b)&&true))=(Int.gcd a b==1):=by
 have g1:=DP (a:=a) hb;by_cases h:Int.gcd a b=1
 .rw[h];simp
 .have hb2:b / (Int.gcd a b:Int)<b:=Int.ediv_lt_self_of_pos_of_ne_one (by omega) (by omega);have e1:(b / (Int.gcd a b:Int)==b)=false:=by rw[F9];omega
  have e2:(Int.gcd a b==1)=false:=by rw[F9];exact h
  rw[e1,e2];simp
theorem aW(x:PyData)(M:Sto):eR [.d x] M=some (.d (.bool (jG x)),M):=by cases x<;>rfl
noncomputable def tO(x:PyData)(lo hi:Int):Bool:=match x with
 |.int i=>decide (lo<=i)&&decide (i<=hi)
 |_=>false
theorem bR(x:PyData)(lo hi:Int)(M:Sto):bX [.d x,I lo,I hi] M=some (B (tO x lo hi),M):=by
 cases x with
 |int i=>
  have t1:pB "int" (aE 0) [some (I i),some (I lo),some (I hi)] M=some (B true,M):=rfl;have t2:pB "bool" (aE 0) [some (I i),some (I lo),some (I hi)] M=some (B false,M):=rfl;cases h:decide (lo<=i)with
  |true=>
   rw[show tO (.int i) lo hi=(decide (lo<=i)&&decide (i<=hi))from rfl,h,E4];simp only[bX,eX,fnF,bU,jQ,BK,nP,List.length_cons,List.length_nil,Nat.reduceAdd,Nat.reduceSub,reduceIte,List.map_cons,List.map_nil,List.replicate_zero,List.append_nil,t1,t2,Option.bind_some,asB,if_true,Bool.not_false,aE,List.getElem?_cons_zero,List.getElem?_cons_succ,leI,pI,h]
  |false=>
   rw[show tO (.int i) lo hi=(decide (lo<=i)&&decide (i<=hi))from rfl,h,J8];simp only[bX,eX,fnF,bU,jQ,BK,nP,List.length_cons,List.length_nil,Nat.reduceAdd,Nat.reduceSub,reduceIte,List.map_cons,List.map_nil,List.replicate_zero,List.append_nil,t1,t2,Option.bind_some,asB,if_true,Bool.not_false,aE,List.getElem?_cons_zero,List.getElem?_cons_succ,leI,pI,h,Bool.false_eq_true]
 |_=>rfl
noncomputable abbrev E60:Int:=1000000000000000000000000000000000000000000000000000000000000
theorem ZK:IQ 10 60=true:=by decide
theorem NT:(10:Int) ^ Int.toNat 60=E60:=rfl
noncomputable def VA:PyData->PyData->Bool
 |.int a,.int b=>mW a b
 |_,_=>false
theorem xP{a b:PyData}(h:aR x=some [a,b]):fA x=VA a b:=by
 unfold fA;rw[h];cases a<;>first|rfl|(cases b<;>rfl)
noncomputable def Sm(x:PyData):Prop:=∀a b,aR x=some [.int a,.int b]->a<=E60/\b<=E60
theorem fT(h:aR x=some ds):gN [.d x] M=some (I ds.length,M):=by
 cases x with
 |list l=>cases h;rfl
 |tuple l=>cases h;rfl
 |_=>cases h
theorem fO:jG x=(aR x).isSome:=by cases x<;>rfl
theorem vV(h:aR x=some ds):fV [.d x] M=some (.d (.tuple ds),M):=by
 cases x with
 |list l=>cases h;rfl
 |tuple l=>cases h;rfl
 |_=>cases h
theorem bZ(h:aR x=some ds):ixF (.d x) (I i) M=(atI ds i).bind fun e=>some (.d e,M):=by
 show(aR x).bind _=_;rw[h];rfl
theorem aAt(ds:List PyData)(h:((ds.length:Int)==2)=true):∃a b,ds=[a,b]:=by
 rcases ds with _|⟨a,_|⟨b,_|⟨c,r⟩⟩⟩
 .simp at h
 .simp at h
 .exact⟨a,b,rfl⟩
 .simp at h;omega
theorem xX(h:aR x=some ds)(h2:((ds.length:Int)==2)=false):fA x=false:=by
 unfold fA;rw[h];rcases ds with _|⟨a,_|⟨b,_|⟨c,r⟩⟩⟩
 .rfl
 .cases a<;>rfl
 .simp at h2
 .cases a<;>cases b<;>rfl
theorem kZ(x:PyData)(M:Sto)(hs:Sm x):bJ [.d x] M=some (B (fA x),M):=by
 cases hi:aR x with
 |none=>
  have e:fA x=false:=by unfold fA;rw[hi]
  have r:jG x=false:=by rw[fO,hi];rfl
  rw[e];simp![bJ,cB,aW,r]
 |some ds=>
  have r:jG x=true:=by rw[fO,hi];rfl
  have l:=fun M=>fT (M:=M) hi;cases h2:((ds.length:Int)==2)with
  |false=>
   rw[xX hi h2];simp![bJ,cB,aW,r,l,mV,h2]
  |true=>
   obtain⟨a,b,rfl⟩:=aAt ds h2;have h2':((([a,b]:List PyData).length:Int)==2)=true:=rfl;have i0:∀M,ixF (.d x) (I 0) M=some (.d a,M):=fun M=>bZ hi;have i1:∀M,ixF (.d x) (I 1) M=some (.d b,M):=fun M=>bZ hi;have tp:=fun M=>vV (M:=M) hi;have ll:∀M,gN [.d x] M=some (I 2,M):=l;have h22:((2:Int)==2)=true:=rfl;have am:fA x=VA a b:=xP hi;cases w0:tO a 0 E60 with
   |false=>
    have e:fA x=false:=by
     rw[am];cases a with
     |int a=>
      cases b with
      |int b=>
       have:=(hs a b hi).1;show mW a b=false;have w0:(decide (0<=a)&&decide (a<=E60))=false:=w0;rw[B7 this,Bool.and_true]at w0;unfold mW;rw[w0];rfl
      |_=>rfl
     |_=>cases b<;>rfl
    rw[e];simp![bJ,cB,aW,r,ll,mV,h22,i0,ZK,NT,bR,w0]
   |true=>
    cases a with
    |int a=>
     have h0:0<=a:=by
      have w0:(decide (0<=a)&&decide (a<=E60))=true:=w0;rw[B2,F7]at w0;exact w0.1
     cases w1:tO b 1 E60 with
     |false=>
      have e:fA x=false:=by
       rw[am];cases b with
       |int b=>
        have:=(hs a b hi).2;show mW a b=false;have w1:(decide (1<=b)&&decide (b<=E60))=false:=w1;rw[B7 this,Bool.and_true]at w1;unfold mW;rw[w1,Bool.and_false];rfl
       |_=>rfl
      rw[e];simp![bJ,cB,aW,r,ll,mV,h22,i0,i1,ZK,NT,bR,w0,w1]
     |true=>
      cases b with
      |int b=>
       have w1:(decide (1<=b)&&decide (b<=E60))=true:=w1;rw[B2,F7,F7]at w1
       have w1':tO (.int b) 1 E60=true:=by
        show(decide (1<=b)&&decide (b<=E60))=true;rw[B7 w1.1,B7 w1.2];rfl
       have e:fA x=(Int.gcd a b==1):=by
        rw[am];show mW a b=_;unfold mW;rw[B7 h0,B7 w1.1];rfl
       rw[e,<- KJ h0 w1.1];have lw:=IP M h0 w1.1 (wsm (by omega) (Int.lt_of_le_of_lt w1.2 (by decide)));simp![bJ,cB,aW,r,ll,mV,h22,i0,i1,ZK,NT,bR,w0,w1',lw,tp,aBP]
      |_=>cases w1
    |_=>cases w0
noncomputable def plB(n:Int):PyData->Bool
 |.int i=>decide (0<=i)&&decide (i<n)
 |_=>false
theorem nY(n:Int)(x:PyData)(M:Sto):fR [I n,.d x] M=some (B (plB n x),M):=by
 cases x with
 |int i=>
  cases h:decide (0<=i)with
  |true=>
   rw[show plB n (.int i)=(decide (0<=i)&&decide (i<n))from rfl,h,E4];simp![fR,kM,kE,lG,h]
  |false=>
   rw[show plB n (.int i)=(decide (0<=i)&&decide (i<n))from rfl,h,J8];simp![fR,kM,kE,lG,h]
 |_=>rfl
noncomputable def bD(n:Int)(d:PyData):Option (Int×Int):=match aR d with
 |some [.int i,.int j,a]=>if (decide (0<=i)&&decide (i<j)&&decide (j<n)&&fA a)=true then some (i,j)else none
 |_=>none
noncomputable def GN(n:Int):PyData->PyData->Bool
 |.int i,.int j=>decide (0<=i)&&decide (i<j)&&decide (j<n)
 |_,_=>false
theorem zY(n i j:Int)(M:Sto):bG [I n,I i,I j] M=some (B (plB n (.int i)&&(plB n (.int j)&&!(i==j))),M):=by
 cases h1:plB n (.int i)<;>cases h2:plB n (.int j)<;>simp![bG,cK,nY,h1,h2,mV,Bool.true_and,Bool.false_and]
theorem zX(n:Int)(x y:PyData)(M:Sto)(h:plB n x=false\/plB n y=false):bG [I n,.d x,.d y] M=some (B false,M):=by
 cases h1:plB n x with
 |false=>simp![bG,cK,nY,h1]
 |true=>
  have h2:plB n y=false:=h.resolve_left (by rw[h1];decide);simp![bG,cK,nY,h1,h2]
theorem WG(ds:List PyData)(h:((ds.length:Int)==3)=true):∃a b c,ds=[a,b,c]:=by
 rcases ds with _|⟨a,_|⟨b,_|⟨c,_|⟨d,r⟩⟩⟩⟩
 .simp at h
 .simp at h
 .simp at h
 .exact⟨a,b,c,rfl⟩
 .simp at h;omega
theorem rL{n:Int}(h:aR x=some ds)(h2:((ds.length:Int)==3)=false):bD n x=none:=by
 unfold bD;rw[h];rcases ds with _|⟨a,_|⟨b,_|⟨c,_|⟨d,r⟩⟩⟩⟩
 .rfl
 .cases a<;>rfl
 .cases a<;>first|rfl|(cases b<;>rfl)
 .simp at h2
 .cases a<;>first|rfl|(cases b<;>rfl)
theorem rR{n:Int}{a b c:PyData}(h:aR x=some [a,b,c]):(bD n x).isSome=(GN n a b&&fA c):=by
 unfold bD;rw[h];cases a with
 |int i=>
  cases b with
  |int j=>
   show(if (decide (0<=i)&&decide (i<j)&&decide (j<n)&&fA c)=true then some (i,j)else none).isSome=(decide (0<=i)&&decide (i<j)&&decide (j<n)&&fA c);cases (decide (0<=i)&&decide (i<j)&&decide (j<n)&&fA c)<;>rfl
  |_=>rfl
 |_=>cases b<;>rfl
theorem ZV(n i j:Int):(plB n (.int i)&&(plB n (.int j)&&!(i==j))&&decide (i<j))=(decide (0<=i)&&decide (i<j)&&decide (j<n)):=by
 unfold plB;by_cases h1:0<=i
 .by_cases h2:i<j
  .by_cases h3:j<n
   .have a:i<n:=by omega
    have b:0<=j:=by omega
    have c:(i==j)=false:=by rw[F9];omega
    simp[h1,h2,h3,a,b,c]
   .simp[h3]
  .simp[h2]
 .simp[h1]
theorem NQ(n i j:Int)(M:Sto){c:PyData}(h:aR x=some [.int i,.int j,c]):aX [I n,.d x] M=some (B (GN n (.int i) (.int j)),M):=by
 have r:dI x 3=true:=by unfold dI;rw[h];rfl
 have i0:∀M,ixF (.d x) (I 0) M=some (I i,M):=fun M=>bZ h;have i1:∀M,ixF (.d x) (I 1) M=some (I j,M):=fun M=>bZ h;rw[show GN n (.int i) (.int j)=(decide (0<=i)&&decide (i<j)&&decide (j<n))from rfl,<- ZV];cases u:(plB n (.int i)&&(plB n (.int j)&&!(i==j)))with
 |false=>simp![aX,bT,bV,r,i0,i1,zY,u,Bool.false_and]
 |true=>simp![aX,bT,bV,r,i0,i1,zY,u,Bool.true_and]
theorem EY(n:Int)(M:Sto){a b c:PyData}(h:aR x=some [a,b,c])(q:plB n a=false\/plB n b=false):aX [I n,.d x] M=some (B false,M):=by
 have r:dI x 3=true:=by unfold dI;rw[h];rfl
 have i0:∀M,ixF (.d x) (I 0) M=some (.d a,M):=fun M=>bZ h;have i1:∀M,ixF (.d x) (I 1) M=some (.d b,M):=fun M=>bZ h;simp![aX,bT,bV,r,i0,i1,zX n a b _ q]
theorem HV(n:Int)(M:Sto)(r:dI x 3=false):aX [I n,.d x] M=some (B false,M):=by
 simp![aX,bT,bV,r]
noncomputable abbrev wX:EF:=(jQ (aM aX (aB (aE 0) (aB (aE 1) aG))) (aM eC (aB (fOp ixF (aE 1) (fC (.int 2))) aG)))
theorem aAM(n:Int)(x:PyData)(M:Sto):wX [some (I n),some (.d x)] M=some (B (bD n x).isSome,M):=by
 cases hi:aR x with
 |none=>
  have e:bD n x=none:=by unfold bD;rw[hi]
  have b:=HV n M (x:=x) (by unfold dI;rw[hi]);rw[e];simp![wX,b];rfl
 |some ds=>
  cases h3:((ds.length:Int)==3)with
  |false=>
   have b:=HV n M (x:=x) (by unfold dI;rw[hi];exact h3);rw[rL hi h3];simp![wX,b];rfl
  |true=>
   obtain⟨a,b,c,rfl⟩:=WG ds h3;have i2:∀M,ixF (.d x) (I 2) M=some (.d c,M):=fun M=>bZ hi;rw[rR hi]
   have no:∀(q:plB n a=false\/plB n b=false),GN n a b=false->wX [some (I n),some (.d x)] M=some (B (GN n a b&&fA c),M):=fun q e=>by
    have bt:=EY n M hi q;rw[e,J8];simp![wX,bt]
   cases a with
   |int i=>
    cases b with
    |int j=>
     have bt:=NQ n i j M hi;cases w:GN n (.int i) (.int j)with
     |false=>rw[w]at bt;simp![wX,bt,Bool.false_and]
     |true=>rw[w]at bt;simp![wX,bt,i2,zK,Bool.true_and]
    |_=>exact no (.inr rfl) rfl
   |_=>exact no (.inl rfl) rfl
theorem sz{k:Nat}(h:k<=1000):k<=sizeLine:=by rw[E6];omega
theorem vE(bs:List Bool):boolsOf (bs.map .bool)=some bs:=by
 induction bs with
 |nil=>rfl
 |cons b bs ih=>
  show(boolsOf (bs.map .bool)).bind _=_;rw[ih];rfl
theorem mD:∀ds:List PyData,kG (ds.map .d)=some ds
 |[]=>rfl
 |d::ds=>by
  show(kG (ds.map .d)).map (d::·)=_;rw[mD ds];rfl
theorem DN(n:Int)(M:Sto):∀(ds:List PyData)(g:Option CD),lcF (hName 1) jP wX (ds.map .d) [some (I n),g] M=some ((ds.map fun d=>PyData.bool (bD n d).isSome).map .d,M)
 |[]=>fun g=>rfl
 |d::ds=>fun g=>by
  have ih:=DN n M ds (some (.d d));rw[B8,B8,B8];unfold lcF;rw[show hName 1 (.d d) [some (I n),g] M=some ([some (I n),some (.d d)],M)from rfl,A2];dsimp only;rw[show jP [some (I n),some (.d d)] M=some (true,M)from rfl,A2];dsimp only;rw[A4 rfl,aAM,A2];dsimp only;rw[ih];rfl
theorem sE{cap:List (Option Nat)}{c:TF}{xs:List CD}(it:f γ M=some (xs,M))(hl:xs.length<=sizeLine)(lc:lcF g c ee xs (BJ cap γ) M=some (ys.map .d,M))(hy:ys.length<=sizeLine):fLc cap f g c ee γ M=some (.d (.list ys),M):=by
 unfold fLc gI wO;rw[it,A2];dsimp only;rw[A4 hl,lc,A2];dsimp only;rw[mD,A2,A4 hy]
theorem tJ{f:EF}(h:aR x=some ds)(hf:f γ M=some (.d x,M)):eE f γ M=some (ds.map .d,M):=by
 unfold eE;rw[hf,A2];dsimp only;rw[h];rfl
theorem aBY{n:Int}(h:aR x=some ds)(hl:ds.length<=1000):qE [some (I n),some (.d x)] M=some (.d (.list (ds.map fun d=>PyData.bool (bD n d).isSome)),M):=
 sE (tJ h rfl) (sz (by rw[A1];exact hl)) (DN n M ds none) (sz (by rw[A1];exact hl))
theorem XT(ds:List PyData)(p:PyData->Bool)(M:Sto):zV [.d (.list (ds.map fun d=>PyData.bool (p d)))] M=some (B (ds.all p),M):=by
 have:=vE (ds.map p);rw[S0]at this;show(boolsOf (ds.map (PyData.bool ∘ p))).bind _=_;rw[this,A2,List.all_map];rfl
noncomputable abbrev Ed:=Int×Int
noncomputable abbrev at0(l:List Int)(p:Int):Int:=l.getD p.toNat 0
noncomputable def cS(l:List Int)(t:Ed):List Int:=l.map (fun z=>if z=at0 l t.2 then at0 l t.1 else z)
noncomputable def zs(n:Nat):List Int:=(List.range n).map Int.ofNat
noncomputable abbrev Inn(n:Nat)(p:Int):Prop:=0<=p/\p<n
theorem jT(l:List Int)(t:Ed):(cS l t).length=l.length:=by simp[cS]
theorem oD(n:Nat):(zs n).length=n:=by simp[zs]
theorem uY(h:Inn n p):at0 (zs n) p=p:=by
 have:p.toNat<n:=by omega
 simp only[at0,zs,List.getD_eq_getElem?_getD,List.getElem?_map,List.getElem?_range this,Option.map_some,Option.getD_some];show((p.toNat:Nat):Int)=p;omega
theorem zs_mem:q∈zs n↔Inn n q:=by
 unfold zs;rw[List.mem_map];constructor
 .rintro⟨k,hk,rfl⟩;have:=List.mem_range.mp hk;exact⟨Int.natCast_nonneg k,by show((k:Nat):Int)<n;omega⟩
 .intro h;exact⟨q.toNat,List.mem_range.mpr (by omega),by show((q.toNat:Nat):Int)=q;omega⟩
theorem MX(n:Nat):(zs n).Nodup:=by
 unfold zs;rw[Y0,List.pairwise_map];exact(List.nodup_iff_pairwise_ne.mp List.nodup_range).imp fun h e=>h (by have:((_:Nat):Int)=((_:Nat):Int):=e;omega)
theorem cX{t:Ed}(hl:l.length=n)(hp:Inn n p):at0 (cS l t) p=if at0 l p=at0 l t.2 then at0 l t.1 else at0 l p:=by
 have hp':p.toNat<l.length:=by omega
 unfold cS;simp only[at0,List.getD_eq_getElem?_getD,List.getElem?_map,List.getElem?_eq_getElem hp',Option.map_some,Option.getD_some]
noncomputable abbrev Oks(n:Nat)(us:List Ed):Prop:=∀t∈us,Inn n t.1/\Inn n t.2
theorem zO{n:Nat}:∀(us:List Ed)(l:List Int),l.length=n->Oks n us->∀p q,Inn n p->Inn n q->((p,q)∈us\/at0 l p=at0 l q)->at0 (us.foldl cS l) p=at0 (us.foldl cS l) q
 |[]=>fun l _ _ p q _ _ h=>by
  rcases h with h|h
  .cases h
  .exact h
 |u::us=>fun l hl ok p q hp hq h=>by
  rw[U6];refine zO us (cS l u) (by rw[jT,hl]) (fun t ht=>ok t (B1 _ ht)) p q hp hq ?_;rcases h with h|h
  .rcases List.mem_cons.mp h with e|ht
   .right
    subst e;rw[cX hl hp,cX hl hq,A4 rfl];split<;>rfl
   .exact .inl ht
  .right
   rw[cX hl hp,cX hl hq,h]
theorem tY{n:Nat}{S:Int->Prop}:∀(us:List Ed)(l:List Int),l.length=n->Oks n us->(∀t∈us,(S t.1↔S t.2))->(∀p q,Inn n p->Inn n q->at0 l p=at0 l q->(S p↔S q))->
 ∀p q,Inn n p->Inn n q->at0 (us.foldl cS l) p=at0 (us.foldl cS l) q->(S p↔S q)
 |[]=>fun l _ _ _ h=>h
 |u::us=>fun l hl ok cl h=>by
  rw[U6];refine tY us (cS l u) (by rw[jT,hl]) (fun t ht=>ok t (B1 _ ht)) (fun t ht=>cl t (B1 _ ht)) ?_;intro p q hp hq e;obtain⟨ui,uj⟩:=ok u (B6 ..);rw[cX hl hp,cX hl hq]at e;have c:=cl u (B6 ..);by_cases h1:at0 l p=at0 l u.2
  .rw[A4 h1]at e;by_cases h2:at0 l q=at0 l u.2
   .exact h p q hp hq (h1.trans h2.symm)
   .rw[A6 h2]at e;exact(h p u.2 hp uj h1).trans (c.symm.trans (h u.1 q ui hq e))
  .rw[A6 h1]at e;by_cases h2:at0 l q=at0 l u.2
   .rw[A4 h2]at e;exact(h p u.1 hp ui e).trans (c.trans (h u.2 q uj hq h2.symm))
   .rw[A6 h2]at e;exact h p q hp hq e
noncomputable def jV(n:Nat)(us:List Ed):List Int:=us.foldl cS (zs n)
theorem AK{us:List Ed}{S:Int->Prop}(ok:Oks n us)(cl:∀t∈us,(S t.1↔S t.2))(hp:Inn n p)(hq:Inn n q)(e:at0 (jV n us) p=at0 (jV n us) q):S p↔S q:=
 tY us (zs n) (oD n) ok cl (fun p q hp hq e=>by rw[uY hp,uY hq]at e;rw[e]) p q hp hq e
theorem pC{us:List Ed}(ok:Oks n us){t:Ed}(ht:t∈us):at0 (jV n us) t.1=at0 (jV n us) t.2:=
 zO us (zs n) (oD n) ok t.1 t.2 (ok t ht).1 (ok t ht).2 (.inl ht)
structure Lb(n:Nat)(l:List Int):Prop where
 len:l.length=n
 inn:∀p,Inn n p->Inn n (at0 l p)
 own:∀p,Inn n p->at0 l (at0 l p)=at0 l p
theorem Lb.start(n:Nat):Lb n (zs n):=⟨oD n,fun p hp=>by rw[uY hp];exact hp,fun p hp=>by rw[uY hp,uY hp]⟩
theorem Lb.next{t:Ed}(h:Lb n l)(h1:Inn n t.1)(h2:Inn n t.2):Lb n (cS l t):=by
 refine⟨by rw[jT,h.len],fun p hp=>?_,fun p hp=>?_⟩
 .rw[cX h.len hp];split
  .exact h.inn _ h1
  .exact h.inn _ hp
 .rw[cX h.len hp];by_cases e:at0 l p=at0 l t.2
  .rw[A4 e,cX h.len (h.inn _ h1),h.own _ h1];split<;>rfl
  .rw[A6 e,cX h.len (h.inn _ hp),h.own _ hp,A6 e]
noncomputable def roots(n:Nat)(l:List Int):Nat:=(zs n).countP fun p=>at0 l p==p
theorem wG{r:Int}{f g:Int->Bool}:∀xs:List Int,xs.Nodup->r∈xs->(∀p∈xs,p≠r->f p=g p)->g r=true->f r=false->xs.countP f+1=xs.countP g
 |[]=>fun _ h _ _ _=>by cases h
 |x::xs=>fun nd h e gr fr=>by
  rw[List.nodup_cons]at nd;have same:∀ys:List Int,(∀p∈ys,f p=g p)->ys.countP f=ys.countP g:=fun ys hy=>List.countP_congr fun p hp=>by rw[hy p hp]
  by_cases q:x=r
  .subst q;rw[List.countP_cons,List.countP_cons,gr,fr,same xs fun p hp=>e p (B1 _ hp) fun z=>nd.1 (z▸hp)];simp
  .have hr:r∈xs:=(List.mem_cons.mp h).resolve_left fun z=>q z.symm;have ih:=wG xs nd.2 hr (fun p hp=>e p (B1 _ hp)) gr fr;rw[List.countP_cons,List.countP_cons,e x (B6 ..) q];omega
theorem sZ{t:Ed}(h:Lb n l)(h1:Inn n t.1)(h2:Inn n t.2)(ne:at0 l t.1≠at0 l t.2):roots n (cS l t)+1=roots n l:=by
 refine wG (r:=at0 l t.2) _ (MX n) (zs_mem.mpr (h.inn _ h2)) (fun p hp q=>?_) ?_ ?_
 .have hp:=zs_mem.mp hp;rw[cX h.len hp];by_cases e:at0 l p=at0 l t.2
  .rw[A4 e,e];have a:(at0 l t.2==p)=false:=by rw[F9];exact fun z=>q z.symm
   have b:(at0 l t.1==p)=false:=by
    rw[F9];intro z;have:=h.own _ h1;rw[z,e,<- z]at this;exact ne this.symm
   rw[a,b]
  .rw[A6 e]
 .rw[h.own _ h2,S7]
 .rw[cX h.len (h.inn _ h2),h.own _ h2,A4 rfl,F9];exact ne
theorem sV{t:Ed}(e:at0 l t.1=at0 l t.2):cS l t=l:=by
 unfold cS;rw[e]
 conv=>rhs;rw[<- List.map_id l]
 refine S1 fun z _=>?_;split
 .rename_i h;exact h.symm
 .rfl
noncomputable def lA:List Int->List Ed->Bool
 |_,[]=>true
 |l,t::us=>!(at0 l t.1==at0 l t.2)&&lA (cS l t) us
theorem zM{n:Nat}:∀(us:List Ed)(l:List Int),Lb n l->Oks n us->Lb n (us.foldl cS l)/\roots n l<=roots n (us.foldl cS l)+us.length/\(lA l us=true↔roots n l=roots n (us.foldl cS l)+us.length)
 |[]=>fun l h _=>⟨h,A7 _,by simp[lA]⟩
 |t::us=>fun l h ok=>by
  obtain⟨h1,h2⟩:=ok t (B6 ..);rw[U6];obtain⟨a,b,c⟩:=zM us (cS l t) (h.next h1 h2) fun u hu=>ok u (B1 _ hu);refine⟨a,?_,?_⟩
  .by_cases e:at0 l t.1=at0 l t.2
   .rw[sV e]at b ⊢;rw[C8];omega
   .have:=sZ h h1 h2 e;rw[C8];omega
  .unfold lA;by_cases e:at0 l t.1=at0 l t.2
   .rw[show(at0 l t.1==at0 l t.2)=true from beq_iff_eq.mpr e];rw[sV e]at b ⊢;rw[C8];constructor
    .intro z;simp at z
    .intro z;omega
   .have:=sZ h h1 h2 e;rw[show(at0 l t.1==at0 l t.2)=false from beq_eq_false_iff_ne.mpr e,C8];rw[Bool.not_false,E4,c];omega
theorem JX(n:Nat):roots n (zs n)=n:=by
 unfold roots
 have:(zs n).countP (fun p=>at0 (zs n) p==p)=(zs n).length:=List.countP_eq_length.mpr fun p hp=>by
  rw[uY (zs_mem.mp hp),S7]
 rw[this,oD]
theorem HG(h:Lb n l)(h0:0<n):roots n l=1↔∀p,Inn n p->at0 l p=at0 l 0:=by
 have i0:Inn n 0:=⟨by omega,by omega⟩
 have rt:∀p,Inn n p->at0 l p∈(zs n).filter fun p=>at0 l p==p:=fun p hp=>by
  rw[List.mem_filter,zs_mem,S7];exact⟨h.inn p hp,h.own p hp⟩
 constructor
 .intro e p hp;unfold roots at e;rw[List.countP_eq_length_filter]at e;obtain⟨c,hc⟩:=List.length_eq_one_iff.mp e;have a:=rt p hp;have b:=rt 0 i0;rw[hc,D5]at a b;rw[a,b]
 .intro e;unfold roots;rw[List.countP_eq_length_filter]
  have:(zs n).filter (fun p=>at0 l p==p)=[at0 l 0]:=by
   have nd:((zs n).filter fun p=>at0 l p==p).Nodup:=(MX n).filter fun p=>at0 l p==p
   have all:∀x∈(zs n).filter (fun p=>at0 l p==p),x=at0 l 0:=fun x hx=>by
    rw[List.mem_filter,zs_mem,S7]at hx;rw[<- e x hx.1];exact hx.2.symm
   have mem:=rt 0 i0;generalize (zs n).filter (fun p=>at0 l p==p)=xs at nd all mem;rcases xs with _|⟨x,_|⟨y,ys⟩⟩
   .cases mem
   .rw[all x (B6 ..)]
   .rw[List.nodup_cons]at nd;exact absurd (List.mem_cons.mpr (.inl ((all x (B6 ..)).trans (all y (by simp)).symm))) nd.1
  rw[this];rfl
theorem vW{us:List Ed}(h0:0<n)(hl:us.length+1=n)(ok:Oks n us):lA (zs n) us=true↔∀p,Inn n p->at0 (jV n us) p=at0 (jV n us) 0:=by
 obtain⟨a,b,c⟩:=zM us (zs n) (Lb.start n) ok;rw[JX]at b c;rw[c];show _↔∀p,Inn n p->at0 (us.foldl cS (zs n)) p=at0 (us.foldl cS (zs n)) 0;rw[<- HG a h0];omega
noncomputable abbrev Adj:=List (List (Int×Int))
noncomputable def uM(A:Adj)(p:Int)(q:Int×Int):Adj:=A.set p.toNat (A.getD p.toNat []++[q])
noncomputable def AQ(A:Adj)(t:Ed)(k:Int):Adj:=uM (uM A t.1 (t.2,k)) t.2 (t.1,k)
noncomputable def gP:Adj->Nat->List Ed->Adj
 |A,_,[]=>A
 |A,k,t::us=>gP (AQ A t (k:Nat)) (k+1) us
noncomputable def nU(n:Nat)(us:List Ed):Adj:=gP (List.replicate n []) 0 us
theorem tS(A:Adj)(p:Int)(q:Int×Int):(uM A p q).length=A.length:=by simp[uM]
theorem sS(A:Adj)(t:Ed)(k:Int):(AQ A t k).length=A.length:=by simp[AQ,tS]
theorem sW:∀(us:List Ed)(A:Adj)(k:Nat),(gP A k us).length=A.length
 |[]=>fun _ _=>rfl
 |t::us=>fun A k=>by unfold gP;rw[sW us,sS]
theorem EO{A:Adj}{q:Int×Int}(hl:A.length=n)(hp:Inn n p)(hr:Inn n r)(x:Int×Int):x∈(uM A p q).getD r.toNat []↔(x∈A.getD r.toNat []\/(p=r/\x=q)):=by
 have hr':r.toNat<A.length:=by omega
 unfold uM;rw[A9,List.getElem?_set];by_cases h:p.toNat=r.toNat
 .have e:p=r:=by omega
  subst e;rw[A4 rfl,A4 hr',Option.getD_some,List.mem_append,D5];simp
 .have e:p≠r:=fun e=>h (by rw[e]);rw[A6 h,<- A9];simp[e]
noncomputable def Lies(us:List Ed)(k:Nat)(r x m:Int):Prop:=∃(j:Nat)(t:Ed),us[j]?=some t/\m=((k+j:Nat):Int)/\((t.1=r/\t.2=x)\/(t.2=r/\t.1=x))
theorem GK{t:Ed}{us:List Ed}{k:Nat}{x m:Int}:Lies (t::us) k r x m↔(m=(k:Nat)/\((t.1=r/\t.2=x)\/(t.2=r/\t.1=x)))\/Lies us (k+1) r x m:=by
 constructor
 .rintro⟨j,u,h1,h2,h3⟩;cases j with
  |zero=>
   rw[List.getElem?_cons_zero]at h1;cases h1;exact .inl ⟨by simpa using h2,h3⟩
  |succ j=>
   rw[List.getElem?_cons_succ]at h1;exact .inr ⟨j,u,h1,by rw[h2];congr 1;omega,h3⟩
 .rintro(⟨h1,h2⟩|⟨j,u,h1,h2,h3⟩)
  .exact⟨0,t,rfl,by simpa using h1,h2⟩
  .exact⟨j+1,u,by rw[List.getElem?_cons_succ];exact h1,by rw[h2];congr 1;omega,h3⟩
theorem DT{n:Nat}:∀(us:List Ed)(A:Adj)(k:Nat),A.length=n->Oks n us->∀r x m,Inn n r->((x,m)∈(gP A k us).getD r.toNat []↔((x,m)∈A.getD r.toNat []\/Lies us k r x m))
 |[]=>fun A k _ _ r x m _=>by
  unfold gP Lies;simp
 |t::us=>fun A k hl ok r x m hr=>by
  obtain⟨ti,tj⟩:=ok t (B6 ..);unfold gP;rw[DT us (AQ A t (k:Nat)) (k+1) (by rw[sS,hl]) (fun s hs=>ok s (B1 _ hs)) r x m hr,GK];unfold AQ;rw[EO (by rw[tS,hl]) tj hr,EO hl ti hr];simp only[Prod.mk.injEq];constructor
  .rintro(((h|⟨h1,h2,h3⟩)|⟨h1,h2,h3⟩)|h)
   .exact .inl h
   .exact .inr (.inl ⟨h3,.inl ⟨h1,h2.symm⟩⟩)
   .exact .inr (.inl ⟨h3,.inr ⟨h1,h2.symm⟩⟩)
   .exact .inr (.inr h)
  .rintro(h|⟨h1,⟨h2,h3⟩|⟨h2,h3⟩⟩|h)
   .exact .inl (.inl (.inl h))
   .exact .inl (.inl (.inr ⟨h2,h3.symm,h1⟩))
   .exact .inl (.inr ⟨h2,h3.symm,h1⟩)
   .exact .inr h
theorem rK{us:List Ed}(ok:Oks n us){x m:Int}(hr:Inn n r):(x,m)∈(nU n us).getD r.toNat []↔Lies us 0 r x m:=by
 unfold nU;rw[DT us _ 0 (by simp) ok r x m hr]
 have:(List.replicate n ([]:List (Int×Int))).getD r.toNat []=[]:=by
  rw[A9,S8];split<;>rfl
 rw[this];simp
structure Sc where
 fs:List Int
 ws:List Int
 ss:List (Int×Int×Int)
noncomputable def see(u:Int)(s:Sc)(x:Int×Int):Sc:=if x.1∈s.fs then s else⟨s.fs++[x.1],s.ws++[x.1],s.ss++[(u,x.1,x.2)]⟩
theorem xQ{n:Nat}{P:Int->Prop}{u:Int}:∀(xs:List (Int×Int))(s:Sc),(∀x∈xs,Inn n x.1/\P x.1)->s.fs.Nodup->(∀x∈s.fs,Inn n x/\P x)->
 ∃new:List (Int×Int),xs.foldl (see u) s=⟨s.fs++new.map (·.1),s.ws++new.map (·.1),s.ss++new.map fun y=>(u,y.1,y.2)⟩/\(s.fs++new.map (·.1)).Nodup/\(∀y∈new,y∈xs)/\(∀x∈xs,x.1∈s.fs++new.map (·.1))
 |[]=>fun s _ nd _=>⟨[],by simp,by simpa using nd,(by intro x hx;cases hx),(by intro x hx;cases hx)⟩
 |x::xs=>fun s hx nd hf=>by
  rw[U6];have hx':∀y∈xs,Inn n y.1/\P y.1:=fun y hy=>hx y (B1 _ hy);by_cases h:x.1∈s.fs
  .have e:see u s x=s:=by unfold see;rw[A4 h]
   rw[e];obtain⟨new,h1,h2,h3,h4⟩:=xQ (u:=u) xs s hx' nd hf;refine⟨new,h1,h2,fun y hy=>B1 _ (h3 y hy),fun y hy=>?_⟩;rcases List.mem_cons.mp hy with rfl|hy
   .exact D2 _ h
   .exact h4 y hy
  .have e:see u s x=⟨s.fs++[x.1],s.ws++[x.1],s.ss++[(u,x.1,x.2)]⟩:=by unfold see;rw[A6 h]
   rw[e]
   have nd':(s.fs++[x.1]).Nodup:=by
    rw[List.nodup_append];exact⟨nd,by simp,fun a ha b hb=>by rw[D5]at hb;rw[hb];exact fun q=>h (q▸ha)⟩
   have hf':∀y∈s.fs++[x.1],Inn n y/\P y:=fun y hy=>by
    rcases List.mem_append.mp hy with hy|hy
    .exact hf y hy
    .rw[D5]at hy;rw[hy];exact hx x (B6 ..)
   obtain⟨new,h1,h2,h3,h4⟩:=xQ (u:=u) xs ⟨s.fs++[x.1],s.ws++[x.1],s.ss++[(u,x.1,x.2)]⟩ hx' nd' hf';refine⟨x::new,?_,?_,?_,?_⟩
   .rw[h1];simp
   .simpa using h2
   .intro y hy;rcases List.mem_cons.mp hy with rfl|hy
    .exact B6 ..
    .exact B1 _ (h3 y hy)
   .intro y hy;have r:s.fs++[x.1]++new.map (·.1)=s.fs++(x::new).map (·.1):=by simp
    rw[<- r];rcases List.mem_cons.mp hy with rfl|hy
    .exact D2 _ (C2 _ (List.mem_singleton.mpr rfl))
    .exact h4 y hy
structure sJ(n:Nat)(A:Adj)(P:Int->Prop)(p:Int)(s:Sc):Prop where
 nd:s.fs.Nodup
 ok:∀x∈s.fs,Inn n x/\P x
 has:p∈s.fs
 sub:∀x∈s.ws,x∈s.fs
 cl:∀u∈s.fs,u∈s.ws\/∀v∈A.getD u.toNat [],v.1∈s.fs
 st:s.fs=p::s.ss.map (·.2.1)
theorem sJ.start{A:Adj}{P:Int->Prop}(hp:Inn n p)(h:P p):sJ n A P p ⟨[p],[p],[]⟩:=
 ⟨by simp,fun x hx=>by rw[D5]at hx;rw[hx];exact⟨hp,h⟩,List.mem_singleton.mpr rfl,fun x hx=>hx,fun u hu=>.inl hu,rfl⟩
theorem sJ.step{A:Adj}{P:Int->Prop}{fs:List Int}{ss:List (Int×Int×Int)}(h:sJ n A P p ⟨fs,ws++[u],ss⟩)(hA:∀x y,Inn n x->P x->y∈A.getD x.toNat []->Inn n y.1/\P y.1):
 ∃new:List (Int×Int),(A.getD u.toNat []).foldl (see u) ⟨fs,ws,ss⟩=⟨fs++new.map (·.1),ws++new.map (·.1),ss++new.map fun y=>(u,y.1,y.2)⟩/\(∀y∈new,y∈A.getD u.toNat [])/\sJ n A P p ⟨fs++new.map (·.1),ws++new.map (·.1),ss++new.map fun y=>(u,y.1,y.2)⟩:=by
 have hu:=h.ok u (h.sub u (C2 _ (List.mem_singleton.mpr rfl)));obtain⟨new,h1,h2,h3,h4⟩:=xQ (n:=n) (P:=P) (u:=u) (A.getD u.toNat []) ⟨fs,ws,ss⟩ (fun x hx=>hA u x hu.1 hu.2 hx) h.nd h.ok;refine⟨new,h1,h3,h2,fun x hx=>?_,D2 _ h.has,fun x hx=>?_,fun v hv=>?_,?_⟩
 .rcases List.mem_append.mp hx with hx|hx
  .exact h.ok x hx
  .obtain⟨y,hy,rfl⟩:=List.mem_map.mp hx;exact hA u y hu.1 hu.2 (h3 y hy)
 .rcases List.mem_append.mp hx with hx|hx
  .exact D2 _ (h.sub x (D2 _ hx))
  .exact C2 _ hx
 .rcases List.mem_append.mp hv with hv|hv
  .rcases h.cl v hv with w|w
   .rcases List.mem_append.mp w with w|w
    .exact .inl (D2 _ w)
    .rw[D5]at w;rw[w];exact .inr h4
   .exact .inr fun y hy=>D2 _ (w y hy)
  .exact .inl (C2 _ hv)
 .have:=h.st;dsimp only at this ⊢;rw[this,E3,S0,List.cons_append];rfl
theorem yL{fs:List Int}(nd:fs.Nodup)(ok:∀x∈fs,Inn n x):fs.length<=n:=by
 have h2:=List.Nodup.length_le_of_subset nd (l₂:=zs n) fun x hx=>zs_mem.mpr (ok x hx)
 rwa [oD]at h2
theorem XB{fs:List Int}(nd:fs.Nodup)(ok:∀x∈fs,Inn n x):fs.length=n↔∀p,Inn n p->p∈fs:=by
 constructor
 .intro e p hp;refine Classical.byContradiction fun h=>?_
  have:=yL (n:=n) (fs:=p::fs) (List.nodup_cons.mpr ⟨h,nd⟩) (fun x hx=>by
   rcases List.mem_cons.mp hx with rfl|hx
   .exact hp
   .exact ok x hx)
  rw[C8]at this;omega
 .intro e;have h1:=yL nd ok;have h2:=List.Nodup.length_le_of_subset (MX n) (l₂:=fs) fun x hx=>e x (zs_mem.mp hx);rw[oD]at h2;omega
theorem LY{us:List Ed}{k:Nat}{x m:Int}(h:Lies us k r x m):(r,x)∈us\/(x,r)∈us:=by
 obtain⟨j,t,h1,_,h3⟩:=h;have ht:=List.mem_of_getElem? h1;rcases h3 with⟨rfl,rfl⟩|⟨rfl,rfl⟩
 .exact .inl ht
 .exact .inr ht
theorem VW{us:List Ed}(ok:Oks n us)(x:Int)(y:Int×Int)(hx:Inn n x)(e:at0 (jV n us) x=at0 (jV n us) p)(hy:y∈(nU n us).getD x.toNat []):Inn n y.1/\at0 (jV n us) y.1=at0 (jV n us) p:=by
 rcases LY ((rK ok hx).mp (show(y.1,y.2)∈_ from hy))with h|h
 .exact⟨(ok _ h).2,by rw[<- e];exact(pC ok h).symm⟩
 .exact⟨(ok _ h).1,by rw[<- e];exact pC ok h⟩
theorem sJ.done{us:List Ed}{fs:List Int}{ss:List (Int×Int×Int)}(ok:Oks n us)(hp:Inn n p)
 (h:sJ n (nU n us) (fun q=>at0 (jV n us) q=at0 (jV n us) p) p ⟨fs,[],ss⟩):fs.length=n↔∀q,Inn n q->at0 (jV n us) q=at0 (jV n us) p:=by
 have cl:∀u∈fs,∀v∈(nU n us).getD u.toNat [],v.1∈fs:=fun u hu v hv=>by
  rcases h.cl u hu with w|w
  .cases w
  .exact w v hv
 have S:∀t∈us,(t.1∈fs↔t.2∈fs):=fun t ht=>by
  obtain⟨j,hj⟩:=List.getElem?_of_mem ht;exact⟨fun hi=>cl t.1 hi (t.2,((0+j:Nat):Int)) ((rK ok (ok t ht).1).mpr ⟨j,t,hj,rfl,.inl ⟨rfl,rfl⟩⟩),fun hi=>cl t.2 hi (t.1,((0+j:Nat):Int)) ((rK ok (ok t ht).2).mpr ⟨j,t,hj,rfl,.inr ⟨rfl,rfl⟩⟩)⟩
 rw[XB h.nd fun x hx=>(h.ok x hx).1];exact⟨fun e q hq=>(h.ok q (e q hq)).2,fun e q hq=>(AK (S:=(·∈fs)) ok S hq hp (e q hq)).mpr h.has⟩
noncomputable abbrev pD(p:Int×Int):CD:=.d (.tuple [.int p.1,.int p.2])
noncomputable def pK(l:List (Int×Int)):Cell:=.lst (l.map pD)
noncomputable abbrev StA(M:Sto)(A:Adj)(c:Cell):Sto:=M++(A.map pK++[c])
theorem BW{A:Adj}{c:Cell}{k:Nat}(h:k<A.length):(StA M A c)[M.length+k]?=some (pK (A.getD k [])):=by
 unfold StA;rw[C1 (I0 ..),F6,L4 (by rw[A1];exact h),C6,A9,B4 h];rfl
theorem EC{A:Adj}{c:Cell}:(StA M A c)[M.length+A.length]?=some c:=by
 unfold StA;rw[C1 (I0 ..),F6,C1 (by rw[A1];exact A7 _),A1,F8];rfl
theorem NZ{A:Adj}{c:Cell}{k:Nat}{l:List (Int×Int)}(h:k<A.length):(StA M A c).set (M.length+k) (pK l)=StA M (A.set k l) c:=by
 unfold StA;rw[J9 _ _ (I0 ..),F6,List.set_append_left _ _ (by rw[A1];exact h),List.map_set]
noncomputable def bH(b n:Nat):List CD:=(List.range n).map fun k=>.c (b+k)
theorem mR{α:Type}{xs:List α}{k:Nat}{x:α}(h:xs[k]?=some x):atI xs (k:Int)=some x:=by
 have hk:k<xs.length:=(List.getElem?_eq_some_iff.mp h).1;unfold atI ixN;rw[A4 (Int.natCast_nonneg k),A4 (by omega),A2,J2,h]
theorem zH{b:Nat}(h:Inn n p):atI (bH b n) p=some (.c (b+p.toNat)):=by
 have:p.toNat<n:=by omega
 have e:p=((p.toNat:Nat):Int):=by omega
 rw[e];refine mR ?_;rw[J2];unfold bH;rw[C6,List.getElem?_range this];rfl
theorem AV{A:Adj}(hA:A.length=n)(h:Inn n p):ixF (.c (M.length+n)) (I p) (StA M A (.lst (bH M.length n)))=some (.c (M.length+p.toNat),StA M A (.lst (bH M.length n))):=by
 have e:=EC (M:=M) (A:=A) (c:=.lst (bH M.length n));rw[hA]at e;simp only[ixF,e,zH h,Option.bind_some]
theorem DY{A:Adj}{c:Cell}{q:Int×Int}(hA:A.length=n)(h:Inn n p)(hl:(A.getD p.toNat []).length<1000):bY (.c (M.length+p.toNat)) [.d (.tuple [.int q.1,.int q.2])] (StA M A c)=some (.d .none,StA M (uM A p q) c):=by
 have hp:p.toNat<A.length:=by omega
 have e:=BW (M:=M) (c:=c) hp;have l:((A.getD p.toNat []).map pD).length<sizeLine:=by rw[A1,E6];exact B9 hl (by decide)
 have s:=NZ (M:=M) (c:=c) (l:=A.getD p.toNat []++[q]) hp;unfold pK at e s;rw[E3,J1]at s;simp only[bY,e,if_pos l,s];rfl
theorem JZ{A:Adj}{c:Cell}(hA:A.length=n)(h:Inn n p):tyB "list" (StA M A c) (.c (M.length+p.toNat))=true:=by
 have e:=BW (M:=M) (c:=c) (show p.toNat<A.length by omega);unfold pK at e;simp only[tyB,e];decide
theorem vP:∀(n:Nat)(xs:List CD)(g:Option CD)(M:Sto),xs.length=n->lcF (hName 0) jP (kS aG) xs [g] M=some (bH M.length n,M++(List.replicate n ([]:List (Int×Int))).map pK)
 |0,[],g,M,_=>by simp[lcF,bH]
 |n+1,x::xs,g,M,h=>by
  have ih:=vP n xs (some x) (M++[.lst []]) (by simpa using h);simp only[lcF,hName,jP,kS,aG,Option.bind_some,if_true,List.length_nil,Nat.zero_le,List.set_cons_zero,ih,List.length_append,List.length_singleton];refine F4 some (Prod.ext ?_ ?_)
  .unfold bH;rw[List.range_succ_eq_map,B8,S0];refine F4 (List.cons _) (S1 fun k _=>?_);exact F4 CD.c (by show M.length+1+k=M.length+(k+1);omega)
  .rw[D9,List.replicate_succ,B8];rfl
theorem EW(lo:Int)(n:Nat):(fN lo n).length=n:=by simp[fN]
theorem oR{A:Adj}{q:Int×Int}{k:Nat}(h:∀r,(A.getD r []).length<=k):∀r,((uM A p q).getD r []).length<=k+1:=by
 intro r;unfold uM;rw[A9,List.getElem?_set];split
 .split
  .rw[Option.getD_some,B0,C4];exact Nat.add_le_add_right (h _) 1
  .exact E9 _
 .rw[<- A9];exact Nat.le_succ_of_le (h r)
theorem oS{n:Int}{t:Ed}(h:bD n d=some t):∃a,aR d=some [.int t.1,.int t.2,a]/\fA a=true/\0<=t.1/\t.1<t.2/\t.2<n:=by
 unfold bD at h;split at h
 .rename_i i j a e;split at h
  .rename_i c;cases h;simp only[Bool.and_eq_true,decide_eq_true_eq]at c;exact⟨a,e,c.2,c.1.1.1,c.1.1.2,c.1.2⟩
  .cases h
 .cases h
theorem lX{t:Ed}(h:bD n d=some t):Inn n t.1/\Inn n t.2:=by
 obtain⟨_,_,_,h1,h2,h3⟩:=oS h;exact⟨⟨by omega,by omega⟩,⟨by omega,by omega⟩⟩
theorem AN{M:Sto}{A:Adj}{t:Ed}{m:Int}{x0:CD}(hA:A.length=n)(hd:bD n d=some t){k:Nat}(hk:∀r,(A.getD r []).length<=k)(k1:k<500):
 eZ [some x0,some (.c (M.length+n)),some (I m),some (.d d)] (StA M A (.lst (bH M.length n)))=some (.nx [some x0,some (.c (M.length+n)),some (I m),some (.d d)],StA M (AQ A t m) (.lst (bH M.length n))):=by
 obtain⟨a,hi,_⟩:=oS hd;obtain⟨h1,h2⟩:=lX hd;have i0:∀M,ixF (.d d) (I 0) M=some (I t.1,M):=fun M=>bZ hi;have i1:∀M,ixF (.d d) (I 1) M=some (I t.2,M):=fun M=>bZ hi;have hA':(uM A t.1 (t.2,m)).length=n:=by rw[tS,hA]
 have a1:=DY (M:=M) (c:=.lst (bH M.length n)) (q:=(t.2,m)) hA h1 (by have:=hk t.1.toNat;omega);have a2:=DY (M:=M) (c:=.lst (bH M.length n)) (q:=(t.1,m)) hA' h2 (by have:=oR (p:=t.1) (q:=(t.2,m)) hk t.2.toNat;omega);have s2:(2:Nat)<=sizeLine:=by decide
 simp![eZ,cM,i0,i1,AV hA h1,JZ hA h1,a1,AV hA' h2,JZ hA' h2,a2,s2];rfl
theorem FF(d:PyData)(ds:List PyData)(k:Nat):((d::ds).zipIdx k).map (fun p=>CD.d (.tuple [.int (p.2:Nat),p.1]))=.d (.tuple [.int (k:Nat),d])::(ds.zipIdx (k+1)).map (fun p=>CD.d (.tuple [.int (p.2:Nat),p.1])):=rfl
theorem pZ{M:Sto}{n:Nat}{x0:CD}:∀(ds:List PyData)(us:List Ed)(A:Adj)(k c:Nat)(g2 g3:Option CD),A.length=n->ds.mapM (bD n)=some us->(∀r,(A.getD r []).length<=k)->k+2*ds.length<500->
 ∃g2' g3',eS (nV 2 (dA (hName 2) (dA (hName 3) oB))) eZ ((ds.zipIdx c).map (fun p=>CD.d (.tuple [.int (p.2:Nat),p.1]))) [some x0,some (.c (M.length+n)),g2,g3] (StA M A (.lst (bH M.length n)))=some (.nx [some x0,some (.c (M.length+n)),g2',g3'],StA M (gP A c us) (.lst (bH M.length n)))
 |[]=>fun us A k c g2 g3 _ hm _ _=>by
  cases hm;exact⟨g2,g3,rfl⟩
 |d::ds=>fun us A k c g2 g3 hA hm hk hl=>by
  rw[O8]at hm;obtain⟨t,hd,hm⟩:=aI hm;obtain⟨us',hm',hm⟩:=aI hm;cases hm;rw[C8]at hl;have tn:=AN (M:=M) (x0:=x0) (m:=(c:Nat)) hA hd hk (by omega);obtain⟨a,b,h⟩:=pZ (M:=M) (x0:=x0) ds us' (AQ A t (c:Nat)) (k+2) (c+1) (some (I (c:Nat))) (some (.d d)) (by rw[sS,hA]) hm' (fun r=>oR (oR hk) r) (by omega);refine⟨a,b,?_⟩;unfold gP;rw[<- h,FF]
  conv=>lhs;unfold eS
  simp![tn]
theorem sF(h0:0<=J)(h1:J<=1000):cJ J=true:=by
 simp only[cJ,Bool.and_eq_true,decide_eq_true_eq];omega
theorem PL{cap:List (Option Nat)}{c:TF}{M1 M2:Sto}{xs ys:List CD}(it:f γ M=some (xs,M1))(hl:xs.length<=sizeLine)(lc:lcF g c ee xs (BJ cap γ) M1=some (ys,M2))(hy:ys.length<=sizeLine):IM cap f g c ee γ M=some (.c M2.length,M2++[.lst ys]):=by
 unfold IM kS wO;rw[it,A2];dsimp only;rw[A4 hl,lc,A2];dsimp only;rw[A4 hy]
theorem WE{x:CD}(hl:gN [x] M=some (I J,M))(sm:cJ (J+1)=true):gS (aB (fOp cH (aM gN (aB (aE 0) aG)) (fC (.int 1))) aG) (some x::γ) M=some (fN 0 (J+1).toNat,M):=by
 have ad:cH (I J) (I 1) M=some (I (J+1),M):=rfl;simp![gS,hl,ad,sm]
theorem KD{us:List Ed}{M:Sto}(hi:aR x=some ds)(hn:ds.length+1=n)(n40:n<=40)(hm:ds.mapM (bD n)=some us):
 gC [.d x] M=some (.c (M.length+n),StA M (nU n us) (.lst (bH M.length n))):=by
 have sm:cJ ((ds.length:Int)+1)=true:=sF (by omega) (by omega);have rl:(fN 0 n).length<=sizeLine:=by rw[EW];exact sz (by omega)
 have cl:(bH M.length n).length<=sizeLine:=by unfold bH;rw[A1,O5];exact sz (by omega)
 have nc:=vP n (fN 0 n) none M (EW 0 n)
 have r0:gS (aB (fOp cH (aM gN (aB (aE 0) aG)) (fC (.int 1))) aG) [some (.d x),none,none,none] M=some (fN 0 n,M):=by
  have:=WE (γ:=[none,none,none]) (M:=M) (fT hi) sm;rw[show((ds.length:Int)+1).toNat=n by omega]at this;exact this
 have c0:gM [some (.d x),none,none,none] M=some (.c (M.length+n),StA M (List.replicate n []) (.lst (bH M.length n))):=by
  unfold gM;rw[PL r0 rl nc cl,D9];refine F4 some (Prod.ext (F4 CD.c ?_) rfl);show(M++(List.replicate n ([]:List (Int×Int))).map pK).length=M.length+n;rw[B0,A1,List.length_replicate]
 obtain⟨g2,g3,lp⟩:=pZ (M:=M) (n:=n) (x0:=.d x) ds us (List.replicate n []) 0 0 none none (by simp) hm (fun r=>by rw[A9,S8];split<;>simp) (by omega)
 have it:yZ (aB (aE 0) aG) [some (.d x),some (.c (M.length+n)),none,none] (StA M (List.replicate n []) (.lst (bH M.length n)))=some ((ds.zipIdx 0).map (fun p=>CD.d (.tuple [.int (p.2:Nat),p.1])),StA M (List.replicate n []) (.lst (bH M.length n))):=by
  unfold yZ;show((aR x).bind _)=_;rw[hi];rfl
 simp![gC,jJ,c0,jA,it,lp,nU]
noncomputable abbrev T1:CD:=.d (.bool true)
noncomputable def kvs(fs:List Int):List (Key×CD):=fs.map fun x=>((.inl x:Key),T1)
theorem WY(fs:List Int)(x:Int):(lkC (kvs fs) (.inl x:Key)).isSome=decide (x∈fs):=by
 unfold lkC kvs;rw[Option.isSome_map]
 induction fs with
 |nil=>rfl
 |cons y fs ih=>
  rw[B8,List.find?_cons];by_cases h:y=x
  .subst h;simp
  .have h1:¬((Sum.inl y:Key)=Sum.inl x):=fun e=>h (Sum.inl.inj e);rw[C3 h1];dsimp only;rw[ih];have:(x∈y::fs)↔x∈fs:=by rw[List.mem_cons];exact⟨fun q=>q.resolve_left (fun e=>h e.symm),.inr⟩
   exact decide_eq_decide.mpr this.symm
theorem RW{fs:List Int}{x:Int}(h:x∉fs):putD (kvs fs) (.inl x:Key) T1=kvs (fs++[x]):=by
 unfold putD
 have:((kvs fs).any fun kv=>decide (kv.1=(Sum.inl x:Key)))=false:=by
  rw[List.any_eq_false];intro kv hkv;obtain⟨y,hy,rfl⟩:=List.mem_map.mp hkv;rw[F7];exact fun e=>h (Sum.inl.inj e▸hy)
 rw[this,A6 (by decide)];unfold kvs;rw[E3,J1]
noncomputable abbrev sD(t:Int×Int×Int):CD:=.d (.tuple [.int t.1,.int t.2.1,.int t.2.2])
noncomputable def wC(ws:List Int):Cell:=.lst (ws.map fun i=>I i)
noncomputable def sC(ss:List (Int×Int×Int)):Cell:=.lst (ss.map sD)
noncomputable abbrev Sts(N:Sto)(s:Sc):Sto:=N++[.dk (kvs s.fs),wC s.ws,sC s.ss]
section
variable{N:Sto}{s:Sc}
theorem TC:(Sts N s)[N.length]?=some (.dk (kvs s.fs)):=by
 unfold Sts;rw[C1 (A7 _),F8];rfl
theorem EA:(Sts N s)[N.length+1]?=some (wC s.ws):=by
 unfold Sts;rw[C1 (I0 ..),F6];rfl
theorem LP:(Sts N s)[N.length+2]?=some (sC s.ss):=by
 unfold Sts;rw[C1 (I0 ..),F6];rfl
theorem JA{fs':List Int}:(Sts N s).set N.length (.dk (kvs fs'))=Sts N { s with fs:=fs' }:=by
 unfold Sts;rw[J9 _ _ (A7 _),F8];rfl
theorem yS{ws':List Int}:(Sts N s).set (N.length+1) (wC ws')=Sts N { s with ws:=ws' }:=by
 unfold Sts;rw[J9 _ _ (I0 ..),F6];rfl
theorem MM{ss':List (Int×Int×Int)}:(Sts N s).set (N.length+2) (sC ss')=Sts N { s with ss:=ss' }:=by
 unfold Sts;rw[J9 _ _ (I0 ..),F6];rfl
theorem BD{k:Nat}{c:Cell}(h:N[k]?=some c):(Sts N s)[k]?=some c:=by
 unfold Sts;rw[L4 (List.getElem?_eq_some_iff.mp h).1];exact h
theorem aBr{x:Int}(hw:s.ws.length<1000):bY (.c (N.length+1)) [I x] (Sts N s)=some (.d .none,Sts N { s with ws:=s.ws++[x] }):=by
 have l2:(s.ws.map fun i=>I i).length<sizeLine:=by rw[A1,E6];omega
 have w:=EA (N:=N) (s:=s);have z:=yS (N:=N) (s:=s) (ws':=s.ws++[x]);unfold wC at w z;rw[E3,J1]at z;simp only[bY,w,if_pos l2];exact F4 (fun y=>some (CD.d .none,y)) z
theorem aBG:tyB "list" (Sts N s) (.c (N.length+1))=true:=by
 have w:=EA (N:=N) (s:=s);unfold wC at w;simp only[tyB,w];decide
theorem aAN{c:Int}(hw:s.ss.length<1000):bY (.c (N.length+2)) [.d (.tuple [.int a,.int b,.int c])] (Sts N s)=some (.d .none,Sts N { s with ss:=s.ss++[(a,b,c)] }):=by
 have l2:(s.ss.map sD).length<sizeLine:=by rw[A1,E6];omega
 have w:=LP (N:=N) (s:=s);have z:=MM (N:=N) (s:=s) (ss':=s.ss++[(a,b,c)]);unfold sC at w z;rw[E3,J1]at z;simp only[bY,w,if_pos l2];exact F4 (fun y=>some (CD.d .none,y)) z
theorem aBO:tyB "list" (Sts N s) (.c (N.length+2))=true:=by
 have w:=LP (N:=N) (s:=s);unfold sC at w;simp only[tyB,w];decide
end
noncomputable abbrev GR(x st b:CD)(D:Nat)(g6 g7 g8:Option CD):Ga:=[some x,some st,some b,some (.c D),some (.c (D+1)),some (.c (D+2)),g6,g7,g8]
theorem LQ{N:Sto}{s:Sc}{u:Int}{y:Int×Int}{x0 st b:CD}(hf:s.fs.length<1000)(hw:s.ws.length<1000)(hs:s.ss.length<1000):
 cO (GR x0 st b N.length (some (I u)) (some (I y.1)) (some (I y.2))) (Sts N s)=some (.nx (GR x0 st b N.length (some (I u)) (some (I y.1)) (some (I y.2))),Sts N (see u s y)):=by
 have l1:(kvs s.fs).length<sizeLine:=by unfold kvs;rw[A1,E6];omega
 have a1:atD (Sts N s) (.c N.length) (.inl (.inl y.1))=some (lkC (kvs s.fs) (.inl y.1:Key)):=by simp only[atD,TC]
 have k1:keyOf (I y.1)=some (.inl y.1):=rfl;have lk:=WY s.fs y.1;by_cases h:y.1∈s.fs
 .rw[B7 h]at lk;have e:see u s y=s:=by unfold see;rw[A4 h]
  rw[e];simp![cO,KO,HD,k1,a1,lk]
 .rw[C3 h]at lk;have e:see u s y=⟨s.fs++[y.1],s.ws++[y.1],s.ss++[(u,y.1,y.2)]⟩:=by unfold see;rw[A6 h]
  rw[e]
  have s1:LB (Sts N s) (.c N.length) (.inl (.inl y.1)) (.d (.bool true))=some (Sts N { s with fs:=s.fs++[y.1] }):=by
   simp only[LB,TC,if_pos l1,RW h,JA]
  have p1:=aBr (N:=N) (s:={ s with fs:=s.fs++[y.1] }) (x:=y.1) hw;have t1:=aBG (N:=N) (s:={ s with fs:=s.fs++[y.1] });have p2:=aAN (N:=N) (s:={ s with fs:=s.fs++[y.1],ws:=s.ws++[y.1] }) (a:=u) (b:=y.1) (c:=y.2) hs;have t2:=aBO (N:=N) (s:={ s with fs:=s.fs++[y.1],ws:=s.ws++[y.1] });have s3:(3:Nat)<=sizeLine:=by decide
  simp![cO,KO,HD,k1,a1,lk,wV,s1,cM,t1,p1,t2,p2,s3]
theorem OS(u:Int)(s:Sc)(x:Int×Int):(see u s x).fs.length<=s.fs.length+1/\(see u s x).ws.length<=s.ws.length+1/\(see u s x).ss.length<=s.ss.length+1:=by
 unfold see;split
 .exact⟨U3 _,U3 _,U3 _⟩
 .simp
theorem AW{N:Sto}{P:Sto->Prop}{x0 st b:CD}{u:Int}(hP:∀s,P (Sts N s)):∀(xs:List (Int×Int))(s:Sc)(g7 g8:Option CD),s.fs.length+xs.length<1000->s.ws.length+xs.length<1000->s.ss.length+xs.length<1000->
 ∃g7' g8',qW P (nV 2 (dA (hName 7) (dA (hName 8) oB))) cO (xs.map pD) (GR x0 st b N.length (some (I u)) g7 g8) (Sts N s)=some (.nx (GR x0 st b N.length (some (I u)) g7' g8'),Sts N (xs.foldl (see u) s))
 |[]=>fun s g7 g8 _ _ _=>⟨g7,g8,by unfold qW;rw[List.map_nil];exact A4 (hP s)⟩
 |x::xs=>fun s g7 g8 hf hw hs=>by
  rw[C8]at hf hw hs;have tn:=LQ (N:=N) (s:=s) (u:=u) (y:=x) (x0:=x0) (st:=st) (b:=b) (by omega) (by omega) (by omega);obtain⟨l1,l2,l3⟩:=OS u s x;obtain⟨g7',g8',h⟩:=AW (x0:=x0) (st:=st) (b:=b) hP xs (see u s x) (some (I x.1)) (some (I x.2)) (by omega) (by omega) (by omega);refine⟨g7',g8',?_⟩;rw[U6,<- h,B8]
  conv=>lhs;unfold qW
  rw[A4 (hP s)];show(nV 2 (dA (hName 7) (dA (hName 8) oB)) (pD x) (GR x0 st b N.length (some (I u)) g7 g8) (Sts N s)).bind _=_;rw[show nV 2 (dA (hName 7) (dA (hName 8) oB)) (pD x) (GR x0 st b N.length (some (I u)) g7 g8) (Sts N s)=some (GR x0 st b N.length (some (I u)) (some (I x.1)) (some (I x.2)),Sts N s)from rfl,A2];dsimp only;rw[tn,A2]
structure pV(N:Sto)(b n:Nat)(A:Adj):Prop where
 row:N[b+n]?=some (.lst (bH b n))
 at_:∀p:Int,Inn n p->N[b+p.toNat]?=some (pK (A.getD p.toNat []))
theorem pV.new{A:Adj}(h:A.length=n):pV (StA M A (.lst (bH M.length n))) M.length n A:=
 ⟨by have:=EC (M:=M) (A:=A) (c:=.lst (bH M.length n));rw[h]at this;exact this,fun p hp=>BW (by omega)⟩
theorem DB:∀(us:List Ed)(A:Adj)(k c:Nat),(∀r,(A.getD r []).length<=k)->∀r,((gP A c us).getD r []).length<=k+2*us.length
 |[]=>fun A k c h r=>by simpa[gP]using h r
 |t::us=>fun A k c h r=>by
  unfold gP;have:=DB us (AQ A t (c:Nat)) (k+2) (c+1) (fun r=>oR (oR h) r) r;rw[C8];omega
theorem KM{us:List Ed}(hl:us.length<64)(r:Nat):((nU n us).getD r []).length<130:=by
 have:=DB us (List.replicate n []) 0 0 (fun r=>by rw[A9,S8];split<;>simp) r;unfold nU;omega
noncomputable abbrev wB:SF:=(aZ (bM (cM "list" nW (aE 4) aG) (hName 6)) (vO (mP (fOp ixF (aE 2) (aE 6))) (nV 2 (dA (hName 7) (dA (hName 8) oB))) cO))
section
variable{N:Sto}{b n:Nat}{A:Adj}{x0 st:CD}
theorem NX{fs:List Int}{ss:List (Int×Int×Int)}{g6 g7 g8:Option CD}(hN:pV N b n A)(hu:Inn n u)(hA:(A.getD u.toNat []).length<130)(hf:fs.length<=100)(hw:ws.length<=100)(hs:ss.length<=100):
 ∃g6' g7' g8',wB (GR x0 st (.c (b+n)) N.length g6 g7 g8) (Sts N ⟨fs,ws++[u],ss⟩)=some (.nx (GR x0 st (.c (b+n)) N.length g6' g7' g8'),Sts N ((A.getD u.toNat []).foldl (see u) ⟨fs,ws,ss⟩)):=by
 have w:=EA (N:=N) (s:=⟨fs,ws++[u],ss⟩);have s:=yS (N:=N) (s:=⟨fs,ws++[u],ss⟩) (ws':=ws);unfold wC at w s;have ty:=aBG (N:=N) (s:=⟨fs,ws++[u],ss⟩)
 have po:nW (.c (N.length+1)) [] (Sts N ⟨fs,ws++[u],ss⟩)=some (I u,Sts N ⟨fs,ws,ss⟩):=by
  have e1:((ws++[u]).map fun i=>I i)[((ws++[u]).map fun i=>I i).length-1]?=some (I u):=by
   rw[A1,B0,C4,Nat.add_sub_cancel,C6,C1 (A7 _),F8];rfl
  have e2:((ws++[u]).map fun i=>I i).dropLast=ws.map fun i=>I i:=by
   rw[E3,J1,List.dropLast_concat]
  simp only[nW,w,e1,e2,Option.bind_some];exact F4 (fun y=>some (I u,y)) s
 have ix:ixF (.c (b+n)) (I u) (Sts N ⟨fs,ws,ss⟩)=some (.c (b+u.toNat),Sts N ⟨fs,ws,ss⟩):=by
  have:=BD (s:=⟨fs,ws,ss⟩) hN.row;simp only[ixF,this,zH hu,Option.bind_some]
 have wk:walked (Sts N ⟨fs,ws,ss⟩) (.c (b+u.toNat))=some ((A.getD u.toNat []).map pD,fun M'=>M'[b+u.toNat]?=some (pK (A.getD u.toNat []))):=by
  have:=BD (s:=⟨fs,ws,ss⟩) (hN.at_ u hu);unfold pK at this ⊢;simp only[walked,this]
 obtain⟨g7',g8',lp⟩:=AW (N:=N) (P:=fun M'=>M'[b+u.toNat]?=some (pK (A.getD u.toNat []))) (x0:=x0) (st:=st) (b:=.c (b+n)) (u:=u) (fun s=>BD (hN.at_ u hu)) (A.getD u.toNat []) ⟨fs,ws,ss⟩ g7 g8 (by show fs.length+_<_;omega) (by show ws.length+_<_;omega) (by show ss.length+_<_;omega);refine⟨some (I u),g7',g8',?_⟩
 have sf:vO (mP (fOp ixF (aE 2) (aE 6))) (nV 2 (dA (hName 7) (dA (hName 8) oB))) cO (GR x0 st (.c (b+n)) N.length (some (I u)) g7 g8) (Sts N ⟨fs,ws,ss⟩)=some (.nx (GR x0 st (.c (b+n)) N.length (some (I u)) g7' g8'),Sts N ((A.getD u.toNat []).foldl (see u) ⟨fs,ws,ss⟩)):=by
  have i1:fOp ixF (aE 2) (aE 6) (GR x0 st (.c (b+n)) N.length (some (I u)) g7 g8) (Sts N ⟨fs,ws,ss⟩)=some (.c (b+u.toNat),Sts N ⟨fs,ws,ss⟩):=by
   simp![ix]
  unfold vO mP;rw[i1,A2];dsimp only;rw[wk,A2,A2];exact lp
 unfold wB aZ bM;simp![cM,ty,po,sf]
theorem aAJ{s:Sc}{g6 g7 g8:Option CD}:uK (aE 4) (GR x0 st (.c (b+n)) N.length g6 g7 g8) (Sts N s)=some (!s.ws.isEmpty,Sts N s):=by
 have w:=EA (N:=N) (s:=s);unfold wC at w;simp![w];rw[List.isEmpty_map]
theorem EB{P:Int->Prop}{p:Int}(hN:pV N b n A)(n40:n<=40)(hA:∀x y,Inn n x->P x->y∈A.getD x.toNat []->Inn n y.1/\P y.1)(hF:∀r,(A.getD r []).length<130):∀(m:Nat)(s:Sc)(g6 g7 g8:Option CD),sJ n A P p s->s.ws.length<=s.fs.length->2*(n-s.fs.length)+s.ws.length<m->
 ∃fs' ss' g6' g7' g8',sJ n A P p ⟨fs',[],ss'⟩/\dW (uK (aE 4)) wB m (GR x0 st (.c (b+n)) N.length g6 g7 g8) (Sts N s)=some (.nx (GR x0 st (.c (b+n)) N.length g6' g7' g8'),Sts N ⟨fs',[],ss'⟩)
 |0,_=>fun _ _ _ _ _ h=>by omega
 |m+1,⟨fs,ws,ss⟩=>fun g6 g7 g8 h wl hm=>by
  have few:=yL h.nd fun x hx=>(h.ok x hx).1;have sl:ss.length+1=fs.length:=by have:=F4 List.length h.st;simpa using this.symm
  dsimp only at few wl hm;unfold dW;rw[aAJ,A2];rcases List.eq_nil_or_concat ws with rfl|⟨ws0,u,rfl⟩
  .exact⟨fs,ss,g6,g7,g8,h,by simp⟩
  .rw[List.concat_eq_append]at h wl hm ⊢;rw[B0,C4]at wl hm;have hu:=(h.ok u (h.sub u (C2 _ (List.mem_singleton.mpr rfl)))).1;obtain⟨new,e,_,h'⟩:=h.step hA;have few':=yL h'.nd fun x hx=>(h'.ok x hx).1;obtain⟨a6,a7,a8,t⟩:=NX (x0:=x0) (st:=st) (fs:=fs) (ws:=ws0) (ss:=ss) (g6:=g6) (g7:=g7) (g8:=g8) hN hu (hF _) (by omega) (by omega) (by omega);rw[e]at t;dsimp only at few';rw[B0]at few';obtain⟨fs',ss',b6,b7,b8,d,r⟩:=EB hN n40 hA hF m _ a6 a7 a8 h' (by dsimp only;rw[B0,B0];omega) (by dsimp only;rw[B0,B0];omega);refine⟨fs',ss',b6,b7,b8,d,?_⟩;have ne:(!(ws0++[u]).isEmpty)=true:=by simp
   dsimp only;rw[ne,A4 rfl,t,A2];exact r
end
theorem QU{us:List Ed}{M:Sto}(hi:aR x=some ds)(hn:ds.length+1=n)(n40:n<=40)(hm:ds.mapM (bD n)=some us)(ok:Oks n us)(hp:Inn n p)(hul:us.length<64):
 ∃fs ss L c,gT [.d x,I p] M=some (.c c,M++L)/\(M++L)[c]?=some (sC ss)/\sJ n (nU n us) (fun q=>at0 (jV n us) q=at0 (jV n us) p) p ⟨fs,[],ss⟩:=by
 have bs:=KD (M:=M) hi hn n40 hm;generalize hN0:StA M (nU n us) (.lst (bH M.length n))=N at bs
 have hN:pV N M.length n (nU n us):=by
  rw[<- hN0];exact pV.new (by unfold nU;rw[sW,List.length_replicate])
 obtain⟨fs,ss,g6,g7,g8,d,wl⟩:=EB (x0:=.d x) (st:=I p) (P:=fun q=>at0 (jV n us) q=at0 (jV n us) p) (p:=p) hN n40 (VW ok) (KM hul) (2*(n-1)+2) ⟨[p],[p],[]⟩ none none none (sJ.start hp rfl) (A7 _) (by show 2*(n-1)+1<_;omega);have wl':mC (GR (.d x) (I p) (.c (M.length+n)) N.length none none none) (Sts N ⟨[p],[p],[]⟩)=some (.nx (GR (.d x) (I p) (.c (M.length+n)) N.length g6 g7 g8),Sts N ⟨fs,[],ss⟩):=sH wl
 have c0:sO [((aE 1),(fC (.bool true)))] [some (.d x),some (I p),some (.c (M.length+n)),none,none,none,none,none,none] N=some (.c N.length,N++[.dk (kvs [p])]):=by
  unfold sO;rw[show xW [((aE 1),(fC (.bool true)))] [some (.d x),some (I p),some (.c (M.length+n)),none,none,none,none,none,none] (N++[.dk []])=some ([(I p,.d (.bool true))],N++[.dk []])from rfl,A2];dsimp only;rw[C1 (A7 _),F8];show(some [((.inl p:Key),CD.d (.bool true))]).bind _=_;rw[A2,A4 (by simp),J9 _ _ (A7 _),F8];rfl
 have s1:(1:Nat)<=sizeLine:=by decide
 have s0:(0:Nat)<=sizeLine:=by decide
 have e1:(N++[Cell.dk (kvs [p])]).length=N.length+1:=by rw[B0];rfl
 have e2:N++[Cell.dk (kvs [p])]++[Cell.lst [I p]]=N++[Cell.dk (kvs [p]),wC [p]]:=by rw[D9];rfl
 have e3:(N++[Cell.dk (kvs [p]),wC [p]]).length=N.length+2:=by rw[B0];rfl
 have e4:N++[Cell.dk (kvs [p]),wC [p]]++[Cell.lst []]=Sts N ⟨[p],[p],[]⟩:=by rw[D9];rfl
 have hNM:N=M++((nU n us).map pK++[.lst (bH M.length n)]):=hN0.symm;refine⟨fs,ss,((nU n us).map pK++[.lst (bH M.length n)])++[.dk (kvs fs),wC [],sC ss],N.length+2,?_,?_,d⟩
 .rw[<- D9,<- hNM];simp![gT,kC,bs,c0,s1,s0,e1,e2,e3,e4,wl']
 .rw[<- D9,<- hNM];exact LP (N:=N) (s:=⟨fs,[],ss⟩)
noncomputable def jN(p q:Ed):Bool:=if p.1=q.1 then decide (p.2<q.2)else decide (p.1<q.1)
theorem HY(p q:Ed):cC [.int p.1,.int p.2] [.int q.1,.int q.2]=some (jN p q):=by
 unfold jN;show(if (p.1==q.1)=true then(if (p.2==q.2)=true then some (decide (0<0))else some (decide (p.2<q.2)))else some (decide (p.1<q.1)))=_;by_cases h1:p.1=q.1
 .rw[A4 (beq_iff_eq.mpr h1),A4 h1];by_cases h2:p.2=q.2
  .rw[A4 (beq_iff_eq.mpr h2),h2];simp
  .rw[A6 (fun z=>h2 (beq_iff_eq.mp z))]
 .rw[A6 (fun z=>h1 (beq_iff_eq.mp z)),A6 h1]
theorem GP(p q:Ed)(M:Sto):ltX (pD p) (pD q) M=some (B (jN p q),M):=by
 show(cC [.int p.1,.int p.2] [.int q.1,.int q.2]).bind _=_;rw[HY];rfl
noncomputable abbrev pP(p:Ed):PyData:=.tuple [.int p.1,.int p.2]
noncomputable def zl:List Ed->List Bool
 |a::b::r=>jN a b::zl (b::r)
 |_=>[]
noncomputable def ris(us:List Ed):Bool:=(zl us).all id
theorem IU:∀us:List Ed,(zl us).length<=us.length
 |[]=>A7 _
 |[_]=>E9 _
 |a::b::r=>Nat.succ_le_succ (IU (b::r))
theorem LA(M:Sto):∀(us:List Ed)(g0 g1:Option CD),lcF (nV 2 (dA (hName 0) (dA (hName 1) oB))) jP (fOp ltX (aE 0) (aE 1)) (mX (us.map pP) ((us.map pP).drop 1)) [g0,g1] M=some (((zl us).map PyData.bool).map .d,M)
 |[]=>fun _ _=>rfl
 |[_]=>fun _ _=>rfl
 |a::b::r=>fun g0 g1=>by
  have ih:=LA M (b::r) (some (pD a)) (some (pD b));rw[show mX ((a::b::r).map pP) (((a::b::r).map pP).drop 1)=.d (.tuple [pP a,pP b])::mX ((b::r).map pP) (((b::r).map pP).drop 1)from rfl];unfold lcF;rw[show nV 2 (dA (hName 0) (dA (hName 1) oB)) (.d (.tuple [pP a,pP b])) [g0,g1] M=some ([some (pD a),some (pD b)],M)from rfl,A2];dsimp only;rw[show jP [some (pD a),some (pD b)] M=some (true,M)from rfl,A2];dsimp only;rw[A4 rfl,show fOp ltX (aE 0) (aE 1) [some (pD a),some (pD b)] M=ltX (pD a) (pD b) M from rfl,GP,A2];dsimp only;rw[ih];rfl
theorem aCc(ds:List PyData):cU ds (some 1) none=ds.drop 1:=by
 unfold cU;rw[HT.sIx_none,show(1:Int)=((1:Nat):Int)from rfl,HT.sIx_nat];cases ds with
 |nil=>rfl
 |cons d ds=>
  rw[show min 1 (d::ds).length=1 by rw[C8];omega];rw[List.take_of_length_le];simp
theorem EN:∀(xs ys:List PyData),(mX xs ys).length<=xs.length
 |[],_=>E9 _
 |_::_,[]=>E9 _
 |_::xs,_::ys=>Nat.succ_le_succ (EN xs ys)
theorem MC(us:List Ed)(M:Sto)(hl:us.length<=1000):iN [.d (.list (us.map pP))] M=some (B (ris us),M):=by
 have z:RU (aB (aE 0) (aB (fSl (aE 0) (dF (fC (.int 1))) bQ) aG)) [some (.d (.list (us.map pP)))] M=some (mX (us.map pP) ((us.map pP).drop 1),M):=by
  rw[<- aCc];rfl
 have c:jE [some (.d (.list (us.map pP)))] M=some (.d (.list ((zl us).map PyData.bool)),M):=by
  unfold jE;exact sE z (sz (E5 (EN _ _) (by rw[A1];exact hl))) (LA M us none none) (sz (by rw[A1];exact E5 (IU us) hl))
 have a:zV [.d (.list ((zl us).map PyData.bool))] M=some (B (ris us),M):=by
  show(boolsOf ((zl us).map PyData.bool)).bind _=_;rw[vE];rfl
 simp![iN,lO,c,a]
theorem iG{n:Int}{us:List Ed}(h:(d::ds).mapM (bD n)=some us):∃t us',bD n d=some t/\ds.mapM (bD n)=some us'/\us=t::us':=by
 rw[O8]at h;obtain⟨t,hd,h⟩:=aI h;obtain⟨us',h',h⟩:=aI h;cases h;exact⟨t,us',hd,h',rfl⟩
theorem sP{n:Int}:∀{ds:List PyData}{us:List Ed},ds.mapM (bD n)=some us->us.length=ds.length
 |[],us=>fun h=>by cases h;rfl
 |d::ds,us=>fun h=>by
  obtain⟨t,us',_,h',rfl⟩:=iG h;rw[C8,C8,sP h']
theorem zS(n:Int):∀ds:List PyData,(ds.all fun d=>(bD n d).isSome)=(ds.mapM (bD n)).isSome
 |[]=>rfl
 |d::ds=>by
  rw[U2,zS n ds,O8];cases bD n d with
  |none=>rfl
  |some t=>cases ds.mapM (bD n)<;>rfl
theorem oU{n:Nat}:∀{ds:List PyData}{us:List Ed},ds.mapM (bD n)=some us->Oks n us
 |[],us=>fun h=>by cases h;intro t ht;cases ht
 |d::ds,us=>fun h=>by
  obtain⟨t,us',hd,h',rfl⟩:=iG h;intro s hs;rcases List.mem_cons.mp hs with rfl|hs
  .exact lX hd
  .exact oU h' s hs
theorem zW{n:Int}(M:Sto):∀(ds:List PyData)(us:List Ed)(g:Option CD),ds.mapM (bD n)=some us->lcF (hName 0) jP (bE (aB (fOp ixF (aE 0) (fC (.int 0))) (aB (fOp ixF (aE 0) (fC (.int 1))) aG))) (ds.map .d) [g] M=some ((us.map pP).map .d,M)
 |[]=>fun us g h=>by cases h;rfl
 |d::ds=>fun us g h=>by
  obtain⟨t,us',hd,h',rfl⟩:=iG h;have ih:=zW M ds us' (some (.d d)) h';obtain⟨a,hi,_⟩:=oS hd;have i0:∀M,ixF (.d d) (I 0) M=some (I t.1,M):=fun M=>bZ hi;have i1:∀M,ixF (.d d) (I 1) M=some (I t.2,M):=fun M=>bZ hi;have s2:(2:Nat)<=sizeLine:=by decide
  rw[B8,B8,B8];unfold lcF;simp![jP,i0,i1,s2,ih]
theorem aBW{n:Int}{us:List Ed}(h:aR x=some ds)(hm:ds.mapM (bD n)=some us)(hl:ds.length<=1000):qK [some x0,some (.d x)] M=some (.d (.list (us.map pP)),M):=
 sE (tJ h rfl) (sz (by rw[A1];exact hl)) (zW M ds us none hm) (sz (by rw[A1,sP hm];exact hl))
noncomputable def cF(n:Nat)(x:PyData):Bool:=match aR x with
 |some ds=>decide (ds.length+1=n)&&(match ds.mapM (bD n)with
  |some us=>ris us&&lA (zs n) us
  |none=>false)
 |none=>false
theorem pW(h0:0<n)(n40:n<=40)(x:PyData)(M:Sto):∃L,bL [I n,.d x] M=some (B (cF n x),M++L):=by
 have g:decide ((40:Int)<n)=false:=C3 (by omega);have no:∀{b:Bool},b=false->(∃L,bL [I n,.d x] M=some (B false,M++L))->∃L,bL [I n,.d x] M=some (B b,M++L):=fun e h=>by rw[e];exact h
 cases hi:aR x with
 |none=>
  have e:cF n x=false:=by unfold cF;rw[hi]
  have r:dI x ((n:Int)-1)=false:=by unfold dI;rw[hi]
  refine no e ⟨[],?_⟩;rw[D1];simp![bL,fW,g,bV,r]
 |some ds=>
  by_cases hn:ds.length+1=n
  .have r:dI x ((n:Int)-1)=true:=by unfold dI;rw[hi];show((ds.length:Int)==n-1)=true;rw[S7];omega
   have c0:=aBY (n:=(n:Int)) (M:=M) hi (by omega);have a0:=XT ds (fun d=>(bD n d).isSome) M;rw[zS]at a0;cases hm:ds.mapM (bD n)with
   |none=>
    have e:cF n x=false:=by unfold cF;rw[hi];dsimp only;rw[hm,Bool.and_false]
    rw[hm]at a0;refine no e ⟨[],?_⟩;rw[D1];simp![bL,fW,g,bV,r,c0,a0,Option.isSome_none]
   |some us=>
    rw[hm]at a0;have ul:=sP hm;have ok:=oU hm;have e:cF n x=(ris us&&lA (zs n) us):=by unfold cF;rw[hi];dsimp only;rw[hm,B7 hn,E4]
    have c1:=aBW (x0:=I n) (M:=M) hi hm (by omega);have rs:=MC us M (by omega);rw[e];cases hr:ris us with
    |false=>
     rw[hr]at rs;refine⟨[],?_⟩;rw[D1,J8];simp![bL,fW,g,bV,r,c0,a0,Option.isSome_some,c1,rs]
    |true=>
     rw[hr]at rs;obtain⟨fs,ss,L,c,st,hc,d⟩:=QU (M:=M) (p:=0) hi hn n40 hm ok ⟨by omega,by omega⟩ (by omega)
     have ln:gN [.c c] (M++L)=some (I ss.length,M++L):=by
      unfold sC at hc;simp only[gN,hc];rw[A1]
     have sl:ss.length+1=fs.length:=by have:=F4 List.length d.st;simpa using this.symm
     have lst:((ss.length:Int)==(n:Int)-1)=lA (zs n) us:=by
      have a:=d.done ok ⟨by omega,by omega⟩;have b:=vW h0 (by omega) ok;rw[O0,S7,b,<- a];omega
     refine⟨L,?_⟩;rw[E4];simp![bL,fW,g,bV,r,c0,a0,Option.isSome_some,c1,rs,st,ln,iM,lst]
  .have e:cF n x=false:=by unfold cF;rw[hi];dsimp only;rw[C3 hn,J8]
   have r:dI x ((n:Int)-1)=false:=by unfold dI;rw[hi];show((ds.length:Int)==n-1)=false;rw[F9];omega
   refine no e ⟨[],?_⟩;rw[D1];simp![bL,fW,g,bV,r]
noncomputable abbrev lD(l:List Int):CD:=.d (.list (l.map .int))
theorem CN(hl:l.length=n)(hp:Inn n p):ixF (lD l) (I p) M=some (I (at0 l p),M):=by
 have hk:p.toNat<l.length:=by omega
 have e:p=((p.toNat:Nat):Int):=by omega
 have:atI (l.map PyData.int) p=some (.int (at0 l p)):=by
  rw[e];refine mR ?_;rw[C6,B4 hk];simp only[at0,Int.toNat_natCast,List.getD_eq_getElem?_getD,List.getElem?_eq_getElem hk,Option.map_some,Option.getD_some]
 show(atI (l.map PyData.int) p).bind _=_;rw[this];rfl
noncomputable abbrev hpE:EF:=(fOp ixF (gI (aB (aE 3) (aB (fOp ixF (aE 0) (fOp ixF (aE 2) (fC (.int 0)))) aG))) (aM qX (aB (fOp (eqX false) (aE 3) (aE 1)) aG)))
theorem YM{t:Ed}(hl:l.length=n)(hd:bD n d=some t):hpE [some (lD l),some (I (at0 l t.2)),some (.d d),some (I z)] M=some (I (if z=at0 l t.2 then at0 l t.1 else z),M):=by
 obtain⟨a,hi,_⟩:=oS hd;obtain⟨h1,h2⟩:=lX hd;have i0:∀M,ixF (.d d) (I 0) M=some (I t.1,M):=fun M=>bZ hi;have ix:=fun M=>CN (M:=M) hl h1;have s2:(2:Nat)<=sizeLine:=by decide
 cases h:(z==at0 l t.2)with
 |true=>
  rw[A4 (beq_iff_eq.mp h)];have ii:qX [.d (.bool true)] M=some (I 1,M):=rfl;have x1:∀a b:PyData,ixF (.d (.list [a,b])) (I 1) M=some (.d b,M):=fun a b=>rfl;simp![hpE,i0,ix,iM,h,ii,x1,s2]
 |false=>
  rw[A6 (fun e=>by rw[beq_iff_eq.mpr e]at h;cases h)];have ii:qX [.d (.bool false)] M=some (I 0,M):=rfl;have x1:∀a b:PyData,ixF (.d (.list [a,b])) (I 0) M=some (.d a,M):=fun a b=>rfl;simp![hpE,i0,ix,iM,h,ii,x1,s2]
theorem TQ{n:Nat}{l:List Int}{t:Ed}{d:PyData}{M:Sto}(hl:l.length=n)(hd:bD n d=some t):∀(zs:List Int)(g:Option CD),lcF (hName 3) jP hpE ((zs.map PyData.int).map .d) [some (lD l),some (I (at0 l t.2)),some (.d d),g] M=some (((zs.map fun z=>if z=at0 l t.2 then at0 l t.1 else z).map PyData.int).map .d,M)
 |[]=>fun g=>rfl
 |z::zs=>fun g=>by
  have ih:=TQ (M:=M) hl hd zs (some (I z));rw[B8,B8,B8,B8,B8];unfold lcF;rw[show hName 3 (.d (.int z)) [some (lD l),some (I (at0 l t.2)),some (.d d),g] M=some ([some (lD l),some (I (at0 l t.2)),some (.d d),some (I z)],M)from rfl,A2];dsimp only;rw[show jP [some (lD l),some (I (at0 l t.2)),some (.d d),some (I z)] M=some (true,M)from rfl,A2];dsimp only;rw[A4 rfl,YM hl hd,A2];dsimp only;rw[ih];rfl
theorem PZ{t:Ed}{x1:CD}{g3:Option CD}(hl:l.length=n)(n40:n<=40)(hd:bD n d=some t):fP [some x0,some x1,some (lD l),g3,some (.d d),some (I (at0 l t.2))] M=some (lD (cS l t),M):=by
 unfold fP;exact sE (tJ rfl rfl) (sz (by rw[A1,A1];omega)) (TQ hl hd l none) (sz (by rw[A1];show(cS l t).length<=1000;rw[jT];omega))
noncomputable def OV(ba:List PyData):Prop:=ba=[]\/∃p q:Int,ba=[.int p,.int q]
theorem BG{b1 b2:Int}(h:OV ba)(ne:(b1,b2)≠(i,j)):ltX (.d (.tuple [.int b1,.int b2,.tuple ba])) (.d (.tuple [.int i,.int j,.tuple [.int p,.int q]])) M=some (B (jN (b1,b2) (i,j)),M):=by
 have lt:cC [.int b1,.int b2,.tuple ba] [.int i,.int j,.tuple [.int p,.int q]]=some (jN (b1,b2) (i,j)):=by
  show(if (b1==i)=true then(if (b2==j)=true then _ else some (decide (b2<j)))else some (decide (b1<i)))=_;unfold jN;dsimp only;by_cases h1:b1=i
  .rw[A4 (beq_iff_eq.mpr h1),A4 h1];have h2:b2≠j:=fun z=>ne (by rw[h1,z]);rw[A6 (fun z=>h2 (beq_iff_eq.mp z))]
  .rw[A6 (fun z=>h1 (beq_iff_eq.mp z)),A6 h1]
 have sh:([.int b1,.int b2,.tuple ba]:List PyData).all SeqAt.shaped=true:=by
  rcases h with rfl|⟨p,q,rfl⟩<;>rfl
 show(if (([.int b1,.int b2,.tuple ba]:List PyData).all SeqAt.shaped&&([.int i,.int j,.tuple [.int p,.int q]]:List PyData).all SeqAt.shaped)=true then(cC [.int b1,.int b2,.tuple ba] [.int i,.int j,.tuple [.int p,.int q]]).bind _ else none)=_;rw[sh,lt];rfl
noncomputable def SmR(d:PyData):Prop:=∀a b c,aR d=some [a,b,c]->Sm c
theorem HB{c:PyData}(h:fA c=true):∃p q:Int,aR c=some [.int p,.int q]:=by
 unfold fA at h;split at h
 .rename_i a b e;exact⟨a,b,e⟩
 .cases h
noncomputable abbrev GT(n x heaps before row old:Option CD):Ga:=[n,x,heaps,before,row,old]
section
variable{n:Nat}{x0 x1:CD}{l:List Int}{g3 g5:Option CD}{d:PyData}{M:Sto}
theorem IK(i:Int):tO (.int i) 0 ((n:Int)-1)=plB n (.int i):=by
 show(decide (0<=i)&&decide (i<=(n:Int)-1))=(decide (0<=i)&&decide (i<n));congr 1;exact decide_eq_decide.mpr (by omega)
theorem MR(hs:SmR d)(hd:bD n d=none):aL (GT (some (I n)) x1 (some (lD l)) g3 (some (.d d)) g5) M=some (.rt (B false),M):=by
 cases hi:aR d with
 |none=>
  have r:jG d=false:=by rw[fO,hi];rfl
  simp![aL,aW,r]
 |some ds=>
  have r:jG d=true:=by rw[fO,hi];rfl
  cases h3:((ds.length:Int)==3)with
  |false=>
   have ln:=fun M=>fT (M:=M) hi;simp![aL,aW,r,ln,mV,h3]
  |true=>
   obtain⟨a,b,c,rfl⟩:=WG ds h3;have ln:∀M,gN [.d d] M=some (I 3,M):=fun M=>fT hi;have h33:((3:Int)==3)=true:=rfl;have i0:∀M,ixF (.d d) (I 0) M=some (.d a,M):=fun M=>bZ hi;have i1:∀M,ixF (.d d) (I 1) M=some (.d b,M):=fun M=>bZ hi;have i2:∀M,ixF (.d d) (I 2) M=some (.d c,M):=fun M=>bZ hi;have la:=fun M=>kZ c M (hs a b c hi);have es:=rR (n:=n) hi;rw[hd]at es;cases am:fA c with
   |false=>simp![aL,aW,r,ln,mV,h33,i2,la,am]
   |true=>
    rw[am,Bool.and_true]at es;cases w0:tO a 0 ((n:Int)-1)with
    |false=>simp![aL,aW,r,ln,mV,h33,i0,i2,la,am,bR,w0]
    |true=>
     cases w1:tO b 0 ((n:Int)-1)with
     |false=>simp![aL,aW,r,ln,mV,h33,i0,i1,i2,la,am,bR,w0,w1]
     |true=>
      cases a with
      |int i=>
       cases b with
       |int j=>
        have ge:decide (j<=i)=true:=by
         rw[IK]at w0 w1;have es:false=(decide (0<=i)&&decide (i<j)&&decide (j<(n:Int))):=es;unfold plB at w0 w1;simp only[Bool.and_eq_true,decide_eq_true_eq]at w0 w1;rw[B7 w0.1,B7 w1.2,E4,Bool.and_true]at es;have:=E2 es.symm;exact B7 (by omega)
        simp![aL,aW,r,ln,mV,h33,i0,i1,i2,la,am,bR,w0,w1,ge]
       |_=>cases w1
      |_=>cases w0
theorem FU{t pr:Ed}(n40:n<=40)(hl:l.length=n)(hs:SmR d)(hd:bD n d=some t)(hb:OV ba)(ne:at0 l t.1≠at0 l t.2->pr≠t):
 if (!(at0 l t.1==at0 l t.2)&&jN pr t)=true then ∃ba',OV ba'/\aL (GT (some (I n)) (some x1) (some (lD l)) (some (.d (.tuple [.int pr.1,.int pr.2,.tuple ba]))) (some (.d d)) g5) M=some (.nx (GT (some (I n)) (some x1) (some (lD (cS l t))) (some (.d (.tuple [.int t.1,.int t.2,.tuple ba']))) (some (.d d)) (some (I (at0 l t.2)))),M)
 else aL (GT (some (I n)) (some x1) (some (lD l)) (some (.d (.tuple [.int pr.1,.int pr.2,.tuple ba]))) (some (.d d)) g5) M=some (.rt (B false),M):=by
 obtain⟨c,hi,am,h0,h1,h2⟩:=oS hd;obtain⟨p1,p2⟩:=lX hd;obtain⟨p,q,hc⟩:=HB am;have r:jG d=true:=by rw[fO,hi];rfl
 have ln:∀M,gN [.d d] M=some (I 3,M):=fun M=>fT hi;have h33:((3:Int)==3)=true:=rfl;have i0:∀M,ixF (.d d) (I 0) M=some (I t.1,M):=fun M=>bZ hi;have i1:∀M,ixF (.d d) (I 1) M=some (I t.2,M):=fun M=>bZ hi;have i2:∀M,ixF (.d d) (I 2) M=some (.d c,M):=fun M=>bZ hi;have tp:∀M,fV [.d c] M=some (.d (.tuple [.int p,.int q]),M):=fun M=>vV hc;have la:=fun M=>kZ c M (hs _ _ c hi);have w0:tO (.int t.1) 0 ((n:Int)-1)=true:=by rw[IK];show(decide (0<=t.1)&&decide (t.1<(n:Int)))=true;rw[B7 h0,B7 (by omega)];rfl
 have w1:tO (.int t.2) 0 ((n:Int)-1)=true:=by rw[IK];show(decide (0<=t.2)&&decide (t.2<(n:Int)))=true;rw[B7 (by omega),B7 h2];rfl
 have ge:decide (t.2<=t.1)=false:=C3 (by omega);have x1':=fun M=>CN (M:=M) hl p1;have x2':=fun M=>CN (M:=M) hl p2;have s3:(3:Nat)<=sizeLine:=by decide
 cases e:(at0 l t.1==at0 l t.2)with
 |true=>
  rw[A6 (by simp)];simp![aL,aW,r,ln,mV,h33,i0,i1,i2,la,am,bR,w0,w1,ge,x1',x2',iM,e]
 |false=>
  have lt:=BG (M:=M) (p:=p) (q:=q) hb (ne (beq_eq_false_iff_ne.mp e));have lt:ltX (.d (.tuple [.int pr.1,.int pr.2,.tuple ba])) (.d (.tuple [.int t.1,.int t.2,.tuple [.int p,.int q]])) M=some (B (jN pr t),M):=lt;cases lx:jN pr t with
  |false=>
   rw[A6 (by simp)];rw[lx]at lt;simp![aL,aW,r,ln,mV,h33,i0,i1,i2,la,am,bR,w0,w1,ge,x1',x2',iM,e,tp,lt,s3]
  |true=>
   rw[A4 (by simp)];rw[lx]at lt;refine⟨[.int p,.int q],.inr ⟨p,q,rfl⟩,?_⟩;have rl:=fun g3=>PZ (M:=M) (x0:=I n) (x1:=x1) (g3:=g3) hl n40 hd;simp![aL,aW,r,ln,mV,h33,i0,i1,i2,la,am,bR,w0,w1,ge,x1',x2',iM,e,tp,lt,s3,rl]
end
noncomputable def blB(n:Nat):List Int->Ed->List PyData->Bool
 |_,_,[]=>true
 |l,pr,d::ds=>match bD n d with
  |none=>false
  |some t=>!(at0 l t.1==at0 l t.2)&&jN pr t&&blB n (cS l t) t ds
theorem zD{n:Nat}{x1:CD}{M:Sto}(n40:n<=40):∀(ds:List PyData)(l:List Int)(pr:Ed)(ba:List PyData)(g4 g5:Option CD),l.length=n->(∀d∈ds,SmR d)->OV ba->(∀t,Inn n t.1->Inn n t.2->at0 l t.1≠at0 l t.2->pr≠t)->
 if blB n l pr ds=true then ∃γ,eS (hName 4) aL (ds.map .d) (GT (some (I n)) (some x1) (some (lD l)) (some (.d (.tuple [.int pr.1,.int pr.2,.tuple ba]))) g4 g5) M=some (.nx γ,M)
 else eS (hName 4) aL (ds.map .d) (GT (some (I n)) (some x1) (some (lD l)) (some (.d (.tuple [.int pr.1,.int pr.2,.tuple ba]))) g4 g5) M=some (.rt (B false),M)
 |[]=>fun l pr ba g4 g5 hl _ _ _=>⟨_,rfl⟩
 |d::ds=>fun l pr ba g4 g5 hl hs hb ne=>by
  have hd:=hs d (B6 ..)
  have un:∀o,aL (GT (some (I n)) (some x1) (some (lD l)) (some (.d (.tuple [.int pr.1,.int pr.2,.tuple ba]))) (some (.d d)) g5) M=some (o,M)->eS (hName 4) aL ((d::ds).map .d) (GT (some (I n)) (some x1) (some (lD l)) (some (.d (.tuple [.int pr.1,.int pr.2,.tuple ba]))) g4 g5) M=(match o with|.nx γ'=>eS (hName 4) aL (ds.map .d) γ' M|.ct γ'=>eS (hName 4) aL (ds.map .d) γ' M|.bk γ'=>some (.nx γ',M)|.rt x=>some (.rt x,M)):=fun o h=>by
   rw[B8]
   conv=>lhs;unfold eS
   rw[show hName 4 (.d d) (GT (some (I n)) (some x1) (some (lD l)) (some (.d (.tuple [.int pr.1,.int pr.2,.tuple ba]))) g4 g5) M=some (GT (some (I n)) (some x1) (some (lD l)) (some (.d (.tuple [.int pr.1,.int pr.2,.tuple ba]))) (some (.d d)) g5,M)from rfl,A2];dsimp only;rw[h,A2]
   all_goals (cases o<;>rfl)
  cases hd':bD n d with
  |none=>
   have key:blB n l pr (d::ds)=false:=by unfold blB;rw[hd']
   rw[key,A6 (by decide),un _ (MR hd hd')]
  |some t=>
   have key:blB n l pr (d::ds)=(!(at0 l t.1==at0 l t.2)&&jN pr t&&blB n (cS l t) t ds):=by
    conv=>lhs;unfold blB
    rw[hd']
   obtain⟨p1,p2⟩:=lX hd';have tg:=FU (x1:=x1) (g5:=g5) (M:=M) n40 hl hd hd' hb (ne t p1 p2);cases ht:(!(at0 l t.1==at0 l t.2)&&jN pr t)with
   |false=>
    rw[ht,A6 (by decide)]at tg;rw[ht,J8]at key;rw[key,A6 (by decide),un _ tg]
   |true=>
    rw[ht,A4 rfl]at tg;obtain⟨ba',hb',tg⟩:=tg;rw[ht,E4]at key;rw[key,un _ tg];refine zD n40 ds (cS l t) t ba' (some (.d d)) (some (I (at0 l t.2))) (by rw[jT,hl]) (fun y hy=>hs y (B1 _ hy)) hb' fun u q1 q2 q3 e=>?_;subst e;refine q3 ?_;rw[cX hl p1,cX hl p2,A4 rfl];split<;>rfl
theorem TR{n:Nat}:∀(ds:List PyData)(l:List Int)(pr:Ed),blB n l pr ds=(match ds.mapM (bD n)with
 |some us=>((match us with|[]=>true|t::_=>jN pr t)&&ris us)&&lA l us
 |none=>false)
 |[]=>fun l pr=>rfl
 |d::ds=>fun l pr=>by
  unfold blB;rw[O8];cases bD n d with
  |none=>rfl
  |some t=>
   dsimp only;rw[TR ds (cS l t) t];show _=(match ((ds.mapM (bD n)).bind fun us=>some (t::us))with|some us=>_|none=>_);cases ds.mapM (bD n)with
   |none=>simp
   |some us=>
    rw[A2];dsimp only;rw[show lA l (t::us)=(!(at0 l t.1==at0 l t.2)&&lA (cS l t) us)from rfl]
    have rc:ris (t::us)=((match us with|[]=>true|u::_=>jN t u)&&ris us):=by
     cases us with
     |nil=>rfl
     |cons u us=>rfl
    rw[rc];cases (at0 l t.1==at0 l t.2)<;>cases jN pr t<;>simp
theorem NN(ds:List PyData):blB n (zs n) (-1,0) ds=(match ds.mapM (bD n)with|some us=>ris us&&lA (zs n) us|none=>false):=by
 rw[TR];cases hm:ds.mapM (bD n)with
 |none=>rfl
 |some us=>
  dsimp only;cases us with
  |nil=>rfl
  |cons t us=>
   have:=(oU hm t (B6 ..)).1.1
   have e:jN (-1,0) t=true:=by
    unfold jN;rw[A6 (by show(-1:Int)≠t.1;omega)];exact B7 (by show(-1:Int)<t.1;omega)
   dsimp only;rw[e,E4]
noncomputable def SmT(x:PyData):Prop:=∀ds,aR x=some ds->∀d∈ds,SmR d
theorem QO(n:Nat):GY 0 n=(zs n).map PyData.int:=by
 unfold GY zs;rw[S0];refine S1 fun k _=>?_;show PyData.int (0+(k:Nat))=.int (Int.ofNat k);rw[Int.zero_add];rfl
theorem XD(sm:cJ J=true)(h:J.toNat<=sizeLine):nQ false (aB (aE 0) aG) (some (I J)::γ) M=some (.d (.list (GY 0 J.toNat)),M):=by
 unfold nQ;rw[show aB (aE 0) aG (some (I J)::γ) M=some ([I J],M)from rfl,A2];dsimp only;rw[A4 ⟨sm,h⟩,A6 (by decide)]
theorem AD{K:Int}{l:List Int}{M:Sto}{o:Out}(r:jG x=true)(ln:∀M,gN [.d x] M=some (I K,M))(ne:(!(K==J-1))=false)
 (lr:nQ false (aB (aE 0) aG) [some (I J),some (.d x),none,none,none,none] M=some (lD l,M))
 (lp:jA (eE (aE 1)) (hName 4) aL (GT (some (I J)) (some (.d x)) (some (lD l)) (some (.d (.tuple [.int (-1),.int 0,.tuple []]))) none none) M=some (o,M)):
 (∀γ,o=.nx γ->bC [I J,.d x] M=some (B true,M))/\(∀y,o=.rt y->bC [I J,.d x] M=some (y,M)):=by
 constructor
 .rintro γ rfl;simp![bC,dE,aW,r,ln,mV,ne,lr,iX,lp]
 .rintro y rfl;simp![bC,dE,aW,r,ln,mV,ne,lr,iX,lp]
theorem nJ(h0:0<n)(n40:n<=40)(x:PyData)(M:Sto)(hs:SmT x):bC [I n,.d x] M=some (B (cF n x),M):=by
 cases hi:aR x with
 |none=>
  have e:cF n x=false:=by unfold cF;rw[hi]
  have r:jG x=false:=by rw[fO,hi];rfl
  rw[e];simp![bC,dE,aW,r]
 |some ds=>
  have r:jG x=true:=by rw[fO,hi];rfl
  have ln:=fun M=>fT (M:=M) hi;by_cases hn:ds.length+1=n
  .have nn:((ds.length:Int)==(n:Int)-1)=true:=by rw[S7];omega
   have e:cF n x=blB n (zs n) (-1,0) ds:=by
    rw[NN];unfold cF;rw[hi];dsimp only;rw[B7 hn,E4]
    all_goals (cases ds.mapM (bD n)<;>rfl)
   have lr:nQ false (aB (aE 0) aG) [some (I n),some (.d x),none,none,none,none] M=some (lD (zs n),M):=by
    have h:=XD (J:=(n:Int)) (γ:=[some (.d x),none,none,none,none]) (M:=M) (sF (by omega) (by omega)) (by rw[J2];exact sz (by omega));rw[J2,QO]at h;exact h
   have it:eE (aE 1) (GT (some (I n)) (some (.d x)) (some (lD (zs n))) (some (.d (.tuple [.int (-1),.int 0,.tuple []]))) none none) M=some (ds.map .d,M):=tJ hi rfl;have lp:=zD (x1:=.d x) (M:=M) n40 ds (zs n) (-1,0) [] none none (oD n) (hs ds hi) (.inl rfl) (fun t q1 _ _ z=>by have:=q1.1;rw[<- z]at this;exact absurd this (by decide));dsimp only at lp;have ne:(!((ds.length:Int)==(n:Int)-1))=false:=by rw[nn];rfl
   have sf:∀o,eS (hName 4) aL (ds.map .d) (GT (some (I n)) (some (.d x)) (some (lD (zs n))) (some (.d (.tuple [.int (-1),.int 0,.tuple []]))) none none) M=some (o,M)->jA (eE (aE 1)) (hName 4) aL (GT (some (I n)) (some (.d x)) (some (lD (zs n))) (some (.d (.tuple [.int (-1),.int 0,.tuple []]))) none none) M=some (o,M):=fun o h=>by
    unfold jA;rw[it,A2];exact h
   rw[e];cases hb:blB n (zs n) (-1,0) ds with
   |true=>
    rw[hb,A4 rfl]at lp;obtain⟨γ,lp⟩:=lp;exact(AD r ln ne lr (sf _ lp)).1 γ rfl
   |false=>
    rw[hb,A6 (by decide)]at lp;exact(AD r ln ne lr (sf _ lp)).2 _ rfl
  .have nn:(!((ds.length:Int)==(n:Int)-1))=true:=by
    rw[Bool.not_eq_true',F9];omega
   have e:cF n x=false:=by unfold cF;rw[hi];dsimp only;rw[C3 hn,J8]
   rw[e];simp![bC,dE,aW,r,ln,mV,nn]
noncomputable def lsN:Nat->PyData->PyData
 |0,d=>d
 |n+1,.tuple xs=>.list (xs.map (lsN n))
 |_+1,d=>d
noncomputable def dpB:Nat->PyData->Bool
 |0,_=>false
 |n+1,.tuple xs=>decide (xs.length<=1000)&&xs.all (dpB n)
 |_+1,_=>true
theorem CY(M:Sto):∀(n:Nat)(d:PyData),dpB n d=true->bI n [.d d] M=some (.d (lsN n d),M)
 |0,d=>fun h=>by cases h
 |n+1,.tuple xs=>fun h=>by
  have h:(decide (xs.length<=1000)&&xs.all (dpB n))=true:=h;rw[B2,F7]at h
  have lc:∀(ys:List PyData)(g:Option CD),(∀y∈ys,dpB n y=true)->lcF (hName 0) jP (aM (bI n) (aB (aE 0) aG)) (ys.map .d) [g] M=some ((ys.map (lsN n)).map .d,M):=by
   intro ys
   induction ys with
   |nil=>intro g _;rfl
   |cons y ys ih=>
    intro g hy;have ih:=ih (some (.d y)) fun z hz=>hy z (B1 _ hz);have one:=CY M n y (hy y (B6 ..));rw[B8,B8,B8];unfold lcF;rw[show hName 0 (.d y) [g] M=some ([some (.d y)],M)from rfl,A2];dsimp only;rw[show jP [some (.d y)] M=some (true,M)from rfl,A2];dsimp only;rw[A4 rfl,show aM (bI n) (aB (aE 0) aG) [some (.d y)] M=bI n [.d y] M from rfl,one,A2];dsimp only;rw[ih];rfl
  have c:iB (bI n) [some (.d (.tuple xs))] M=some (.d (.list (xs.map (lsN n))),M):=by
   unfold iB;exact sE (tJ rfl rfl) (sz (by rw[A1];exact h.1)) (lc xs none (List.all_eq_true.mp h.2)) (sz (by rw[A1];exact h.1))
  have t:pB "tuple" (aE 0) [some (.d (.tuple xs))] M=some (B true,M):=rfl;show fnF 1 1 (gV (bI n)) [.d (.tuple xs)] M=_;unfold fnF gV aZ sIf fB gB bU cL;simp only[List.length_cons,List.length_nil,Nat.reduceAdd,Nat.reduceSub,reduceIte,List.map_cons,List.map_nil,List.replicate_zero,List.append_nil,t,c,Option.bind_some,asB,Bool.not_true,Bool.false_eq_true];rfl
 |_+1,.none=>fun _=>rfl
 |_+1,.bool _=>fun _=>rfl
 |_+1,.int _=>fun _=>rfl
 |_+1,.str _=>fun _=>rfl
 |_+1,.list _=>fun _=>rfl
 |_+1,.dict _=>fun _=>rfl
theorem sI(k:Nat)(d:PyData):aR (lsN k d)=aR d\/∃m xs,aR d=some xs/\aR (lsN k d)=some (xs.map (lsN m)):=by
 cases k with
 |zero=>exact .inl rfl
 |succ k=>
  cases d with
  |tuple xs=>exact .inr ⟨k,xs,rfl,rfl⟩
  |_=>exact .inl rfl
noncomputable def isInt:PyData->Option Int
 |.int i=>some i
 |_=>none
theorem wZ(k:Nat)(d:PyData):isInt (lsN k d)=isInt d:=by
 cases k with
 |zero=>rfl
 |succ k=>cases d<;>rfl
theorem EM(a b:PyData):VA a b=(match isInt a,isInt b with|some i,some j=>mW i j|_,_=>false):=by
 cases a<;>first|rfl|(cases b<;>rfl)
theorem WC(k:Nat)(c:PyData):fA (lsN k c)=fA c:=by
 rcases sI k c with h|⟨m,xs,h1,h2⟩
 .unfold fA;rw[h]
 .cases l2:((xs.length:Int)==2)with
  |false=>rw[xX h1 l2,xX h2 (by rw[A1];exact l2)]
  |true=>
   obtain⟨a,b,rfl⟩:=aAt xs l2;rw[xP h1,xP (show aR (lsN k c)=some [lsN m a,lsN m b]from h2),EM,EM,wZ,wZ]
noncomputable def DC(n:Int)(a b c:PyData):Option (Int×Int):=match isInt a,isInt b with
 |some i,some j=>if (decide (0<=i)&&decide (i<j)&&decide (j<n)&&fA c)=true then some (i,j)else none
 |_,_=>none
theorem BE{n:Int}{a b c:PyData}(h:aR d=some [a,b,c]):bD n d=DC n a b c:=by
 unfold bD DC;rw[h];cases a<;>first|rfl|(cases b<;>rfl)
theorem OU(n:Int)(k:Nat)(d:PyData):bD n (lsN k d)=bD n d:=by
 rcases sI k d with h|⟨m,xs,h1,h2⟩
 .unfold bD;rw[h]
 .cases l3:((xs.length:Int)==3)with
  |false=>rw[rL h1 l3,rL h2 (by rw[A1];exact l3)]
  |true=>
   obtain⟨a,b,c,rfl⟩:=WG xs l3;rw[BE h1,BE (show aR (lsN k d)=some [lsN m a,lsN m b,lsN m c]from h2)];unfold DC;rw[wZ,wZ,WC]
theorem CW(n:Int)(k:Nat):∀ds:List PyData,(ds.map (lsN k)).mapM (bD n)=ds.mapM (bD n)
 |[]=>rfl
 |d::ds=>by rw[B8,O8,O8,OU,CW n k ds]
theorem RF(n k:Nat)(x:PyData):cF n (lsN k x)=cF n x:=by
 rcases sI k x with h|⟨m,xs,h1,h2⟩
 .unfold cF;rw[h]
 .unfold cF;rw[h1,h2];dsimp only;rw[A1,CW]
theorem dN{f g:SF}{γ':Ga}(h:f γ M=some (.nx γ',M')):aZ f g γ M=g γ' M':=by
 unfold aZ;rw[h,A2]
theorem VX{f:EF}{i:Nat}{x:CD}(h:f γ M=some (x,M')):bM f (hName i) γ M=some (.nx (γ.set i (some x)),M'):=by
 unfold bM;rw[h,A2];rfl
theorem AC{ps N:Nat}{b:SF}{xs:List CD}{x:CD}(h:xs.length=ps)(hb:b (xs.map some++List.replicate (N-xs.length) none) M=some (.rt x,M')):fnF ps N b xs M=some (x,M'):=by
 unfold fnF;rw[A4 h,hb,A2]
theorem xU{b:SF}{M1:Sto}{xs:List CD}{r:Option (Out×Sto)}(h:f γ M=some (xs,M1))(hb:eS g b xs γ M1=r):jA f g b γ M=r:=by
 unfold jA;rw[h,A2];exact hb
theorem jS{b:SF}{x:CD}{xs:List CD}{γ1 γ2:Ga}{M1 M2:Sto}(h:g x γ M=some (γ1,M1))(hb:b γ1 M1=some (.nx γ2,M2)):eS g b (x::xs) γ M=eS g b xs γ2 M2:=by
 conv=>lhs;unfold eS
 rw[h,A2];dsimp only;rw[hb,A2]
section
variable{n x0:CD}{o:Nat}{x:PyData}{L0:Sto}
theorem wA{y:PyData}{M:Sto}{g5:Option CD}{b:Bool}(h0:0<o)(h40:o<=40)(e:cF o y=b):
 ∃L g5',fK [some n,some x0,some (I o),some (B b),some (.d y),g5] M=some (.nx [some n,some x0,some (I o),some (B b),some (.d y),g5'],M++L):=by
 obtain⟨L,h⟩:=pW h0 h40 y M;rw[e]at h;refine⟨L,some (B b),?_⟩;have c1:∀(J:Int)(M':Sto),sIf (gOr (fB (gB (pB "bool" (aE 5)))) (gB (fOp (eqX true) (aE 5) (aE 3)))) (bU (fC (.bool false))) cL [some n,some x0,some (I J),some (B b),some (.d y),some (B b)] M'=some (.nx [some n,some x0,some (I J),some (B b),some (.d y),some (B b)],M'):=fun J M'=>by cases b<;>rfl
 unfold fK;generalize (o:Int)=J at h ⊢
 have a1:aM bL (aB (aE 2) (aB (aE 4) aG)) [some n,some x0,some (I J),some (B b),some (.d y),g5] M=some (B b,M++L):=by
  rw[<- h];rfl
 rw[dN (VX a1)];exact c1 J _
theorem tD{M:Sto}{g3 g4 g5:Option CD}(h0:0<o)(h40:o<=40)(dp:dpB 6 x=true)(sm:SmT x):
 ∃L g3' g4' g5',eI [some n,some (.d x),some (I o),g3,g4,g5] M=some (.nx [some n,some (.d x),some (I o),g3',g4',g5'],M++L):=by
 have lw:=nJ h0 h40 x M sm;have ls:=CY M 6 x dp;obtain⟨L1,a5,r1⟩:=wA (n:=n) (x0:=.d x) (y:=x) (M:=M) (g5:=g5) (b:=cF o x) h0 h40 rfl;obtain⟨L2,b5,r2⟩:=wA (n:=n) (x0:=.d x) (y:=lsN 6 x) (M:=M++L1) (g5:=a5) (b:=cF o x) h0 h40 (RF o 6 x);refine⟨L1++L2,some (B (cF o x)),some (.d (lsN 6 x)),b5,?_⟩;generalize (o:Int)=J at lw r1 r2 ⊢
 have a1:bM (aM bC (aB (aE 2) (aB (aE 1) aG))) (hName 3) [some n,some (.d x),some (I J),g3,g4,g5] M=some (.nx [some n,some (.d x),some (I J),some (B (cF o x)),g4,g5],M):=by
  simp![lw]
 have it:eE (gI (aB (aE 1) (aB (aM (bI 6) (aB (aE 1) aG)) aG))) [some n,some (.d x),some (I J),some (B (cF o x)),g4,g5] M=some ([.d x,.d (lsN 6 x)],M):=by
  have s2:(2:Nat)<=sizeLine:=by decide
  have f:gI (aB (aE 1) (aB (aM (bI 6) (aB (aE 1) aG)) aG)) [some n,some (.d x),some (I J),some (B (cF o x)),g4,g5] M=some (.d (.list [x,lsN 6 x]),M):=by
   simp![ls,s2]
  exact tJ rfl f
 have lp:eS (hName 4) fK [.d x,.d (lsN 6 x)] [some n,some (.d x),some (I J),some (B (cF o x)),g4,g5] M=some (.nx [some n,some (.d x),some (I J),some (B (cF o x)),some (.d (lsN 6 x)),b5],M++(L1++L2)):=by
  unfold eS;rw[show hName 4 (.d x) [some n,some (.d x),some (I J),some (B (cF o x)),g4,g5] M=some ([some n,some (.d x),some (I J),some (B (cF o x)),some (.d x),g5],M)from rfl,A2];dsimp only;rw[r1,A2];dsimp only;unfold eS;rw[show hName 4 (.d (lsN 6 x)) [some n,some (.d x),some (I J),some (B (cF o x)),some (.d x),a5] (M++L1)=some ([some n,some (.d x),some (I J),some (B (cF o x)),some (.d (lsN 6 x)),a5],M++L1)from rfl,A2];dsimp only;rw[r2,A2];dsimp only;unfold eS;rw[D9]
 unfold eI aZ;rw[a1,A2];dsimp only;unfold jA;rw[it,A2];exact lp
end
theorem DO(h0:0<n)(h40:n<=40)(dp:dpB 6 x=true)(sm:SmT x):∃L,dQ [I n,.d x] M=some (B true,M++L):=by
 obtain⟨L1,a3,a4,a5,r1⟩:=tD (n:=I n) (x:=x) (o:=n) (M:=M) (g3:=none) (g4:=none) (g5:=none) h0 h40 dp sm;have hm:∃o:Nat,0<o/\o<=40/\(1+(n:Int) % 40:Int)=(o:Nat):=⟨1+n % 40,by omega,by omega,by omega⟩;obtain⟨o,o0,o40,eo⟩:=hm;obtain⟨L2,b3,b4,b5,r2⟩:=tD (n:=I n) (x:=x) (o:=o) (M:=M++L1) (g3:=a3) (g4:=a4) (g5:=a5) o0 o40 dp sm;refine⟨L1++L2,?_⟩;have mk:fI (n:Int) 40=true:=cR (by decide);rw[<- eo]at r2;generalize (n:Int)=J at r1 r2 mk ⊢
 have it:eE (gI (aB (aE 0) (aB (fOp cH (fC (.int 1)) (fOp eT (aE 0) (fC (.int 40)))) aG))) [some (I J),some (.d x),none,none,none,none] M=some ([I J,I (1+J % 40)],M):=by
  have s2:(2:Nat)<=sizeLine:=by decide
  have ad:cH (I 1) (I (J % 40)) M=some (I (1+J % 40),M):=rfl
  have f:gI (aB (aE 0) (aB (fOp cH (fC (.int 1)) (fOp eT (aE 0) (fC (.int 40)))) aG)) [some (I J),some (.d x),none,none,none,none] M=some (.d (.list [.int J,.int (1+J % 40)]),M):=by
   simp![mk,ad,s2]
  exact tJ rfl f
 have lp:eS (hName 2) eI [I J,I (1+J % 40)] [some (I J),some (.d x),none,none,none,none] M=some (.nx [some (I J),some (.d x),some (I (1+J % 40)),b3,b4,b5],M++(L1++L2)):=by
  unfold eS;rw[show hName 2 (I J) [some (I J),some (.d x),none,none,none,none] M=some ([some (I J),some (.d x),some (I J),none,none,none],M)from rfl,A2];dsimp only;rw[r1,A2];dsimp only;unfold eS;rw[show hName 2 (I (1+J % 40)) [some (I J),some (.d x),some (I J),a3,a4,a5] (M++L1)=some ([some (I J),some (.d x),some (I (1+J % 40)),a3,a4,a5],M++L1)from rfl,A2];dsimp only;rw[r2,A2];dsimp only;unfold eS;rw[D9]
 have sf:jA (eE (gI (aB (aE 0) (aB (fOp cH (fC (.int 1)) (fOp eT (aE 0) (fC (.int 40)))) aG)))) (hName 2) eI [some (I J),some (.d x),none,none,none,none] M=some (.nx [some (I J),some (.d x),some (I (1+J % 40)),b3,b4,b5],M++(L1++L2)):=by
  unfold jA;rw[it,A2];exact lp
 refine AC rfl ?_;unfold jZ;show aZ _ _ [some (I J),some (.d x),none,none,none,none] M=_;rw[dN sf];rfl
structure Tie where
 i:Int
 j:Int
 a:Int
 b:Int
noncomputable abbrev Tie.key(t:Tie):Ed:=(t.i,t.j)
noncomputable def Tie.lt(s t:Tie):Prop:=s.i<t.i\/(s.i=t.i/\s.j<t.j)
instance(s t:Tie):Decidable (Tie.lt s t):=by unfold Tie.lt;infer_instance
theorem key_ne{t:Tie}(h:s.key≠t.key):¬(s.i=t.i/\s.j=t.j):=fun⟨a,b⟩=>h (by unfold Tie.key;rw[a,b])
theorem Tie.lt_tot{t:Tie}(h:s.key≠t.key)(n:¬Tie.lt t s):Tie.lt s t:=by
 have:=key_ne h;unfold Tie.lt at n ⊢;omega
noncomputable def f2(t:Tie):List PyData:=[.int t.i,.int t.j,.tuple [.int t.a,.int t.b]]
noncomputable abbrev rD(t:Tie):PyData:=.tuple (f2 t)
theorem aAx{t:Tie}(h:s.key≠t.key):cC (f2 s) (f2 t)=some (decide (Tie.lt s t)):=by
 have k:=key_ne h;show(if (s.i==t.i)=true then(if (s.j==t.j)=true then _ else some (decide (s.j<t.j)))else some (decide (s.i<t.i)))=_;by_cases q:s.i=t.i
 .have q':¬s.j=t.j:=fun z=>k ⟨q,z⟩;rw[A4 (beq_iff_eq.mpr q),A6 (fun z=>q' (beq_iff_eq.mp z))];simp[Tie.lt,q]
 .rw[A6 (fun z=>q (beq_iff_eq.mp z))];simp[Tie.lt,q]
theorem QG(s t:Tie):(cC (f2 s) (f2 t)).isSome=true:=by
 show(if (s.i==t.i)=true then(if (s.j==t.j)=true then(if PyData.eqv (.tuple [.int s.a,.int s.b]) (.tuple [.int t.a,.int t.b])=true then cC [] []else some (HT.lexLt [s.a,s.b] [t.a,t.b]))else some (decide (s.j<t.j)))else some (decide (s.i<t.i))).isSome=true;split
 .split
  .split
   .rfl
   .rfl
  .rfl
 .rfl
theorem tU{i:Nat}(h:i<us.length):(us.map f2).getD i []=f2 us[i]:=by
 rw[A9,C6,B4 h];rfl
theorem aAp(nd:(us.map Tie.key).Nodup){i j:Nat}(hi:i<us.length)(hj:j<us.length)(h:i≠j):us[i].key≠us[j].key:=fun q=>by
 have:=(List.getElem_inj (h₀:=by rw[A1];exact hi) (h₁:=by rw[A1];exact hj) nd).mp (by rw[List.getElem_map,List.getElem_map];exact q);exact h this
theorem aBS(h2:2<=us.length)(h64:us.length<64):sortable (us.map f2)=true:=by
 have hd:(gJ (us.map f2) || lM (us.map f2))=true:=by
  rw[Bool.or_eq_true];exact .inl (by unfold gJ;rw[List.all_map];exact List.all_eq_true.mpr fun t _=>rfl)
 unfold sortable;rw[A1,B7 h2,B7 h64,hd,E4,E4,Bool.and_true,B2];refine⟨List.all_eq_true.mpr fun r hr=>?_,List.all_eq_true.mpr fun i hi=>List.all_eq_true.mpr fun j hj=>?_⟩
 .obtain⟨t,_,rfl⟩:=List.mem_map.mp hr;rfl
 .rw[tU (List.mem_range.mp hi),tU (List.mem_range.mp hj)];exact QG _ _
theorem ON{i j:Nat}(hi:i<us.length)(hj:j<us.length)(k:us[i].key≠us[j].key):dM (us.map f2) i j=decide (Tie.lt us[i] us[j]):=by
 unfold dM;rw[tU hi,tU hj,aAx k];rfl
noncomputable def t0:Tie:=⟨0,0,0,0⟩
theorem FK(us:List Tie):(List.range us.length).map (fun i=>us.getD i t0)=us:=by
 refine List.ext_getElem? fun i=>?_;rw[C6];by_cases h:i<us.length
 .rw[List.getElem?_range h,B4 h];show some (us.getD i t0)=_;rw[A9,B4 h];rfl
 .rw[List.getElem?_eq_none (by rw[O5];omega),List.getElem?_eq_none (by omega)];rfl
theorem BS{i:Nat}(h:i<us.length):us.getD i t0=us[i]:=by
 rw[A9,B4 h];rfl
theorem wI(h64:us.length<64):∃vs:List Tie,vs.Perm us/\((us.map Tie.key).Nodup->vs.Pairwise Tie.lt)/\lZ (us.map f2)=some (vs.map rD)/\(2<=us.length->sortable (us.map f2)=true/\vY (us.map f2)=vs.map rD)/\(us.length<2->vs=us):=by
 by_cases h2:2<=us.length
 .have ab:=aBS h2 h64;have pm:=iU (n:=(us.map f2).length) (dM (us.map f2)) (by rw[A1];omega);have so:=uS ab;rw[A1]at pm so;have mem:∀i∈cT (dM (us.map f2)) us.length,i<us.length:=fun i hi=>List.mem_range.mp (pm.mem_iff.mp hi)
  have sd:vY (us.map f2)=((cT (dM (us.map f2)) us.length).map fun i=>us.getD i t0).map rD:=by
   unfold vY;rw[A1,S0];refine S1 fun i hi=>?_;show PyData.tuple ((us.map f2).getD i [])=.tuple (f2 (us.getD i t0));rw[tU (mem i hi),BS (mem i hi)]
  refine⟨(cT (dM (us.map f2)) us.length).map fun i=>us.getD i t0,?_,fun nd=>?_,?_,fun _=>⟨ab,sd⟩,fun q=>by omega⟩
  .have:=pm.map fun i=>us.getD i t0
   rwa [FK]at this
  .rw[List.pairwise_map];have nd2:(cT (dM (us.map f2)) us.length).Nodup:=pm.nodup_iff.mpr List.nodup_range;have len:(cT (dM (us.map f2)) us.length).length=us.length:=by rw[pm.length_eq,O5]
   rw[List.pairwise_iff_getElem];intro a b ha hb hab;have hx:=mem _ (J7 ha);have hy:=mem _ (J7 hb)
   have g:∀c (hc:c<(cT (dM (us.map f2)) us.length).length),(GQ (dM (us.map f2)) (PySem.W.kas_sort us.length)).getD c 0=(cT (dM (us.map f2)) us.length)[c]:=fun c hc=>by
    unfold cT at hc ⊢;rw[U7]at hc;simp[Array.getD,hc]
   have s1:=so a b hab (by rw[<- len];exact hb);rw[g a ha,g b hb]at s1
   have ne:(cT (dM (us.map f2)) us.length)[b]≠(cT (dM (us.map f2)) us.length)[a]:=fun q=>by
    have:=(List.getElem_inj nd2).mp q;omega
   have kn:=aAp nd hy hx ne;rw[ON hy hx kn]at s1;rw[BS hx,BS hy];exact Tie.lt_tot (O3 kn) (E2 s1)
  .unfold lZ;rw[ab,A4 rfl,sd]
 .have hl:us.length<2:=by omega
  refine⟨us,.refl _,fun _=>?_,?_,fun q=>absurd q h2,fun _=>rfl⟩
  .match us,hl with
   |[],_=>exact .nil
   |[t],_=>exact List.pairwise_singleton _ _
  .unfold lZ
   have:sortable (us.map f2)=false:=by
    unfold sortable;rw[A1,C3 h2];rfl
   rw[this,A6 A8,A1,A4 hl,S0];rfl
theorem ES(us:List Tie):rowsOf (us.map rD)=some (us.map f2):=by
 induction us with
 |nil=>rfl
 |cons t us ih=>
  show(rowsOf (us.map rD)).bind _=_;rw[ih];rfl
theorem MP(h64:us.length<64):∃vs:List Tie,vs.Perm us/\tQ [.d (.tuple (us.map rD))] M=some (.d (.list (vs.map rD)),M):=by
 obtain⟨vs,h1,_,h2,_⟩:=wI h64;refine⟨vs,h1,?_⟩;show(rowsOf (us.map rD)).bind _=_;rw[ES,A2,h2];rfl
theorem GH(hc:M[c]?=some (.lst ((us.map rD).map .d)))(h64:us.length<64):∃vs:List Tie,vs.Perm us/\((us.map Tie.key).Nodup->vs.Pairwise Tie.lt)/\pU [.c c] M=some (.d (.list (vs.map rD)),M):=by
 obtain⟨vs,h1,h2,_,h3,h4⟩:=wI h64;refine⟨vs,h1,h2,?_⟩;unfold pU;by_cases hl:us.length<2
 .have:nL [.c c] M=some (.d (.list (vs.map rD)),M):=by
   simp only[nL,hc,mD,Option.bind_some,List.length_map,if_pos hl];rw[h4 hl]
  rw[this]
 .have:nL [.c c] M=none:=by
   simp only[nL,hc,mD,Option.bind_some,List.length_map,if_neg hl]
  rw[this];obtain⟨ab,sd⟩:=h3 (by omega);simp only[rB,hc,mD,Option.bind_some,ES,if_pos ab,sd]
noncomputable def smB(d:PyData):Bool:=match aR d with
 |some [.int a,.int b]=>decide (a<=E60)&&decide (b<=E60)
 |_=>true
theorem aAn(h:smB d=true):Sm d:=fun a b e=>by
 unfold smB at h;rw[e]at h;have h:(decide (a<=E60)&&decide (b<=E60))=true:=h;rw[B2,F7,F7]at h;exact h
noncomputable def LV(d:PyData):Bool:=match aR d with
 |some [_,_,c]=>smB c
 |_=>true
theorem VS(h:LV d=true):SmR d:=fun a b c e=>by
 unfold LV at h;rw[e]at h;exact aAn h
noncomputable def WH(d:PyData):Bool:=match aR d with
 |some ds=>ds.all LV
 |none=>true
theorem YO(h:WH d=true):SmT d:=fun ds e r hr=>by
 unfold WH at h;rw[e]at h;exact VS (List.all_eq_true.mp h r hr)
noncomputable def okR(d:PyData):Bool:=dpB 5 d&&LV d
noncomputable def okX(d:PyData):Bool:=dpB 6 d&&WH d
theorem mQ{ds:List PyData}(h:∀d∈ds,okR d=true)(hl:ds.length<=1000):okX (.tuple ds)=true:=by
 show((decide (ds.length<=1000)&&ds.all (dpB 5))&&ds.all LV)=true;rw[B7 hl,E4,B2,List.all_eq_true,List.all_eq_true];exact⟨fun d hd=>by have:=h d hd;unfold okR at this;rw[B2]at this;exact this.1,fun d hd=>by have:=h d hd;unfold okR at this;rw[B2]at this;exact this.2⟩
noncomputable abbrev E30:Int:=1000000000000000000000000000000
noncomputable abbrev E21:Int:=1000000000000000000000
structure Am(a b:Int):Prop where
 am:mW a b=true
 a30:a<=E30
 b21:b<=E21
theorem rG(ha:a<=E60)(hb:b<=E60):okR (.tuple [.int i,.int j,.tuple [.int a,.int b]])=true:=by
 show(true&&(decide (a<=E60)&&decide (b<=E60)))=true;rw[B7 ha,B7 hb];rfl
theorem Am.ok(h:Am a b):okR (.tuple [.int i,.int j,.tuple [.int a,.int b]])=true:=rG (U0 h.a30 (by decide)) (U0 h.b21 (by decide))
noncomputable def rW:List PyData:=[.none,(.bool true),(.int 0),(.int 3),(.str "0"),(.tuple []),(.list []),(.dict []),(.tuple [(.int 0),(.int 1)]),(.tuple [(.tuple [(.int 0),(.int 1)])]),(.tuple [(.tuple [(.int 0),(.int 1),(.tuple [(.int 1),(.int 1)]),(.int 0)])]),(.tuple [(.tuple [(.int 0),(.int 1),(.int 1)])]),(.tuple [(.tuple [(.int 0),(.int 1),(.tuple [(.int 2),(.int 2)])])])]
noncomputable def rX:List PyData:=[(.tuple [(.tuple [(.int 1),(.int 0),(.tuple [(.int 1),(.int 1)])])]),(.tuple [(.tuple [(.int 0),(.int 0),(.tuple [(.int 1),(.int 1)])])]),(.tuple [(.tuple [(.int 0),(.int 1),(.tuple [(.int (-1)),(.int 1)])])]),(.tuple [(.tuple [(.int 0),(.int 1),(.tuple [(.int 1),(.int 0)])])]),(.tuple [(.tuple [(.bool false),(.bool true),(.tuple [(.int 1),(.int 1)])])])]
theorem RX:(rW++rX).all (fun d=>okX d&&okR d)=true:=rfl
theorem WB{k m:Int}(hm:0<m)(hl:(ds.length:Int)=m):∃d,atI ds (k % m)=some d/\d∈ds:=by
 have h1:=J4 k (show m≠0 by omega);have h2:=F5 k hm;have hk:(k % m).toNat<ds.length:=by omega
 obtain⟨q,hq⟩:∃q:Nat,k % m=(q:Nat):=⟨(k % m).toNat,by omega⟩;rw[hq]at hk ⊢;rw[J2]at hk;exact⟨ds[q],mR (B4 hk),J7 hk⟩
theorem KR(k:Int)(M:Sto):∃d,iE [I k] M=some (.d d,M)/\okX d=true/\okR d=true:=by
 obtain⟨d,h1,h2⟩:=WB (ds:=rW++rX) (k:=k) (m:=18) (by decide) rfl;have ok:=List.all_eq_true.mp RX d h2;rw[B2]at ok;refine⟨d,?_,ok⟩;have ad:cH (.d (.list rW)) (.d (.list rX)) M=some (.d (.list (rW++rX)),M):=rfl
 have ix:ixF (.d (.list (rW++rX))) (I (k % 18)) M=some (.d d,M):=by
  show(atI (rW++rX) (k % 18)).bind _=_;rw[h1];rfl
 have k0:∀γ,kI γ M=some (.d (.list rW),M):=fun γ=>uJ γ M;have k1:∀γ,kB γ M=some (.d (.list rX),M):=fun γ=>uH γ M;have mk:fI k 18=true:=cR (by decide);simp![iE,nM,k0,k1,ad,mk,ix]
theorem qH:∀us:List Tie,PyData.canLayAll0 (us.map rD)=true
 |[]=>rfl
 |t::us=>by show(true&&PyData.canLayAll0 (us.map rD))=true;rw[qH us];rfl
theorem tL:∀us:List Tie,PyData.depthAll (us.map rD)<=2
 |[]=>by decide
 |t::us=>by
  show max 2 (PyData.depthAll (us.map rD))<=2;exact Nat.max_le.mpr ⟨A7 _,tL us⟩
theorem eq_nil(us:List Tie)(M:Sto):eqX false (.d (.tuple (us.map rD))) (.d (.tuple [])) M=some (B us.isEmpty,M):=by
 have e1:SeqAt.shaped (.tuple (us.map rD))=true:=by
  unfold SeqAt.shaped;have e2:PyData.canLay0 (.tuple (us.map rD))=true:=qH us
  have e3:PyData.depth (.tuple (us.map rD))<=64:=by
   show PyData.depthAll (us.map rD)+1<=64;have:=tL us;omega
  rw[e2,B7 e3];rfl
 have e2:SeqAt.shaped (.tuple [])=true:=rfl;show(if (SeqAt.shaped (.tuple (us.map rD))&&SeqAt.shaped (.tuple []))=true then some (B (PyData.eqv (.tuple (us.map rD)) (.tuple [])),M)else none)=_;rw[e1,e2];cases us<;>rfl
theorem mT{α:Type}{ds:List α}{lo hi:Option Int}:∀x∈cU ds lo hi,x∈ds:=fun x hx=>by
 unfold cU at hx;exact List.mem_of_mem_drop (List.mem_of_mem_take hx)
theorem yJ{α:Type}(ds:List α)(lo hi:Option Int):(cU ds lo hi).length<=ds.length:=by
 unfold cU;rw[O9,U1];omega
theorem OO{α:Type}{ds:List α}(h0:0<=a)(h1:a<ds.length):(cU ds none (some a)).length+(cU ds (some (a+1)) none).length+1=ds.length:=by
 obtain⟨q,rfl⟩:∃q:Nat,a=(q:Nat):=⟨a.toNat,by omega⟩;unfold cU;rw[HT.sIx_none,HT.sIx_none,show((q:Nat):Int)+1=((q+1:Nat):Int)from rfl,HT.sIx_nat,HT.sIx_nat,O9,U1,O9,U1];omega
theorem DX(us:List Tie)(lo hi:Option Int):cU (us.map rD) lo hi=(cU us lo hi).map rD:=by
 unfold cU;rw[A1,List.map_take,List.map_drop]
theorem sl_tup{lo hi:Option Int}:slF (.d (.tuple ds)) lo hi M=some (.d (.tuple (cU ds lo hi)),M):=rfl
theorem rH{xs:List PyData}(hl:xs.length+ys.length<=1000):cH (.d (.tuple xs)) (.d (.tuple ys)) M=some (.d (.tuple (xs++ys)),M):=by
 cases xs with
 |nil=>rfl
 |cons x xs=>
  have h:(x::xs:List PyData)≠[]/\(x::xs).length+ys.length<=sizeLine:=⟨by simp,sz hl⟩;show(if (x::xs:List PyData)≠[]/\(x::xs).length+ys.length<=sizeLine then some (CD.d (.tuple (x::xs++ys)),M)else none)=_;rw[A4 h]
theorem qZ{α:Type}{ds:List α}{k m:Int}(hm:0<m)(hl:(ds.length:Int)=m):∃d,atI ds (k % m)=some d/\d∈ds:=by
 have h1:=J4 k (show m≠0 by omega);have h2:=F5 k hm;have hk:(k % m).toNat<ds.length:=by omega
 obtain⟨q,hq⟩:∃q:Nat,k % m=(q:Nat):=⟨(k % m).toNat,by omega⟩;rw[hq]at hk ⊢;rw[J2]at hk;exact⟨ds[q],mR (B4 hk),J7 hk⟩
theorem rA{rs:List Tie}{lo hi lo' hi':Option Int}(ham:∀t∈rs,Am t.a t.b)(hl:rs.length<=39)(hd:okR d=true):okX (.tuple (cU (rs.map rD) lo hi++[d]++cU (rs.map rD) lo' hi'))=true:=by
 have ok:∀x∈rs.map rD,okR x=true:=fun x hx=>by
  obtain⟨t,ht,rfl⟩:=List.mem_map.mp hx;exact(ham t ht).ok
 have l1:=yJ (rs.map rD) lo hi;have l2:=yJ (rs.map rD) lo' hi';rw[A1]at l1 l2;refine mQ (fun x hx=>?_) (by rw[B0,B0,C4];omega);rcases List.mem_append.mp hx with hx|hx
 .rcases List.mem_append.mp hx with hx|hx
  .exact ok x (mT x hx)
  .rw[D5]at hx;rw[hx];exact hd
 .exact ok x (mT x hx)
section
variable{rs:List Tie}{k n:Int}{M:Sto}
noncomputable abbrev tr(rs:List Tie):CD:=.d (.tuple (rs.map rD))
noncomputable abbrev GB(rs:List Tie)(k n w m:Int)(a i j am b:Option CD):Ga:=[some (tr rs),some (I k),some (I n),some (I w),some (I m),a,i,j,am,b]
theorem ZT(ham:∀t∈rs,Am t.a t.b)(hl:rs.length<=39)(n1:0<n)(n40:n<=40):∃d L,bN [tr rs,I k,I n] M=some (.d d,M++L)/\okX d=true:=by
 have mk:fI k 9=true:=cR (by decide);have dk:∀z:Int,oX z 9=true:=fun z=>oP (by decide) (wsm (by decide) (by decide));have en:=eq_nil rs M;have s0:(0:Nat)<=sizeLine:=E9 _;cases w0:(k % 9==0)with
 |true=>
  obtain⟨d,h1,h2,_⟩:=KR (k / 9) M;refine⟨d,[],?_,h2⟩;rw[D1];simp![bN,bW,mk,dk,iM,w0,h1]
 |false=>
  cases hr:rs.isEmpty with
  |true=>
   obtain⟨d,h1,h2,_⟩:=KR (k / 9) M;refine⟨d,[],?_,h2⟩;rw[hr]at en;rw[D1];simp![bN,bW,mk,dk,iM,w0,en,s0,h1]
  |false=>
   rw[hr]at en;have lp:0<rs.length:=by cases rs with|nil=>cases hr|cons _ _=>simp
   have ln:∀M,gN [tr rs] M=some (I rs.length,M):=fun M=>by
    have:=fT (x:=.tuple (rs.map rD)) (ds:=rs.map rD) (M:=M) rfl;rw[A1]at this;exact this
   obtain⟨t,ht,htm⟩:=qZ (ds:=rs) (k:=k / 9) (m:=(rs.length:Int)) (by omega) rfl;have am:=ham t htm;generalize hL:(rs.length:Int)=J at ln ht;have J0:0<J:=by omega
   have mJ:fI (k / 9) J=true:=cR J0;generalize ha:k / 9 % J=a at ht
   have ix:∀M,ixF (tr rs) (I a) M=some (.d (.tuple [.int t.i,.int t.j,.tuple [.int t.a,.int t.b]]),M):=fun M=>by
    have:atI (rs.map rD) a=some (rD t):=by
     unfold atI at ht ⊢;rw[A1];obtain⟨j,h1,h2⟩:=aI ht;rw[h1,A2,C6,h2];rfl
    show(atI (rs.map rD) a).bind _=_;rw[this];rfl
   have ok:∀x∈rs.map rD,okR x=true:=fun x hx=>by
    obtain⟨t,ht,rfl⟩:=List.mem_map.mp hx;exact(ham t ht).ok
   have l1:=fun lo hi=>yJ (rs.map rD) lo hi;simp only[List.length_map]at l1;have s1:(1:Nat)<=sizeLine:=by decide
   have s2:(2:Nat)<=sizeLine:=by decide
   have s3:(3:Nat)<=sizeLine:=by decide
   have s5:(5:Nat)<=sizeLine:=by decide
   have ad1:cH (I a) (I 1) M=some (I (a+1),M):=rfl;have ad2:∀(d:PyData)(M:Sto),cH (.d (.tuple (cU (rs.map rD) none (some a)))) (.d (.tuple [d])) M=some (.d (.tuple (cU (rs.map rD) none (some a)++[d])),M):=fun d M=>rH (by have:=l1 none (some a);rw[C4];omega);have ad3:∀(d:PyData)(M:Sto),cH (.d (.tuple (cU (rs.map rD) none (some a)++[d]))) (.d (.tuple (cU (rs.map rD) (some (a+1)) none))) M=some (.d (.tuple (cU (rs.map rD) none (some a)++[d]++cU (rs.map rD) (some (a+1)) none)),M):=fun d M=>rH (by have:=l1 none (some a);have:=l1 (some (a+1)) none;rw[B0,C4];omega);have dJ:∀z:Int,fI z 6=true:=fun z=>cR (by decide);cases w1:(k % 9==1)with
   |true=>
    have ad:cH (.d (.tuple (cU (rs.map rD) none (some a)))) (.d (.tuple (cU (rs.map rD) (some (a+1)) none))) M=some (.d (.tuple (cU (rs.map rD) none (some a)++cU (rs.map rD) (some (a+1)) none)),M):=rH (by have:=l1 none (some a);have:=l1 (some (a+1)) none;omega);refine⟨.tuple (cU (rs.map rD) none (some a)++cU (rs.map rD) (some (a+1)) none),[],?_,mQ (fun x hx=>?_) (by have:=l1 none (some a);have:=l1 (some (a+1)) none;rw[B0];omega)⟩
    .rw[D1];simp![bN,bW,mk,dk,iM,w0,en,s0,ln,mJ,ha,ix,w1,fSl,dF,bQ,asI,sl_tup,ad1,ad]
    .rcases List.mem_append.mp hx with hx|hx<;>exact ok x (mT x hx)
   |false=>
   cases w2:(k % 9==2)with
   |true=>
    have ad:cH (tr rs) (.d (.tuple (cU (rs.map rD) (some a) (some (a+1))))) M=some (.d (.tuple (rs.map rD++cU (rs.map rD) (some a) (some (a+1)))),M):=rH (by have:=l1 (some a) (some (a+1));rw[A1];omega);refine⟨.tuple (rs.map rD++cU (rs.map rD) (some a) (some (a+1))),[],?_,mQ (fun x hx=>?_) (by have:=l1 (some a) (some (a+1));rw[B0,A1];omega)⟩
    .rw[D1];simp![bN,bW,mk,dk,iM,w0,en,s0,ln,mJ,ha,ix,w1,w2,fSl,dF,bQ,asI,sl_tup,ad1,ad]
    .rcases List.mem_append.mp hx with hx|hx
     .exact ok x hx
     .exact ok x (mT x hx)
   |false=>
   cases w3:(k % 9==3)with
   |true=>
    have ng:yC (I 1) M=some (I (-1),M):=rfl;have rv:JW (tr rs) M=some (.d (.tuple (rs.map rD).reverse),M):=rfl;have rf:PJ (aE 0) (dF (fUn yC (fC (.int 1)))) (GB rs k n (k % 9) (k / 9) (some (I a)) (some (I t.i)) (some (I t.j)) (some (.d (.tuple [.int t.a,.int t.b]))) none) M=some (.d (.tuple (rs.map rD).reverse),M):=rfl;refine⟨.tuple (rs.map rD).reverse,[],?_,mQ (fun x hx=>ok x (List.mem_reverse.mp hx)) (by rw[L8,A1];omega)⟩;rw[D1];simp![bN,bW,mk,dk,iM,w0,en,s0,ln,mJ,ha,ix,w1,w2,w3];rfl
   |false=>
   cases w4:(k % 9==4)with
   |true=>
    refine⟨_,[],?_,rA (lo:=none) (hi:=some a) (lo':=some (a+1)) (hi':=none) (d:=.tuple [.int t.j,.int t.i,.tuple [.int t.a,.int t.b]]) ham hl am.ok⟩;rw[D1];simp![bN,bW,mk,dk,iM,w0,en,s0,ln,mJ,ha,ix,w1,w2,w3,w4,fSl,dF,bQ,asI,sl_tup,ad1,ad2,ad3,s1,s3]
   |false=>
   cases w5:(k % 9==5)with
   |true=>
    have a60:t.a<=E60:=U0 am.a30 (by decide);have b60:t.b<=E60:=U0 am.b21 (by decide);have a2:2*t.a<=E60:=U0 (Int.mul_le_mul_of_nonneg_left am.a30 (by decide)) (by decide);have b2:2*t.b<=E60:=U0 (Int.mul_le_mul_of_nonneg_left am.b21 (by decide)) (by decide);have m2:∀z,iQ 2 z=true:=fun z=>by unfold iQ;rw[B7 (show(2:Int).natAbs<2 ^ 64 by decide)];rfl
    let six:List CD:=[.d (.tuple [.int t.a,.int t.b,.int 1]),.d (.tuple [.int (2*t.a),.int (2*t.b)]),.d (.tuple [.int t.a,.int 0]),.d (.tuple [.int (-1),.int 1]),I t.a,.d (.list [.bool true,.int 1])];obtain⟨c,hc,hcm⟩:=qZ (ds:=six) (k:=k / 9 / 9) (m:=6) (by decide) rfl
    have hx:∃d,c=.d d/\okR (.tuple [.int t.i,.int t.j,d])=true:=by
     simp only[six,List.mem_cons,List.not_mem_nil,or_false]at hcm;rcases hcm with rfl|rfl|rfl|rfl|rfl|rfl
     .exact⟨_,rfl,rfl⟩
     .exact⟨_,rfl,rG a2 b2⟩
     .exact⟨_,rfl,rG a60 (by decide)⟩
     .exact⟨_,rfl,rG (by decide) (by decide)⟩
     .exact⟨_,rfl,rfl⟩
     .exact⟨_,rfl,rfl⟩
    obtain⟨d,rfl,hd⟩:=hx;have x0:∀M,ixF (.d (.tuple [.int t.a,.int t.b])) (I 0) M=some (I t.a,M):=fun M=>rfl;have x1:∀M,ixF (.d (.tuple [.int t.a,.int t.b])) (I 1) M=some (I t.b,M):=fun M=>rfl
    have ty:tyB "list" (M++[Cell.lst [.d (.tuple [.int t.a,.int t.b,.int 1]),.d (.tuple [.int (2*t.a),.int (2*t.b)]),.d (.tuple [.int t.a,.int 0]),.d (.tuple [.int (-1),.int 1]),I t.a]]) (.c M.length)=true:=by
     have e:(M++[Cell.lst [.d (.tuple [.int t.a,.int t.b,.int 1]),.d (.tuple [.int (2*t.a),.int (2*t.b)]),.d (.tuple [.int t.a,.int 0]),.d (.tuple [.int (-1),.int 1]),I t.a]])[M.length]?=some (Cell.lst [.d (.tuple [.int t.a,.int t.b,.int 1]),.d (.tuple [.int (2*t.a),.int (2*t.b)]),.d (.tuple [.int t.a,.int 0]),.d (.tuple [.int (-1),.int 1]),I t.a]):=by
      rw[C1 (A7 _),F8];rfl
     simp only[tyB,e];decide
    have ap:bY (.c M.length) [.d (.list [.bool true,.int 1])] (M++[Cell.lst [.d (.tuple [.int t.a,.int t.b,.int 1]),.d (.tuple [.int (2*t.a),.int (2*t.b)]),.d (.tuple [.int t.a,.int 0]),.d (.tuple [.int (-1),.int 1]),I t.a]])=some (.d .none,M++[Cell.lst six]):=by
     have e:(M++[Cell.lst [.d (.tuple [.int t.a,.int t.b,.int 1]),.d (.tuple [.int (2*t.a),.int (2*t.b)]),.d (.tuple [.int t.a,.int 0]),.d (.tuple [.int (-1),.int 1]),I t.a]])[M.length]?=some (Cell.lst [.d (.tuple [.int t.a,.int t.b,.int 1]),.d (.tuple [.int (2*t.a),.int (2*t.b)]),.d (.tuple [.int t.a,.int 0]),.d (.tuple [.int (-1),.int 1]),I t.a]):=by
      rw[C1 (A7 _),F8];rfl
     have l5:([.d (.tuple [.int t.a,.int t.b,.int 1]),.d (.tuple [.int (2*t.a),.int (2*t.b)]),.d (.tuple [.int t.a,.int 0]),.d (.tuple [.int (-1),.int 1]),I t.a]:List CD).length<sizeLine:=by
      show 5<sizeLine;decide
     simp only[bY,e,if_pos l5];rw[J9 _ _ (A7 _),F8];rfl
    have xc:ixF (.c M.length) (I (k / 9 / 9 % 6)) (M++[Cell.lst six])=some (.d d,M++[Cell.lst six]):=by
     have e:(M++[Cell.lst six])[M.length]?=some (Cell.lst six):=by
      rw[C1 (A7 _),F8];rfl
     simp only[ixF,e,hc,Option.bind_some]
    have ad1':∀M,cH (I a) (I 1) M=some (I (a+1),M):=fun M=>rfl;refine⟨_,[Cell.lst six],?_,rA (lo:=none) (hi:=some a) (lo':=some (a+1)) (hi':=none) ham hl hd⟩;simp![bN,bW,mk,dk,iM,w0,en,s0,ln,mJ,ha,ix,w1,w2,w3,w4,w5,x0,x1,m2,sL,rY,cM,ty,ap,xc,dJ,fSl,dF,bQ,asI,sl_tup,ad1',ad2,ad3,s1,s2,s3,s5]
   |false=>
   cases w6:(k % 9==6)with
   |true=>
    have an:cH (I n) (I 1) M=some (I (n+1),M):=rfl;have mn:fI (k / 9 / 9) (n+1)=true:=cR (by omega);refine⟨_,[],?_,rA (lo:=none) (hi:=some a) (lo':=some (a+1)) (hi':=none) (d:=.tuple [.int t.i,.int (k / 9 / 9 % (n+1)),.tuple [.int t.a,.int t.b]]) ham hl am.ok⟩;rw[D1];simp![bN,bW,mk,dk,iM,w0,en,s0,ln,mJ,ha,ix,w1,w2,w3,w4,w5,w6,an,mn,fSl,dF,bQ,asI,sl_tup,ad1,ad2,ad3,s1,s3]
   |false=>
   cases w7:(k % 9==7)with
   |true=>
    have mn:fI (k / 9 / 9) n=true:=cR n1;have an:cH (I 1) (I (k / 9 / 9 % n)) M=some (I (1+k / 9 / 9 % n),M):=rfl
    have e3:cU (rs.map rD) none (some a)++[PyData.tuple [.int 0,.int (1+k / 9 / 9 % n),.tuple [.int t.a,.int t.b]]]++cU (rs.map rD) (some (a+1)) none=(cU rs none (some a)++[(⟨0,1+k / 9 / 9 % n,t.a,t.b⟩:Tie)]++cU rs (some (a+1)) none).map rD:=by
     rw[DX,DX,E3,E3];rfl
    have c1:=OO (ds:=rs) (a:=a) (by rw[<- ha];exact J4 _ (by omega)) (by rw[<- ha,hL];exact F5 _ J0);obtain⟨vs,hp,so⟩:=MP (us:=cU rs none (some a)++[(⟨0,1+k / 9 / 9 % n,t.a,t.b⟩:Tie)]++cU rs (some (a+1)) none) (M:=M) (by rw[B0,B0,C4];omega);rw[<- e3]at so;have tv:fV [.d (.list (vs.map rD))] M=some (.d (.tuple (vs.map rD)),M):=rfl;refine⟨.tuple (vs.map rD),[],?_,mQ (fun x hx=>?_) (by rw[A1,hp.length_eq,B0,B0,C4];omega)⟩
    .rw[D1];simp![bN,bW,mk,dk,iM,w0,en,s0,ln,mJ,ha,ix,w1,w2,w3,w4,w5,w6,w7,an,mn,fSl,dF,bQ,asI,sl_tup,ad1,ad2,ad3,s1,s3,so,tv]
    .obtain⟨u,hu,rfl⟩:=List.mem_map.mp hx;have hu:=hp.mem_iff.mp hu;rcases List.mem_append.mp hu with hu|hu
     .rcases List.mem_append.mp hu with hu|hu
      .exact(ham u (mT u hu)).ok
      .rw[D5]at hu;rw[hu];exact am.ok
     .exact(ham u (mT u hu)).ok
   |false=>
    obtain⟨d,h1,_,h2⟩:=KR (k / 9 / 9) M;refine⟨_,[],?_,rA (lo:=none) (hi:=some a) (lo':=some (a+1)) (hi':=none) (d:=d) ham hl h2⟩;rw[D1];simp![bN,bW,mk,dk,iM,w0,en,s0,ln,mJ,ha,ix,w1,w2,w3,w4,w5,w6,w7,h1,fSl,dF,bQ,asI,sl_tup,ad1,ad2,ad3,s1]
end
noncomputable abbrev cI(xs:List Int):Cell:=.lst (xs.map fun i=>I i)
noncomputable def Li(M:Sto)(c:Nat)(xs:List Int):Prop:=M[c]?=some (cI xs)
structure Oth(c:Nat)(M M':Sto):Prop where
 len:M'.length=M.length
 at_:∀i,i≠c->M'[i]?=M[i]?
theorem Li.lt(h:Li M c xs):c<M.length:=(List.getElem?_eq_some_iff.mp h).1
theorem Li.set{ys:List Int}(h:Li M c xs):Li (M.set c (cI ys)) c ys/\Oth c M (M.set c (cI ys)):=
 ⟨by unfold Li;rw[L9 h.lt],by rw[S5],fun i hi=>by rw[O6 (O3 hi)]⟩
theorem Li.oth{d:Nat}(h:Li M c xs)(o:Oth d M M')(ne:c≠d):Li M' c xs:=by unfold Li;rw[o.at_ c ne];exact h
theorem Li.app(h:Li M c xs):Li (M++L) c xs:=by unfold Li;rw[L4 h.lt];exact h
theorem Li.ty(h:Li M c xs):tyB "list" M (.c c)=true:=by
 unfold Li at h;simp only[tyB,h];decide
theorem Li.ln(h:Li M c xs):gN [.c c] M=some (I xs.length,M):=by
 unfold Li at h;simp only[gN,h,List.length_map]
theorem aAY{α:Type}{xs:List α}(h:Inn xs.length p):∃z,atI xs p=some z/\z∈xs:=by
 obtain⟨q,rfl⟩:∃q:Nat,p=(q:Nat):=⟨p.toNat,by omega⟩;have hk:q<xs.length:=by omega
 exact⟨xs[q],mR (B4 hk),J7 hk⟩
theorem Li.ix(h:Li M c xs)(hp:Inn xs.length p):∃z,ixF (.c c) (I p) M=some (I z,M):=by
 obtain⟨z,h1,h2⟩:=aAY (xs:=xs.map fun i=>I i) (p:=p) (by rw[A1];exact hp);obtain⟨y,_,rfl⟩:=List.mem_map.mp h2;refine⟨y,?_⟩;unfold Li at h;simp only[ixF,h,h1,Option.bind_some]
theorem Li.put(h:Li M c xs)(hp:Inn xs.length p):∃ys,ys.length=xs.length/\xY (.c c) (I p) (I z) M=some (M.set c (cI ys)):=by
 obtain⟨q,rfl⟩:∃q:Nat,p=(q:Nat):=⟨p.toNat,by omega⟩;refine⟨xs.set q z,by rw[S5],?_⟩
 have hn:ixN (xs.map fun i=>I i).length (q:Int)=some q:=by
  unfold ixN;rw[A4 (Int.natCast_nonneg q),A4 (by rw[A1];omega),J2]
 unfold Li at h;simp only[xY,h,hn,Option.bind_some,cI,List.map_set]
theorem Li.push(h:Li M c xs)(hl:xs.length<1000):bY (.c c) [I z] M=some (.d .none,M.set c (cI (xs++[z]))):=by
 have l:(xs.map fun i=>I i).length<sizeLine:=by rw[A1,E6];omega
 unfold Li at h;simp only[bY,h,if_pos l,cI,List.map_append,List.map_singleton]
theorem Li.pop(h:Li M c (xs++[z])):nW (.c c) [] M=some (I z,M.set c (cI xs)):=by
 have e1:((xs++[z]).map fun i=>I i)[((xs++[z]).map fun i=>I i).length-1]?=some (I z):=by
  rw[A1,B0,C4,Nat.add_sub_cancel,C6,C1 (A7 _),F8];rfl
 have e2:((xs++[z]).map fun i=>I i).dropLast=xs.map fun i=>I i:=by
  rw[E3,J1,List.dropLast_concat]
 unfold Li at h;simp only[nW,h,e1,e2,Option.bind_some]
noncomputable def Dk(M:Sto)(c m:Nat):Prop:=∃xs,Li M c xs/\xs.length=m
theorem Dk.app(h:Dk M c m):Dk (M++L) c m:=let⟨xs,a,b⟩:=h;⟨xs,a.app,b⟩
theorem Dk.pop(h:Dk M c (m+1)):∃z M',nW (.c c) [] M=some (I z,M')/\Dk M' c m/\Oth c M M':=by
 obtain⟨xs,a,b⟩:=h;rcases List.eq_nil_or_concat xs with rfl|⟨ys,z,rfl⟩
 .cases b
 .rw[List.concat_eq_append]at a b;rw[B0,C4]at b;exact⟨z,_,a.pop,⟨ys,(a.set).1,by omega⟩,(a.set).2⟩
theorem Dk.ty(h:Dk M c m):tyB "list" M (.c c)=true:=let⟨_,a,_⟩:=h;a.ty
theorem Dk.oth{d:Nat}(h:Dk M c m)(o:Oth d M M')(ne:c≠d):Dk M' c m:=let⟨xs,a,b⟩:=h;⟨xs,a.oth o ne,b⟩
theorem rO(lo:Int)(n:Nat):fN lo (n+1)=I lo::fN (lo+1) n:=by
 unfold fN;rw[List.range_succ_eq_map,B8,S0];refine congr (F4 List.cons ?_) (S1 fun k _=>?_)
 .show CD.d (.int (lo+((0:Nat):Int)))=I lo;rw[show lo+((0:Nat):Int)=lo by omega]
 .show CD.d (.int (lo+((k+1:Nat):Int)))=.d (.int (lo+1+(k:Nat)));rw[show lo+((k+1:Nat):Int)=lo+1+(k:Nat)by omega]
theorem NP(h:i.natAbs<2 ^ 64):iQ i j=true:=by unfold iQ;rw[B7 h];rfl
theorem mul_r(h:j.natAbs<2 ^ 64):iQ i j=true:=by unfold iQ;rw[B7 h,Bool.or_true];rfl
theorem nab(h0:0<=z)(h1:z<b)(hb:b<=2 ^ 62):z.natAbs<2 ^ 64:=by omega
noncomputable abbrev GD(s many:CD)(r d:Nat)(o:Int)(k at_ one:Option CD):Ga:=[some s,some many,some (.c r),some (I o),some (.c d),k,at_,one]
theorem HJ{s many:CD}{r d:Nat}{o k:Int}{ds:List Int}{g6 g7:Option CD}(hr:Li M r xs)(hd:Li M d ds)(ne:r≠d)(x0:0<xs.length)(hl:ds.length<1000)(k0:0<=k)(k1:k<1000):
 ∃xs' ds' g6' g7' M',dU (GD s many r d o (some (I k)) g6 g7) M=some (.nx (GD s many r d o (some (I k)) g6' g7'),M')/\Li M' r xs'/\Li M' d ds'/\xs'.length=xs.length/\ds'.length=ds.length+1:=by
 have ln:=hr.ln;have p1:=J4 k (show(xs.length:Int)≠0 by omega);have p2:=F5 k (show(0:Int)<xs.length by omega);obtain⟨z,ix⟩:=hr.ix (p:=k % xs.length) ⟨p1,p2⟩;have m1:fI k xs.length=true:=cR (by omega);have m2:∀y,fI y 1000000=true:=fun y=>cR (by decide);have m3:∀y,fI y 2147483629=true:=fun y=>cR (by decide);have m4:∀y,fI y 2147483647=true:=fun y=>cR (by decide);have m5:∀y,fI y 4=true:=fun y=>cR (by decide);have dv:∀y,oX y 1000000=true:=fun y=>oP (by decide) (wsm (by decide) (by decide));obtain⟨ys,yl,st⟩:=hr.put (p:=k % xs.length) (z:=z / 1000000) ⟨p1,p2⟩;generalize (xs.length:Int)=J at ln p1 p2 ix m1 st;cases h:(o==0)with
 |true=>
  obtain⟨c,hc,hcm⟩:=qZ (ds:=([.int 48271,.int 69621,.int 39373,.int 40692]:List PyData)) (k:=k) (m:=4) (by decide) rfl
  obtain⟨cv,rfl,hcv⟩:∃v:Int,c=.int v/\v.natAbs<2 ^ 64:=by
   simp only[List.mem_cons,List.not_mem_nil,or_false]at hcm;rcases hcm with rfl|rfl|rfl|rfl<;>exact⟨_,rfl,by decide⟩
  have xk:ixF (.d (.list [.int 48271,.int 69621,.int 39373,.int 40692])) (I (k % 4)) M=some (I cv,M):=by
   show(atI [PyData.int 48271,.int 69621,.int 39373,.int 40692] (k % 4)).bind _=_;rw[hc];rfl
  have q1:iQ k k=true:=NP (nab k0 (b:=1000) k1 (by decide));have q2:iQ (k*k) 16807=true:=mul_r (by decide);have q3:iQ 3 k=true:=NP (by decide);have q4:∀y,iQ y cv=true:=fun y=>mul_r hcv;have a1:∀i j:Int,cH (I i) (I j) M=some (I (i+j),M):=fun i j=>rfl;have q5:∀y,iQ (y % 2147483647) (y % 2147483647)=true:=fun y=>NP (nab (J4 _ (by decide)) (F5 _ (by decide)) (by decide));generalize hv:(z+k*k*16807+3*k) % 2147483629=v1;have pu:=fun y=>hd.push (z:=y) hl;refine⟨xs,ds++[(v1*cv+7) % 2147483647*((v1*cv+7) % 2147483647) % 2147483629],some (I (k % J)),some (I ((v1*cv+7) % 2147483647*((v1*cv+7) % 2147483647) % 2147483629)),_,?_,hr.oth (hd.set).2 ne,(hd.set).1,rfl,by rw[B0,C4]⟩;simp![dU,ln,m1,m2,ix,iM,h,q1,q2,q3,a1,m3,hv,uG,m5,xk,q4,m4,q5,cM,hd.ty,pu]
 |false=>
  have hr':=hr.set (ys:=ys);have hd':=hd.oth hr'.2 (O3 ne);have pu:=hd'.push (z:=z % 1000000) hl;refine⟨ys,ds++[z % 1000000],some (I (k % J)),some (I (z % 1000000)),_,?_,hr'.1.oth (hd'.set).2 ne,(hd'.set).1,yl,by rw[B0,C4]⟩;simp![dU,ln,m1,m2,ix,iM,h,dv,st,cM,hd'.ty,pu]
theorem vM{s many:CD}{r d:Nat}{o:Int}:∀(m:Nat)(k:Int)(M:Sto)(xs ds:List Int)(g5 g6 g7:Option CD),Li M r xs->Li M d ds->r≠d->0<xs.length->0<=k->k+m<500->ds.length+m<500->
 ∃ds' g5' g6' g7' M',eS (hName 5) dU (fN k m) (GD s many r d o g5 g6 g7) M=some (.nx (GD s many r d o g5' g6' g7'),M')/\Li M' d ds'/\ds'.length=ds.length+m
 |0=>fun k M xs ds g5 g6 g7 hr hd ne x0 k0 _ _=>⟨ds,g5,g6,g7,M,rfl,hd,rfl⟩
 |m+1=>fun k M xs ds g5 g6 g7 hr hd ne x0 k0 hk hl=>by
  obtain⟨xs1,ds1,a6,a7,M1,t,h1,h2,h3,h4⟩:=HJ (s:=s) (many:=many) (o:=o) (g6:=g6) (g7:=g7) hr hd ne x0 (by omega) k0 (show k<1000 by omega);obtain⟨ds',b5,b6,b7,M',l,h5,h6⟩:=vM (s:=s) (many:=many) (o:=o) m (k+1) M1 xs1 ds1 (some (I k)) a6 a7 h1 h2 ne (by omega) (by omega) (by omega) (by omega);refine⟨ds',b5,b6,b7,M',?_,h5,by omega⟩;rw[rO,jS (show hName 5 (I k) (GD s many r d o g5 g6 g7) M=some (GD s many r d o (some (I k)) g6 g7,M)from rfl) t];exact l
theorem tW(n:Nat)(M:Sto):∀ns:List Int,lY n M (ns.map fun i=>I i)=some (ns.map .int)
 |[]=>by unfold lY;rfl
 |i::ns=>by
  rw[B8];unfold lY;rw[KN,A2,tW n M ns];rfl
theorem qJ:∀ns:List Int,PyData.canLayAll0 (ns.map .int)=true
 |[]=>rfl
 |n::ns=>by show(true&&PyData.canLayAll0 (ns.map .int))=true;rw[qJ ns];rfl
theorem uC:∀ns:List Int,PyData.depthAll (ns.map .int)=0
 |[]=>rfl
 |n::ns=>by show max 0 (PyData.depthAll (ns.map .int))=0;rw[uC ns];rfl
theorem shaped_ints(ns:List Int):SeqAt.shaped (.list (ns.map .int))=true:=by
 unfold SeqAt.shaped;have e1:PyData.canLay0 (.list (ns.map .int))=true:=qJ ns;have e2:PyData.depth (.list (ns.map .int))=1:=by show PyData.depthAll (ns.map .int)+1=1;rw[uC]
 rw[e1,e2];rfl
theorem RS{ns:List Int}(h:Li M c ns):eqY false (.c c) (.d (.list [])) M=some (B ns.isEmpty,M):=by
 have s1:snap 5 M (.c c)=some (.list (ns.map .int)):=by
  unfold Li at h;unfold snap;rw[h];show(lY 4 M (ns.map fun i=>I i)).bind _=_;rw[tW];rfl
 have s2:snap 5 M (.d (.list []))=some (.list []):=by rw[KN]
 show eqC false (.c c) (.d (.list [])) M=_;unfold eqC;rw[s1,A2,s2,A2,shaped_ints,show SeqAt.shaped (.list [])=true from rfl];cases ns<;>rfl
theorem aAq{x:CD}(sm:cJ J=true):gS (aB (aE 1) aG) (x::some (I J)::γ) M=some (fN 0 J.toNat,M):=by
 simp![gS,sm]
theorem YQ(ns:List Int):∃c M,iS [.d (.list (ns.map .int)),I 110] []=some (.c c,M)/\Dk M c 110:=by
 have s0:(0:Nat)<=sizeLine:=E9 _;have s1:(1:Nat)<=sizeLine:=by decide
 have st:∀(r:Nat)(M:Sto)(xs:List Int),Li M r xs->0<xs.length->∃c M',(aZ (bM (fOp eT (fOp ixF (aE 2) (fC (.int 0))) (fC (.int 2))) (hName 3))
 (aZ (bM (fOp hX (fOp ixF (aE 2) (fC (.int 0))) (fC (.int 2))) (hSub (aE 2) (fC (.int 0)) xY))
 (aZ (bM (kS aG) (hName 4))
 (aZ (jA (gS (aB (aE 1) aG)) (hName 5) dU)
 (aZ (lC (cM "list" iH (aE 4) aG))
 (bU (aE 4))))))) [some (.d (.list (ns.map .int))),some (I 110),some (.c r),none,none,none,none,none] M=some (.rt (.c c),M')/\Dk M' c 110:=by
  intro r M xs hr x0;obtain⟨z,ix⟩:=hr.ix (p:=0) ⟨by decide,by omega⟩;have m2:∀y,fI y 2=true:=fun y=>cR (by decide);have d2:∀y,oX y 2=true:=fun y=>oP (by decide) (wsm (by decide) (by decide));obtain⟨ys,yl,pt⟩:=hr.put (p:=0) (z:=z / 2) ⟨by decide,by omega⟩;have hr1:=(hr.set (ys:=ys)).1;have hr2:=hr1.app (L:=[Cell.lst []]);have ml:(M.set r (cI ys)).length=M.length:=by rw[S5]
  have hd:Li (M.set r (cI ys)++[Cell.lst []]) M.length []:=by
   unfold Li;rw[<- ml,C1 (A7 _),F8];rfl
  have rl:=hr.lt;obtain⟨ds,a5,a6,a7,M',lp,hd',hl⟩:=vM (s:=.d (.list (ns.map .int))) (many:=I 110) (o:=z % 2) 110 0 _ ys [] none none none hr2 hd (by omega) (by omega) (by decide) (by decide) (by decide);have rg:gS (aB (aE 1) aG) (GD (.d (.list (ns.map .int))) (I 110) r M.length (z % 2) none none none) (M.set r (cI ys)++[Cell.lst []])=some (fN 0 110,M.set r (cI ys)++[Cell.lst []]):=aAq (J:=110) (by decide);have sf:=xU rg lp
  have rv:iH (.c M.length) [] M'=some (.d .none,M'.set M.length (cI ds.reverse)):=by
   have:=hd';unfold Li at this;simp only[iH,this];rw[cI,List.map_reverse]
  refine⟨M.length,M'.set M.length (cI ds.reverse),?_,ds.reverse,(hd'.set).1,by rw[L8,hl];rfl⟩
  have a1:bM (fOp eT (fOp ixF (aE 2) (fC (.int 0))) (fC (.int 2))) (hName 3) [some (.d (.list (ns.map .int))),some (I 110),some (.c r),none,none,none,none,none] M=some (.nx [some (.d (.list (ns.map .int))),some (I 110),some (.c r),some (I (z % 2)),none,none,none,none],M):=by
   simp![ix,m2]
  have a2:bM (fOp hX (fOp ixF (aE 2) (fC (.int 0))) (fC (.int 2))) (hSub (aE 2) (fC (.int 0)) xY) [some (.d (.list (ns.map .int))),some (I 110),some (.c r),some (I (z % 2)),none,none,none,none] M=some (.nx [some (.d (.list (ns.map .int))),some (I 110),some (.c r),some (I (z % 2)),none,none,none,none],M.set r (cI ys)):=by
   simp![ix,d2,pt]
  have a3:bM (kS aG) (hName 4) [some (.d (.list (ns.map .int))),some (I 110),some (.c r),some (I (z % 2)),none,none,none,none] (M.set r (cI ys))=some (.nx (GD (.d (.list (ns.map .int))) (I 110) r M.length (z % 2) none none none),M.set r (cI ys)++[Cell.lst []]):=by
   simp![s0,ml]
  rw[dN a1,dN a2,dN a3,dN sf];simp![cM,hd'.ty,rv]
 have l0:wJ [.d (.list (ns.map .int))] []=some (.c 0,[cI ns]):=by
  show some (CD.c 0,[]++[Cell.lst ((ns.map PyData.int).map .d)])=_;rw[S0];rfl
 have h0:Li [cI ns] 0 ns:=rfl;have eq:=RS h0
 have b1:bM (aM wJ (aB (aE 0) aG)) (hName 2) [some (.d (.list (ns.map .int))),some (I 110),none,none,none,none,none,none] []=some (.nx [some (.d (.list (ns.map .int))),some (I 110),some (.c 0),none,none,none,none,none],[cI ns]):=by
  simp![l0]
 cases he:ns.isEmpty with
 |true=>
  rw[he]at eq;obtain⟨c,M',h1,h2⟩:=st 1 ([cI ns]++[cI [4]]) [4] rfl (by decide);refine⟨c,M',AC rfl ?_,h2⟩
  have b2:sIf (gB (fOp (eqY false) (aE 2) (gI aG))) (bM (kS (aB (fC (.int 4)) aG)) (hName 2)) cL [some (.d (.list (ns.map .int))),some (I 110),some (.c 0),none,none,none,none,none] [cI ns]=some (.nx [some (.d (.list (ns.map .int))),some (I 110),some (.c 1),none,none,none,none,none],[cI ns]++[cI [4]]):=by
   simp![s0,s1,eq];rfl
  unfold iT;show aZ _ _ [some (.d (.list (ns.map .int))),some (I 110),none,none,none,none,none,none] []=_;rw[dN b1,dN b2];exact h1
 |false=>
  rw[he]at eq;obtain⟨c,M',h1,h2⟩:=st 0 [cI ns] ns rfl (by cases ns with|nil=>cases he|cons _ _=>simp);refine⟨c,M',AC rfl ?_,h2⟩
  have b2:sIf (gB (fOp (eqY false) (aE 2) (gI aG))) (bM (kS (aB (fC (.int 4)) aG)) (hName 2)) cL [some (.d (.list (ns.map .int))),some (I 110),some (.c 0),none,none,none,none,none] [cI ns]=some (.nx [some (.d (.list (ns.map .int))),some (I 110),some (.c 0),none,none,none,none,none],[cI ns]):=by
   simp![s0,s1,eq]
  unfold iT;show aZ _ _ [some (.d (.list (ns.map .int))),some (I 110),none,none,none,none,none,none] []=_;rw[dN b1,dN b2];exact h1
noncomputable def vN:List PyData:=[(.tuple [(.int 0),(.int 1)]),(.tuple [(.int 1),(.int 1)]),(.tuple [(.int 1),(.int 1)]),(.tuple [(.int 2),(.int 1)]),(.tuple [(.int 1),(.int 2)]),(.tuple [(.int 3),(.int 4)]),(.tuple [(.int 1000000000000000000000000000000),(.int 7)]),(.tuple [(.int 5),(.int 100000000000000000039)])]
theorem KI:∀d∈vN,∃a b,d=.tuple [.int a,.int b]/\Am a b:=by
 intro d hd;unfold vN at hd;simp only[List.mem_cons,List.not_mem_nil,or_false]at hd;rcases hd with rfl|rfl|rfl|rfl|rfl|rfl|rfl|rfl<;>exact⟨_,_,rfl,by decide +kernel,by decide,by decide⟩
theorem LR(k:Int)(M:Sto):∃a b,fZ [I k] M=some (.d (.tuple [.int a,.int b]),M)/\Am a b:=by
 obtain⟨d,h1,h2⟩:=qZ (ds:=vN) (k:=k) (m:=8) (by decide) rfl;obtain⟨a,b,rfl,am⟩:=KI d h2;refine⟨a,b,?_,am⟩;have k0:∀γ,gO γ M=some (.d (.list vN),M):=fun γ=>pA γ M;have mk:fI k 8=true:=cR (by decide)
 have ix:ixF (.d (.list vN)) (I (k % 8)) M=some (.d (.tuple [.int a,.int b]),M):=by
  show(atI vN (k % 8)).bind _=_;rw[h1];rfl
 simp![fZ,jC,k0,mk,ix]
structure Rows(us:List Tie):Prop where
 js:us.map Tie.j=(List.range us.length).map fun q=>((q+1:Nat):Int)
 is:∀t∈us,0<=t.i/\t.i<t.j
 am:∀t∈us,Am t.a t.b
theorem Rows.nil:Rows []:=⟨rfl,(by intro t ht;cases ht),(by intro t ht;cases ht)⟩
theorem Rows.snoc{t:Tie}(h:Rows us)(hj:t.j=((us.length+1:Nat):Int))(hi:0<=t.i/\t.i<t.j)(ha:Am t.a t.b):Rows (us++[t]):=by
 refine⟨?_,fun s hs=>?_,fun s hs=>?_⟩
 .rw[E3,h.js,B0,C4,List.range_succ,E3,J1,J1,hj]
 .rcases List.mem_append.mp hs with hs|hs
  .exact h.is s hs
  .rw[D5]at hs;rw[hs];exact hi
 .rcases List.mem_append.mp hs with hs|hs
  .exact h.am s hs
  .rw[D5]at hs;rw[hs];exact ha
noncomputable abbrev rC(us:List Tie):Cell:=.lst ((us.map rD).map .d)
noncomputable abbrev GW(c:Nat)(n:CD)(r:Nat)(k d:Option CD):Ga:=[some (.c c),some n,some (.c r),k,d]
theorem FO{r:Nat}{n:CD}{k:Int}{g4:Option CD}(hd:Dk M c (m+1))(hr:M[r]?=some (rC us))(ne:r≠c)(k0:0<k)(hl:us.length<500):
 ∃t g4' M',fL (GW c n r (some (I k)) g4) M=some (.nx (GW c n r (some (I k)) g4'),M')/\Dk M' c m/\M'[r]?=some (rC (us++[t]))/\t.j=k/\(0<=t.i/\t.i<t.j)/\Am t.a t.b:=by
 obtain⟨z,M1,po,d1,o1⟩:=hd.pop;obtain⟨a,b,ea,am⟩:=LR (z / 64) M1;have hr1:M1[r]?=some (rC us):=by rw[o1.at_ r ne];exact hr
 have rl:=(List.getElem?_eq_some_iff.mp hr1).1;have p1:=J4 z (show k≠0 by omega);have p2:=F5 z k0;have mk:fI z k=true:=cR k0;have dv:oX z 64=true:=oP (by decide) (wsm (by decide) (by decide));have s3:(3:Nat)<=sizeLine:=by decide
 have ty:tyB "list" M1 (.c r)=true:=by simp only[tyB,hr1];decide
 have l:((us.map rD).map CD.d).length<sizeLine:=by rw[A1,A1,E6];omega
 have pu:bY (.c r) [.d (.tuple [.int (z % k),.int k,.tuple [.int a,.int b]])] M1=some (.d .none,M1.set r (rC (us++[⟨z % k,k,a,b⟩]))):=by
  simp only[bY,hr1,if_pos l,rC,List.map_append,List.map_singleton];rfl
 refine⟨⟨z % k,k,a,b⟩,some (I z),M1.set r (rC (us++[⟨z % k,k,a,b⟩])),?_,?_,by rw[L9 rl],rfl,⟨p1,p2⟩,am⟩
 .simp![fL,cM,hd.ty,po,mk,dv,ea,s3,ty,pu]
 .exact d1.oth (d:=r) ⟨by rw[S5],fun i hi=>by rw[O6 (O3 hi)]⟩ (O3 ne)
theorem wD{c r:Nat}{n:CD}:∀(q m:Nat)(us:List Tie)(M:Sto)(g3 g4:Option CD),Dk M c (q+m)->M[r]?=some (rC us)->r≠c->us.length+q<500->Rows us->
 ∃us' g3' g4' M',eS (hName 3) fL (fN ((us.length+1:Nat):Int) q) (GW c n r g3 g4) M=some (.nx (GW c n r g3' g4'),M')/\Dk M' c m/\M'[r]?=some (rC us')/\us'.length=us.length+q/\Rows us'
 |0=>fun m us M g3 g4 hd hr ne _ hR=>⟨us,g3,g4,M,rfl,by rw[Nat.zero_add]at hd;exact hd,hr,rfl,hR⟩
 |q+1=>fun m us M g3 g4 hd hr ne hl hR=>by
  rw[show q+1+m=q+m+1 by omega]at hd;obtain⟨t,a4,M1,tn,d1,r1,h1,h2,h3⟩:=FO (n:=n) (k:=((us.length+1:Nat):Int)) (g4:=g4) hd hr ne (by omega) (by omega);have R1:=hR.snoc h1 h2 h3;have ln:(us++[t]).length=us.length+1:=by rw[B0,C4]
  obtain⟨us',b3,b4,M',lp,e1,e2,e3,e4⟩:=wD (n:=n) q m (us++[t]) M1 (some (I ((us.length+1:Nat):Int))) a4 d1 r1 ne (by omega) R1;refine⟨us',b3,b4,M',?_,e1,e2,by omega,e4⟩;rw[rO,jS (show hName 3 (I ((us.length+1:Nat):Int)) (GW c n r g3 g4) M=some (GW c n r (some (I ((us.length+1:Nat):Int))) g4,M)from rfl) tn,<- lp,ln];rfl
theorem QK(h:Rows us):(us.map Tie.key).Nodup:=by
 have h1:(us.map Tie.j).Nodup:=by
  rw[h.js,Y0,List.pairwise_map];exact(List.nodup_iff_pairwise_ne.mp List.nodup_range).imp fun a b=>a (by omega)
 rw[Y0,List.pairwise_map]at h1 ⊢;exact h1.imp fun a b=>a (F4 Prod.snd b)
theorem ZC{x:CD}(sm:cJ J=true):vK (aB (fC (.int 1)) (aB (aE 1) aG)) (some x::some (I J)::γ) M=some (fN 1 (J-1).toNat,M):=by
 have s1:cJ 1=true:=by decide
 have h:cJ 1=true/\cJ J=true:=⟨s1,sm⟩;unfold vK;rw[show aB (fC (.int 1)) (aB (aE 1) aG) (some x::some (I J)::γ) M=some ([I 1,I J],M)from rfl,A2];dsimp only;rw[A4 h]
theorem NW(hd:Dk M c (n-1+m))(h0:0<n)(h40:n<=40):∃(us vs:List Tie)(M':Sto),eN [.c c,I n] M=some (.d (.tuple (vs.map rD)),M')/\Dk M' c m/\us.length=n-1/\Rows us/\vs.Perm us/\vs.Pairwise Tie.lt:=by
 have cl:c<M.length:=let⟨_,a,_⟩:=hd;a.lt;have hr:(M++[rC []])[M.length]?=some (rC []):=by rw[C1 (A7 _),F8];rfl
 obtain⟨us,a3,a4,M',lp,d1,r1,hl,hR⟩:=wD (r:=M.length) (n:=I n) (n-1) m [] (M++[rC []]) none none hd.app hr (by omega) (by show 0+(n-1)<500;omega) Rows.nil;have hl:us.length=n-1:=by rw[hl];exact Nat.zero_add _
 obtain⟨vs,hp,hv,so⟩:=GH r1 (by omega)
 have rg:vK (aB (fC (.int 1)) (aB (aE 1) aG)) (GW c (I n) M.length none none) (M++[rC []])=some (fN 1 (n-1),M++[rC []]):=by
  have:=ZC (J:=(n:Int)) (x:=.c c) (γ:=[some (.c M.length),none,none]) (M:=M++[rC []]) (sF (by omega) (by omega));rw[show((n:Int)-1).toNat=n-1 by omega]at this;exact this
 have sf:=xU rg lp;have s0:(0:Nat)<=sizeLine:=E9 _;refine⟨us,vs,M',AC rfl ?_,d1,hl,hR,hp,hv (QK hR)⟩;generalize (n:Int)=J at sf ⊢
 have a1:bM (kS aG) (hName 2) [some (.c c),some (I J),none,none,none] M=some (.nx (GW c (I J) M.length none none),M++[rC []]):=by
  simp![s0];rfl
 have tv:fV [.d (.list (vs.map rD))] M'=some (.d (.tuple (vs.map rD)),M'):=rfl;unfold kP;show aZ _ _ [some (.c c),some (I J),none,none,none] M=_;rw[dN a1,dN sf];simp![so,tv]
theorem RG{t:Tie}(hi:0<=t.i/\t.i<t.j)(hj:t.j<n)(ha:Am t.a t.b):bD n (rD t)=some t.key:=by
 rw[BE (show aR (rD t)=some [.int t.i,.int t.j,.tuple [.int t.a,.int t.b]]from rfl)];unfold DC;show(if (decide (0<=t.i)&&decide (t.i<t.j)&&decide (t.j<(n:Int))&&mW t.a t.b)=true then some (t.i,t.j)else none)=_;rw[B7 hi.1,B7 hi.2,B7 hj,ha.am];rfl
theorem xI{n:Nat}:∀{vs:List Tie},(∀t∈vs,(0<=t.i/\t.i<t.j)/\t.j<n/\Am t.a t.b)->(vs.map rD).mapM (bD n)=some (vs.map Tie.key)
 |[]=>fun _=>rfl
 |t::vs=>fun h=>by
  obtain⟨a,b,c⟩:=h t (B6 ..);rw[B8,O8,RG a b c,xI fun s hs=>h s (B1 _ hs)];rfl
theorem LZ:∀{vs:List Tie},vs.Pairwise Tie.lt->ris (vs.map Tie.key)=true
 |[]=>fun _=>rfl
 |[_]=>fun _=>rfl
 |a::b::r=>fun h=>by
  obtain⟨h1,h2⟩:=List.pairwise_cons.mp h;have ih:=LZ h2;have ab:=h1 b (B6 ..)
  have e:jN a.key b.key=true:=by
   unfold jN Tie.key;unfold Tie.lt at ab;split
   .exact B7 (by dsimp only at *;omega)
   .exact B7 (by dsimp only at *;omega)
  show(jN a.key b.key&&ris ((b::r).map Tie.key))=true;rw[e,ih];rfl
theorem BN{vs:List Tie}(h0:0<n)(hl:us.length=n-1)(hR:Rows us)(hp:vs.Perm us)(hv:vs.Pairwise Tie.lt):cF n (.tuple (vs.map rD))=true:=by
 have jn:∀t∈us,0<t.j/\t.j<n:=fun t ht=>by
  have:t.j∈us.map Tie.j:=List.mem_map.mpr ⟨t,ht,rfl⟩;rw[hR.js]at this;obtain⟨q,hq,e⟩:=List.mem_map.mp this;have:=List.mem_range.mp hq;omega
 have all:∀t∈vs,(0<=t.i/\t.i<t.j)/\t.j<n/\Am t.a t.b:=fun t ht=>by
  have ht:=hp.mem_iff.mp ht;exact⟨hR.is t ht,(jn t ht).2,hR.am t ht⟩
 have vl:(vs.map rD).length+1=n:=by rw[A1,hp.length_eq];omega
 have ok:Oks n (vs.map Tie.key):=oU (xI all);unfold cF;rw[show aR (.tuple (vs.map rD))=some (vs.map rD)from rfl];dsimp only;rw[B7 vl,xI all];dsimp only;rw[LZ hv,E4,E4,vW h0 (by rw[A1,hp.length_eq];omega) ok]
 have go:∀q:Nat,(q:Int)<n->at0 (jV n (vs.map Tie.key)) q=at0 (jV n (vs.map Tie.key)) 0:=by
  intro q
  induction q using Nat.strongRecOn with
  |ind q ih=>
   intro hq;by_cases q0:q=0
   .rw[q0];rfl
   .have:(q:Int)∈us.map Tie.j:=by
     rw[hR.js];exact List.mem_map.mpr ⟨q-1,List.mem_range.mpr (by omega),by omega⟩
    obtain⟨t,ht,e⟩:=List.mem_map.mp this;have ti:=hR.is t ht;have ed:=pC ok (t:=t.key) (List.mem_map.mpr ⟨t,hp.mem_iff.mpr ht,rfl⟩);dsimp only at ed;rw[<- e,<- ed];have:=ih t.i.toNat (by omega) (by omega);rw[show((t.i.toNat:Nat):Int)=t.i by omega]at this;exact this
 intro p hp';have:=go p.toNat (by omega);rw[show((p.toNat:Nat):Int)=p by omega]at this;exact this
noncomputable abbrev GM(s:CD)(c:Nat)(k many tree turn:Option CD):Ga:=[some s,some (.c c),k,many,tree,turn]
theorem DH(h:okX x=true):dpB 6 x=true/\SmT x:=by
 unfold okX at h;rw[B2]at h;exact⟨h.1,YO h.2⟩
theorem FC{s:CD}{k turn:Option CD}{vs:List Tie}(hd:Dk M c (m+1))(h0:0<n)(h40:n<=40)(am:∀t∈vs,Am t.a t.b)(hl:vs.length<=39):
 ∃M',mM (GM s c k (some (I n)) (some (tr vs)) turn) M=some (.nx (GM s c k (some (I n)) (some (tr vs)) turn),M')/\Dk M' c m:=by
 obtain⟨z,M1,po,d1,o1⟩:=hd.pop;obtain⟨d,L1,eb,ox⟩:=ZT (rs:=vs) (k:=z) (n:=(n:Int)) (M:=M1) am hl (by omega) (by omega);obtain⟨dp,sm⟩:=DH ox;obtain⟨L2,er⟩:=DO (n:=n) (x:=d) (M:=M1++L1) h0 h40 dp sm;refine⟨M1++L1++L2,?_,d1.app.app⟩;generalize (n:Int)=J at eb er ⊢;simp![mM,cM,hd.ty,po,eb,er]
theorem vA{s:CD}{c n:Nat}{k:Option CD}{vs:List Tie}(h0:0<n)(h40:n<=40)(am:∀t∈vs,Am t.a t.b)(hl:vs.length<=39):∀(q m:Nat)(lo:Int)(M:Sto)(turn:Option CD),Dk M c (m+q)->
 ∃M' turn',eS (hName 5) mM (fN lo q) (GM s c k (some (I n)) (some (tr vs)) turn) M=some (.nx (GM s c k (some (I n)) (some (tr vs)) turn'),M')/\Dk M' c m
 |0=>fun m lo M turn hd=>⟨M,turn,rfl,hd⟩
 |q+1=>fun m lo M turn hd=>by
  obtain⟨M1,t,d1⟩:=FC (s:=s) (k:=k) (turn:=some (I lo)) (m:=m+q) hd h0 h40 am hl;obtain⟨M',turn',l,d2⟩:=vA (s:=s) (k:=k) h0 h40 am hl q m (lo+1) M1 (some (I lo)) d1;refine⟨M',turn',?_,d2⟩;rw[rO,jS (show hName 5 (I lo) (GM s c k (some (I n)) (some (tr vs)) turn) M=some (GM s c k (some (I n)) (some (tr vs)) (some (I lo)),M)from rfl) t];exact l
theorem aCa(γ:Ga)(M:Sto):gS (aB (fC (.int 4)) aG) γ M=some (fN 0 4,M):=rfl
noncomputable abbrev LN:SF:=(aZ (bM (aM eN (aB (aE 1) (aB (aE 3) aG))) (hName 4))
 (aZ (sIf (gOr (fB (gB (aM bC (aB (aE 3) (aB (aE 4) aG))))) (fB (gB (aM dQ (aB (aE 3) (aB (aE 4) aG))))))
  (bU (fC (.bool false)))
  cL)
 (jA (gS (aB (fC (.int 4)) aG)) (hName 5) mM)))
theorem HM{s k x:CD}{g4 g5 t5:Option CD}{M1 M2 M':Sto}(e1:eN [.c c,I J] M=some (x,M1))(lw:bC [I J,x] M1=some (B true,M1))(er:dQ [I J,x] M1=some (B true,M2))
 (lp:eS (hName 5) mM (fN 0 4) (GM s c (some k) (some (I J)) (some x) g5) M2=some (.nx (GM s c (some k) (some (I J)) (some x) t5),M')):
 LN (GM s c (some k) (some (I J)) g4 g5) M=some (.nx (GM s c (some k) (some (I J)) (some x) t5),M'):=by
 have a1:bM (aM eN (aB (aE 1) (aB (aE 3) aG))) (hName 4) (GM s c (some k) (some (I J)) g4 g5) M=some (.nx (GM s c (some k) (some (I J)) (some x) g5),M1):=by
  simp![e1]
 have a2:sIf (gOr (fB (gB (aM bC (aB (aE 3) (aB (aE 4) aG))))) (fB (gB (aM dQ (aB (aE 3) (aB (aE 4) aG)))))) (bU (fC (.bool false))) cL (GM s c (some k) (some (I J)) (some x) g5) M1=some (.nx (GM s c (some k) (some (I J)) (some x) g5),M2):=by
  simp![lw,er]
 unfold LN;rw[dN a1,dN a2];exact xU (aCa _ _) lp
theorem vH{s:CD}{k:CD}{g4 g5:Option CD}(h0:0<n)(h40:n<=40)(hd:Dk M c (n-1+(m+4))):
 ∃M' g4' g5',LN (GM s c (some k) (some (I n)) g4 g5) M=some (.nx (GM s c (some k) (some (I n)) g4' g5'),M')/\Dk M' c m:=by
 obtain⟨us,vs,M1,e1,d1,ul,hR,hp,hv⟩:=NW hd h0 h40;have tb:=BN h0 ul hR hp hv;have am:∀t∈vs,Am t.a t.b:=fun t ht=>hR.am t (hp.mem_iff.mp ht);have vl:vs.length<=39:=by rw[hp.length_eq];omega
 have ox:okX (.tuple (vs.map rD))=true:=mQ (fun x hx=>by
  obtain⟨t,ht,rfl⟩:=List.mem_map.mp hx;exact(am t ht).ok) (by rw[A1];omega)
 obtain⟨dp,sm⟩:=DH ox;have lw:=nJ h0 h40 (.tuple (vs.map rD)) M1 sm;rw[tb]at lw;obtain⟨L,er⟩:=DO (M:=M1) h0 h40 dp sm;obtain⟨M',t5,lp,d2⟩:=vA (s:=s) (k:=some k) h0 h40 am vl 4 m 0 (M1++L) g5 d1.app;refine⟨M',some (tr vs),t5,?_,d2⟩;exact HM e1 lw er lp
theorem tZ{s:CD}{cost:Nat}{k:Int}{g3 g4 g5:Option CD}(hk:cost=if k=2 then 44 else 13)(hd:Dk M c (m+cost)):
 ∃m' M' g3' g4' g5',oJ (GM s c (some (I k)) g3 g4 g5) M=some (.nx (GM s c (some (I k)) g3' g4' g5'),M')/\Dk M' c m'/\m<=m':=by
 have c1:∃q,m+cost=q+1:=⟨m+cost-1,by split at hk<;>omega⟩;obtain⟨q,hq⟩:=c1;rw[hq]at hd;obtain⟨z,M1,po,d1,o1⟩:=hd.pop;have mk:fI z 9=true:=cR (by decide);have s2:(2:Nat)<=sizeLine:=by decide
 have ad:cH (I 1) (I (z % 9)) M1=some (I (1+z % 9),M1):=rfl;have z0:=J4 z (show(9:Int)≠0 by decide);have z9:=F5 z (show(0:Int)<9 by decide);by_cases h2:k=2
 .rw[A4 h2]at hk;have e2:(k==2)=true:=beq_iff_eq.mpr h2;have ii:qX [.d (.bool true)] M1=some (I 1,M1):=rfl;have x1:∀a b:PyData,ixF (.d (.list [a,b])) (I 1) M1=some (.d b,M1):=fun a b=>rfl;obtain⟨M',g4',g5',h,d2⟩:=vH (s:=s) (c:=c) (n:=40) (m:=m) (k:=I k) (g4:=g4) (g5:=g5) (M:=M1) (by decide) (by decide) (by rw[show 40-1+(m+4)=q by omega];exact d1);refine⟨m,M',some (I 40),g4',g5',?_,d2,A7 _⟩
  have a1:bM (fOp ixF (gI (aB (fOp cH (fC (.int 1)) (fOp eT (cM "list" nW (aE 1) aG) (fC (.int 9)))) (aB (fC (.int 40)) aG))) (aM qX (aB (fOp (eqX false) (aE 2) (fC (.int 2))) aG))) (hName 3) (GM s c (some (I k)) g3 g4 g5) M=some (.nx (GM s c (some (I k)) (some (I 40)) g4 g5),M1):=by
   simp![cM,hd.ty,po,mk,ad,s2,iM,e2,ii,x1]
  unfold oJ;rw[dN a1];exact h
 .rw[A6 h2]at hk;have e2:(k==2)=false:=beq_eq_false_iff_ne.mpr h2;have ii:qX [.d (.bool false)] M1=some (I 0,M1):=rfl;have x1:∀a b:PyData,ixF (.d (.list [a,b])) (I 0) M1=some (.d a,M1):=fun a b=>rfl;obtain⟨n,n0,n9,en⟩:∃n:Nat,0<n/\n<=9/\1+z % 9=(n:Nat):=⟨(1+z % 9).toNat,by omega,by omega,by omega⟩;obtain⟨M',g4',g5',h,d2⟩:=vH (s:=s) (c:=c) (n:=n) (m:=q-(n-1)-4) (k:=I k) (g4:=g4) (g5:=g5) (M:=M1) n0 (by omega) (by rw[show n-1+(q-(n-1)-4+4)=q by omega];exact d1);refine⟨q-(n-1)-4,M',some (I n),g4',g5',?_,d2,by omega⟩;rw[<- en]at h ⊢
  have a1:bM (fOp ixF (gI (aB (fOp cH (fC (.int 1)) (fOp eT (cM "list" nW (aE 1) aG) (fC (.int 9)))) (aB (fC (.int 40)) aG))) (aM qX (aB (fOp (eqX false) (aE 2) (fC (.int 2))) aG))) (hName 3) (GM s c (some (I k)) g3 g4 g5) M=some (.nx (GM s c (some (I k)) (some (I (1+z % 9))) g4 g5),M1):=by
   simp![cM,hd.ty,po,mk,ad,s2,iM,e2,ii,x1]
  unfold oJ;rw[dN a1];exact h
theorem main(ns:List Int)(hl:ns.length<=63):∃M',F_law [.d (.list (ns.map .int))] []=some (.d (.bool true),M'):=by
 obtain⟨c,M0,e0,d0⟩:=YQ ns;obtain⟨L1,t1⟩:∃L,bL [I 1,.d (.tuple [])] M0=some (B true,M0++L):=pW (n:=1) (by decide) (by decide) (.tuple []) M0;obtain⟨L2,t2⟩:∃L,bL [I 2,.d (.tuple [])] (M0++L1)=some (B false,M0++L1++L):=pW (n:=2) (by decide) (by decide) (.tuple []) (M0++L1);have s0:(0:Nat)<=sizeLine:=E9 _;let s:CD:=.d (.list (ns.map .int));obtain⟨m1,M1,a3,a4,a5,u1,f1,l1⟩:=tZ (s:=s) (k:=0) (m:=97) (g3:=none) (g4:=none) (g5:=none) rfl (show Dk (M0++L1++L2) c (97+13)from d0.app.app);obtain⟨q1,hq1⟩:∃q,m1=q+13/\84<=q:=⟨m1-13,by omega,by omega⟩;rw[hq1.1]at f1;obtain⟨m2,M2,b3,b4,b5,u2,f2,l2⟩:=tZ (s:=s) (k:=1) (m:=q1) (g3:=a3) (g4:=a4) (g5:=a5) rfl f1;obtain⟨q2,hq2⟩:∃q,m2=q+44:=⟨m2-44,by omega⟩;rw[hq2]at f2;obtain⟨m3,M3,c3,c4,c5,u3,f3,l3⟩:=tZ (s:=s) (k:=2) (m:=q2) (g3:=b3) (g4:=b4) (g5:=b5) rfl f2;refine⟨M3,AC rfl ?_⟩
 have a1:bM (aM iS (aB (aE 0) (aB (fC (.int 110)) aG))) (hName 1) [some s,none,none,none,none,none] []=some (.nx (GM s c none none none none),M0):=by
  simp![s,e0]
 have a2:sIf (gOr (fB (gB (aM bL (aB (fC (.int 1)) (aB (bE aG) aG))))) (gB (aM bL (aB (fC (.int 2)) (aB (bE aG) aG))))) (bU (fC (.bool false))) cL (GM s c none none none none) M0=some (.nx (GM s c none none none none),M0++L1++L2):=by
  simp![s0,t1,t2]
 have lp:eS (hName 2) oJ [I 0,I 1,I 2] (GM s c none none none none) (M0++L1++L2)=some (.nx (GM s c (some (I 2)) c3 c4 c5),M3):=by
  rw[jS (show hName 2 (I 0) (GM s c none none none none) _=some (GM s c (some (I 0)) none none none,M0++L1++L2)from rfl) u1];rw[jS (show hName 2 (I 1) (GM s c (some (I 0)) a3 a4 a5) _=some (GM s c (some (I 1)) a3 a4 a5,M1)from rfl) u2];rw[jS (show hName 2 (I 2) (GM s c (some (I 1)) b3 b4 b5) _=some (GM s c (some (I 2)) b3 b4 b5,M2)from rfl) u3];rfl
 have rg:gS (aB (fC (.int 3)) aG) (GM s c none none none none) (M0++L1++L2)=some ([I 0,I 1,I 2],M0++L1++L2):=rfl;have sf:=xU rg lp;unfold LW;show aZ _ _ [some s,none,none,none,none,none] []=_;rw[dN a1,dN a2,dN sf];rfl
end Q22
end
end
open PySem PySem.W PyProof.Rows
set_option maxRecDepth 100000 in
set_option maxHeartbeats 0 in
theorem PySem.Challenge.cw_cutstree_k22_trees_told_holds : PySem.Challenge.rw_cutstree_k22_trees_told.Holds := by
 refine Q22.k_top ?_
 k_fill
 refine L2.law_walk (l:=PySem.Challenge.rw_cutstree_k22_trees_told) (F:=Q22.F_law) (k:=9) (p:="_law_script") (by decide +kernel) rfl rfl ⟨fun _=>rfl,by decide,by decide,rfl⟩ (fun w h Y=>PySem.W.kIn_of Y) ?T Q22.main
 case T=>
  intro w mg h KX G;refine Q22.fn_law (K:=_) (mg:=mg) ?TT
  refine' Q22.txt_mk KX G ?v0 ?v1 ?v2 ?v3 ?v4 ?v5 ?v6 ?v7 ?v8 ?v9 ?v10 ?v11 ?v12 ?v13 ?v14 ?v15 ?v16 ?v17 ?v18 ?v19 ?v20 ?v21 ?v22 ?v23 ?v24 ?v25 ?v26 ?v27 ?v28 ?v29 ?v30 ?v31 ?v32 ?v33 ?v34 ?v35 ?v36 ?v37
  (case v0|v1|v2|v3|v4|v5|v6|v7|v8|v9|v10|v11=>k_is)
  (case v12|v13|v14|v15|v16|v17|v18|v19|v20|v21|v22|v23|v24|v25|v26|v27|v28|v29|v30|v31|v32|v33|v34|v35|v36|v37=>exact L2.def_mk KX G (by k_is) (by k_is) (by k_is) (by k_is))