import PyProof.Rows.All
import OpenK.KLine
import OpenK.KWalk
import OpenK.KMore
import OpenK.KOwn
import OpenK.KRaise
import KE.KSortTup
import PyProof.EqAt
import PyProof.EqKinds
import PyProof.TupleCall
import KE.KIsAll
import PyProof.ExcArgsOwn
import PyProof.NsDelKeeps
import KE.KTryMore
import PyProof.InstStoreFacts
import PyProof.ExcInit
import PyProof.ExcClass2
import PyProof.Rows.ListMul
import PyProof.Draws
import PyProof.EnumMake
import PyProof.Rows.EnumRows
import KE.KItemsList
import PyProof.DictCompW
import PyProof.ListRange
import PyProof.ZipIter
import PyProof.AttrMissHeap
import KE.KDictOf
import KE.KUnpack
import PyProof.SetKind
import PyProof.Rows.SetFrom
import KE.KIntText
import KE.KMinKey
import KE.KLam
import PySem.Challenge.RW_cutstree_k43_charts_told
set_option Elab.async false
section
set_option maxRecDepth 100000
set_option maxHeartbeats 0
namespace Q43
open PySem
noncomputable def qv:Program:={ PySem.Challenge.rw_cutstree_k43_charts_told.prog with main:={ PySem.Challenge.rw_cutstree_k43_charts_told.prog.main with body:=(((PySem.Challenge.rw_cutstree_k43_charts_told.prog.main.body.eraseIdx 17).eraseIdx 7).eraseIdx 0) } }
end Q43
open PySem PySem.W PyProof.Rows
local macro_rules | `(tactic| o_head $H) => `(tactic| (
 refine holds_open (r:=PySem.Challenge.rw_cutstree_k43_charts_told.row) (q:=Q43.qv) (loose:=[]) (Xt:=fun s=>xlAt Q43.qv [] s&&recOk (RowW.records (OpenRow.toRowW PySem.Challenge.rw_cutstree_k43_charts_told.row)) s) (XP:=XL Q43.qv []) (Yf:=Hook.obs $H) (Ya:=Hook.val $H) (YP:=Hook.says $H) (N:=6100) ?hl (Hook.of $H) (Hook.keeps $H) (fun s e=>xl_of s (Bool.and_eq_true_iff.mp e).1) XL.keeps (by rfl) (by rfl) (by rfl) (fun s e=>recFacts_of (Bool.and_eq_true_iff.mp e).2) (by rfl) (by first|assumption|decide +kernel) (by decide +kernel) ⟨rfl,rfl,rfl,rfl,rfl,by decide +kernel⟩ ?hw ?hc
 (case hl=>intro w;kernel_rfl)))
open_top Q43.k_top for PySem.Challenge.rw_cutstree_k43_charts_told
end
section
set_option linter.all false
set_option maxRecDepth 100000
set_option maxHeartbeats 4000000
noncomputable abbrev Fg:=PySem.W.Frag
noncomputable section
abbrev A0:=@List.length_map
abbrev A1:=@PySem.Heap.get?_push_of_some
abbrev A2:=@PySem.wpAny_bind
abbrev A3:=@Option.bind_some
abbrev A4:=@if_pos
abbrev A6:=@List.getD_eq_getElem?_getD
abbrev A7:=@List.length_append
abbrev A8:=@List.getElem?_eq_getElem
abbrev A9:=@Bool.false_ne_true
abbrev B0:=@if_neg
abbrev B1:=@List.mem_cons_of_mem
abbrev B2:=@List.mem_cons_self
abbrev B3:=@Nat.le_refl
abbrev B4:=@PySem.wpAny_pure
abbrev B5:=@Bool.and_eq_true
abbrev B6:=@List.map_cons
abbrev B7:=@PySem.Heap.lt_size
abbrev B8:=@List.length_singleton
abbrev B9:=@PySem.Heap.get?_push_size
abbrev C4:=@List.getElem?_map
abbrev C5:=@decide_eq_true
abbrev C6:=@List.size_toArray
abbrev C7:=@Nat.lt_of_lt_of_le
abbrev C8:=@List.map_map
abbrev C9:=@Nat.ne_of_lt
abbrev D4:=@congrArg
abbrev D5:=@Option.some.inj
abbrev D6:=@List.getElem?_set_ne
abbrev D7:=@of_decide_eq_true
abbrev D8:=@Classical.byContradiction
abbrev D9:=@decide_eq_true_eq
abbrev E1:=@decide_eq_false
abbrev E2:=@List.mem_append_right
abbrev E3:=@List.getElem?_append_left
abbrev E4:=@Int.toNat_natCast
abbrev E5:=@List.getElem?_append_right
abbrev E6:=@List.getElem?_set_self
abbrev E7:=@List.append_nil
abbrev E8:=@Classical.em
abbrev E9:=@List.length_range
abbrev F0:=@List.lookup_cons
abbrev F4:=@PySem.W.mg_none_of
abbrev F5:=@PySem.PassesOwn.never
abbrev F6:=@List.length_take
abbrev F7:=@List.append_assoc
abbrev F8:=@Array.getD_eq_getD_getElem?
abbrev F9:=@Nat.zero_le
abbrev I0:=@Nat.lt_irrefl
abbrev J0:=@List.map_append
abbrev J1:=@PySem.boot_len
abbrev J2:=@PyProof.Rows.callWith_type1
abbrev J3:=@PySem.wpAny_newObj_type
abbrev J4:=@Nat.le_trans
abbrev J5:=@List.length_cons
abbrev J6:=@List.mem_append_left
abbrev J7:=@List.length_drop
abbrev J8:=@PySem.mem_of_lookup
abbrev J9:=@PySem.sizeLine_eq
abbrev L0:=@PySem.wpAny_field
abbrev L5:=@PySem.Heap.get?_update_ne
abbrev L7:=@PyProof.Rows.slot_tuple_getitem
abbrev L9:=@Bool.eq_iff_iff
abbrev O0:=@List.cons.injEq
abbrev O6:=@PySem.wpAny_call_entry
abbrev O7:=@of_decide_eq_false
abbrev O8:=@Int.emod_lt_of_pos
abbrev O9:=@PySem.wpAny_callSpecial?_slot
abbrev S0:=@List.length_reverse
abbrev S3:=@List.length_set
abbrev S5:=@PySem.wpAny_holding
abbrev S6:=@PySem.wpAny_truthy_bool
abbrev S7:=@PySem.SeqAt.canLay_of_shaped
abbrev S8:=@List.length_filter_le
abbrev S9:=@List.getElem_mem
abbrev U0:=@List.reverse_cons
abbrev U1:=@PyProof.Rows.get?_update_seq
abbrev U2:=@Int.emod_nonneg
abbrev U3:=@List.length_replicate
abbrev U4:=@PyProof.Rows.boot_tuple
abbrev U5:=@List.mem_of_mem_take
abbrev U6:=@List.filterMap_cons
abbrev U7:=@PySem.wpAny_loadPart'
abbrev U8:=@List.all_eq_true
abbrev U9:=@List.Nodup.length_le_of_subset
abbrev Y0:=@List.filter_cons_of_neg
abbrev Y1:=@List.filter_cons_of_pos
abbrev Y2:=@List.pairwise_singleton
abbrev Y3:=@beq_iff_eq
abbrev Y4:=@PySem.wpAny_seqItems
abbrev Y5:=@Array.getElem?_toList
abbrev Y6:=@List.getElem?_eq_none
abbrev Y7:=@Bool.not_eq_true'
abbrev Y8:=@Classical.not_not
abbrev Y9:=@PySem.wpAny_Call_Name_kw
abbrev Z0:=@PySem.wpAny_pyIter_tuple
abbrev Z1:=@PySem.wpAny_setField_rec
abbrev Z2:=@Nat.sub_self
abbrev Z3:=@Array.length_toList
abbrev Z4:=@List.getElem?_range
abbrev Z5:=@List.map_congr_left
abbrev Z6:=@beq_eq_false_iff_ne
abbrev Z7:=@PySem.wpAny_mono
abbrev Z8:=@PySem.F.slot_tuple_iterator_next
abbrev Z9:=@Ne.symm
abbrev A0a:=@List.zip_cons_cons
abbrev A0b:=@PySem.Calls.call_function_entry
abbrev A0c:=@Nat.le_of_lt
abbrev A0d:=@List.ext_getElem?
abbrev A0e:=@PySem.F.slot_tuple_lt
abbrev A0f:=@List.getElem?_toArray
abbrev A0g:=@PySem.F.slot_zip_next
abbrev A0h:=@List.any_eq_true
abbrev A0i:=@List.all_cons
abbrev A0j:=@Bool.true_and
abbrev A0k:=@PySem.Heap.size_push
abbrev A0l:=@Bool.or_eq_false_iff
abbrev A0m:=@List.mem_of_mem_drop
abbrev A0n:=@PyProof.Rows.ints_map
abbrev A0o:=@List.length_nil
abbrev A0p:=@Nat.ne_of_gt
abbrev A0q:=@PyProof.Rows.boot_sorted
abbrev A0r:=@PySem.PyData.eqvAll.eq_def
abbrev A0s:=@Int.natCast_nonneg
abbrev A0t:=@List.perm_ext_iff_of_nodup
abbrev A0u:=@PySem.wpAny_passesOwn
abbrev A0v:=@PySem.wpAny_typeOf
abbrev A0w:=@PyProof.Rows.boot_list
namespace L2
variable{H:Hp}{s:Shared}{σ:St}{K:Fg}{A:Around}{pos:Pos}
open PySem PySem.Spec PyProof.Rows
noncomputable abbrev Key:=Sum Int Str
noncomputable def VQ:Key->Value->Bool
 |.inl k,v=>Value.isInt k v
 |.inr x,v=>Value.isStrOf x v
noncomputable def aGe(w:World):Key->Int
 |.inl k=>hashInt k
 |.inr x=>hashStr w x
theorem dN:∀{k:Key}{v:Value},VQ k v=true->(∃i t,k=Sum.inl i/\v=Value.int i t)\/(∃x t,k=Sum.inr x/\v=Value.str x t)
 |.inl i,v=>fun h=>by
  obtain⟨t,e⟩:=Value.isInt_shape (k:=i) (v:=v) h;exact .inl ⟨i,t,rfl,e⟩
 |.inr x,v=>fun h=>by
  obtain⟨t,e⟩:=Value.isStrOf_shape (x:=x) (v:=v) h;exact .inr ⟨x,t,rfl,e⟩
theorem aCm(a b:Int):decide ((Sum.inl a:Key)=Sum.inl b)=(a==b):=by
 by_cases e:a=b
 .subst e;simp
 .have h:¬(Sum.inl a:Key)=Sum.inl b:=fun q=>e (Sum.inl.inj q);rw[E1 h];exact(beq_eq_false_iff_ne.mpr e).symm
theorem aEo(a b:Str):decide ((Sum.inr a:Key)=Sum.inr b)=decide (a=b):=by
 by_cases e:a=b
 .subst e;simp
 .have h:¬(Sum.inr a:Key)=Sum.inr b:=fun q=>e (Sum.inr.inj q);rw[E1 h,E1 e]
theorem aDI(a:Int)(b:Str):decide ((Sum.inl a:Key)=Sum.inr b)=false:=E1 (fun q=>nomatch q)
theorem aDk(a:Str)(b:Int):decide ((Sum.inr a:Key)=Sum.inl b)=false:=E1 (fun q=>nomatch q)
noncomputable def uD(prog:Program)(w:World):PySem.KeyKind prog w Key where
 is:=VQ
 hash:=aGe w
 inj:=fun v a b ha hb=>by
  rcases dN ha with⟨i,t,rfl,rfl⟩|⟨x,t,rfl,rfl⟩
  .rcases dN hb with⟨j,u,rfl,e⟩|⟨y,u,rfl,e⟩
   .injection e with e1 _;rw[e1]
   .exact nomatch e
  .rcases dN hb with⟨j,u,rfl,e⟩|⟨y,u,rfl,e⟩
   .exact nomatch e
   .injection e with e1 _;rw[e1]
 byValue:=fun k v h=>by
  rcases dN h with⟨i,t,rfl,rfl⟩|⟨x,t,rfl,rfl⟩<;>rfl
 pyHash:=fun hv h=>by
  rcases dN hv with⟨i,t,rfl,rfl⟩|⟨x,t,rfl,rfl⟩
  .exact wpAny_pyHash_int h
  .exact wpAny_pyHash_str h
 eqBool:=fun hu hv h=>by
  rcases dN hu with⟨i,t,rfl,rfl⟩|⟨x,t,rfl,rfl⟩
  .rcases dN hv with⟨j,u,rfl,rfl⟩|⟨y,u,rfl,rfl⟩
   .rw[aCm]at h;exact wpAny_eqBool_int h
   .rw[aDI]at h;exact SeqAt.EqAt.int_str i t y u _ _ _ _ h
  .rcases dN hv with⟨j,u,rfl,rfl⟩|⟨y,u,rfl,rfl⟩
   .rw[aDk]at h;exact SeqAt.EqAt.str_int x t j u _ _ _ _ h
   .rw[aEo]at h;exact wpAny_eqBool_str h
 «strs»:=fun k x t v h=>by
  rcases dN h with⟨i,u,rfl,e⟩|⟨y,u,rfl,e⟩
  .exact nomatch e
  .injection e with e1 _
   subst e1;cases v<;>rfl
inductive V where
 |non|bl (b:Bool)|int (i:Int)|str (x:Str)|byt (b:Array UInt8)|flt (b:UInt64)|ref (a:Addr)|ty (n:String)
 deriving DecidableEq
noncomputable def RelV:V->Value->Prop
 |.non,u=>u=Value.none
 |.bl b,u=>u=Value.bool b
 |.int i,u=>∃t,u=Value.int i t
 |.str x,u=>∃t,u=Value.str x t
 |.byt b,u=>∃t,u=Value.bytes b t
 |.flt b,u=>∃t,u=Value.float b t
 |.ref a,u=>u=Value.ref a
 |.ty n,u=>u=Value.type n
noncomputable abbrev bQ:List V->List Value->Prop:=Paired RelV
theorem bQ.length{xs:List V}{us:List Value}(r:bQ xs us):xs.length=us.length:=Paired.length r
theorem bQ.get:∀{xs:List V}{us:List Value}{i:Nat}{x:V},bQ xs us->xs[i]?=some x->∃u,us[i]?=some u/\RelV x u
 |_,_,_,_,.nil=>fun e=>by simp at e
 |_,_,0,_,.cons r _=>fun e=>by simp at e;subst e;exact⟨_,rfl,r⟩
 |_,_,i+1,x,.cons _ t=>fun e=>by
  obtain⟨u,h1,h2⟩:=bQ.get (i:=i) (x:=x) t (by simpa using e);exact⟨u,by simpa using h1,h2⟩
theorem bQ.set{x:V}{u:Value}(r:RelV x u):∀{xs:List V}{us:List Value}(i:Nat),bQ xs us->bQ (xs.set i x) (us.set i u)
 |_,_,_,.nil=>.nil
 |_,_,0,.cons _ t=>.cons r t
 |_,_,i+1,.cons q t=>.cons q (bQ.set r i t)
theorem bQ.append:∀{xs ys:List V}{us ws:List Value},bQ xs us->bQ ys ws->bQ (xs++ys) (us++ws)
 |_,_,_,_,.nil=>fun s=>s
 |_,_,_,_,.cons r t=>fun s=>.cons r (bQ.append t s)
theorem bQ.take:∀{xs:List V}{us:List Value}(n:Nat),bQ xs us->bQ (xs.take n) (us.take n)
 |_,_,0,_=>.nil
 |_,_,_+1,.nil=>.nil
 |_,_,n+1,.cons r t=>.cons r (bQ.take n t)
theorem bQ.drop:∀{xs:List V}{us:List Value}(n:Nat),bQ xs us->bQ (xs.drop n) (us.drop n)
 |_,_,0,r=>r
 |_,_,_+1,.nil=>.nil
 |_,_,n+1,.cons _ t=>bQ.drop n t
noncomputable def aFl:Option V->Option Value->Prop
 |some v,some u=>RelV v u
 |none,none=>True
 |_,_=>False
noncomputable def KV{κ:Type}:List (κ×V)->List (κ×Value)->Prop:=Paired fun(p:κ×V)(q:κ×Value)=>p.1=q.1/\RelV p.2 q.2
noncomputable def kV:Key->V
 |.inl i=>.int i
 |.inr x=>.str x
inductive HO where
 |lst (xs:List V)
 |tup (xs:List V)
 |dK (kvs:List (Key×V))|dT (kvs:List (List Key×V))
 |set (S:Int->Bool) (n:Nat)
 |ins (C dx:Addr) (fs:List (Str×V))
 |own (x:Addr)
 |xd (fs:List (Str×V))
 |met (f x:Addr)
 |rng (lo hi:Int)
 |frz (o:Obj) (u:HO)
 |tbl (ps:Array Value)
 |ext (φ:Heap->Prop)
noncomputable abbrev Hp:=Addr->Option HO
noncomputable def upd(H:Hp)(a:Addr)(o:HO):Hp:=fun b=>if b=a then some o else H b
theorem bA{a:Addr}{o:HO}:upd H a o a=some o:=by unfold upd;rw[A4 rfl]
theorem bB{a b:Addr}{o:HO}(h:b≠a):upd H a o b=H b:=by unfold upd;rw[B0 h]
theorem bF{a b:Addr}{o:HO}(h:H a=some o)(h':H b=none):a≠b:=by
 intro e;subst e;rw[h]at h';cases h'
section
variable(P:Program)(w:World)
noncomputable def gY(H:Hp)(h:Heap)(a:Addr):HO->Prop
 |.lst xs=>xs.length<=sizeLine/\∃(its:List Value)(n:Nat),bQ xs its/\h.get? a=some { cls:=.type "list",data:=.seq its.toArray n }
 |.tup xs=>xs.length<=sizeLine/\∃its:List Value,bQ xs its/\IsTup h a its.toArray
 |.dK kvs=>kvs.length<=sizeLine/\(a==sysModules)=false/\∃vs,KV kvs vs/\h.DictOf (uD P w) a vs
 |.dT kvs=>kvs.length<=sizeLine/\(a==sysModules)=false/\∃xs:List (List Key×Addr×Value),
  Paired (fun(p:List Key×V)(q:List Key×Addr×Value)=>p.1=q.1/\H q.2.1=some (.tup (p.1.map kV))/\RelV p.2 q.2.2) kvs xs /\
  ∃o es ep,h.get? a=some o/\o.ExactDict/\o.data=.dict es ep/\es.toList=xs.map (entryOfKey (tupleKind (uD P w)))/\(xs.map (·.1)).Nodup
 |.set S n=>h.SetOf (intKind P w) a S n
 |.ins C dx fs=>H dx=some (.own a)/\fs.length<=1000/\dx≠a/\h.get? a=some (PySem.W.instObj C dx) /\
  ∃mA,h.Ns1 dx mA/\(∀f,aFl (fs.lookup f) (mA f))/\PySem.Within mA (fs.map (·.1))
 |.own _=>∃o,h.get? a=some o
 |.xd fs=>∃mA,h.Ns1 a mA/\∀f,aFl (fs.lookup f) (mA f)
 |.rng lo hi=>∃t u v,h.get? a=some { cls:=.type "range",data:=.fields #[.int lo t,.int hi u,.int 1 v] }
 |.frz o u=>h.get? a=some o/\gY H h a u
 |.tbl ps=>h.get? a=some { cls:=.none,data:=.fields ps }
 |.met f x=>h.get? a=some (PySem.W.methodObj (.ref f) (.ref x))
 |.ext φ=>φ h/\(∃o,h.get? a=some o)/\∀h1 h2:Heap,φ h1->(∀o,h1.get? a=some o->h2.get? a=some o)->φ h2
noncomputable def HOk(H:Hp)(h:Heap):Prop:=∀a o,H a=some o->gY P w H h a o
end
section
variable{P:Program}{w:World}{H H':Hp}{h h':Heap}{a:Addr}{o:HO}
theorem gY.lt(x:gY P w H h a o):a<h.objs.size:=by
 cases o with
 |lst xs=>obtain⟨_,_,_,_,e⟩:=x;exact B7 e
 |tup xs=>obtain⟨_,_,_,p⟩:=x;exact p.lt
 |dK kvs=>obtain⟨_,_,_,_,o,_,_,e,_⟩:=x;exact B7 e
 |dT kvs=>obtain⟨_,_,_,_,o,_,_,e,_⟩:=x;exact B7 e
 |set S n=>obtain⟨o,_,_,_,e,_⟩:=x;exact B7 e
 |ins C dx fs=>obtain⟨_,_,_,e,_⟩:=x;exact B7 e
 |own y=>obtain⟨_,e⟩:=x;exact B7 e
 |xd fs=>obtain⟨_,⟨_,_,_,e,_⟩,_⟩:=x;exact B7 e
 |rng lo hi=>obtain⟨_,_,_,e⟩:=x;exact B7 e
 |frz ob u=>obtain⟨e,_⟩:=x;exact B7 e
 |tbl ps=>exact B7 (show h.get? a=some _ from x)
 |met f y=>exact B7 (show h.get? a=some _ from x)
 |ext φ=>obtain⟨_,⟨_,e⟩,_⟩:=x;exact B7 e
theorem Paired.mapP{α β:Type}{F G:α->β->Prop}:∀{l₁:List α}{l₂:List β},Paired F l₁ l₂->(∀a b,F a b->G a b)->Paired G l₁ l₂
 |_,_,.nil=>fun _=>.nil
 |_,_,.cons r t=>fun f=>.cons (f _ _ r) (Paired.mapP t f)
theorem gY.stay(x:gY P w H h a o)(k:∀b u,(b=a\/H b=some (.own a))->h.get? b=some u->h'.get? b=some u)
 (ho:∀b,H b=some (.own a)->H' b=some (.own a)) (ht:∀b xs,H b=some (.tup xs)->H' b=some (.tup xs)):gY P w H' h' a o:=by
 induction o with
 |lst xs=>obtain⟨z,its,n,r,e⟩:=x;exact⟨z,its,n,r,k _ _ (.inl rfl) e⟩
 |tup xs=>obtain⟨z,its,r,ob,e,c⟩:=x;exact⟨z,its,r,ob,k _ _ (.inl rfl) e,c⟩
 |dK kvs=>obtain⟨z,y,vs,r,ob,es,ep,e,c⟩:=x;exact⟨z,y,vs,r,ob,es,ep,k _ _ (.inl rfl) e,c⟩
 |dT kvs=>
  obtain⟨z,y,xs,r,ob,es,ep,e,c⟩:=x;exact⟨z,y,xs,Paired.mapP r fun p q z=>⟨z.1,ht _ _ z.2.1,z.2.2⟩,ob,es,ep,k _ _ (.inl rfl) e,c⟩
 |set S n=>obtain⟨ob,es,ep,t,e,c⟩:=x;exact⟨ob,es,ep,t,k _ _ (.inl rfl) e,c⟩
 |ins C dx fs=>
  obtain⟨d,z,ne,e,mA,⟨od,es,ep,e2,c⟩,r⟩:=x;exact⟨ho _ d,z,ne,k _ _ (.inl rfl) e,mA,⟨od,es,ep,k _ _ (.inr d) e2,c⟩,r⟩
 |own y=>obtain⟨ob,e⟩:=x;exact⟨ob,k _ _ (.inl rfl) e⟩
 |xd fs=>obtain⟨mA,⟨od,es,ep,e,c⟩,r⟩:=x;exact⟨mA,⟨od,es,ep,k _ _ (.inl rfl) e,c⟩,r⟩
 |rng lo hi=>obtain⟨t,u,v,e⟩:=x;exact⟨t,u,v,k _ _ (.inl rfl) e⟩
 |frz ob u ih=>obtain⟨e,q⟩:=x;exact⟨k _ _ (.inl rfl) e,ih q⟩
 |tbl ps=>
  have e:h.get? a=some { cls:=.none,data:=.fields ps }:=x;show h'.get? a=some { cls:=.none,data:=.fields ps };exact k a _ (.inl rfl) e
 |met f y=>
  have e:h.get? a=some (PySem.W.methodObj (.ref f) (.ref y)):=x;show h'.get? a=some (PySem.W.methodObj (.ref f) (.ref y));exact k a _ (.inl rfl) e
 |ext φ=>obtain⟨p,⟨o,e⟩,st⟩:=x;exact⟨st _ _ p fun o q=>k _ _ (.inl rfl) q,⟨o,k _ _ (.inl rfl) e⟩,st⟩
theorem HOk.lt(x:HOk P w H h)(e:H a=some o):a<h.objs.size:=(x a o e).lt
theorem HOk.fresh(x:HOk P w H h)(e:h.objs.size<=a):H a=none:=by
 cases q:H a with
 |none=>rfl
 |some u=>exact absurd (C7 (x.lt q) e) (I0 _)
theorem HOk.kept(x:HOk P w H h)(k:∀b u,h.get? b=some u->h'.get? b=some u):HOk P w H h':=fun a o e=>
 (x a o e).stay (fun b u _ q=>k b u q) (fun _ q=>q) fun _ _ q=>q
theorem HOk.laid(x:HOk P w H h)(k:∀b u,h.get? b=some u->h'.get? b=some u)(hp:h.objs.size<=a)(new:gY P w (upd H a o) h' a o):HOk P w (upd H a o) h':=fun b u e=>by
 have hn:=x.fresh hp;by_cases hb:b=a
 .subst hb;rw[bA]at e;cases e;exact new
 .rw[bB hb]at e;exact(x b u e).stay (fun c v _ q=>k c v q) (fun c q=>by rw[bB (bF q hn)];exact q) fun c xs q=>by rw[bB (bF q hn)];exact q
end
noncomputable def Rd(H:Hp)(a:Addr)(u:HO):Prop:=H a=some u\/∃o,H a=some (.frz o u)
theorem Rd.ok{P:Program}{w:World}{h:Heap}{a:Addr}{u:HO}(r:Rd H a u)(x:HOk P w H h):gY P w H h a u:=by
 rcases r with r|⟨o,r⟩
 .exact x a u r
 .obtain⟨_,q⟩:=x a _ r;exact q
noncomputable def Mut:Option HO->Prop
 |some (.lst _)=>True
 |some (.dK _)=>True
 |some (.dT _)=>True
 |some (.set _ _)=>True
 |some (.ins _ _ _)=>True
 |some (.ext _)=>True
 |_=>False
section
variable{P:Program}{w:World}{H:Hp}{h h':Heap}{x e:Addr}{o':HO}
theorem HOk.write(ok:HOk P w H h)(mu:Mut (H x))(he:e=x\/H e=some (.own x))(k:∀b u,b≠e->h.get? b=some u->h'.get? b=some u)(heo:∃u,h'.get? e=some u)
 (new:gY P w (upd H x o') h' x o'):HOk P w (upd H x o') h':=fun b u q=>by
 have nown:∀c y,H c=some (.own y)->c≠x:=fun c y r z=>by subst z;rw[r]at mu;exact mu
 have ntup:∀c xs,H c=some (.tup xs)->c≠x:=fun c xs r z=>by subst z;rw[r]at mu;exact mu
 by_cases hb:b=x
 .subst hb;rw[bA]at q;cases q;exact new
 .rw[bB hb]at q;by_cases hbe:b=e
  .have q':H b=some (.own x):=by
    rcases he with z|z
    .exact absurd (hbe.trans z) hb
    .rw[hbe];exact z
   rw[q]at q';cases q';obtain⟨v,hv⟩:=heo;exact⟨v,by rw[hbe];exact hv⟩
  .refine(ok b u q).stay (fun c v hc r=>k c v ?_ r) (fun c r=>by rw[bB (nown c b r)];exact r) fun c xs r=>by rw[bB (ntup c xs r)];exact r
   rcases hc with rfl|hc
   .exact hbe
   .rintro rfl;rcases he with z|z
    .exact nown c b hc z
    .rw[hc]at z;cases z;exact hb rfl
end
structure Un(fs ex:List Addr)(H H':Hp)(h h':Heap):Prop where
 keep:∀b o,h.get? b=some o->H b=none->b∉fs->b∉ex->h'.get? b=some o
 slot:∀b o,h.get? b=some o->H b=none->b∈fs->b∉ex->∃sl,h'.get? b=some { o with slots:=sl }
 free:∀b o,h.get? b=some o->H b=none->b∉ex->H' b=none
 there:∀b o,h.get? b=some o->b∉ex->∃o',h'.get? b=some o'
 tups:∀b xs,H b=some (.tup xs)->H' b=some (.tup xs)
 frzs:∀b o u,H b=some (.frz o u)->H' b=some (.frz o u)
 tbls:∀b ps,H b=some (.tbl ps)->∃more,H' b=some (.tbl (ps++more))
section
variable{fs fs' ex ex':List Addr}{H H1 H2:Hp}{h h1 h2 h':Heap}{a x e:Addr}{o:HO}
theorem Un.any(u:Un fs ex H H1 h h1){b:Addr}{ob:Obj}(q:h.get? b=some ob)(n:H b=none)(hx:b∉ex):∃sl,h1.get? b=some { ob with slots:=sl }:=by
 by_cases hb:b∈fs
 .exact u.slot b ob q n hb hx
 .exact⟨ob.slots,u.keep b ob q n hb hx⟩
theorem Un.kept(k:∀b u,h.get? b=some u->h'.get? b=some u):Un fs ex H H h h':=
 ⟨fun b ob q _ _ _=>k b ob q,fun b ob q _ _ _=>⟨ob.slots,k b ob q⟩,fun _ _ _ n _=>n,fun b ob q _=>⟨ob,k b ob q⟩,fun _ _ q=>q,fun _ _ _ q=>q,fun _ ps q=>⟨#[],by rw[q];simp⟩⟩
theorem Un.refl:Un fs ex H H h h:=Un.kept fun _ _ q=>q
theorem Un.laid(k:∀b u,h.get? b=some u->h'.get? b=some u)(hp:h.objs.size<=a)(hn:H a=none):Un fs ex H (upd H a o) h h' where
 keep:=fun b u q _ _ _=>k b u q
 slot:=fun b u q _ _ _=>⟨u.slots,k b u q⟩
 free:=fun b u q n _=>by rw[bB (C9 (C7 (B7 q) hp))];exact n
 there:=fun b u q _=>⟨u,k b u q⟩
 tups:=fun b xs q=>by rw[bB (bF q hn)];exact q
 frzs:=fun b u xs q=>by rw[bB (bF q hn)];exact q
 tbls:=fun b ps q=>⟨#[],by rw[bB (bF q hn),q];simp⟩
theorem Un.write(mu:Mut (H x))(he:e=x\/H e=some (.own x))(k:∀b u,b≠e->h.get? b=some u->h'.get? b=some u)(heo:∃u,h'.get? e=some u):Un fs ex H (upd H x o) h h':=by
 have hx:∀b,H b=none->b≠x:=fun b n z=>by subst z;rw[n]at mu;exact mu
 have hb:∀b,H b=none->b≠e:=fun b n z=>by
  subst z;rcases he with r|r
  .exact hx b n r
  .rw[n]at r;cases r
 have hm:∀b u,H b=some u->¬Mut (some u)->b≠x:=fun b u q nm z=>by subst z;rw[q]at mu;exact nm mu
 refine⟨fun b u q n _ _=>k b u (hb b n) q,fun b u q n _ _=>⟨u.slots,k b u (hb b n) q⟩,fun b u q n _=>by rw[bB (hx b n)];exact n,fun b u q _=>?_,
  fun b xs q=>by rw[bB (hm b _ q fun z=>z)];exact q,fun b u xs q=>by rw[bB (hm b _ q fun z=>z)];exact q,fun b ps q=>⟨#[],by rw[bB (hm b _ q fun z=>z),q];simp⟩⟩
 by_cases hbe:b=e
 .subst hbe;exact heo
 .exact⟨u,k b u hbe q⟩
end
noncomputable def trk(h:Heap)(H:Hp):List Addr:=(List.range h.objs.size).filter fun a=>(H a).isSome
noncomputable def uQ(h:Heap)(H:Hp):Heap:=PySem.W.hideAll h (trk h H)
theorem BV(h:Heap)(H:Hp):(uQ h H).objs.size=h.objs.size:=PySem.W.hideAll_size _ _
theorem HR{h:Heap}{b:Addr}{o:Obj}(e:h.get? b=some o)(n:H b=none):(uQ h H).get? b=some o:=
 PySem.W.hideAll_get _ e fun hm=>by
  have q:(H b).isSome=true:=(List.mem_filter.mp hm).2;rw[n]at q;simp at q
theorem LF{h:Heap}{b:Addr}{o:Obj}(e:(uQ h H).get? b=some o):h.get? b=some o/\H b=none:=by
 have e':h.get? b=some o:=PySem.W.of_hideAll (trk h H) e;refine⟨e',?_⟩;cases q:H b with
 |none=>rfl
 |some x=>
  have hm:b∈trk h H:=List.mem_filter.mpr ⟨List.mem_range.mpr (B7 e'),by simp[q]⟩;have z:(uQ h H).get? b=none:=PySem.W.hideAll_none (trk h H) hm;rw[z]at e;cases e
noncomputable def gE(g h:Heap)(L:Addr):List (Addr×Obj):=(List.range h.objs.size).filterMap fun a=>if a=L\/(g.get? a).isSome=true then none else(h.get? a).map fun o=>(a,o)
theorem gL{g h:Heap}{L a:Addr}{o:Obj}(h1:a≠L)(h2:g.get? a=none)(h3:h.get? a=some o):(a,o)∈gE g h L:=
 List.mem_filterMap.mpr ⟨a,List.mem_range.mpr (B7 h3),by simp[h1,h2,h3]⟩
theorem AQ{g h:Heap}{L:Addr}{p:Addr×Obj}(hp:p∈gE g h L):p.1≠L/\g.get? p.1=none/\h.get? p.1=some p.2:=by
 obtain⟨b,_,e⟩:=List.mem_filterMap.mp hp;split at e
 .cases e
 .rename_i hn;cases q:h.get? b with
  |none=>rw[q]at e;simp at e
  |some u=>
   rw[q]at e;simp only[Option.map_some,Option.some.injEq]at e;subst e;refine⟨fun z=>hn (.inl z),?_,q⟩;show g.get? b=none;cases r:g.get? b with
   |none=>rfl
   |some v=>exact(hn (.inr (by simp[r]))).elim
noncomputable def rest(g h:Heap)(L d:Addr):List (Addr×Obj):=(gE g h L).filter fun p=>decide (p.1≠d)
theorem vI{g h:Heap}{L:Addr}:News g L h (gE g h L):=fun p hp=>let⟨a,b,c⟩:=AQ hp;⟨c,a,b⟩
structure Mod(K:Fg)(mg:Str->Option Value)(base:Heap):Prop where
 kin:K.In base
 glob:base.Ns mainGlobals mg
 blt:∃mb,base.Ns builtinsNs mb/\∀x:Str,x≠"__name__"->mb x=bootBuiltins x
 nolimit:base.NoLimit
 sysm:∃o es ep,base.get? sysModules=some o/\o.data=.dict es ep
 bmn:∃bm ob,mg "__builtins__"=some (.ref bm)/\bm≠builtinsNs/\base.get? bm=some ob/\ob.cls=.type "module"/\ob.dict=some builtinsNs/\ob.data=.plain
structure Cx where
 prog:Program
 w:World
 K:Fg
 mg:Str->Option Value
 base:Heap
 A:Around
 N:List Str
 s₀:Shared
 H₀:Hp
 env:Env
 outer:List Env
 stack:List Env
 ex:List Addr
 fn:Str->Bool
 calm:Bool
 pn:List (Addr×Obj)
 xe:Value->Shared->Prop
noncomputable def frs(l:List Env):List Addr:=l.filterMap (·.frame)
noncomputable abbrev Cx.fs(X:Cx):List Addr:=frs X.outer
noncomputable def Vis(sc:Scope)(x:Str):Prop:=sc.names.lookup x=some .local\/sc.names.lookup x=some .cell\/sc.names.lookup x=some .free
noncomputable def Loc(sc:Scope)(x:Str):Prop:=sc.names.lookup x=some .local\/sc.names.lookup x=some .cell
noncomputable def Look(env:Env)(h:Heap)(m:Str->Option Value)(x:Str)(u:Value):Prop:=
 (env.kindOf x=some .local/\m x=some u)\/((env.kindOf x=some .cell\/env.kindOf x=some .free)/\∃c,env.cells.lookup x=some c/\h.IsCell c (some u))
structure Cx.Ok(X:Cx):Prop where
 mod:Mod X.K X.mg X.base
 kind:X.env.scope.kind=.function
 glob:X.env.globals=mainGlobals
 blt:X.env.builtins=builtinsNs
 above:X.s₀.heap.objs.size<=X.env.locals
 inj:∀x y c,X.env.cells.lookup x=some c->X.env.cells.lookup y=some c->x=y
 has:∀x,(X.env.kindOf x=some .cell\/X.env.kindOf x=some .free)->∃c,X.env.cells.lookup x=some c
 cab:∀x c,X.fn x=true->X.env.cells.lookup x=some c->X.s₀.heap.objs.size<=c
 hd:X.calm=true->X.A.handled=none
 frames:X.A.frames=some X.stack
 stk:X.stack=X.outer\/(X.stack=X.env::X.outer/\X.env.frame=some X.env.locals)
 exf:∀b∈X.ex,b≠X.env.locals/\∀x c,X.env.cells.lookup x=some c->c≠b
 bs:∀b o,X.base.get? b=some o->X.s₀.heap.get? b=some o/\X.H₀ b=none
 bsz:X.base.objs.size<=X.s₀.heap.objs.size
 noex:∀b o,X.base.get? b=some o->b∉X.ex
 exfs:∀b∈X.ex,b∉X.fs
 funs:X.s₀.heap.FunFrames X.base X.outer
 frf:∀b∈X.fs,X.H₀ b=none
structure Inv(X:Cx)(pins:List (Addr×Obj))(σ:List (Option V))(H:Hp)(s:Shared):Prop where
 ok:X.Ok
 os:s.os=X.s₀.os
 bare:AllBare s.gens
 base:Un X.fs X.ex X.H₀ H X.s₀.heap s.heap
 loc:∃m,s.heap.Ns X.env.locals m/\∀(i:Nat)(x:Str)(v:V),X.N[i]?=some x->σ[i]?=some (some v)->Vis X.env.scope x->∃u,RelV v u/\Look X.env s.heap m x u
 cell:∀x c,X.env.cells.lookup x=some c->∃v,s.heap.IsCell c v
 free:H X.env.locals=none
 freeC:∀x c,X.env.cells.lookup x=some c->H c=none
 pin:∀p∈X.pn++pins,s.heap.get? p.1=some p.2/\H p.1=none/\p.1≠X.env.locals/\p.1∉X.fs/\∀v,p.2.data≠.cell v
 hok:HOk X.prog X.w H s.heap
 len:σ.length=X.N.length
section
variable{X:Cx}{pins:List (Addr×Obj)}{σ:List (Option V)}{H H':Hp}{s:Shared}{h':Heap}
theorem Cx.Ok.nofr(ok:X.Ok){b:Addr}{o:Obj}(e:X.base.get? b=some o):b∉X.fs:=fun hb=>by
 have:=(ok.funs.mem hb).1;rw[e]at this;cases this
theorem Inv.bs(I:Inv X pins σ H s):∀b o,X.base.get? b=some o->s.heap.get? b=some o/\H b=none:=fun b o e=>
 ⟨I.base.keep b o (I.ok.bs b o e).1 (I.ok.bs b o e).2 (I.ok.nofr e) (I.ok.noex b o e),I.base.free b o (I.ok.bs b o e).1 (I.ok.bs b o e).2 (I.ok.noex b o e)⟩
theorem Inv.bk(I:Inv X pins σ H s):∀b o,X.base.get? b=some o->s.heap.get? b=some o:=fun b o e=>(I.bs b o e).1
theorem Inv.mod(I:Inv X pins σ H s):Mod X.K X.mg X.base:=I.ok.mod
theorem Inv.kIn(I:Inv X pins σ H s):X.K.In s.heap:=I.ok.mod.kin.keeps I.bk
theorem Inv.fr(I:Inv X pins σ H s):∃m,Fr X.base X.env.locals s.heap m:=
 let⟨m,hn,_⟩:=I.loc
 ⟨m,hn,I.bk,J4 I.ok.bsz I.ok.above⟩
theorem Inv.lt(I:Inv X pins σ H s):X.env.locals<s.heap.objs.size:=let⟨_,hn,_⟩:=I.loc;hn.lt
theorem Inv.sz(I:Inv X pins σ H s):X.s₀.heap.objs.size<=s.heap.objs.size:=J4 I.ok.above (A0c I.lt)
theorem Inv.nofs(I:Inv X pins σ H s){a:Addr}(h:s.heap.objs.size<=a):a∉X.fs:=fun hb=>by
 obtain⟨_,o,ho,_⟩:=I.ok.funs.mem hb;exact absurd (C7 (B7 ho) (J4 I.sz h)) (I0 _)
theorem Inv.cne(I:Inv X pins σ H s):∀x c,X.env.cells.lookup x=some c->c≠X.env.locals:=fun x c e z=>by
 obtain⟨v,o,ho,hd⟩:=I.cell x c e;obtain⟨m,⟨o',es,ep,ho',hd',_⟩,_⟩:=I.loc;rw[z,ho']at ho;cases ho;rw[hd']at hd;cases hd
theorem Inv.funs(I:Inv X pins σ H s):s.heap.FunFrames X.base X.outer:=by
 have all:∀(l:List Env),(∀b∈frs l,b∈X.fs)->X.s₀.heap.FunFrames X.base l->s.heap.FunFrames X.base l:=by
  intro l
  induction l with
  |nil=>intro _ _;trivial
  |cons env r ih=>
   intro hs hl;obtain⟨hk,⟨L,o,hf,hn,ho,hd⟩,hr⟩:=hl;have hL:L∈X.fs:=hs L (by unfold frs;rw[U6,hf];exact B2);obtain⟨sl,e⟩:=I.base.slot L o ho (I.ok.frf L hL) hL fun z=>I.ok.exfs L z hL;exact⟨hk,⟨L,_,hf,hn,e,hd⟩,ih (fun b hb=>hs b (by unfold frs;rw[U6,hf];exact B1 _ hb)) hr⟩
 exact all X.outer (fun _ hb=>hb) I.ok.funs
theorem Inv.stack(I:Inv X pins σ H s):s.heap.FunFrames X.base X.stack:=by
 rcases I.ok.stk with e|⟨e,hf⟩
 .rw[e];exact I.funs
 .rw[e];obtain⟨m,hn,_⟩:=I.loc;refine .cons (by rw[I.ok.kind];decide) hf hn ?_ I.funs;exact Heap.get?_none_of_le (J4 I.ok.bsz I.ok.above)
theorem Inv.stkSub(I:Inv X pins σ H s):∀b∈frs X.stack,b∈X.env.locals::X.fs:=fun b hb=>by
 rcases I.ok.stk with e|⟨e,hf⟩
 .rw[e]at hb;exact B1 _ hb
 .rw[e]at hb;unfold frs at hb;rw[U6,hf]at hb;exact hb
theorem Inv.stkFree(I:Inv X pins σ H s):∀b∈frs X.stack,H b=none:=fun b hb=>by
 rcases List.mem_cons.mp (I.stkSub b hb)with e|hb
 .rw[e];exact I.free
 .obtain⟨_,o,ho,_⟩:=I.ok.funs.mem hb;exact I.base.free b o ho (I.ok.frf b hb) fun z=>I.ok.exfs b z hb
theorem Inv.step{g':Array GenState}{t':Nat}{d':Drawn}{ch:List Addr}(I:Inv X pins σ H s)
 (hch:∀b∈ch,(b∈X.ex\/X.s₀.heap.objs.size<=b)/\b≠X.env.locals/\(∀x c,X.env.cells.lookup x=some c->c≠b)/\∀p∈X.pn++pins,p.1≠b)
 (keep:∀b o,b≠X.env.locals->b∉X.fs->b∉ch->s.heap.get? b=some o->H b=none->h'.get? b=some o)
 (slot:∀b o,b≠X.env.locals->b∈X.fs->b∉ch->s.heap.get? b=some o->H b=none->∃sl,h'.get? b=some { o with slots:=sl }) (free:∀b o,b∉ch->s.heap.get? b=some o->H b=none->H' b=none)
 (there:∀b o,b∉ch->s.heap.get? b=some o->∃o',h'.get? b=some o')
 (tups:∀b xs,H b=some (.tup xs)->H' b=some (.tup xs)) (frzs:∀b o u,H b=some (.frz o u)->H' b=some (.frz o u)) (tbls:∀b ps,H b=some (.tbl ps)->∃more,H' b=some (.tbl (ps++more)))
 (ns:∀m,s.heap.Ns X.env.locals m->h'.Ns X.env.locals m) (hok:HOk X.prog X.w H' h') (hg:AllBare g'):
 Inv X pins σ H' { s with heap:=h',gens:=g',drawn:=d',toks:=t' }:=by
 have neL:∀b o,X.s₀.heap.get? b=some o->b≠X.env.locals:=fun b o e=>C9 (C7 (B7 e) I.ok.above)
 have neC:∀b o,X.s₀.heap.get? b=some o->b∉X.ex->b∉ch:=fun b o e hx hb=>by
  rcases (hch b hb).1 with z|z
  .exact hx z
  .exact absurd (C7 (B7 e) z) (I0 _)
 have cellK:∀x c,X.env.cells.lookup x=some c->∀v,s.heap.IsCell c v->h'.IsCell c v:=fun x c e v ⟨o,ho,hd⟩=>by
  have nch:c∉ch:=fun z=>(hch c z).2.2.1 x c e rfl;by_cases hc:c∈X.fs
  .obtain⟨sl,q⟩:=slot c o (I.cne x c e) hc nch ho (I.freeC x c e);exact⟨_,q,hd⟩
  .exact⟨o,keep c o (I.cne x c e) hc nch ho (I.freeC x c e),hd⟩
 refine⟨I.ok,I.os,hg,⟨fun b o e n hb hx=>?_,fun b o e n hb hx=>?_,fun b o e n hx=>?_,fun b o e hx=>?_,fun b xs e=>tups b xs (I.base.tups b xs e),fun b o xs e=>frzs b o xs (I.base.frzs b o xs e),fun b ps e=>?_⟩,?_,fun x c e=>?_,?_,fun x c e=>?_,fun p hp=>?_,hok,I.len⟩
 .exact keep b o (neL b o e) hb (neC b o e hx) (I.base.keep b o e n hb hx) (I.base.free b o e n hx)
 .obtain⟨sl,e1⟩:=I.base.slot b o e n hb hx;obtain⟨sl',e2⟩:=slot b _ (neL b o e) hb (neC b o e hx) e1 (I.base.free b o e n hx);exact⟨sl',e2⟩
 .obtain⟨o',e1⟩:=I.base.there b o e hx;exact free b o' (neC b o e hx) e1 (I.base.free b o e n hx)
 .obtain⟨o',e1⟩:=I.base.there b o e hx;exact there b o' (neC b o e hx) e1
 .obtain⟨m1,e1⟩:=I.base.tbls b ps e;obtain⟨m2,e2⟩:=tbls b _ e1;exact⟨m1++m2,by rw[e2,Array.append_assoc]⟩
 .obtain⟨m,hn,hl⟩:=I.loc;refine⟨m,ns m hn,fun i x v e1 e2 e3=>?_⟩;obtain⟨u,r,l⟩:=hl i x v e1 e2 e3;refine⟨u,r,?_⟩;rcases l with l|⟨k,c,e,z⟩
  .exact .inl l
  .exact .inr ⟨k,c,e,cellK x c e _ z⟩
 .obtain⟨v,z⟩:=I.cell x c e;exact⟨v,cellK x c e v z⟩
 .obtain⟨m,⟨o,_,_,ho,_⟩,_⟩:=I.loc;exact free _ o (fun z=>(hch _ z).2.1 rfl) ho I.free
 .obtain⟨v,o,ho,hd⟩:=I.cell x c e;exact free c o (fun z=>(hch c z).2.2.1 x c e rfl) ho (I.freeC x c e)
 .obtain⟨e,n,ne,nf,d⟩:=I.pin p hp;have nch:p.1∉ch:=fun z=>(hch p.1 z).2.2.2 p hp rfl;exact⟨keep p.1 p.2 ne nf nch e n,free p.1 p.2 nch e n,ne,nf,d⟩
theorem Inv.un{t':Nat}(I:Inv X pins σ H s)(u:Un X.fs [] H H' s.heap h')(hok:HOk X.prog X.w H' h'):Inv X pins σ H' { s with heap:=h',toks:=t' }:=by
 obtain⟨m,⟨o,es,ep,ho,r⟩,_⟩:=id I.loc;obtain⟨sl,hL⟩:=u.any ho I.free (by simp)
 exact I.step (g':=s.gens) (d':=s.drawn) (ch:=[]) (fun _ z=>nomatch z) (fun b o _ hb _ e n=>u.keep b o e n hb (by simp)) (fun b o _ hb _ e n=>u.slot b o e n hb (by simp)) (fun b o _ e n=>u.free b o e n (by simp)) (fun b o _ e=>u.there b o e (by simp)) u.tups u.frzs u.tbls (fun m' hm=>by
  obtain⟨o',es',ep',ho',r'⟩:=hm;rw[ho]at ho';cases ho';exact⟨_,es',ep',hL,r'⟩) hok I.bare
theorem Inv.call{g':Array GenState}{t':Nat}{d':Drawn}{ch:List Addr}(I:Inv X pins σ H s)(u:Un (frs X.stack) ch H H' s.heap h')(hok:HOk X.prog X.w H' h')(hg:AllBare g')
 (hch:∀b∈ch,(b∈X.ex\/X.s₀.heap.objs.size<=b)/\b≠X.env.locals/\(∀x c,X.env.cells.lookup x=some c->c≠b)/\∀p∈X.pn++pins,p.1≠b):
 Inv X pins σ H' { s with heap:=h',gens:=g',drawn:=d',toks:=t' }:=by
 obtain⟨m,⟨o,es,ep,ho,r⟩,_⟩:=id I.loc;obtain⟨sl,hL⟩:=u.any ho I.free fun z=>(hch _ z).2.1 rfl
 exact I.step (ch:=ch) hch (fun b o hL hb hc e n=>u.keep b o e n (fun z=>(List.mem_cons.mp (I.stkSub b z)).elim hL hb) hc) (fun b o _ _ hc e n=>u.any e n hc) (fun b o hc e n=>u.free b o e n hc) (fun b o hc e=>u.there b o e hc) u.tups u.frzs u.tbls (fun m' hm=>by
  obtain⟨o',es',ep',ho',r'⟩:=hm;rw[ho]at ho';cases ho';exact⟨_,es',ep',hL,r'⟩) hok hg
theorem Inv.turned{t':Nat}{it:Addr}(I:Inv X pins σ H s)(k:∀b o,b≠it->s.heap.get? b=some o->h'.get? b=some o)(hn:H it=none)(hL:it≠X.env.locals)
 (h1:it∈X.ex\/X.s₀.heap.objs.size<=it) (h2:∀x c,X.env.cells.lookup x=some c->c≠it) (h3:∀p∈X.pn++pins,p.1≠it):Inv X pins σ H { s with heap:=h',toks:=t' }:=by
 have nit:∀b u,H b=some u->b≠it:=fun b u e z=>by rw[z,hn]at e;cases e
 refine I.step (g':=s.gens) (d':=s.drawn) (ch:=[it]) (fun b hb=>?_) (fun b o _ _ hc e _=>k b o (fun z=>hc (by simp[z])) e) (fun b o _ _ hc e _=>⟨o.slots,k b o (fun z=>hc (by simp[z])) e⟩) (fun _ _ _ _ n=>n)
  (fun b o hc e=>⟨o,k b o (fun z=>hc (by simp[z])) e⟩) (fun _ _ e=>e) (fun _ _ _ e=>e) (fun b ps e=>⟨#[],by rw[e];simp⟩) (fun m hm=>?_) (fun b u e=>?_) I.bare
 .have e:b=it:=by simpa using hb
  subst e;exact⟨h1,hL,h2,h3⟩
 .obtain⟨o,es,ep,ho,r⟩:=hm;exact⟨o,es,ep,k _ o (Z9 hL) ho,r⟩
 .refine(I.hok b u e).stay (fun c v hc q=>k c v ?_ q) (fun _ q=>q) fun _ _ q=>q;rcases hc with z|z
  .rw[z];exact nit b u e
  .exact nit c _ z
theorem Inv.tok(I:Inv X pins σ H s)(t:Nat):Inv X pins σ H { s with toks:=t }:=I.un (h':=s.heap) (t':=t) Un.refl I.hok
theorem Inv.kept{t':Nat}(I:Inv X pins σ H s)(k:∀b u,s.heap.get? b=some u->h'.get? b=some u):Inv X pins σ H { s with heap:=h',toks:=t' }:=I.un (Un.kept k) (I.hok.kept k)
theorem Inv.laid{a:Addr}{o:HO}{t':Nat}(I:Inv X pins σ H s)(k:∀b u,s.heap.get? b=some u->h'.get? b=some u)(hp:s.heap.objs.size<=a)(new:gY X.prog X.w (upd H a o) h' a o):
 Inv X pins σ (upd H a o) { s with heap:=h',toks:=t' }:=I.un (Un.laid k hp (I.hok.fresh hp)) (I.hok.laid k hp new)
theorem Inv.write{x e:Addr}{o:HO}{t':Nat}(I:Inv X pins σ H s)(mu:Mut (H x))(he:e=x\/H e=some (.own x))(k:∀b u,b≠e->s.heap.get? b=some u->h'.get? b=some u)(heo:∃u,h'.get? e=some u)
 (new:gY X.prog X.w (upd H x o) h' x o):Inv X pins σ (upd H x o) { s with heap:=h',toks:=t' }:=I.un (Un.write mu he k heo) (I.hok.write mu he k heo new)
theorem Inv.pins_of{pins':List (Addr×Obj)}(I:Inv X pins σ H s)(h:∀p∈pins',s.heap.get? p.1=some p.2/\H p.1=none/\p.1≠X.env.locals/\p.1∉X.fs/\∀v,p.2.data≠.cell v):Inv X pins' σ H s:=
 ⟨I.ok,I.os,I.bare,I.base,I.loc,I.cell,I.free,I.freeC,fun p hp=>(List.mem_append.mp hp).elim (fun z=>I.pin p (J6 _ z)) (h p),I.hok,I.len⟩
theorem HM{N:List Str}(hN:N.Nodup){i j:Nat}{x:Str}(a:N[i]?=some x)(b:N[j]?=some x):i=j:=by
 obtain⟨h1,e1⟩:=List.getElem?_eq_some_iff.mp a;obtain⟨h2,e2⟩:=List.getElem?_eq_some_iff.mp b;exact(List.getElem_inj hN).mp (e1.trans e2.symm)
theorem CL{M:Model}{A:Around}{E:Value->Shared->Prop}{i:Nat}{x:Str}{v:V}{u:Value}{Q:Unit->Shared->Prop}(I:Inv X pins σ H s)(hN:X.N.Nodup)(hi:X.N[i]?=some x)(hx:Loc X.env.scope x)(r:RelV v u)
 (h:∀s',Inv X pins (σ.set i (some v)) H s'->(∃a,Heap.SameBut a s.heap s'.heap/\(a=X.env.locals\/X.env.cells.lookup x=some a))->Q () s') (hf:X.fn x=true\/X.env.scope.names.lookup x=some .local:=by first|exact .inl rfl|exact .inr rfl|assumption):wpAny M A (storeName X.env x u) Q E s:=by
 obtain⟨m,hn,hl⟩:=id I.loc;have hcls:(X.env.scope.kind==.class || (X.env.scope.kind==.module&&X.env.locals != X.env.globals))=false:=by rw[I.ok.kind];rfl
 have hiσ:i<σ.length:=by rw[I.len];exact(List.getElem?_eq_some_iff.mp hi).1
 have cne:=I.cne
 have tracked:∀{a:Addr}{h':Heap},(∃o,s.heap.get? a=some o/\H a=none)->Heap.SameBut a s.heap h'->HOk X.prog X.w H h':=fun{a h'} ha hs b ob e=>by
  obtain⟨_,_,hfree⟩:=ha;refine(I.hok b ob e).stay (fun c w' hc q=>(hs.2 c ?_).trans q) (fun _ q=>q) fun _ _ q=>q;rintro rfl;rcases hc with rfl|hc
  .rw[hfree]at e;cases e
  .rw[hfree]at hc;cases hc
 rcases hx with hk|hk
 .refine wpAny_storeName_local hk hn (fun h' hn' hs=>?_) hcls;obtain⟨oL,_,_,hoL,_⟩:=id hn;refine h _ ⟨I.ok,I.os,I.bare,⟨fun b o e n hb hx=>?_,fun b o e n hb hx=>?_,I.base.free,fun b o e hx=>?_,I.base.tups,I.base.frzs,I.base.tbls⟩,⟨_,hn',fun j y v' e1 e2 e3=>?_⟩,fun y c e=>?_,I.free,I.freeC,fun p hp=>?_,tracked ⟨oL,hoL,I.free⟩ hs,by simpa using I.len⟩ ⟨_,hs,.inl rfl⟩
  .exact(hs.2 b (C9 (C7 (B7 e) I.ok.above))).trans (I.base.keep b o e n hb hx)
  .obtain⟨sl,e1⟩:=I.base.slot b o e n hb hx;exact⟨sl,(hs.2 b (C9 (C7 (B7 e) I.ok.above))).trans e1⟩
  .obtain⟨o',e1⟩:=I.base.there b o e hx;exact⟨o',(hs.2 b (C9 (C7 (B7 e) I.ok.above))).trans e1⟩
  .by_cases hj:j=i
   .subst hj;rw[hi]at e1;cases e1;rw[E6 hiσ]at e2;cases e2;exact⟨u,r,.inl ⟨hk,by simp⟩⟩
   .rw[D6 (Z9 hj)]at e2;obtain⟨u',r',q⟩:=hl j y v' e1 e2 e3;refine⟨u',r',?_⟩;rcases q with⟨k,e⟩|⟨k,c,e,z⟩
    .refine .inl ⟨k,?_⟩;have:y≠x:=fun e=>hj (HM hN e1 (e▸hi));simp[this,e]
    .exact .inr ⟨k,c,e,z.sameBut hs (cne y c e)⟩
  .obtain⟨w',z⟩:=I.cell y c e;exact⟨w',z.sameBut hs (cne y c e)⟩
  .obtain⟨e,n,ne,nf,d⟩:=I.pin p hp;exact⟨(hs.2 p.1 ne).trans e,n,ne,nf,d⟩
 .have hfn:X.fn x=true:=by
   rcases hf with z|z
   .exact z
   .rw[z]at hk;cases hk
  obtain⟨c,hc⟩:=I.ok.has x (.inl hk);obtain⟨w',z⟩:=I.cell x c hc;refine wpAny_storeName_cell I.ok.kind hk hc z (fun h' hc' hs=>?_);obtain⟨oc,hoc,hocd⟩:=id z;refine h { s with heap:=h' } ⟨I.ok,I.os,I.bare,⟨fun b o e n hb hx=>?_,fun b o e n hb hx=>?_,I.base.free,fun b o e hx=>?_,I.base.tups,I.base.frzs,I.base.tbls⟩,⟨m,hn.sameBut hs (Z9 (cne x c hc)),fun j y v' e1 e2 e3=>?_⟩,fun y c' e=>?_,I.free,I.freeC,fun p hp=>?_,tracked ⟨oc,hoc,I.freeC x c hc⟩ hs,by simpa using I.len⟩ ⟨c,hs,.inr hc⟩
  .exact(hs.2 b (C9 (C7 (B7 e) (I.ok.cab x c hfn hc)))).trans (I.base.keep b o e n hb hx)
  .obtain⟨sl,e1⟩:=I.base.slot b o e n hb hx;exact⟨sl,(hs.2 b (C9 (C7 (B7 e) (I.ok.cab x c hfn hc)))).trans e1⟩
  .obtain⟨o',e1⟩:=I.base.there b o e hx;exact⟨o',(hs.2 b (C9 (C7 (B7 e) (I.ok.cab x c hfn hc)))).trans e1⟩
  .by_cases hj:j=i
   .subst hj;rw[hi]at e1;cases e1;rw[E6 hiσ]at e2;cases e2;exact⟨u,r,.inr ⟨.inl hk,c,hc,hc'⟩⟩
   .rw[D6 (Z9 hj)]at e2;obtain⟨u',r',q⟩:=hl j y v' e1 e2 e3;refine⟨u',r',?_⟩;rcases q with q|⟨k,c',e,z'⟩
    .exact .inl q
    .refine .inr ⟨k,c',e,z'.sameBut hs ?_⟩;rintro rfl;exact hj (HM hN e1 (I.ok.inj _ _ _ e hc▸hi))
  .by_cases hcc:c'=c
   .subst hcc;exact⟨_,hc'⟩
   .obtain⟨w2,z2⟩:=I.cell y c' e;exact⟨w2,z2.sameBut hs hcc⟩
  .obtain⟨e,n,ne,nf,d⟩:=I.pin p hp;refine⟨(hs.2 p.1 ?_).trans e,n,ne,nf,d⟩;intro q;rw[q,hoc]at e;have q':oc=p.2:=D5 e;exact d w' (by rw[<- q'];exact hocd)
theorem GT{M:Model}{A:Around}{E:Value->Shared->Prop}{i:Nat}{x:Str}{v:V}{u:Value}{Q:Unit->Shared->Prop}(I:Inv X pins σ H s)(hN:X.N.Nodup)(hi:X.N[i]?=some x)(hx:Loc X.env.scope x)(r:RelV v u)
 (h:∀s',Inv X pins (σ.set i (some v)) H s'->Q () s') (hf:X.fn x=true\/X.env.scope.names.lookup x=some .local:=by first|exact .inl rfl|exact .inr rfl|assumption):wpAny M A (storeName X.env x u) Q E s:=
 CL I hN hi hx r (fun s' I' _=>h s' I') hf
end
noncomputable abbrev XK:=Value->Option Addr->Hp->Prop
noncomputable abbrev St:=List (Option V)
noncomputable abbrev VK:=V->Hp->Prop
noncomputable abbrev TE:=St->Hp->VK->Prop
noncomputable abbrev TT:=St->Hp->(Bool->Hp->Prop)->Prop
noncomputable abbrev TA:=St->Hp->(List V->Hp->Prop)->Prop
structure Ends where
 nx:St->Hp->Prop
 rt:VK
 bk:St->Hp->Prop:=fun _ _=>False
 ct:St->Hp->Prop:=fun _ _=>False
noncomputable abbrev TS:=Ends->St->Hp->Prop
noncomputable def EP(X:Cx)(pins:List (Addr×Obj))(σ:St)(Q:VK)(u:Value)(s':Shared):Prop:=∃v H',Inv X pins σ H' s'/\RelV v u/\Q v H'
noncomputable def TP(X:Cx)(pins:List (Addr×Obj))(σ:St)(Q:Bool->Hp->Prop)(b:Bool)(s':Shared):Prop:=∃H',Inv X pins σ H' s'/\Q b H'
noncomputable def AP(X:Cx)(pins:List (Addr×Obj))(σ:St)(Q:List V->Hp->Prop)(us:List Value)(s':Shared):Prop:=∃vs H',Inv X pins σ H' s'/\bQ vs us/\Q vs H'
noncomputable def SP(X:Cx)(pins:List (Addr×Obj))(D:Ends)(f:Flow)(s':Shared):Prop:=
 match f with
 |.next=>∃σ' H',Inv X pins σ' H' s'/\D.nx σ' H'
 |.brk=>∃σ' H',Inv X pins σ' H' s'/\D.bk σ' H'
 |.cont=>∃σ' H',Inv X pins σ' H' s'/\D.ct σ' H'
 |.ret u=>∃v σ' H',Inv X pins σ' H' s'/\RelV v u/\D.rt v H'
noncomputable def PE(X:Cx)(e:Expr)(t:TE):Prop:=
 ∀(pins:List (Addr×Obj))(s:Shared)(σ:St)(H:Hp)(Q:VK),Inv X pins σ H s->t σ H Q->wpAny (model X.prog X.w) X.A (eval e X.env) (EP X pins σ Q) X.xe s
noncomputable def PT(X:Cx)(e:Expr)(t:TT):Prop:=
 ∀(pins:List (Addr×Obj))(s:Shared)(σ:St)(H:Hp)(Q:Bool->Hp->Prop),Inv X pins σ H s->t σ H Q->wpAny (model X.prog X.w) X.A (isTrue e X.env (eval e X.env)) (TP X pins σ Q) X.xe s
noncomputable def PW(X:Cx)(e:Expr)(t:TT):Prop:=
 ∀(whole:Sem Value)(pins:List (Addr×Obj))(s:Shared)(σ:St)(H:Hp)(Q:Bool->Hp->Prop),Inv X pins σ H s->t σ H Q->wpAny (model X.prog X.w) X.A (isTrue e X.env whole) (TP X pins σ Q) X.xe s
theorem PW.pt{X:Cx}{e:Expr}{t:TT}(h:PW X e t):PT X e t:=h _
noncomputable def PA(X:Cx)(es:List Expr)(t:TA):Prop:=
 ∀(pos:Pos)(pins:List (Addr×Obj))(s:Shared)(σ:St)(H:Hp)(Q:List V->Hp->Prop),Inv X pins σ H s->t σ H Q->wpAny (model X.prog X.w) X.A (spliced (backTo pos (starEach es X.env))) (AP X pins σ Q) X.xe s
noncomputable def PS(X:Cx)(st:Stmt)(t:TS):Prop:=
 ∀(pins:List (Addr×Obj))(s:Shared)(σ:St)(H:Hp)(D:Ends),Inv X pins σ H s->t D σ H->wpAny (model X.prog X.w) X.A (exec st X.env) (SP X pins D) X.xe s
noncomputable def PSs(X:Cx)(st:List Stmt)(t:TS):Prop:=
 ∀(pins:List (Addr×Obj))(s:Shared)(σ:St)(H:Hp)(D:Ends),Inv X pins σ H s->t D σ H->wpAny (model X.prog X.w) X.A (execs st X.env) (SP X pins D) X.xe s
theorem thn{α:Type}{t:Sem α}{Q Q':α->Shared->Prop}{M:Model}{E:Value->Shared->Prop}{s:Shared}(h:wpAny M A t Q E s)(hQ:∀a s,Q a s->Q' a s):wpAny M A t Q' E s:=Z7 h hQ fun _ _ x=>x
section
variable{X:Cx}
theorem bin{a b:Expr}{ta tb:TE}(ha:PE X a ta)(hb:PE X b tb){pins:List (Addr×Obj)}{R:V->V->Hp->Prop}(I:Inv X pins σ H s)(h:ta σ H fun x H1=>tb σ H1 fun y H2=>R x y H2)
 {α:Type} {Q:α->Shared->Prop} {f:Value->Value->Sem α}
 (hf:∀v u s2 x y H2,Inv X pins σ H2 s2->RelV x v->RelV y u->R x y H2->wpAny (model X.prog X.w) X.A (f v u) Q X.xe s2):
 wpAny (model X.prog X.w) X.A (eval a X.env) (fun v s₁=>wpAny (model X.prog X.w) X.A (eval b X.env) (fun u s₂=>wpAny (model X.prog X.w) X.A (f v u) Q X.xe s₂) X.xe s₁) X.xe s:=by
 refine thn (ha pins s σ H _ I h) fun v s1 ⟨x,H1,I1,r1,q1⟩=>?_;refine thn (hb pins s1 σ H1 _ I1 q1) fun u s2 ⟨y,H2,I2,r2,q2⟩=>?_;exact hf v u s2 x y H2 I2 r1 r2 q2
noncomputable def aFz(i:Nat):TE:=fun σ H Q=>∃v,σ[i]?=some (some v)/\Q v H
noncomputable def tC(v:V):TE:=fun _ H Q=>Q v H
theorem aCx{i:Nat}{x:Str}(hN:X.N[i]?=some x)(hv:Vis X.env.scope x)(hd:(x==("__debug__":Str))=false:=by decide)(hcd:(x==("__classdict__":Str))=false:=by decide):PE X (.Name x pos) (aFz i):=by
 intro pins s σ H Q I h;obtain⟨v,e,h⟩:=h;obtain⟨m,hn,hl⟩:=I.loc;obtain⟨u,r,l⟩:=hl i x v hN e hv;have fin:EP X pins σ Q u s:=⟨v,H,I,r,h⟩;rcases l with⟨hk,hm⟩|⟨hk,c,hc,hcell⟩
 .exact wpAny_Name (wpAny_loadName_local I.ok.kind hk hn hm fin) hd
 .rcases hk with hk|hk
  .exact wpAny_Name (wpAny_loadName_cell I.ok.kind hk hc hcell fin) hd
  .exact wpAny_Name (wpAny_loadName_free I.ok.kind hk hc hcell fin hcd) hd
theorem aCg{i j pos}:PE X (.Constant (.int i) j pos) (tC (.int i)):=fun _ _ _ H _ I h=>wpAny_Constant_int ⟨.int i,H,I.tok _,⟨_,rfl⟩,h⟩
theorem aFt{b j pos}:PE X (.Constant (.bool b) j pos) (tC (.bl b)):=fun _ _ _ H _ I h=>Constant_bool ⟨.bl b,H,I,rfl,h⟩
theorem aBV{j pos}:PE X (.Constant .none j pos) (tC .non):=fun _ _ _ H _ I h=>Constant_none ⟨.non,H,I,rfl,h⟩
theorem aBT{x j pos}:PE X (.Constant (.str x) j pos) (tC (.str x)):=fun _ _ _ H _ I h=>Calls.Constant_str ⟨.str x,H,I.tok _,⟨_,rfl⟩,h⟩
noncomputable def Gl(X:Cx)(x:Str):Prop:=X.env.kindOf x=some .globalImplicit
theorem aAL{E:Value->Shared->Prop}{pins:List (Addr×Obj)}{x:Str}{u:Value}{pos:Pos}{Q:Value->Shared->Prop}(I:Inv X pins σ H s)(hg:Gl X x)(hm:X.mg x=some u)(h:Q u s)
 (hd:(x==("__debug__":Str))=false:=by decide):wpAny (model X.prog X.w) X.A (eval (.Name x pos) X.env) Q E s:=
 Calls.Name_function_global I.ok.kind hg (Calls.loadGlobal_global (by rw[I.ok.glob];exact I.mod.glob.keeps I.bk) hm h) hd
theorem mM{E:Value->Shared->Prop}{pins:List (Addr×Obj)}{x:Str}{u:Value}{pos:Pos}{Q:Value->Shared->Prop}(I:Inv X pins σ H s)(hg:Gl X x)(hm:X.mg x=none)(hv:bootBuiltins x=some u)(h:Q u s)
 (hn:x≠"__name__":=by decide) (hd:(x==("__debug__":Str))=false:=by decide):wpAny (model X.prog X.w) X.A (eval (.Name x pos) X.env) Q E s:=by
 obtain⟨mb,h1,h2⟩:=I.mod.blt;exact Calls.Name_function_global I.ok.kind hg (Calls.loadGlobal_builtin (by rw[I.ok.glob];exact I.mod.glob.keeps I.bk) hm (by rw[I.ok.blt];exact h1.keeps I.bk) ((h2 x hn).trans hv) h) hd
theorem ET{x:Str}{v:V}{u:Value}(hg:Gl X x)(hm:X.mg x=none)(hv:bootBuiltins x=some u)(r:RelV v u)(hn:x≠"__name__":=by decide)(hd:(x==("__debug__":Str))=false:=by decide):PE X (.Name x pos) (tC v):=
 fun _ _ _ H _ I h=>mM I hg hm hv ⟨v,H,I,r,h⟩ hn hd
variable{a b:Expr}{ta tb:TE}{pos:Pos}
noncomputable def PC(X:Cx)(op:CmpOp)(a b:Expr)(t:TE):Prop:=
 ∀(pins:List (Addr×Obj))(s:Shared)(σ:St)(H:Hp)(Q:VK),Inv X pins σ H s->t σ H Q->
  wpAny (model X.prog X.w) X.A (eval a X.env) (fun v s₁=>wpAny (model X.prog X.w) X.A (eval b X.env) (fun u s₂=>wpAny (model X.prog X.w) X.A (compareOp op v u) (EP X pins σ Q) X.xe s₂) X.xe s₁) X.xe s
theorem RG(b:Expr){op:CmpOp}(h:op≠.In)(h2:op≠.NotIn):behindInMarks op b=false:=by
 have e1:(op==CmpOp.In)=false:=by cases op<;>first|rfl|exact absurd rfl h
 have e2:(op==CmpOp.NotIn)=false:=by cases op<;>first|rfl|exact absurd rfl h2
 cases b<;>simp[behindInMarks,e1,e2]
noncomputable def tB(t:TE):TT:=fun σ H Q=>t σ H fun x H1=>∃c,x=.bl c/\Q c H1
theorem pt_cmp{op:CmpOp}{t:TE}(h:PC X op a b t)(h1:behindInMarks op b=false:=by first|exact RG _ (by decide) (by decide)|rfl):PT X (.Compare a [op] [b] pos) (tB t):=by
 intro pins s σ H Q I hw;refine wpAny_isTrue_Compare1 (thn (h pins s σ H _ I hw) fun v s1 h1=>thn h1 fun u s2 h2=>thn h2 fun c s3 ⟨x,H1,I1,r1,q1⟩=>?_) h1;obtain⟨d,rfl,q⟩:=q1;cases r1;exact S6 ⟨H1,I1,q⟩
theorem aCN{e:Expr}{t:TE}(h:PE X e t)(he:∀whole,isTrue e X.env whole=(do let v <- whole;standAt e.pos;holding [v] (truthy v)):=by intro _;rfl):PT X e (tB t):=by
 intro pins s σ H Q I hw;refine isTrue_plain (thn (h pins s σ H _ I hw) fun v s1 ⟨x,H1,I1,r1,q1⟩=>?_) (he _);obtain⟨d,rfl,q⟩:=q1;cases r1;exact S6 ⟨H1,I1,q⟩
variable{tA tB':TT}{rest:List Expr}
noncomputable def aFe(t u:TT):TT:=fun σ H Q=>t σ H fun c H1=>if c=true then u σ H1 Q else Q false H1
noncomputable def tOr(t u:TT):TT:=fun σ H Q=>t σ H fun c H1=>if c=true then Q true H1 else u σ H1 Q
noncomputable def aFy(t:TT):TT:=fun σ H Q=>t σ H fun c H1=>Q (!c) H1
theorem aAl(ha:PT X a tA):PW X (.BoolOp .And [a] pos) tA:=by
 intro wh pins s σ H Q I h;refine isTrue_and (thn (ha pins s σ H Q I h) fun c s1 e=>?_);cases c with
 |true=>exact isTrue_and_nil e
 |false=>exact e
theorem aCo(ha:PT X a tA):PW X (.BoolOp .Or [a] pos) tA:=by
 intro wh pins s σ H Q I h;refine isTrue_or (thn (ha pins s σ H Q I h) fun c s1 e=>?_);cases c with
 |false=>exact isTrue_or_nil e
 |true=>exact e
theorem aDV(ha:PT X a tA)(hb:PW X (.BoolOp .And (b::rest) pos) tB'):PW X (.BoolOp .And (a::b::rest) pos) (aFe tA tB'):=by
 intro wh pins s σ H Q I h;refine isTrue_and (thn (ha pins s σ H _ I h) fun c s1 ⟨H1,I1,q1⟩=>?_);cases c with
 |true=>exact hb wh pins s1 σ H1 Q I1 q1
 |false=>exact⟨H1,I1,q1⟩
theorem aFc(ha:PT X a tA)(hb:PW X (.BoolOp .Or (b::rest) pos) tB'):PW X (.BoolOp .Or (a::b::rest) pos) (tOr tA tB'):=by
 intro wh pins s σ H Q I h;refine isTrue_or (thn (ha pins s σ H _ I h) fun c s1 ⟨H1,I1,q1⟩=>?_);cases c with
 |true=>exact⟨H1,I1,q1⟩
 |false=>exact hb wh pins s1 σ H1 Q I1 q1
theorem aCA(ha:PT X a tA):PT X (.UnaryOp .Not a pos) (aFy tA):=by
 intro pins s σ H Q I h;exact isTrue_not (ha pins s σ H (fun c H1=>Q (!c) H1) I h)
noncomputable def aBH(ta tb:TE):TE:=fun σ H Q=>ta σ H fun x H1=>∃c,x=.bl c/\if c=true then tb σ H1 Q else Q (.bl false) H1
noncomputable def aBm(ta:TE):TE:=fun σ H Q=>ta σ H fun x H1=>∃c,x=.bl c/\Q (.bl (!c)) H1
theorem aEq{op}{t:TE}(h:PE X a t):PE X (.BoolOp op [a] pos) t:=fun pins s σ H Q I hw=>BoolOp_one (h pins s σ H Q I hw)
theorem aDU(ha:PE X a ta)(hb:PE X (.BoolOp .And (b::rest) pos) tb):PE X (.BoolOp .And (a::b::rest) pos) (aBH ta tb):=by
 intro pins s σ H Q I h;refine BoolOp_and (thn (ha pins s σ H _ I h) fun v s1 ⟨x,H1,I1,r1,q1⟩=>?_);obtain⟨c,rfl,q1⟩:=q1;cases r1;refine S6 ?_;cases c with
 |true=>exact hb pins s1 σ H1 Q I1 q1
 |false=>exact⟨.bl false,H1,I1,rfl,q1⟩
theorem aCc(ha:PE X a ta):PE X (.UnaryOp .Not a pos) (aBm ta):=by
 intro pins s σ H Q I h;refine UnaryOp_ (thn (ha pins s σ H _ I h) fun v s1 ⟨x,H1,I1,r1,q1⟩=>?_);obtain⟨c,rfl,q1⟩:=q1;cases r1;exact not_of (S6 ⟨.bl (!c),H1,I1,rfl,q1⟩)
end
noncomputable def SqL(K:Fg)(H:Hp)(a:Addr)(xs:List V):Prop:=
 Rd H a (.lst xs) \/
  ∃(o:Obj)(its:Array Value)(n:Nat),K.lookup a=some o/\o.cls=.type "list"/\o.dict=none/\o.data=.seq its n/\its.size<=sizeLine/\bQ xs its.toList
noncomputable def SqT(K:Fg)(H:Hp)(a:Addr)(xs:List V):Prop:=
 Rd H a (.tup xs) \/
  ∃(o:Obj)(its:Array Value)(n:Nat),K.lookup a=some o/\o.cls=.type "tuple"/\o.data=.seq its n/\its.size<=sizeLine/\bQ xs its.toList
noncomputable def aGc:Value->Option V
 |.none=>some .non
 |.bool b=>some (.bl b)
 |.int i _=>some (.int i)
 |.str x _=>some (.str x)
 |.bytes b _=>some (.byt b)
 |.float b _=>some (.flt b)
 |.ref a=>some (.ref a)
 |.type n=>some (.ty n)
 |_=>none
theorem RelV.abs{x:V}{u:Value}(r:RelV x u):aGc u=some x:=by
 cases x with
 |non=>cases r;rfl
 |bl _=>cases r;rfl
 |int _=>obtain⟨t,rfl⟩:=r;rfl
 |str _=>obtain⟨t,rfl⟩:=r;rfl
 |byt _=>obtain⟨t,rfl⟩:=r;rfl
 |flt _=>obtain⟨t,rfl⟩:=r;rfl
 |ref _=>cases r;rfl
 |ty _=>cases r;rfl
theorem RelV.inj{x y:V}{u:Value}(r:RelV x u)(q:RelV y u):x=y:=D5 (r.abs.symm.trans q.abs)
theorem bQ.inj:∀{xs ys:List V}{us:List Value},bQ xs us->bQ ys us->xs=ys
 |_,_,_,.nil,.nil=>rfl
 |_,_,_,.cons r t,.cons r' t'=>by rw[r.inj r',bQ.inj t t']
section
variable{X:Cx}{pins:List (Addr×Obj)}{σ:St}{H:Hp}{s:Shared}{a:Addr}{xs ys:List V}
theorem SqL.of(h:H a=some (.lst xs)):SqL K H a xs:=.inl (.inl h)
theorem SqT.of(h:H a=some (.tup xs)):SqT K H a xs:=.inl (.inl h)
theorem Inv.list(I:Inv X pins σ H s)(h:SqL X.K H a xs):∃its:List Value,bQ xs its/\PlainL s.heap a its.toArray/\xs.length<=sizeLine:=by
 rcases h with h|⟨o,its,n,hk,hc,hd,hs,hz,r⟩
 .obtain⟨z,its,n,r,e⟩:=h.ok I.hok;exact⟨its,r,⟨_,n,e,rfl,rfl,rfl⟩,z⟩
 .refine⟨its.toList,r,⟨o,n,I.kIn a o hk,hc,hd,by simpa using hs⟩,?_⟩;have e:=r.length;simp only[Array.length_toList]at e;omega
theorem Inv.tuple(I:Inv X pins σ H s)(h:SqT X.K H a xs):∃its:List Value,bQ xs its/\IsTup s.heap a its.toArray/\xs.length<=sizeLine:=by
 rcases h with h|⟨o,its,n,hk,hc,hs,hz,r⟩
 .obtain⟨z,its,r,p⟩:=h.ok I.hok;exact⟨its,r,p,z⟩
 .refine⟨its.toList,r,⟨o,I.kIn a o hk,hc,n,by simpa using hs⟩,?_⟩;have e:=r.length;simp only[Array.length_toList]at e;omega
theorem Inv.list_inj(I:Inv X pins σ H s)(h:SqL X.K H a xs)(h':SqL X.K H a ys):xs=ys:=by
 obtain⟨its,r,⟨o,n,e,_,_,d⟩,_⟩:=I.list h;obtain⟨its',r',⟨o',n',e',_,_,d'⟩,_⟩:=I.list h';rw[e]at e';cases e';rw[d]at d';injection d' with d1 _
 have:its=its':=by simpa using D4 Array.toList d1
 subst this;exact r.inj r'
theorem Inv.tuple_inj(I:Inv X pins σ H s)(h:SqT X.K H a xs)(h':SqT X.K H a ys):xs=ys:=by
 obtain⟨its,r,⟨o,e,_,n,d⟩,_⟩:=I.tuple h;obtain⟨its',r',⟨o',e',_,n',d'⟩,_⟩:=I.tuple h';rw[e]at e';cases e';rw[d]at d';injection d' with d1 _
 have:its=its':=by simpa using D4 Array.toList d1
 subst this;exact r.inj r'
end
noncomputable abbrev Cx.wish(X:Cx)(E:Value->Shared->Prop):Cx:={ X with xe:=E }
noncomputable abbrev Cx.nox(X:Cx):Cx:=X.wish fun _ _=>False
theorem Cx.Ok.wish{X:Cx}(ok:X.Ok)(E:Value->Shared->Prop):(X.wish E).Ok:=
 ⟨ok.mod,ok.kind,ok.glob,ok.blt,ok.above,ok.inj,ok.has,ok.cab,ok.hd,ok.frames,ok.stk,ok.exf,ok.bs,ok.bsz,ok.noex,ok.exfs,ok.funs,ok.frf⟩
theorem Cx.Ok.unwish{X:Cx}{E:Value->Shared->Prop}(ok:(X.wish E).Ok):X.Ok:=
 ⟨ok.mod,ok.kind,ok.glob,ok.blt,ok.above,ok.inj,ok.has,ok.cab,ok.hd,ok.frames,ok.stk,ok.exf,ok.bs,ok.bsz,ok.noex,ok.exfs,ok.funs,ok.frf⟩
section
variable{X:Cx}{pins:List (Addr×Obj)}{σ:St}{H:Hp}{s:Shared}{E:Value->Shared->Prop}
theorem Inv.wish(I:Inv X pins σ H s)(E:Value->Shared->Prop):Inv (X.wish E) pins σ H s:=⟨I.ok.wish E,I.os,I.bare,I.base,I.loc,I.cell,I.free,I.freeC,I.pin,I.hok,I.len⟩
theorem Inv.unwish(I:Inv (X.wish E) pins σ H s):Inv X pins σ H s:=⟨I.ok.unwish,I.os,I.bare,I.base,I.loc,I.cell,I.free,I.freeC,I.pin,I.hok,I.len⟩
theorem SP.unwish{D:Ends}{f:Flow}{s':Shared}(h:SP (X.wish E) pins D f s'):SP X pins D f s':=by
 cases f with
 |next=>obtain⟨σ',H',I,q⟩:=h;exact⟨σ',H',I.unwish,q⟩
 |brk=>obtain⟨σ',H',I,q⟩:=h;exact⟨σ',H',I.unwish,q⟩
 |cont=>obtain⟨σ',H',I,q⟩:=h;exact⟨σ',H',I.unwish,q⟩
 |ret u=>obtain⟨v,σ',H',I,r,q⟩:=h;exact⟨v,σ',H',I.unwish,r,q⟩
theorem PSs.nox{st:List Stmt}{t:TS}(h:PSs X.nox st t):PSs X st t:=fun pins s σ H D I hw=>
 Z7 (h pins s σ H D (I.wish _) hw) (fun _ _ q=>q.unwish) fun _ _ z=>False.elim z
end
section
variable{X:Cx}{st:Stmt}{rest:List Stmt}{t u:TS}{e:Expr}{te:TE}{pos:Pos}
noncomputable def aAZ:TS:=fun D σ H=>D.nx σ H
noncomputable def aFm(t u:TS):TS:=fun D σ H=>t { D with nx:=u D } σ H
theorem aAS:PSs X [] aAZ:=fun _ _ σ H _ I h=>wpAny_execs_nil ⟨σ,H,I,h⟩
theorem SU(h1:PS X st t)(h2:PSs X rest u):PSs X (st::rest) (aFm t u):=by
 intro pins s σ H D I h;refine wpAny_execs_cons (thn (h1 pins s σ H { D with nx:=u D } I h) fun f s1 q=>?_);cases f with
 |next=>
  obtain⟨σ',H',I',q⟩:=q;exact h2 pins s1 σ' H' D I' q
 |ret v=>exact q
 |brk=>exact q
 |cont=>exact q
theorem aAy(h1:PS X st t):PSs X [st] t:=by
 intro pins s σ H D I h;refine wpAny_execs_cons (thn (h1 pins s σ H D I h) fun f s1 q=>?_);cases f with
 |next=>exact wpAny_execs_nil q
 |ret v=>exact q
 |brk=>exact q
 |cont=>exact q
theorem Inv.quiet{pins:List (Addr×Obj)}(I:Inv X pins σ H s):interactive X.env=false:=by simp[interactive,I.ok.kind]
noncomputable def aBg(te:TE):TS:=fun D σ H=>te σ H fun _ H1=>D.nx σ H1
theorem aAi(he:PE X e te)(hs:swapsWith e none pos.line X.env=pure false:=by rfl):PS X (.Expr e pos) (aBg te):=by
 intro pins s σ H D I h;exact wpAny_Expr_any (thn (he pins s σ H _ I h) fun v s1 ⟨x,H1,I1,r1,q1⟩=>⟨σ,H1,I1,q1⟩) I.quiet hs
noncomputable def aEB(te:TE):TS:=fun D σ H=>te σ H D.rt
theorem aCe(he:PE X e te):PS X (.Return (some e) pos) (aEB te):=by
 intro pins s σ H D I h;exact wpAny_Return_some (thn (he pins s σ H _ I h) fun v s1 ⟨x,H1,I1,r1,q1⟩=>⟨x,σ,H1,I1,r1,q1⟩)
noncomputable def aFq(c:TT)(t u:TS):TS:=fun D σ H=>c σ H fun b H1=>if b=true then t D σ H1 else u D σ H1
theorem aFR{c:Expr}{a b:List Stmt}{tc:TT}(hc:PT X c tc)(ha:PSs X a t)(hb:PSs X b u):PS X (.If c a b pos) (aFq tc t u):=by
 intro pins s σ H D I h;refine wpAny_If (thn (hc pins s σ H _ I h) fun d s1 ⟨H1,I1,q1⟩=>?_);cases d with
 |true=>exact ha pins s1 σ H1 D I1 q1
 |false=>exact hb pins s1 σ H1 D I1 q1
end
noncomputable abbrev TG:=V->St->Hp->(St->Hp->Prop)->Prop
noncomputable abbrev TGs:=List V->St->Hp->(St->Hp->Prop)->Prop
noncomputable def PG(X:Cx)(target:Expr)(t:TG):Prop:=
 ∀(pins:List (Addr×Obj))(s:Shared)(σ:St)(H:Hp)(v:V)(u:Value)(Q:St->Hp->Prop),Inv X pins σ H s->RelV v u->t v σ H Q->
  wpAny (model X.prog X.w) X.A (assign target X.env u) (fun _ s'=>∃σ' H',Inv X pins σ' H' s'/\Q σ' H') X.xe s
noncomputable def PGs(X:Cx)(ts:List Expr)(t:TGs):Prop:=
 ∀(pins:List (Addr×Obj))(s:Shared)(σ:St)(H:Hp)(vs:List V)(us:List Value)(Q:St->Hp->Prop),Inv X pins σ H s->bQ vs us->t vs σ H Q->
  wpAny (model X.prog X.w) X.A (assignInOrder ((assignEach ts X.env).map (·.2)) us) (fun _ s'=>∃σ' H',Inv X pins σ' H' s'/\Q σ' H') X.xe s
noncomputable abbrev aAR:=V->V->V->Hp->(Hp->Prop)->Prop
noncomputable def aDm(X:Cx)(t:aAR):Prop:=
 ∀(pins:List (Addr×Obj))(s:Shared)(σ:St)(H:Hp)(o i v:V)(ov iv u:Value)(Q:Hp->Prop),Inv X pins σ H s->RelV o ov->RelV i iv->RelV v u->t o i v H Q->
  wpAny (model X.prog X.w) X.A (setItem ov iv u) (fun _ s'=>∃H',Inv X pins σ H' s'/\Q H') X.xe s
section
variable{X:Cx}{pos:Pos}
noncomputable def HE(i:Nat):TG:=fun v σ H Q=>Q (σ.set i (some v)) H
theorem YJ{i:Nat}{x:Str}(hN:X.N.Nodup)(hi:X.N[i]?=some x)(hx:Loc X.env.scope x)(hf:X.fn x=true\/X.env.scope.names.lookup x=some .local:=by first|exact .inl rfl|exact .inr rfl|assumption):PG X (.Name x pos) (HE i):=by
 intro pins s σ H v u Q I r h;exact wpAny_assign_Name (GT I hN hi hx r (fun s' I'=>⟨_,H,I',h⟩) hf)
noncomputable def aFp:TGs:=fun vs σ H Q=>vs=[]/\Q σ H
noncomputable def aBi(t:TG)(u:TGs):TGs:=fun vs σ H Q=>∃v r,vs=v::r/\t v σ H fun σ' H'=>u r σ' H' Q
theorem YT:PGs X [] aFp:=by
 intro pins s σ H vs us Q I r h;obtain⟨e,h⟩:=h;subst e;cases r;exact assignInOrder_nil ⟨σ,H,I,h⟩
theorem VT{e:Expr}{es:List Expr}{t:TG}{u:TGs}(h1:PG X e t)(h2:PGs X es u)
 (hs:(assignEach (e::es) X.env).map (·.2)=assign e X.env::(assignEach es X.env).map (·.2):=by rfl):PGs X (e::es) (aBi t u):=by
 intro pins s σ H vs us Q I r h;obtain⟨v,vr,e1,h⟩:=h;subst e1;cases r with
 |cons r rr=>
  rw[hs];refine assignInOrder_cons (thn (h1 pins s σ H _ _ _ I r h) fun _ s1 ⟨σ1,H1,I1,q1⟩=>?_);exact h2 pins s1 σ1 H1 _ _ Q I1 rr q1
noncomputable def aAF(K:Fg)(n:Nat)(t:TGs):TG:=fun v σ H Q=>∃a xs,v=.ref a/\SqT K H a xs/\xs.length=n/\t xs σ H Q
theorem aBN{es:List Expr}{k:Nat}{t:TGs}{n:Nat}(hc:X.calm=true)(h:PGs X es t)
 (hn:(assignEach es X.env).length=n:=by rfl) (hst:(assignEach es X.env).findIdx? (·.1)=none:=by rfl):PG X (.Tuple es k pos) (aAF X.K n t):=by
 intro pins s σ H v u Q I r hw;obtain⟨a,xs,e1,hq,hl,hw⟩:=hw;subst e1;cases r;obtain⟨its,rv,ht,hz⟩:=I.tuple hq;refine assign_Tuple_tuple (I.ok.hd hc) ht (by simp[hn,<- hl,rv.length]) hst fun h' hx=>?_;have I1:Inv X pins σ H { s with heap:=h' }:=I.kept (t':=s.toks) fun b o e=>hx b o (C9 (B7 e)) e;exact h pins _ σ H xs _ Q I1 (by simpa using rv) hw
noncomputable def aFA(to ti:TE)(t:aAR):TG:=fun v σ H Q=>to σ H fun o H1=>ti σ H1 fun i H2=>t o i v H2 fun H3=>Q σ H3
theorem aCY{o i:Expr}{to ti:TE}{t:aAR}(ho:PE X o to)(hi:PE X i ti)(hs:aDm X t)
 (ha:∀v,assign (.Subscript o i pos) X.env v=(do
  let ov <- holding [v] (eval o X.env);let iv <- holding [v,ov] (eval i X.env)
  standAt pos
  holding [v,ov,iv] (setItem ov iv v)
  release [v,ov,iv] []):=by intro _;rfl):PG X (.Subscript o i pos) (aFA to ti t):=by
 intro pins s σ H v u Q I r h;rw[ha];refine A2 (S5 (thn (ho pins s σ H _ I h) fun ov s1 ⟨x,H1,I1,r1,q1⟩=>?_));refine A2 (S5 (thn (hi pins s1 σ H1 _ I1 q1) fun iv s2 ⟨y,H2,I2,r2,q2⟩=>?_));refine A2 (wpAny_standAt (A2 (S5 (thn (hs pins s2 σ H2 x y v ov iv u _ I2 r1 r2 r q2) fun _ s3 ⟨H3,I3,q3⟩=>?_))));exact wpAny_release ⟨σ,H3,I3,q3⟩
noncomputable def YQ(te:TE)(g:TG):TS:=fun D σ H=>te σ H fun x H1=>g x σ H1 D.nx
theorem aCW{tg e:Expr}{te:TE}{g:TG}(he:PE X e te)(hg:PG X tg g)(hs:swapsWithSole [tg] e pos.line X.env=pure false:=by rfl)(hw:swappedStores [tg] e X.env=pure none:=by rfl)
 (h1:(assignEach [tg] X.env).map (·.2)=[assign tg X.env]:=by rfl):PS X (.Assign [tg] e pos) (YQ te g):=by
 intro pins s σ H D I h;refine wpAny_Assign_stores (thn (he pins s σ H _ I h) fun v s1 ⟨x,H1,I1,r1,q1⟩=>?_) hs hw;rw[h1];exact thn (hg pins s1 σ H1 x v _ I1 r1 q1) fun _ s2 q=>q
theorem aEc{i:Nat}{x:Str}{e:Expr}{te:TE}{pos':Pos}(hN:X.N.Nodup)(hi:X.N[i]?=some x)(hx:Loc X.env.scope x)(he:PE X e te)(hs:swapsWith e (some (.Name x pos')) pos.line X.env=pure false:=by rfl)(hf:X.fn x=true\/X.env.scope.names.lookup x=some .local:=by first|exact .inl rfl|exact .inr rfl|assumption):
 PS X (.Assign [.Name x pos'] e pos) (YQ te (HE i)):=by
 intro pins s σ H D I h;refine wpAny_Assign_Name (thn (he pins s σ H _ I h) fun v s1 ⟨y,H1,I1,r1,q1⟩=>?_) hs;exact GT I1 hN hi hx r1 (fun s2 I2=>⟨_,H1,I2,q1⟩) hf
end
structure It where
 go:Nat->Hp->Prop
 yld:Nat->Hp->V->Hp->Prop
 stop:Nat->Hp->Prop
noncomputable def vG(X:Cx)(pins:List (Addr×Obj))(H:Hp)(b:Addr):Prop:=
 H b=none/\b≠X.env.locals/\b∉X.fs/\(b∈X.ex\/X.s₀.heap.objs.size<=b)/\(∀x c,X.env.cells.lookup x=some c->c≠b)/\∀p∈X.pn++pins,p.1≠b
theorem Inv.fpOk{X:Cx}{pins:List (Addr×Obj)}{H':Hp}{b:Addr}(I:Inv X pins σ H s)(hb:s.heap.objs.size<=b)(hn:H' b=none):vG X pins H' b:=by
 refine⟨hn,A0p (C7 I.lt hb),I.nofs hb,.inr (J4 I.sz hb),fun x c e z=>?_,fun p hp z=>?_⟩
 .obtain⟨v,q⟩:=I.cell x c e;exact absurd (C7 q.lt (by rw[z];exact hb)) (I0 _)
 .exact absurd (C7 (B7 (I.pin p hp).1) (by rw[z];exact hb)) (I0 _)
structure Turn(P:Program)(w:World)(K:Fg)(tg:Expr)(J:It)(fp:List Addr)(it:Addr)(tn:Nat->Heap->Prop):Prop where
 mem:it∈fp
 obj:∀i h,tn i h->∀b∈fp,∃o,h.get? b=some o/\∀v,o.data≠.cell v
 keep:∀i h h',tn i h->(∀b∈fp,∀o,h.get? b=some o->h'.get? b=some o)->tn i h'
 item:∀(X:Cx),X.prog=P->X.w=w->X.K=K->X.calm=true->∀(i:Nat)(pins:List (Addr×Obj))(s:Shared)(σ:St)(H:Hp)(E:Value->Shared->Prop),Inv X pins σ H s->(∀b∈fp,vG X pins H b)->tn i s.heap->J.go i H->
  wpAny (model P w) X.A (pyNext (.ref it)) (fun r s1=>∃u,r=some u /\
   wpAny (model P w) X.A (letOwnedTupleGo tg (.ref it) u) (fun _ s2=>∃x H',Inv X pins σ H' s2/\RelV x u/\J.yld i H x H'/\tn (i+1) s2.heap/\∀b∈fp,H' b=none) E s1) E s
 done:∀(X:Cx),X.prog=P->X.w=w->X.K=K->X.calm=true->∀(i:Nat)(pins:List (Addr×Obj))(s:Shared)(σ:St)(H:Hp)(E:Value->Shared->Prop),Inv X pins σ H s->(∀b∈fp,vG X pins H b)->tn i s.heap->J.stop i H->
  wpAny (model P w) X.A (pyNext (.ref it)) (fun r s1=>r=none/\Inv X pins σ H s1) E s
 self:∀(A:Around)(i:Nat)(s:Shared)(Q:Value->Shared->Prop)(E:Value->Shared->Prop),tn i s.heap->Q (.ref it) s->wpAny (model P w) A (pyIter (.ref it)) Q E s
noncomputable abbrev TI:=St->Hp->(It->Hp->Prop)->Prop
noncomputable def PIE(X:Cx)(pins:List (Addr×Obj))(σ:St)(tg:Expr)(R:It->Hp->Prop)(itv:Value)(s2:Shared):Prop:=
 ∃(it:Addr)(fp:List Addr)(tn:Nat->Heap->Prop)(J:It)(H':Hp),itv=.ref it/\Inv X pins σ H' s2/\Turn X.prog X.w X.K tg J fp it tn/\tn 0 s2.heap/\(∀b∈fp,vG X pins H' b)/\R J H'
noncomputable def PI(X:Cx)(tg iter:Expr)(wi:TI):Prop:=
 ∀(pins:List (Addr×Obj))(s:Shared)(σ:St)(H:Hp)(R:It->Hp->Prop),Inv X pins σ H s->wi σ H R->
  wpAny (model X.prog X.w) X.A (eval iter X.env) (fun v s1=>wpAny (model X.prog X.w) X.A (pyIter v) (PIE X pins σ tg R) X.xe s1) X.xe s
theorem WG{M:Model}{A:Around}{E:Value->Shared->Prop}{tg:Expr}{it:Addr}{u:Value}{o:Obj}{n:String}{vs:Array Value}{Q:Unit->Shared->Prop}(ho:s.heap.get? it=some o)(hc:o.cls=.type n)(hd:o.data=.fields vs)
 (hn:["enumerate","zip","dict_itemiterator","dict_reverseitemiterator","odict_iterator","itertools.zip_longest","itertools.pairwise"].contains n=false) (hQ:Q () s):wpAny M A (letOwnedTupleGo tg (.ref it) u) Q E s:=by
 unfold letOwnedTupleGo
 cases tg<;>first
  |exact B4 hQ
  |(cases u<;>first
   |exact B4 hQ
   | (refine A2 (wpAny_load ho ?_)
      rw[hc,hd];show wpAny M A (if (["enumerate","zip","dict_itemiterator","dict_reverseitemiterator","odict_iterator","itertools.zip_longest","itertools.pairwise"].contains n&&vs[0]?==some (rawInt _))=true then _ else _) Q E s;rw[B0 (by intro h;rw[hn,Bool.false_and]at h;cases h)];exact B4 hQ))
noncomputable def Itl(K:Fg)(a:Addr):It:=
 ⟨fun i H=>∃xs x,SqL K H a xs/\xs[i]?=some x,fun i H x H'=>H'=H/\∀xs,SqL K H a xs->xs[i]?=some x,fun i H=>∃xs,SqL K H a xs/\xs.length<=i⟩
noncomputable def Itt(K:Fg)(a:Addr):It:=
 ⟨fun i H=>∃xs x,SqT K H a xs/\xs[i]?=some x,fun i H x H'=>H'=H/\∀xs,SqT K H a xs->xs[i]?=some x,fun i H=>∃xs,SqT K H a xs/\xs.length<=i⟩
noncomputable def Itr(lo:Int)(n:Nat):It:=⟨fun i _=>i<n,fun i H x H'=>H'=H/\x=.int (lo+i),fun i _=>n<=i⟩
theorem OL{P:Program}{w:World}{tg:Expr}(a it:Addr):Turn P w K tg (Itl K a) [it] it (fun i h=>h.IsListIter it a i) where
 mem:=by simp
 obj:=fun i h st b hb=>by
  have e:b=it:=by simpa using hb
  subst e;obtain⟨o,e,c,d⟩:=st;exact⟨o,e,fun v z=>by rw[d]at z;cases z⟩
 keep:=fun i h h' st k=>st.at fun o e=>k it (by simp) o e
 item:=by
  intro X hP hw hK hc i pins s σ H E I hf st hg;subst hP hw hK;obtain⟨xs,x,hq,hx⟩:=hg;obtain⟨its,rv,p,hz⟩:=I.list hq;obtain⟨u,hu,ru⟩:=rv.get hx;obtain⟨f0,f1,f2,f3,f4,f5⟩:=hf it (by simp);refine wpAny_pyNext_list_item st p.isList (x:=u) (by simpa using hu) fun h' st' sb=>?_;have I1:Inv X pins σ H { s with heap:=h' }:=I.turned (t':=s.toks) (fun b o hb e=>(sb.2 b hb).trans e) f0 f1 f3 f4 f5;obtain⟨o,e,c,d⟩:=id st';exact⟨u,rfl,WG (s:={ s with heap:=h' }) e c d (by decide) ⟨x,H,I1,ru,⟨rfl,fun ys hy=>by rw[I.list_inj hy hq];exact hx⟩,st',fun b hb=>(hf b hb).1⟩⟩
 done:=by
  intro X hP hw hK hc i pins s σ H E I hf st hg;subst hP hw hK;obtain⟨xs,hq,hx⟩:=hg;obtain⟨its,rv,p,hz⟩:=I.list hq;obtain⟨f0,f1,f2,f3,f4,f5⟩:=hf it (by simp);have hl:=rv.length;exact wpAny_pyNext_list_end (I.ok.hd hc) st p.isList (by simp;omega) fun h' eb=>⟨rfl,I.turned (t':=s.toks) (fun b o hb e=>eb b o hb e) f0 f1 f3 f4 f5⟩
 self:=fun _ _ _ _ _ st h=>wpAny_pyIter_listiter st h
theorem JO{P:Program}{w:World}{tg:Expr}(a it:Addr):Turn P w K tg (Itt K a) [it] it (fun i h=>h.IsTupleIter it a i) where
 mem:=by simp
 obj:=fun i h st b hb=>by
  have e:b=it:=by simpa using hb
  subst e;obtain⟨o,e,c,d⟩:=st;exact⟨o,e,fun v z=>by rw[d]at z;cases z⟩
 keep:=fun i h h' st k=>st.at fun o e=>k it (by simp) o e
 item:=by
  intro X hP hw hK hc i pins s σ H E I hf st hg;subst hP hw hK;obtain⟨xs,x,hq,hx⟩:=hg;obtain⟨its,rv,p,hz⟩:=I.tuple hq;obtain⟨u,hu,ru⟩:=rv.get hx;obtain⟨f0,f1,f2,f3,f4,f5⟩:=hf it (by simp);refine wpAny_pyNext_tuple_item st (show s.heap.IsTuple a its.toArray from p) (x:=u) (by simpa using hu) fun h' st' sb=>?_;have I1:Inv X pins σ H { s with heap:=h' }:=I.turned (t':=s.toks) (fun b o hb e=>(sb.2 b hb).trans e) f0 f1 f3 f4 f5;obtain⟨o,e,c,d⟩:=id st';exact⟨u,rfl,WG (s:={ s with heap:=h' }) e c d (by decide) ⟨x,H,I1,ru,⟨rfl,fun ys hy=>by rw[I.tuple_inj hy hq];exact hx⟩,st',fun b hb=>(hf b hb).1⟩⟩
 done:=by
  intro X hP hw hK hc i pins s σ H E I hf st hg;subst hP hw hK;obtain⟨xs,hq,hx⟩:=hg;obtain⟨its,rv,p,hz⟩:=I.tuple hq;obtain⟨f0,f1,f2,f3,f4,f5⟩:=hf it (by simp);have hl:=rv.length;exact wpAny_pyNext_tuple_end (I.ok.hd hc) st (show s.heap.IsTuple a its.toArray from p) (by simp;omega) fun h' eb=>⟨rfl,I.turned (t':=s.toks) (fun b o hb e=>eb b o hb e) f0 f1 f3 f4 f5⟩
 self:=fun _ _ _ _ _ st h=>wpAny_pyIter_tupleiter st h
theorem JM{P:Program}{w:World}{tg:Expr}(it:Addr)(lo:Int)(n:Nat):Turn P w K tg (Itr lo n) [it] it (fun i h=>IsRangeIter h it (lo+(i:Nat)*1) ((n:Int)-(i:Nat)) 1) where
 mem:=by simp
 obj:=fun i h st b hb=>by
  have e:b=it:=by simpa using hb
  subst e
  exact⟨_,st,fun v z=>by
   have z':Data.fields _=Data.cell v:=z;cases z'⟩
 keep:=fun i h h' st k=>k it (by simp) _ st
 item:=by
  intro X hP hw hK hc i pins s σ H E I hf st hg;subst hP hw hK;obtain⟨f0,f1,f2,f3,f4,f5⟩:=hf it (by simp);have W:=Walks.range (prog:=X.prog) (w:=X.w) (I.ok.hd hc) it lo 1 n;refine W.item i s _ _ hg st fun v h' tk hv st' kk=>?_;obtain⟨t,rfl⟩:=hv;have I1:Inv X pins σ H { s with heap:=h',toks:=tk }:=I.turned (fun b o hb e=>kk b o (by simpa using hb) e) f0 f1 f3 f4 f5;refine⟨_,rfl,WG (s:={ s with heap:=h',toks:=tk }) (n:="range_iterator") st' rfl rfl (by decide) ⟨.int (lo+i),H,I1,⟨t,?_⟩,⟨rfl,rfl⟩,st',fun b hb=>(hf b hb).1⟩⟩;rw[Int.mul_one]
 done:=by
  intro X hP hw hK hc i pins s σ H E I hf st hg;subst hP hw hK;obtain⟨f0,f1,f2,f3,f4,f5⟩:=hf it (by simp);exact wpAny_pyNext_range_end (I.ok.hd hc) st (by have:n<=i:=hg;omega) fun h' eb=>⟨rfl,I.turned (t':=s.toks) (fun b o hb e=>eb b o hb e) f0 f1 f3 f4 f5⟩
 self:=fun _ _ _ _ _ st h=>wpAny_pyIter_rangeiter st h
section
variable{X:Cx}{tg:Expr}
theorem XF{pins:List (Addr×Obj)}{R:It->Hp->Prop}{E:Value->Shared->Prop}{lo hi:Int}{t u v:Tok}{tk:Nat}(I:Inv X pins σ H s)(h1:-(2 ^ 62)<=lo)(h2:lo<2 ^ 62)(h3:-(2 ^ 62)<=hi)(h4:hi<2 ^ 62)
 (q:R (Itr lo (hi-lo).toNat) H):wpAny (model X.prog X.w) X.A (pyIter (.ref s.heap.objs.size)) (PIE X pins σ tg R) E { s with heap:=s.heap.push { cls:=.type "range",data:=.fields #[.int lo t,.int hi u,.int 1 v] },toks:=tk }:=by
 refine wpAny_pyIter_range (IsRange.new ..) (small_one h1 h2 h3 h4) ?_;have I1:Inv X pins σ H { s with heap:=s.heap.push { cls:=.type "range",data:=.fields #[.int lo t,.int hi u,.int 1 v] },toks:=tk }:=I.kept fun b o e=>A1 _ e
 refine⟨(s.heap.push { cls:=.type "range",data:=.fields #[.int lo t,.int hi u,.int 1 v] }).objs.size,[(s.heap.push { cls:=.type "range",data:=.fields #[.int lo t,.int hi u,.int 1 v] }).objs.size],_,_,H,rfl,
  I1.kept (t':=tk) fun b o e=>A1 _ e,JM _ lo (hi-lo).toNat,?_,fun b hb=>?_,q⟩
 .have e1:lo+((0:Nat):Int)*1=lo:=by simp
  have e2:(((hi-lo).toNat:Nat):Int)-((0:Nat):Int)=Builtin.Range.rangeSize lo hi 1:=by rw[rangeSize_one];split<;>omega
  show IsRangeIter _ _ (lo+((0:Nat):Int)*1) ((((hi-lo).toNat:Nat):Int)-((0:Nat):Int)) 1;rw[e1,e2];exact B9 _ rfl
 .have e:b=(s.heap.push { cls:=.type "range",data:=.fields #[.int lo t,.int hi u,.int 1 v] }).objs.size:=by simpa using hb
  subst e;exact I1.fpOk (B3 _) (I1.hok.fresh (B3 _))
noncomputable def aAW(ta:TA):TI:=fun σ H R=>ta σ H fun vs H1=>∃j:Int,vs=[.int j]/\-(2 ^ 62)<=j/\j<2 ^ 62/\R (Itr 0 j.toNat) H1
theorem PR{a:Expr}{ta:TA}{p:Pos}(hg:Gl X "range")(hm:X.mg "range"=none)(ha:PA X [a] ta)(hs:starEach [a] X.env=[(false,eval a X.env)]:=by rfl):PI X tg (.Call (.Name "range" p) [a] [] pos) (aAW ta):=by
 intro pins s σ H R I h;refine Call_ (mM I hg hm boot_range (J2 (thn (ha pos pins s σ H _ I h) fun us s1 ⟨vs,H1,I1,r1,q1⟩=>?_) hs rfl));obtain⟨j,e,q1,q2,q⟩:=q1;subst e;cases r1 with
 |cons r rr=>
  cases rr;obtain⟨t,rfl⟩:=r;exact call_range_1 (XF I1 (by omega) (by omega) q1 q2 (by simpa using q))
noncomputable def aFx(wi:TI)(g:TG)(tb:TS):TS:=fun D σ H=>wi σ H fun J H1=>∃W:Nat->Nat->St->Hp->Prop,(∃m,W 0 m σ H1)/\∀i m σ H,W i m σ H->
 (J.stop i H/\D.nx σ H)\/(J.go i H/\∃N:St->Hp->Prop,(∀σ' H',N σ' H'->∃m',m'<m/\W (i+1) m' σ' H')/\∀x H',J.yld i H x H'->g x σ H' fun σ2 H2=>tb { D with nx:=N,ct:=N,bk:=D.nx } σ2 H2)
noncomputable def zW(fp:List Addr)(h:Heap):List (Addr×Obj):=fp.filterMap fun b=>(h.get? b).map fun o=>(b,o)
theorem oV{fp:List Addr}{h:Heap}{b:Addr}{o:Obj}(hb:b∈fp)(e:h.get? b=some o):(b,o)∈zW fp h:=List.mem_filterMap.mpr ⟨b,hb,by rw[e];rfl⟩
theorem NS{fp:List Addr}{h:Heap}{p:Addr×Obj}(hp:p∈zW fp h):p.1∈fp/\h.get? p.1=some p.2:=by
 obtain⟨b,hb,e⟩:=List.mem_filterMap.mp hp;cases q:h.get? b with
 |none=>rw[q]at e;cases e
 |some o=>
  rw[q]at e;have e':(b,o)=p:=D5 e;subst e';exact⟨hb,q⟩
theorem Inv.pinned{pins:List (Addr×Obj)}{fp:List Addr}(I:Inv X pins σ H s)(hf:∀b∈fp,vG X pins H b)(ho:∀b∈fp,∃o,s.heap.get? b=some o/\∀v,o.data≠.cell v):Inv X (pins++zW fp s.heap) σ H s:=
 I.pins_of fun p hp=>(List.mem_append.mp hp).elim (fun z=>I.pin p (E2 _ z)) fun z=>by
  obtain⟨hb,e⟩:=NS z;obtain⟨f0,f1,f2,_⟩:=hf p.1 hb;obtain⟨o,e',d⟩:=ho p.1 hb;rw[e]at e';cases e';exact⟨e,f0,f1,f2,d⟩
theorem Inv.unpinned{pins pl:List (Addr×Obj)}(I:Inv X (pins++pl) σ H s):Inv X pins σ H s:=I.pins_of fun p hp=>I.pin p (E2 _ (J6 _ hp))
theorem aCD{iter:Expr}{body:List Stmt}{wi:TI}{g:TG}{tb:TS}{pos:Pos}(hp:PassesOwn (model X.prog X.w) X.A X.env X.xe)(hc:X.calm=true)(hi:PI X tg iter wi)(hg:PG X tg g)(hb:PSs X body tb)
 (hs:∀x,foldedSetIterable iter X.env x=pure x:=by intro _;rfl):PS X (.For tg iter body [] pos) (aFx wi g tb):=by
 intro pins s σ H D I h;refine wpAny_For (thn (hi pins s σ H _ I h) fun v s1 h1=>thn h1 fun itv s2 h2=>?_) hs;obtain⟨it,fp,tn,J,H2,e,I2,T,st2,f2,W,⟨m0,w0⟩,turn⟩:=h2;subst e;have stat:∀{H':Hp},(∀b∈fp,H' b=none)->∀b∈fp,vG X pins H' b:=fun hn b hb=>⟨hn b hb,(f2 b hb).2⟩;refine codeAny_forLoop_any (fun n s'=>∃i σ' H',Inv X pins σ' H' s'/\tn i s'.heap/\(∀b∈fp,H' b=none)/\W i n σ' H') ?_ m0 ⟨0,σ,H2,I2,st2,fun b hb=>(f2 b hb).1,w0⟩;rintro n s3 ⟨i,σ3,H3,I3,st3,fr3,w3⟩;rcases turn i n σ3 H3 w3 with⟨stop,qn⟩|⟨go,N,hN,step⟩
 .refine A0u hp (thn (T.done X rfl rfl rfl hc i pins s3 σ3 H3 X.xe I3 (stat fr3) st3 stop) fun r s4 ⟨hr,I4⟩=>?_);subst hr;exact wpAny_execs_nil ⟨σ3,H3,I4,qn⟩
 .refine A0u hp (thn (T.item X rfl rfl rfl hc i pins s3 σ3 H3 X.xe I3 (stat fr3) st3 go) fun r s4 ⟨u,hr,h4⟩=>?_);subst hr;refine A0u hp (thn h4 fun _ s5 ⟨x,H5,I5,r5,y5,st5,fr5⟩=>?_);have I5':=I5.pinned (stat fr5) (T.obj _ _ st5);refine A0u hp (thn (hg _ s5 σ3 H5 x u _ I5' r5 (step x H5 y5)) fun _ s6 ⟨σ6,H6,I6,q6⟩=>?_);refine A0u hp (thn (hb _ s6 σ6 H6 _ I6 q6) fun f s7 q7=>?_)
  have again:∀{σ7:St}{H7:Hp},Inv X (pins++zW fp s5.heap) σ7 H7 s7->N σ7 H7->∃m,m<n/\∃i σ' H',Inv X pins σ' H' s7/\tn i s7.heap/\(∀b∈fp,H' b=none)/\W i m σ' H':=fun{σ7 H7} I7 n7=>by
   obtain⟨m',hm,w7⟩:=hN σ7 H7 n7;refine⟨m',hm,i+1,σ7,H7,I7.unpinned,T.keep _ _ _ st5 fun b hb o e=>(I7.pin (b,o) (E2 _ (E2 _ (oV hb e)))).1,fun b hb=>?_,w7⟩;obtain⟨o,e,d⟩:=T.obj _ _ st5 b hb;exact(I7.pin (b,o) (E2 _ (E2 _ (oV hb e)))).2.1
  cases f with
  |next=>obtain⟨σ7,H7,I7,n7⟩:=q7;exact again I7 n7
  |cont=>obtain⟨σ7,H7,I7,n7⟩:=q7;exact again I7 n7
  |brk=>obtain⟨σ7,H7,I7,q7⟩:=q7;exact⟨σ7,H7,I7.unpinned,q7⟩
  |ret v=>obtain⟨x7,σ7,H7,I7,r7,q7⟩:=q7;exact⟨x7,σ7,H7,I7.unpinned,r7,q7⟩
end
noncomputable abbrev R2:=V->V->Hp->VK->Prop
noncomputable def OpR(X:Cx)(f:Value->Value->Sem Value)(r:R2):Prop:=
 ∀(pins:List (Addr×Obj))(s:Shared)(σ:St)(H:Hp)(x y:V)(v u:Value)(Q:VK),Inv X pins σ H s->RelV x v->RelV y u->r x y H Q->
  wpAny (model X.prog X.w) X.A (f v u) (EP X pins σ Q) X.xe s
noncomputable def UnR(X:Cx)(f:Value->Sem Value)(r:V->Hp->VK->Prop):Prop:=
 ∀(pins:List (Addr×Obj))(s:Shared)(σ:St)(H:Hp)(x:V)(v:Value)(Q:VK),Inv X pins σ H s->RelV x v->r x H Q->
  wpAny (model X.prog X.w) X.A (f v) (EP X pins σ Q) X.xe s
noncomputable def dC(X:Cx)(f:Value)(r:List V->Hp->VK->Prop):Prop:=
 ∀(pins:List (Addr×Obj))(s:Shared)(σ:St)(H:Hp)(xs:List V)(us:List Value)(Q:VK),Inv X pins σ H s->bQ xs us->r xs H Q->
  wpAny (model X.prog X.w) X.A (call f us) (EP X pins σ Q) X.xe s
noncomputable def aGd(X:Cx)(r:V->Hp->(Bool->Hp->Prop)->Prop):Prop:=
 ∀(pins:List (Addr×Obj))(s:Shared)(σ:St)(H:Hp)(x:V)(v:Value)(Q:Bool->Hp->Prop),Inv X pins σ H s->RelV x v->r x H Q->
  wpAny (model X.prog X.w) X.A (truthy v) (TP X pins σ Q) X.xe s
noncomputable def tOp(r:R2)(ta tb:TE):TE:=fun σ H Q=>ta σ H fun x H1=>tb σ H1 fun y H2=>r x y H2 Q
noncomputable def tUn(r:V->Hp->VK->Prop)(ta:TE):TE:=fun σ H Q=>ta σ H fun x H1=>r x H1 Q
noncomputable def rI(C:Int->Int->Prop)(g:Int->Int->V):R2:=fun x y H Q=>∃i j,x=.int i/\y=.int j/\C i j/\Q (g i j) H
noncomputable def rI0(g:Int->Int->V):R2:=fun x y H Q=>∃i j,x=.int i/\y=.int j/\Q (g i j) H
noncomputable def rU(g:Int->V):V->Hp->VK->Prop:=fun x H Q=>∃i,x=.int i/\Q (g i) H
section
variable{X:Cx}{a b c:Expr}{ta tb tc:TE}{pos:Pos}
theorem aCH(ha:PE X a ta)(hb:PE X b tb){pins:List (Addr×Obj)}{R:V->V->Hp->Prop}(I:Inv X pins σ H s)
 (h:ta σ H fun x H1=>tb σ H1 fun y H2=>R x y H2) {Q:Value->Shared->Prop} {f:Value->Value->Sem Value}
 (hf:∀v u s2 x y H2,Inv X pins σ H2 s2->RelV x v->RelV y u->R x y H2->wpAny (model X.prog X.w) X.A (f v u) Q X.xe s2):
 wpAny (model X.prog X.w) X.A (eval a X.env) (fun v s₁=>wpAny (model X.prog X.w) X.A (eval b X.env) (fun u s₂=>wpAny (model X.prog X.w) X.A (f v u) Q X.xe s₂) X.xe s₁) X.xe s:=by
 refine thn (ha pins s σ H _ I h) fun v s1 ⟨x,H1,I1,r1,q1⟩=>?_;refine thn (hb pins s1 σ H1 _ I1 q1) fun u s2 ⟨y,H2,I2,r2,q2⟩=>?_;exact hf v u s2 x y H2 I2 r1 r2 q2
theorem aFP{op:Operator}{r:R2}(ho:OpR X (binaryOp op) r)(ha:PE X a ta)(hb:PE X b tb):PE X (.BinOp a op b pos) (tOp r ta tb):=by
 intro pins s σ H Q I h;exact wpAny_BinOp (aCH ha hb I h fun v u s2 x y H2 I2 rx ry q=>ho pins s2 σ H2 x y v u Q I2 rx ry q)
theorem aEt{op:UnaryOp}{r:V->Hp->VK->Prop}(ho:UnR X (unaryOp op) r)(ha:PE X a ta):PE X (.UnaryOp op a pos) (tUn r ta):=by
 intro pins s σ H Q I h;exact UnaryOp_ (thn (ha pins s σ H _ I h) fun v s1 ⟨x,H1,I1,r1,q1⟩=>ho pins s1 σ H1 x v Q I1 r1 q1)
theorem opI{f:Value->Value->Sem Value}{C:Int->Int->Prop}{g:Int->Int->Int}
 (rule:∀(i j:Int)(t u:Tok)(s:Shared)(Q:Value->Shared->Prop)(E:Value->Shared->Prop),C i j->Q (.int (g i j) s.toks) { s with toks:=s.toks+1 }->wpAny (model X.prog X.w) X.A (f (.int i t) (.int j u)) Q E s):
 OpR X f (rI C fun i j=>.int (g i j)):=by
 intro pins s σ H x y v u Q I rx ry h;obtain⟨i,j,rfl,rfl,hc,q⟩:=h;obtain⟨t,rfl⟩:=rx;obtain⟨t',rfl⟩:=ry;exact rule i j t t' s _ _ hc ⟨.int (g i j),H,I.tok _,⟨_,rfl⟩,q⟩
theorem aCM{f:Value->Value->Sem Value}{g:Int->Int->Int}
 (rule:∀(i j:Int)(t u:Tok)(s:Shared)(Q:Value->Shared->Prop)(E:Value->Shared->Prop),Q (.int (g i j) s.toks) { s with toks:=s.toks+1 }->wpAny (model X.prog X.w) X.A (f (.int i t) (.int j u)) Q E s):
 OpR X f (rI0 fun i j=>.int (g i j)):=by
 intro pins s σ H x y v u Q I rx ry h;obtain⟨i,j,rfl,rfl,q⟩:=h;obtain⟨t,rfl⟩:=rx;obtain⟨t',rfl⟩:=ry;exact rule i j t t' s _ _ ⟨.int (g i j),H,I.tok _,⟨_,rfl⟩,q⟩
theorem aAG{f:Value->Value->Sem Value}{g:Int->Int->Bool}
 (rule:∀(i j:Int)(t u:Tok)(s:Shared)(Q:Value->Shared->Prop)(E:Value->Shared->Prop),Q (.bool (g i j)) s->wpAny (model X.prog X.w) X.A (f (.int i t) (.int j u)) Q E s):
 OpR X f (rI0 fun i j=>.bl (g i j)):=by
 intro pins s σ H x y v u Q I rx ry h;obtain⟨i,j,rfl,rfl,q⟩:=h;obtain⟨t,rfl⟩:=rx;obtain⟨t',rfl⟩:=ry;exact rule i j t t' s _ _ ⟨.bl (g i j),H,I,rfl,q⟩
noncomputable def aEu(i j:Int):Prop:=0<=j/\j<=1000000/\i.natAbs<2 ^ 64
noncomputable def aEf(i j:Int):Prop:=(-(2 ^ 64)<i/\i<2 ^ 64)\/(-(2 ^ 64)<j/\j<2 ^ 64)
theorem aEf.ok{i j:Int}(h:aEf i j):IntMulOk i j:=by
 rcases h with⟨h1,h2⟩|⟨h1,h2⟩
 .exact .of_left (intBits_le_64 h1 h2)
 .exact .of_right (intBits_le_64 h1 h2)
theorem op_add:OpR X (binaryOp .Add) (rI0 fun i j=>.int (i+j)):=aCM fun _ _ _ _ _ _ _ q=>add_int q
theorem aDr:OpR X (binaryOp .Sub) (rI0 fun i j=>.int (i-j)):=aCM fun _ _ _ _ _ _ _ q=>sub_int q
theorem aDF:OpR X (binaryOp .Mod) (rI (fun _ j=>0<j) fun i j=>.int (i % j)):=opI fun i j _ _ _ _ _ hc q=>by
 have h1:(0:Int)<j:=hc;exact mod_int' (by omega) (by rw[Int.fmod_eq_emod_of_nonneg i (by omega)];exact q)
theorem aCs:OpR X (binaryOp .LShift) (rI aEu fun i j=>.int (i*2 ^ j.toNat)):=opI fun _ _ _ _ _ _ _ hc q=>lshift_int_small hc.1 hc.2.1 hc.2.2 q
theorem aCF:OpR X (binaryOp .BitAnd) (rI0 fun i j=>.int (Builtin.bitAnd i j)):=aCM fun _ _ _ _ _ _ _ q=>and_int q
theorem unI{f:Value->Sem Value}{g:Int->Int}
 (rule:∀(i:Int)(t:Tok)(s:Shared)(Q:Value->Shared->Prop)(E:Value->Shared->Prop),Q (.int (g i) s.toks) { s with toks:=s.toks+1 }->wpAny (model X.prog X.w) X.A (f (.int i t)) Q E s):
 UnR X f (rU fun i=>.int (g i)):=by
 intro pins s σ H x v Q I rx h;obtain⟨i,rfl,q⟩:=h;obtain⟨t,rfl⟩:=rx;exact rule i t s _ _ ⟨.int (g i),H,I.tok _,⟨_,rfl⟩,q⟩
theorem aDp:UnR X (unaryOp .USub) (rU fun i=>.int (-i)):=unI fun _ _ _ _ _ q=>neg_int q
end
noncomputable def aFQ:V->V->Bool
 |.non,.non=>true|.non,.int _=>true|.int _,.non=>true|.non,.bl _=>true|.bl _,.non=>true|.non,.str _=>true|.str _,.non=>true
 |.int _,.int _=>true|.bl _,.bl _=>true|.str _,.str _=>true|.byt _,.byt _=>true
 |.int _,.str _=>true|.str _,.int _=>true|.bl _,.str _=>true|.str _,.bl _=>true
 |_,_=>false
noncomputable def rEq:R2:=fun x y H Q=>aFQ x y=true/\Q (.bl (decide (x=y))) H
noncomputable def rNe:R2:=fun x y H Q=>aFQ x y=true/\Q (.bl (!decide (x=y))) H
theorem NI{i j:Int}:decide (V.int i=V.int j)=(i==j):=by
 rw[L9];simp
theorem UZ{i j:Bool}:decide (V.bl i=V.bl j)=(i==j):=by
 rw[L9];simp
theorem LA{i j:Str}:decide (V.str i=V.str j)=(i==j):=by
 rw[L9];simp
theorem LH{i j:Array UInt8}:decide (V.byt i=V.byt j)=(i.toList==j.toList):=by
 rw[L9];cases i;cases j;simp
section
variable{X:Cx}{a b c:Expr}{ta tb tc:TE}{pos:Pos}
theorem cQ{pins:List (Addr×Obj)}{Q:VK}{k k':Bool}(I:Inv X pins σ H s)(q:Q (.bl k) H)(e:k=k'):EP X pins σ Q (.bool k') s:=by
 subst e;exact⟨.bl k,H,I,rfl,q⟩
theorem op_eq:OpR X (compareOp .Eq) rEq:=by
 intro pins s σ H x y v u Q I rx ry h;obtain⟨hs,q⟩:=h;cases x with
 |non=>
  cases rx;cases y with
  |non=>cases ry;exact PySem.EqNone.eq_none_none (cQ I q (by simp))
  |bl j=>cases ry;exact PySem.EqNone.eq_none_bool (cQ I q (by simp))
  |int j=>obtain⟨t',rfl⟩:=ry;exact PySem.EqNone.eq_none_int (cQ I q (by simp))
  |str j=>obtain⟨t',rfl⟩:=ry;exact PySem.EqNone.eq_none_str (cQ I q (by simp))
  |_=>exact absurd (show false=true from hs) A9
 |bl i=>
  cases rx;cases y with
  |non=>cases ry;exact PySem.EqNone.eq_bool_none (cQ I q (by simp))
  |bl j=>cases ry;exact eq_bool (cQ I q UZ)
  |str j=>obtain⟨t',rfl⟩:=ry;exact PySem.EqMixed.eq_bool_str (cQ I q (by simp))
  |_=>exact absurd (show false=true from hs) A9
 |int i=>
  obtain⟨t,rfl⟩:=rx;cases y with
  |non=>cases ry;exact PySem.EqNone.eq_int_none (cQ I q (by simp))
  |int j=>obtain⟨t',rfl⟩:=ry;exact eq_int (cQ I q NI)
  |str j=>obtain⟨t',rfl⟩:=ry;exact PySem.EqMixed.eq_int_str (cQ I q (by simp))
  |_=>exact absurd (show false=true from hs) A9
 |str i=>
  obtain⟨t,rfl⟩:=rx;cases y with
  |non=>cases ry;exact PySem.EqNone.eq_str_none (cQ I q (by simp))
  |bl j=>cases ry;exact PySem.EqMixed.eq_str_bool (cQ I q (by simp))
  |int j=>obtain⟨t',rfl⟩:=ry;exact PySem.EqMixed.eq_str_int (cQ I q (by simp))
  |str j=>obtain⟨t',rfl⟩:=ry;exact eq_str (cQ I q LA)
  |_=>exact absurd (show false=true from hs) A9
 |byt i=>
  obtain⟨t,rfl⟩:=rx;cases y with
  |byt j=>obtain⟨t',rfl⟩:=ry;exact PySem.W.eq_bytes (cQ I q LH)
  |_=>exact absurd (show false=true from hs) A9
 |_=>cases y<;>exact absurd (show false=true from hs) A9
theorem op_ne:OpR X (compareOp .NotEq) rNe:=by
 intro pins s σ H x y v u Q I rx ry h;obtain⟨hs,q⟩:=h;cases x with
 |non=>
  cases rx;cases y with
  |non=>cases ry;exact PySem.EqNone.ne_none_none (cQ I q (by simp))
  |bl j=>cases ry;exact PySem.EqNone.ne_none_bool (cQ I q (by simp))
  |int j=>obtain⟨t',rfl⟩:=ry;exact PySem.EqNone.ne_none_int (cQ I q (by simp))
  |str j=>obtain⟨t',rfl⟩:=ry;exact PySem.EqNone.ne_none_str (cQ I q (by simp))
  |_=>exact absurd (show false=true from hs) A9
 |bl i=>
  cases rx;cases y with
  |non=>cases ry;exact PySem.EqNone.ne_bool_none (cQ I q (by simp))
  |bl j=>cases ry;exact ne_bool (cQ I q (D4 not UZ))
  |str j=>obtain⟨t',rfl⟩:=ry;exact PySem.EqMixed.ne_bool_str (cQ I q (by simp))
  |_=>exact absurd (show false=true from hs) A9
 |int i=>
  obtain⟨t,rfl⟩:=rx;cases y with
  |non=>cases ry;exact PySem.EqNone.ne_int_none (cQ I q (by simp))
  |int j=>obtain⟨t',rfl⟩:=ry;exact ne_int (cQ I q (D4 not NI))
  |str j=>obtain⟨t',rfl⟩:=ry;exact PySem.EqMixed.ne_int_str (cQ I q (by simp))
  |_=>exact absurd (show false=true from hs) A9
 |str i=>
  obtain⟨t,rfl⟩:=rx;cases y with
  |non=>cases ry;exact PySem.EqNone.ne_str_none (cQ I q (by simp))
  |bl j=>cases ry;exact PySem.EqMixed.ne_str_bool (cQ I q (by simp))
  |int j=>obtain⟨t',rfl⟩:=ry;exact PySem.EqMixed.ne_str_int (cQ I q (by simp))
  |str j=>obtain⟨t',rfl⟩:=ry;exact ne_str (cQ I q (D4 not LA))
  |_=>exact absurd (show false=true from hs) A9
 |byt i=>
  obtain⟨t,rfl⟩:=rx;cases y with
  |byt j=>obtain⟨t',rfl⟩:=ry;exact PySem.W.ne_bytes (cQ I q (D4 not LH))
  |_=>exact absurd (show false=true from hs) A9
 |_=>cases y<;>exact absurd (show false=true from hs) A9
theorem op_lt:OpR X (compareOp .Lt) (rI0 fun i j=>.bl (decide (i<j))):=aAG fun _ _ _ _ _ _ _ q=>lt_int q
theorem aFC:OpR X (compareOp .LtE) (rI0 fun i j=>.bl (decide (i<=j))):=aAG fun _ _ _ _ _ _ _ q=>le_int q
theorem aEZ:OpR X (compareOp .Gt) (rI0 fun i j=>.bl (decide (j<i))):=aAG fun _ _ _ _ _ _ _ q=>gt_int q
theorem aEQ:OpR X (compareOp .GtE) (rI0 fun i j=>.bl (decide (j<=i))):=aAG fun _ _ _ _ _ _ _ q=>ge_int q
theorem OpR.or{f:Value->Value->Sem Value}{r r':R2}(h:OpR X f r)(h':OpR X f r'):OpR X f (fun x y H Q=>r x y H Q\/r' x y H Q):=by
 intro pins s σ H x y v u Q I rx ry q;rcases q with q|q
 .exact h pins s σ H x y v u Q I rx ry q
 .exact h' pins s σ H x y v u Q I rx ry q
theorem XW{op:CmpOp}{r:R2}(ho:OpR X (compareOp op) r)(ha:PE X a ta)(hb:PE X b tb)(hm:behindInMarks op b=false):PE X (.Compare a [op] [b] pos) (tOp r ta tb):=by
 intro pins s σ H Q I h;exact wpAny_Compare1 (aCH ha hb I h fun v u s2 x y H2 I2 rx ry q=>ho pins s2 σ H2 x y v u Q I2 rx ry q) hm
noncomputable def aBB(t:TE):TT:=fun σ H Q=>t σ H fun x H'=>∃k,x=.bl k/\Q k H'
theorem aAr{op:CmpOp}{r:R2}(ho:OpR X (compareOp op) r)(ha:PE X a ta)(hb:PE X b tb)(hm:behindInMarks op b=false):PT X (.Compare a [op] [b] pos) (aBB (tOp r ta tb)):=by
 intro pins s σ H Q I h
 refine wpAny_isTrue_Compare1 (thn (ha pins s σ H _ I h) fun v s1 ⟨x,H1,I1,r1,q1⟩=>thn (hb pins s1 σ H1 _ I1 q1) fun u s2 ⟨y,H2,I2,r2,q2⟩=>
  thn (ho pins s2 σ H2 x y v u _ I2 r1 r2 q2) fun c s3 ⟨z,H3,I3,r3,k,e,q3⟩=>?_) hm
 subst e;cases r3;exact S6 ⟨H3,I3,q3⟩
noncomputable def VA(r r':R2)(ta tb tc:TE):TE:=fun σ H Q=>ta σ H fun x H1=>tb σ H1 fun y H2=>r x y H2 fun z H3=>∃k,z=.bl k /\
 (if k=true then tc σ H3 fun w' H4=>r' y w' H4 Q else Q (.bl false) H3)
theorem TJ{op op':CmpOp}{r r':R2}(ho:OpR X (compareOp op) r)(ho':OpR X (compareOp op') r')(ha:PE X a ta)(hb:PE X b tb)(hc:PE X c tc)
 (hm:lastMarks [op,op'] [b,c]=false:=by with_unfolding_all rfl):PE X (.Compare a [op,op'] [b,c] pos) (VA r r' ta tb tc):=by
 intro pins s σ H Q I h
 refine Compare_chain (thn (ha pins s σ H _ I h) fun v s1 ⟨x,H1,I1,r1,q1⟩=>chain_link (thn (hb pins s1 σ H1 _ I1 q1) fun u s2 ⟨y,H2,I2,r2,q2⟩=>
  thn (ho pins s2 σ H2 x y v u _ I2 r1 r2 q2) fun d s3 ⟨z,H3,I3,r3,k,e,q3⟩=>?_)) hm
 subst e;cases r3;refine S6 ?_;cases k with
 |false=>exact ite_ff ⟨.bl false,H3,I3,rfl,q3⟩
 |true=>exact ite_tt (chain_last (thn (hc pins s3 σ H3 _ I3 q3) fun w' s4 ⟨z',H4,I4,r4,q4⟩=>ho' pins s4 σ H4 y z' u w' Q I4 r2 r4 q4))
noncomputable def aAx(K:Fg)(x:V)(H:Hp)(k:Bool):Prop:=
 match x with
 |.non=>k=false
 |.bl b=>k=b
 |.int i=>k=(i != 0)
 |.str y=>y.length<=sizeLine/\k=((y.length:Int) != 0)
 |.byt y=>y.size<=sizeLine/\k=((y.size:Int) != 0)
 |.ref p=>(∃xs,SqL K H p xs/\k=!xs.isEmpty)\/(∃xs,SqT K H p xs/\k=!xs.isEmpty)\/∃kvs,H p=some (.dK kvs)/\k=!kvs.isEmpty
 |_=>False
theorem KM{κ:Type}{kvs:List (κ×V)}{vs:List (κ×Value)}(r:KV kvs vs):(!vs.isEmpty)=!kvs.isEmpty:=by
 cases r<;>rfl
theorem yV{xs:List V}{its:List Value}(r:bQ xs its):(!its.toArray.isEmpty)=!xs.isEmpty:=by
 cases r<;>simp
theorem wD:(sizeLine:Nat)<2 ^ 63:=by rw[J9];decide
theorem aCJ:aGd X (fun x H Q=>∃k,aAx X.K x H k/\Q k H):=by
 intro pins s σ H x v Q I rx h;obtain⟨k,e,q⟩:=h;have hl:=wD;have hs:sizeLine=16777216:=J9;cases x with
 |non=>
  cases rx;have e':k=false:=e;subst e';exact truthy_none ⟨H,I,q⟩
 |bl b=>
  cases rx;have e':k=b:=e;subst e';exact S6 ⟨H,I,q⟩
 |int i=>
  obtain⟨t,rfl⟩:=rx;have e':k=(i != 0):=e;subst e';exact PySem.P.truthy_int ⟨H,I,q⟩
 |str y=>
  obtain⟨t,rfl⟩:=rx;obtain⟨hy,e'⟩:y.length<=sizeLine/\k=((y.length:Int) != 0):=e;subst e';exact PySem.P.truthy_str (by omega) ⟨H,I.tok _,q⟩
 |byt y=>
  obtain⟨t,rfl⟩:=rx;obtain⟨hy,e'⟩:y.size<=sizeLine/\k=((y.size:Int) != 0):=e;subst e';exact PySem.W.truthy_bytes (by omega) ⟨H,I.tok _,q⟩
 |ref p=>
  cases rx;have e':(∃xs,SqL X.K H p xs/\k=!xs.isEmpty)\/(∃xs,SqT X.K H p xs/\k=!xs.isEmpty)\/∃kvs,H p=some (.dK kvs)/\k=!kvs.isEmpty:=e;rcases e' with⟨xs,hx,e'⟩|⟨xs,hx,e'⟩|⟨kvs,hx,e'⟩
  .subst e';obtain⟨its,r,pl,hz⟩:=I.list hx;have hlen:=r.length;exact wpAny_truthy_list pl.isList (by simp only[List.size_toArray];omega) ⟨H,I.tok _,by rw[yV r];exact q⟩
  .subst e';obtain⟨its,r,pl,hz⟩:=I.tuple hx;have hlen:=r.length;exact truthy_tuple pl (by simp only[List.size_toArray];omega) ⟨H,I.tok _,by rw[yV r];exact q⟩
  .subst e';obtain⟨hz,hS,vs,r,m⟩:kvs.length<=sizeLine/\(p==sysModules)=false/\∃vs,KV kvs vs/\s.heap.DictOf (uD X.prog X.w) p vs:=I.hok p _ hx;have hlen:kvs.length=vs.length:=Paired.length r;exact wpAny_truthy_dict hS m (by omega) ⟨H,I.tok _,by rw[KM r];exact q⟩
 |_=>exact(show False from e).elim
theorem RA(ha:PE X a ta)(he:∀whole,isTrue a X.env whole=(do let v <- whole;standAt a.pos;holding [v] (truthy v))):
 PT X a (fun σ H Q=>ta σ H fun x H'=>∃k,aAx X.K x H' k/\Q k H'):=by
 intro pins s σ H Q I h;exact isTrue_plain (thn (ha pins s σ H _ I h) fun v s1 ⟨x,H1,I1,r1,q1⟩=>aCJ pins s1 σ H1 x v Q I1 r1 q1) (he _)
theorem vals1{x:V}{us:List Value}(r:bQ [x] us):∃u,us=[u]/\RelV x u:=by
 cases r with
 |cons r1 r2=>cases r2;exact⟨_,rfl,r1⟩
theorem vals2{x y:V}{us:List Value}(r:bQ [x,y] us):∃u w',us=[u,w']/\RelV x u/\RelV y w':=by
 cases r with
 |cons r1 r2=>
  cases r2 with
  |cons r3 r4=>cases r4;exact⟨_,_,rfl,r1,r3⟩
theorem OM(hc:X.calm=true):dC X (.builtin "max") (fun xs H Q=>∃i j,xs=[.int i,.int j]/\Q (.int (if j > i then j else i)) H):=by
 intro pins s σ H xs us Q I r h;obtain⟨i,j,rfl,q⟩:=h;obtain⟨u,w',rfl,⟨t,rfl⟩,⟨t',rfl⟩⟩:=vals2 r;refine max_two_ints (I.ok.hd hc) fun h' tk k=>⟨_,H,I.kept k,?_,q⟩;by_cases hj:j > i
 .rw[A4 hj,A4 hj];exact⟨_,rfl⟩
 .rw[B0 hj,B0 hj];exact⟨_,rfl⟩
end
structure fX(k:Nat)(A:Around)(q:Bool:=true):Prop where
 hd:q=true->A.handled=none
 dp:A.depth+3*k+5<recursionLimit
 un:A.units+16*k+200<cLine
 gd:A.guards=some []
theorem fX.mono{j k:Nat}{q:Bool}(r:fX k A q)(h:j<=k):fX j A q:=⟨r.hd,by have:=r.dp;omega,by have:=r.un;omega,r.gd⟩
theorem fX.deeper{k:Nat}{q:Bool}(r:fX (k+1) A q)(env:Env):fX k (A.deeper env) q:=
 ⟨r.hd,by have:=r.dp;show A.depth+1+3*k+5<_;omega,by have:=r.un;show A.units+3+16*k+200<_;omega,r.gd⟩
theorem fX.depth{k:Nat}{q:Bool}(r:fX k A q):A.depth<recursionLimit:=by have:=r.dp;omega
theorem fX.units{k:Nat}{q:Bool}(r:fX k A q):A.units+64<cLine:=by have:=r.un;omega
noncomputable def WR:TA:=fun _ H Q=>Q [] H
noncomputable def xH(ta:TE)(tr:TA):TA:=fun σ H Q=>ta σ H fun x H1=>tr σ H1 fun xs H2=>Q (x::xs) H2
section
variable{X:Cx}{e:Expr}{es:List Expr}{te:TE}{t:TA}{pos:Pos}
theorem EI:PA X [] WR:=fun _ _ _ _ H Q I h=>Calls.spliced_nil ⟨[],H,I,.nil,h⟩
theorem oW(ha:PE X e te)(hr:PA X es t)(hs:starEach (e::es) X.env=(false,eval e X.env)::starEach es X.env:=by rfl):PA X (e::es) (xH te t):=by
 intro pos pins s σ H Q I h;rw[hs];show wpAny _ _ (spliced ((false,eval e X.env)::backTo pos (starEach es X.env))) _ _ s;refine Calls.spliced_cons (thn (ha pins s σ H _ I h) fun u s1 ⟨x,H1,I1,r1,q1⟩=>?_);exact thn (hr pos pins s1 σ H1 _ I1 q1) fun us s2 ⟨xs,H2,I2,r2,q2⟩=>⟨x::xs,H2,I2,.cons r1 r2,q2⟩
noncomputable def aCi(t:TA):TE:=fun σ H Q=>t σ H fun xs H1=>xs.length<=sizeLine/\∀p,H1 p=none->Q (.ref p) (upd H1 p (.tup xs))
noncomputable def aCG(t:TA):TE:=fun σ H Q=>t σ H fun xs H1=>xs.length<=sizeLine/\∀p,H1 p=none->Q (.ref p) (upd H1 p (.lst xs))
theorem QM{x1}(h:PA X es t):PE X (.Tuple es x1 pos) (aCi t):=by
 intro pins s σ H Q I hq;refine wpAny_Tuple_spliced (thn (h pos pins s σ H _ I hq) fun us s1 ⟨xs,H1,I1,r,z,q⟩=>⟨by rw[<- r.length];exact z,?_⟩);have hf:H1 s1.heap.objs.size=none:=I1.hok.fresh (B3 _);refine⟨.ref s1.heap.objs.size,upd H1 s1.heap.objs.size (.tup xs),I1.laid (t':=s1.toks) (fun b u e=>A1 _ e) (B3 _) ?_,rfl,q _ hf⟩;exact⟨z,us,r,⟨_,B9 _ rfl,rfl,_,rfl⟩⟩
theorem RO(h:PA X es t):PE X (.List es pos) (aCG t):=by
 intro pins s σ H Q I hq;refine wpAny_List_spliced (thn (h pos pins s σ H _ I hq) fun us s1 ⟨xs,H1,I1,r,z,q⟩=>⟨by rw[<- r.length];exact z,?_⟩);have hf:H1 s1.heap.objs.size=none:=I1.hok.fresh (B3 _);refine⟨.ref s1.heap.objs.size,upd H1 s1.heap.objs.size (.lst xs),I1.laid (t':=s1.toks) (fun b u e=>A1 _ e) (B3 _) ?_,rfl,q _ hf⟩;exact⟨z,us,0,r,B9 _ rfl⟩
end
noncomputable abbrev Sp:=List V->Hp->VK->XK->Prop
noncomputable abbrev CXT:=List Env->Hp->Shared->XK->Value->Shared->Prop
structure XD(P:Program)(w:World)(K:Fg)(mg:Str->Option Value)(base:Heap)(A:Around)(outer:List Env)(s:Shared)(H:Hp):Prop where
 frames:A.frames=some outer
 mod:Mod K mg base
 bs:∀b o,base.get? b=some o->s.heap.get? b=some o/\H b=none
 bsz:base.objs.size<=s.heap.objs.size
 funs:s.heap.FunFrames base outer
 frf:∀b∈frs outer,H b=none
 hok:HOk P w H s.heap
 bare:AllBare s.gens
noncomputable def CE(outer:List Env)(P:Program)(w:World)(H:Hp)(s:Shared)(Q:VK)(u:Value)(s':Shared):Prop:=
 ∃v H',s'.os=s.os/\AllBare s'.gens/\Un (frs outer) [] H H' s.heap s'.heap/\HOk P w H' s'.heap/\RelV v u/\Q v H'
noncomputable def CR(CX:CXT)(outer:List Env)(P:Program)(w:World)(H:Hp)(s:Shared)(Q:VK)(E:XK)(r:Result)(s':Shared):Prop:=
 match r with
 |.ok (.ret u)=>CE outer P w H s Q u s'
 |.ok _=>False
 |.error e=>CX outer H s E e s'
structure rF(P:Program)(w:World)(K:Fg)(mg:Str->Option Value)(base:Heap)(CX:CXT)(k:Nat)(f:Addr)(fd:FuncData)(ps:List Str)(sp:Sp)(q:Bool:=true):Prop where
 len:∀vs H Q E,sp vs H Q E->vs.length=ps.length
 run:∀(A:Around)(outer:List Env)(s:Shared)(H:Hp)(args:Args)(us:List Value)(vs:List V)(Q:VK)(E:XK),fX k A q->XD P w K mg base A outer s H->BindsTo s fd args (ps.zip us)->bQ vs us->sp vs H Q E->
  codeAny (model P w) A (.call (.ref f) args) (CR CX outer P w H s Q E) s
theorem rF.mono{P:Program}{w:World}{mg:Str->Option Value}{base:Heap}{CX:CXT}{j k:Nat}{f:Addr}{fd:FuncData}{ps:List Str}{sp:Sp}{q:Bool}(F:rF P w K mg base CX j f fd ps sp q)(h:j<=k):
 rF P w K mg base CX k f fd ps sp q:=⟨F.len,fun A outer s H args us vs Q E hr=>F.run A outer s H args us vs Q E (hr.mono h)⟩
section
variable{X:Cx}{pins:List (Addr×Obj)}{σ:St}{H:Hp}{s s':Shared}
theorem Inv.env0(I:Inv X pins σ H s):XD X.prog X.w X.K X.mg X.base X.A X.stack s H:=
 ⟨I.ok.frames,I.ok.mod,I.bs,J4 I.ok.bsz I.sz,I.stack,I.stkFree,I.hok,I.bare⟩
theorem Inv.after{Q:VK}{u:Value}(I:Inv X pins σ H s)(h:CE X.stack X.prog X.w H s Q u s'):EP X pins σ Q u s':=by
 obtain⟨v,H',os,bare,un,hok,r,q⟩:=h;obtain⟨hh,g,d,t,os'⟩:=s';obtain rfl:os'=s.os:=os;exact⟨v,H',I.call (h':=hh) (g':=g) (d':=d) (t':=t) (ch:=[]) un hok bare (fun b z=>absurd z (by simp)),r,q⟩
end
noncomputable def WT(sp:Sp)(dvs:List V)(E:XK)(t:TA):TE:=fun σ H Q=>t σ H fun vs H1=>sp (vs++dvs) H1 Q E
noncomputable def Binds(K:Fg)(fd:FuncData)(ps:List Str)(ds:List Value):Prop:=
 ∀(s:Shared)(us:List Value),K.In s.heap->(us++ds).length=ps.length->BindsTo s fd ⟨us,[]⟩ (ps.zip (us++ds))
theorem Binds.all{fd:FuncData}{ps:List Str}(h:∀us:List Value,us.length=ps.length->bindArgs fd ⟨us,[]⟩=pure (ps.zip us)):Binds K fd ps []:=fun s us _ hl=>by
 rw[E7]at hl ⊢;exact .of_eq (h us hl)
noncomputable def JQ(CX:CXT)(X:Cx)(E:XK):Prop:=∀(pins:List (Addr×Obj))(σ:St)(H:Hp)(s:Shared)(e:Value)(s':Shared),Inv X pins σ H s->CX X.stack H s E e s'->X.xe e s'
section
variable{X:Cx}{CX:CXT}{k:Nat}{f C:Addr}{fd:FuncData}{ps:List Str}{sp:Sp}{dvs:List V}{ds:List Value}{E:XK}{x m:Str}{p pos apos:Pos}{e o:Expr}{es:List Expr}{ta:TE}{t:TA}
theorem aCv{pins:List (Addr×Obj)}{σ:St}{H:Hp}{s:Shared}{Q:VK}{us:List Value}{vs:List V}{q:Bool}(F:rF X.prog X.w X.K X.mg X.base CX k f fd ps sp q)(hr:fX k X.A q)(hb:Binds X.K fd ps ds)(hd:bQ dvs ds)(hx:JQ CX X E)
 (I:Inv X pins σ H s) (r:bQ vs us) (h:sp (vs++dvs) H Q E):wpAny (model X.prog X.w) X.A (call (.ref f) us) (EP X pins σ Q) X.xe s:=by
 have r2:bQ (vs++dvs) (us++ds):=r.append hd;have hl:(us++ds).length=ps.length:=by rw[<- r2.length];exact F.len _ _ _ _ h
 refine wpAny_call (codeAny_mono (F.run X.A X.stack s H ⟨us,[]⟩ (us++ds) (vs++dvs) Q E hr I.env0 (hb s us I.kIn hl) r2 h) fun r s' hq=>?_);cases r with
 |error e=>exact hx pins σ H s e s' I hq
 |ok fl=>
  cases fl with
  |ret u=>exact I.after hq
  |next=>exact False.elim hq
  |brk=>exact False.elim hq
  |cont=>exact False.elim hq
theorem aAC{q:Bool}(F:rF X.prog X.w X.K X.mg X.base CX k f fd ps sp q)(hr:fX k X.A q)(hg:Gl X x)(hm:X.mg x=some (.ref f))(hk:PySem.W.keepIn X.K (.ref f)=true)(hb:Binds X.K fd ps ds)(hd:bQ dvs ds)(hx:JQ CX X E)
 (ha:PA X (e::es) t) (hdb:(x==("__debug__":Str))=false:=by decide) (he:starEach (e::es) X.env=(false,eval e X.env)::starEach es X.env:=by rfl) (hpl:(backTo pos (starEach es X.env)).any (·.1)=false:=by rfl):
 PE X (.Call (.Name x p) (e::es) [] pos) (WT sp dvs E t):=by
 intro pins s σ H Q I h;refine Y9 (aAL I hg hm ?_ hdb);refine PySem.W.callWith_K (h₀:=X.base) I.ok.mod.kin hk (thn (ha pos pins s σ H _ I h) fun us s1 ⟨vs,H1,I1,r,q⟩=>⟨I1.kIn,?_⟩) he hpl;exact aCv F hr hb hd hx I1 r q
end
structure bI(N P:List Str)(sc:Scope):Prop where
 kind:sc.kind=.function
 co:sc.isCoroutine=false
 gen:sc.isGenerator=false
 nd:N.Nodup
 pre:N.take P.length=P
 par:∀x∈P,sc.names.lookup x=some .local\/sc.names.lookup x=some .cell
 nofree:∀y∈sc.names,y.2≠.free
theorem CM{kindOf:Str->Option NameKind}{x:Str}:∀{binds:List (Str×Value)}{m:Str->Option Value},(∀v,(x,v)∉binds)->bindL kindOf binds m x=m x
 |[],_=>fun _=>rfl
 |(n,v)::r,m=>fun h=>by
  unfold bindL;rw[CM fun w hw=>h w (B1 _ hw)];split
  .have:x≠n:=by rintro rfl;exact h v B2
   simp[this]
  .rfl
theorem CU{kindOf:Str->Option NameKind}{x:Str}:∀{binds:List (Str×Value)}{m:Str->Option Value},(∀v,(x,v)∉binds)->bindC kindOf binds m x=m x
 |[],_=>fun _=>rfl
 |(n,v)::r,m=>fun h=>by
  unfold bindC;rw[CU fun w hw=>h w (B1 _ hw)];split
  .rfl
  .have:x≠n:=by rintro rfl;exact h v B2
   simp[this]
theorem BS{kindOf:Str->Option NameKind}{x:Str}{v:Value}:∀{P:List Str}{vs:List Value}{i:Nat}{m:Str->Option Value},P.Nodup->P[i]?=some x->vs[i]?=some v->kindOf x=some .local->
 bindL kindOf (P.zip vs) m x=some v
 |[],_,_,_=>fun _ h _ _=>by simp at h
 |_::_,[],_,_=>fun _ _ h _=>by simp at h
 |p::P,w::vs,0,m=>fun nd h1 h2 hk=>by
  simp at h1 h2;subst h1;subst h2;show bindL kindOf ((p,w)::P.zip vs) m p=_;unfold bindL;rw[CM fun v hv=>(List.nodup_cons.mp nd).1 (List.of_mem_zip hv).1,A4 hk];simp
 |p::P,w::vs,i+1,m=>fun nd h1 h2 hk=>by
  show bindL kindOf ((p,w)::P.zip vs) m x=_;unfold bindL;exact BS (i:=i) (List.nodup_cons.mp nd).2 (by simpa using h1) (by simpa using h2) hk
theorem CA{kindOf:Str->Option NameKind}{x:Str}{v:Value}:∀{P:List Str}{vs:List Value}{i:Nat}{m:Str->Option Value},P.Nodup->P[i]?=some x->vs[i]?=some v->kindOf x≠some .local->
 bindC kindOf (P.zip vs) m x=some v
 |[],_,_,_=>fun _ h _ _=>by simp at h
 |_::_,[],_,_=>fun _ _ h _=>by simp at h
 |p::P,w::vs,0,m=>fun nd h1 h2 hk=>by
  simp at h1 h2;subst h1;subst h2;show bindC kindOf ((p,w)::P.zip vs) m p=_;unfold bindC;rw[CU fun v hv=>(List.nodup_cons.mp nd).1 (List.of_mem_zip hv).1,B0 hk];simp
 |p::P,w::vs,i+1,m=>fun nd h1 h2 hk=>by
  show bindC kindOf ((p,w)::P.zip vs) m x=_;unfold bindC;exact CA (i:=i) (List.nodup_cons.mp nd).2 (by simpa using h1) (by simpa using h2) hk
noncomputable def start(N:List Str)(vs:List V):St:=vs.map some++List.replicate (N.length-vs.length) none
noncomputable def vP(CX:CXT)(P:Program)(w:World)(K:Fg)(mg:Str->Option Value)(base:Heap)(N:List Str)(qual:Str)(scope:Scope)(f:Addr)(cd:Value)(A:Around)(outer:List Env)(s:Shared)(H:Hp)(E:XK)(q:Bool:=true):Cx where
 prog:=P
 w:=w
 K:=K
 mg:=mg
 base:=base
 A:=A.deeper (envOfC qual scope s.heap.objs.size f cd)
 N:=N
 s₀:=s
 H₀:=H
 env:=envOfC qual scope s.heap.objs.size f cd
 outer:=outer
 stack:=envOfC qual scope s.heap.objs.size f cd::outer
 ex:=[]
 calm:=q
 fn:=fun _=>true
 pn:=[]
 xe:=fun e s'=>wpAny (model P w) (A.deeper (envOfC qual scope s.heap.objs.size f cd)) (leaving (envOfC qual scope s.heap.objs.size f cd) e) (fun _ s''=>CX outer H s E e s'') (fun e' s''=>CX outer H s E e' s'') s'
theorem HB{sc:Scope}{n:Nat}{x:Str}(h:sc.names.lookup x=some .cell):∃c,(cellsFrom n sc.names []).lookup x=some c:=by
 have q:=PySem.W.cellsFrom_some sc.names n [] (.inl h);exact Option.isSome_iff_exists.mp q
theorem QB{CX:CXT}{P:Program}{w:World}{K:Fg}{mg:Str->Option Value}{base:Heap}{N ps:List Str}{qual:Str}{scope:Scope}{f:Addr}{cd:Value}{A:Around}{outer:List Env}{s s1:Shared}{H:Hp}{E:XK}{us:List Value}{vs:List V}{q:Bool}
 (S:bI N ps scope) (hd:q=true->A.handled=none) (e0:XD P w K mg base A outer s H) (hl:vs.length=ps.length) (r:bQ vs us)
 (x:InCallC s s.heap.objs.size (bindL (envOfC qual scope s.heap.objs.size f cd).kindOf (ps.zip us) fun _=>none) (cellsFrom (s.heap.objs.size+1) scope.names []) (bindC (envOfC qual scope s.heap.objs.size f cd).kindOf (ps.zip us) fun _=>none) s1):
 Inv (vP CX P w K mg base N qual scope f cd A outer s H E q) [] (start N vs) H s1:=by
 have hpl:ps.length<=N.length:=by have:=D4 List.length S.pre;rw[F6]at this;omega
 obtain⟨h1,tk,rfl,hk⟩:=x.done;have noA:∀b:Addr,b∉(vP CX P w K mg base N qual scope f cd A outer s H E q).ex:=fun b z=>absurd (show b∈([]:List Addr)from z) (by simp)
 refine⟨⟨e0.mod,S.kind,rfl,rfl,B3 _,fun y z c h1 h2=>?_,fun y hy=>?_,fun y c _ h=>?_,hd,Around.frames_deeper e0.frames,.inr ⟨rfl,rfl⟩,fun b z=>absurd z (noA b),e0.bs,e0.bsz,fun b _ _=>noA b,fun b z=>absurd z (noA b),e0.funs,e0.frf⟩,
  rfl,e0.bare,Un.kept hk,⟨_,x.toInCall.ns,fun i y v h1 h2 h3=>?_⟩,fun y c h=>⟨_,x.cell y c h⟩,e0.hok.fresh (B3 _),fun y c h=>?_,fun p hp=>absurd (show p∈([]:List (Addr×Obj))from hp) (by simp),e0.hok.kept hk,?_⟩
 .exact name_of_addr x.apart (J8 h1) (J8 h2)
 .have hy:scope.names.lookup y=some .cell\/scope.names.lookup y=some .free:=hy;rcases hy with hy|hy
  .exact HB hy
  .exact absurd rfl (S.nofree _ (J8 hy))
 .exact A0c (x.above y c (J8 h))
 .have hi:i<vs.length:=by
   unfold start at h2;by_cases hi:i<vs.length
   .exact hi
   .rw[E5 (by simpa using hi)]at h2;rw[List.getElem?_replicate]at h2;split at h2<;>cases h2
  have ha:vs[i]?=some v:=by
   unfold start at h2;rw[E3 (by simpa using hi),C4]at h2;cases e:vs[i]? with
   |none=>rw[e]at h2;cases h2
   |some a=>rw[e]at h2;cases h2;rfl
  obtain⟨u,hu,rv⟩:=r.get ha
  have hp:ps[i]?=some y:=by
   rw[<- S.pre,List.getElem?_take_of_lt (by omega)];exact h1
  have ndP:ps.Nodup:=by rw[<- S.pre];exact S.nd.sublist (List.take_sublist _ _)
  refine⟨u,rv,?_⟩;rcases S.par y (List.mem_of_getElem? hp)with k|k
  .exact .inl ⟨k,BS ndP hp hu k⟩
  .obtain⟨c,e⟩:=HB (n:=s.heap.objs.size+1) k;refine .inr ⟨.inl k,c,e,?_⟩;have q:=x.cell y c e;rw[CA ndP hp hu (by show scope.names.lookup y≠_;rw[k];decide)]at q;exact q
 .exact e0.hok.fresh (A0c (x.above y c (J8 h)))
 .unfold start;show _=N.length;rw[A7,A0,U3];omega
theorem aBD{CX:CXT}{P:Program}{w:World}{K:Fg}{mg:Str->Option Value}{base:Heap}{k:Nat}{f:Addr}{name qual:Str}{params:Arguments}{body:List Stmt}{scope:Scope}{dV kV doc pm cdv ct oc:Value}{an od:Option Addr}
 {osl:Array (Option Value)} {N ps:List Str} {sp:Sp} {q:Bool} (lk:K.lookup f=some ⟨oc,od,.func (PySem.W.fnOf name qual params body scope dV kV doc pm an cdv ct),osl⟩) (hcd:PySem.W.codeIn K cdv qual=true) (S:bI N ps scope)
 (len:∀vs H Q E,sp vs H Q E->vs.length=ps.length)
 (hbody:∀(A:Around)(outer:List Env)(s:Shared)(H:Hp)(vs:List V)(Q:VK)(E:XK),fX k (A.deeper (envOfC qual scope s.heap.objs.size f cdv)) q->sp vs H Q E->
  ∃t,PSs (vP CX P w K mg base N qual scope f cdv A outer s H E q) body t/\t { nx:=fun _ H'=>Q .non H',rt:=Q } (start N vs) H):
 rF P w K mg base CX (k+1) f (PySem.W.fnOf name qual params body scope dV kV doc pm an cdv ct) ps sp q:=by
 refine⟨len,fun A outer s H args us vs Q E hr e0 hb r hsp=>?_⟩;have hl:=len _ _ _ _ hsp;have KX:K.In s.heap:=e0.mod.kin.keeps fun b o e=>(e0.bs b o e).1;have lim:s.heap.NoLimit:=e0.mod.nolimit.keeps fun b o e=>(e0.bs b o e).1
 have hkind:∀y∈ps.zip us,scope.names.lookup y.1=some .local\/(scope.names.lookup y.1=some .cell/\((cellsFrom (s.heap.objs.size+1) scope.names []).lookup y.1).isSome=true):=fun⟨n,v⟩ hy=>by
  rcases S.par n (List.of_mem_zip hy).1 with q|q
  .exact .inl q
  .exact .inr ⟨q,PySem.W.cellsFrom_some _ _ _ (.inl q)⟩
 refine codeAny_call_function hr.depth (KX _ _ lk) rfl S.co S.gen rfl (PySem.W.codeRec_of KX hcd) (hb _ _ _ _ ?_);refine wpAny_newFunctionEnv_cells S.kind hkind fun env he s1 x=>?_;subst he;refine⟨lim.keeps x.toInCall.keep,codeAny_func ?_⟩;obtain⟨t,ht,hq⟩:=hbody A outer s H vs Q E (hr.deeper _) hsp;have I:Inv (vP CX P w K mg base N qual scope f cdv A outer s H E q) [] (start N vs) H s1:=QB S hr.hd e0 hl r x;refine Z7 (ht [] s1 (start N vs) H _ I hq) (fun fl s' hs=>?_) fun e s' hs=>hs
 have fin:∀{σ':St}{H':Hp}{v:V}{u:Value},Inv (vP CX P w K mg base N qual scope f cdv A outer s H E q) [] σ' H' s'->RelV v u->Q v H'->CE outer P w H s Q u s':=
  fun{σ' H' v u} J rv q=>⟨v,H',J.os,J.bare,J.base,J.hok,rv,q⟩
 cases fl with
 |ret u=>
  obtain⟨v,σ',H',J,rv,q⟩:=hs;exact fin J rv q
 |next=>
  obtain⟨σ',H',J,q⟩:=hs;exact fin (v:=V.non) (u:=Value.none) J rfl q
 |brk=>
  obtain⟨_,_,_,q⟩:=hs;exact False.elim q
 |cont=>
  obtain⟨_,_,_,q⟩:=hs;exact False.elim q
section
variable{X:Cx}{x:Str}{p pos:Pos}{e:Expr}{es:List Expr}{t:TA}{id T:String}{r:List V->Hp->VK->Prop}
noncomputable def tCB(r:List V->Hp->VK->Prop)(t:TA):TE:=fun σ H Q=>t σ H fun vs H1=>r vs H1 Q
theorem AE(hc:dC X (.builtin id) r)(hg:Gl X x)(hm:X.mg x=none)(hv:bootBuiltins x=some (.builtin id))(ha:PA X (e::es) t)(hn:x≠"__name__":=by decide)(hdb:(x==("__debug__":Str))=false:=by decide)
 (he:starEach (e::es) X.env=(false,eval e X.env)::starEach es X.env:=by rfl) (hpl:(backTo pos (starEach es X.env)).any (·.1)=false:=by rfl):PE X (.Call (.Name x p) (e::es) [] pos) (tCB r t):=by
 intro pins s σ H Q I h;refine Y9 (mM I hg hm hv ?_ hn hdb);exact PyProof.Rows.callWith_builtin1 (thn (ha pos pins s σ H _ I h) fun us s1 ⟨vs,H1,I1,r1,q1⟩=>hc pins s1 σ H1 vs us Q I1 r1 q1) he hpl
theorem NY(hc:dC X (.type T) r)(hg:Gl X x)(hm:X.mg x=none)(hv:bootBuiltins x=some (.type T))(ha:PA X (e::es) t)(hn:x≠"__name__":=by decide)(hdb:(x==("__debug__":Str))=false:=by decide)
 (he:starEach (e::es) X.env=(false,eval e X.env)::starEach es X.env:=by rfl) (hpl:(backTo pos (starEach es X.env)).any (·.1)=false:=by rfl):PE X (.Call (.Name x p) (e::es) [] pos) (tCB r t):=by
 intro pins s σ H Q I h;refine Y9 (mM I hg hm hv ?_ hn hdb);exact J2 (thn (ha pos pins s σ H _ I h) fun us s1 ⟨vs,H1,I1,r1,q1⟩=>hc pins s1 σ H1 vs us Q I1 r1 q1) he hpl
end
end L2
namespace HT
open PySem PyProof.Rows
noncomputable def lexLt:List Int->List Int->Bool
 |[],[]=>false
 |[],_::_=>true
 |_::_,[]=>false
 |x::xs,y::ys=>if x=y then lexLt xs ys else decide (x<y)
theorem lexLt_cons(x y:Int)(xs ys:List Int):lexLt (x::xs) (y::ys)=if x=y then lexLt xs ys else decide (x<y):=rfl
theorem BF:lexLt [] []=false:=rfl
theorem zX(y:Int)(ys:List Int):lexLt [] (y::ys)=true:=rfl
theorem zF(x:Int)(xs:List Int):lexLt (x::xs) []=false:=rfl
theorem WC(A:Around)(s:Shared)(a:Int)(t:Tok)(c:Int)(u:Tok):∃e,SeqAt.EqAt A s (.int a t) (.int c u) e/\(e=true↔a=c):=
 ⟨(a==c),SeqAt.EqAt.int_int a t c u,by simp⟩
theorem rcLt_int(A:Around)(s:Shared)(a:Int)(t:Tok)(c:Int)(u:Tok)(prog:Program)(w:World)(E:Value->Shared->Prop)(Q:Value->Shared->Prop)(h:Q (.bool (decide (a<c))) s):
 wpAny (model prog w) A (richCompare .Lt (.int a t) (.int c u)) Q E s:=
 (PyProof.Rows.lt_int h:wpAny (model prog w) A (compareOp .Lt (.int a t) (.int c u)) Q E s)
section
open PySem.SeqAt
open PySem.AutoSeq1 (wpAny_loadPart')
open PySem.MeetsSeq PySem.MeetsSeq2 PySem.MeetsSeq3
theorem BK(l b:Addr)(items items2:Array Value)(n n2:Nat)(dd dd2:Option Addr)(sl sl2:Array (Option Value))(ns ms:List Int)(hi:IntsAre items.toList ns)(hj:IntsAre items2.toList ms):
 Meets (Builtin.«tuple.__lt__» ⟨[.ref l,.ref b],[]⟩)
  (fun _ R s=>s.heap.get? l=some { cls:=.type "tuple",dict:=dd,data:=.seq items n,slots:=sl }/\s.heap.get? b=some { cls:=.type "tuple",dict:=dd2,data:=.seq items2 n2,slots:=sl2 } /\
   R (.ok (.ret (.bool (lexLt ns ms)))) s):=
 .of_wp fun prog w A R s h=>by
  obtain⟨hp,g,d,tk,os⟩:=s;obtain⟨hl,hb,h⟩:=h;have f2:=AutoSeq1.sub_tuple_tuple;have z1:items.size=ns.length:=by rw[<- hi.length];simp
  have z2:items2.size=ms.length:=by rw[<- hj.length];simp
  wp_walk using U7 hl,U7 hb,wpAny_forIn_list _ (fun rest b s'=>b.1=none/\s'=⟨hp,g,d,tk,os⟩/\∃(vs ws:List Value)(ns' ms':List Int),rest=vs.zip ws /\
   IntsAre vs ns'/\IntsAre ws ms'/\ns'.length+items2.size=ms'.length+items.size/\R (.ok (.ret (.bool (lexLt ns' ms')))) ⟨hp,g,d,tk,os⟩) _
  case turn=>
   rintro⟨y,x⟩ rest b s' ⟨hb',rfl,vs,ws,ns',ms',hz,hvi,hwi,hlen,hR⟩;cases hvi with
   |nil=>rw[List.zip_nil_left]at hz;cases hz
   |cons a t hvi'=>
    cases hwi with
    |nil=>rw[List.zip_nil_right]at hz;cases hz
    |cons c u hwi'=>
     rw[A0a]at hz;injection hz with hyx hrest
     injection hyx with hy hx
     subst hy hx;rw[lexLt_cons]at hR;simp only[List.length_cons]at hlen;obtain⟨e,he,hiff⟩:=WC A.in1 ⟨hp,g,d,tk,os⟩ a t c u;refine A2 (he prog w _ _ ?_);cases e with
     |true=>
      rw[A4 (hiff.mp rfl)]at hR
      wp_walk
      exact⟨rfl,rfl,_,_,_,_,hrest,hvi',hwi',by omega,hR⟩
     |false=>
      rw[B0 (fun q=>absurd (hiff.mpr q) A9)]at hR;have hri:=rcLt_int A.in1 ⟨hp,g,d,tk,os⟩ a t c u prog w
      wp_walk using hri
      exact⟨_,rfl,by simpa using hR⟩
  case fin=>
   rintro⟨b1,b2⟩ s' ⟨hb',rfl,vs,ws,ns',ms',hz,hvi,hwi,hlen,hR⟩;simp only at hb';subst hb'
   have hv:lexLt ns' ms'=decide (items.size<items2.size):=by
    cases hvi with
    |nil=>
     cases hwi with
     |nil=>
      simp only[List.length_nil]at hlen;rw[BF];exact(E1 (by omega)).symm
     |cons c u hw=>
      simp only[List.length_nil,List.length_cons]at hlen;rw[zX];exact(C5 (by omega)).symm
    |cons a t hv=>
     cases hwi with
     |nil=>
      simp only[List.length_nil,List.length_cons]at hlen;rw[zF];exact(E1 (by omega)).symm
     |cons c u hw=>
      rw[A0a]at hz;cases hz
   rw[hv]at hR
   wp_walk
   exact⟨_,rfl,by simpa[Builtin.Tuple.tupleCompareSizes]using hR⟩
  case h=>
   exact⟨rfl,rfl,items.toList,items2.toList,ns,ms,rfl,hi,hj,by omega,h⟩
end
section
variable{prog:Program}{w:World}{A:Around}{E:Value->Shared->Prop}{s:Shared}
theorem lt_tupInts{l b:Addr}{items items2:Array Value}{ns ms:List Int}{Q:Value->Shared->Prop}(hl:IsTup s.heap l items)(hb:IsTup s.heap b items2)(hi:IntsAre items.toList ns)(hj:IntsAre items2.toList ms)
 (hu:A.units<cLine) (h:Q (.bool (lexLt ns ms)) s):wpAny (model prog w) A (compareOp .Lt (.ref l) (.ref b)) Q E s:=by
 obtain⟨⟨cls,dd,data,sl⟩,ho,hc,n,hd⟩:=id hl;obtain⟨⟨cls2,dd2,data2,sl2⟩,ho2,hc2,n2,hd2⟩:=id hb;simp only at hc hd hc2 hd2;subst hc hd hc2 hd2
 exact richCompare_meets_room (op:=.Lt) ⟨_,ho,rfl⟩ ⟨_,ho2,rfl⟩ A0e PySem.F.entry_tuple_lt (PySem.F.args_tuple_lt_2 _ _) (BK l b items items2 n n2 dd dd2 sl sl2 ns ms hi hj)
  ⟨ho,ho2,show Value.bool (lexLt ns ms)≠Value.notImplemented/\Q (.bool (lexLt ns ms)) s from⟨(fun x=>nomatch x),h⟩⟩ hu
theorem cat_tup{t b:Addr}{vs ws:List Value}{Q:Value->Shared->Prop}(ht:IsTup s.heap t vs.toArray)(hb:IsTup s.heap b ws.toArray)(hv:vs≠[])
 (h1:ws=[]->Q (.ref t) s) (h2:ws≠[]->Q (.ref s.heap.objs.size) { s with heap:=s.heap.push { cls:=.type "tuple",data:=.seq (vs++ws).toArray } })
 (hsz:vs.length+ws.length<=sizeLine):wpAny (model prog w) A (binaryOp .Add (.ref t) (.ref b)) Q E s:=by
 obtain⟨⟨cls,dd,data,sl⟩,ho,hc,n,hd⟩:=id ht;obtain⟨⟨cls2,dd2,data2,sl2⟩,ho2,hc2,n2,hd2⟩:=id hb;simp only at hc hd hc2 hd2;subst hc hd hc2 hd2;have e:vs.toArray++ws.toArray=(vs++ws).toArray:=by simp
 by_cases hw:ws=[]
 .exact concat_meets ⟨_,ho,rfl⟩ ⟨_,ho2,rfl⟩ noFill_tuple_add seq_tuple_add PySem.F.slot_tuple_add PySem.F.entry_tuple_add (PySem.F.args_tuple_add_2 _ _)
   (tuple_addW1 t b vs.toArray ws.toArray n n2 dd dd2 sl sl2 (by simpa using hv) (by simp[hw])) ⟨ho,ho2,h1 hw⟩
 .refine concat_meets ⟨_,ho,rfl⟩ ⟨_,ho2,rfl⟩ noFill_tuple_add seq_tuple_add PySem.F.slot_tuple_add PySem.F.entry_tuple_add (PySem.F.args_tuple_add_2 _ _)
   (tuple_addW2 t b vs.toArray ws.toArray n n2 dd dd2 sl sl2 (by simpa using hv) (by simpa using hw) (by rw[C6,C6];exact hsz)) ⟨ho,ho2,?_⟩
  rw[e];exact h2 hw
noncomputable def sIx(n d:Nat):Option Int->Nat
 |none=>d
 |some v=>if v<0 then(v+(n:Int)).toNat else min v.toNat n
theorem sIx_none(n d:Nat):sIx n d none=d:=rfl
theorem sIx_nat(n d k:Nat):sIx n d (some (k:Int))=min k n:=by
 show(if (k:Int)<0 then((k:Int)+(n:Int)).toNat else min (k:Int).toNat n)=min k n;rw[B0 (by omega),E4]
theorem aCf(n d:Nat)(hd:d<=n)(o:Option Int):sIx n d o<=n:=by
 cases o with
 |none=>exact hd
 |some v=>
  show(if v<0 then(v+(n:Int)).toNat else min v.toNat n)<=n;by_cases hv:v<0
  .rw[A4 hv];omega
  .rw[B0 hv];exact Nat.min_le_right _ _
theorem KZ(v:Int)(n d:Nat):(if v<0 then max (v+(n:Int)) 0 else min v (n:Int))=((sIx n d (some v):Nat):Int):=by
 show(if v<0 then max (v+(n:Int)) 0 else min v (n:Int))=(((if v<0 then(v+(n:Int)).toNat else min v.toNat n):Nat):Int);by_cases hv:v<0
 .simp only[if_pos hv];omega
 .simp only[if_neg hv];omega
theorem KN(lo hi:Option Int)(n:Nat):Builtin.Slice.sliceAdjust lo hi 1 (n:Int)=(((sIx n 0 lo:Nat):Int),((sIx n n hi:Nat):Int)):=by
 have h1:¬((1:Int)<0):=by omega
 unfold Builtin.Slice.sliceAdjust;simp only[h1,if_false];refine Prod.ext ?_ ?_
 .cases lo with
  |none=>rfl
  |some v=>exact KZ v n 0
 .cases hi with
  |none=>rfl
  |some v=>exact KZ v n n
theorem JX(i j:Nat):Builtin.Slice.slicePlaces (i:Int) (j:Int) 1=j-i:=by
 unfold Builtin.Slice.slicePlaces;have h1:(1:Int) > 0:=by omega
 simp only[h1,if_true,Int.ediv_one];split<;>omega
theorem sU{v:Value}{o:Option Int}{Q:Option Int->Shared->Prop}(p:IsPart v o)(h:Q o s):wpAny (model prog w) A (Builtin.Slice.slicePartIndex v) Q E s:=by
 cases p with
 |none=>exact slicePart_none h
 |int i t=>exact slicePart_int h
theorem oM{sl:Addr}{vl vu:Value}{lo hi:Option Int}{n:Nat}{Q:Int×Int×Nat->Shared->Prop}(hs:s.heap.IsSliceOf sl vl vu .none)(pl:IsPart vl lo)(pu:IsPart vu hi)
 (h:Q (((sIx n 0 lo:Nat):Int),1,sIx n n hi-sIx n 0 lo) s):wpAny (model prog w) A (Builtin.Slice.sliceApplied (.ref sl) (pure (n:Int))) Q E s:=by
 obtain⟨os,hos,hcs,hds⟩:=id hs;unfold Builtin.Slice.sliceApplied Builtin.Slice.sliceFields;refine A2 (A2 (L0 hos hds (x:=vl) rfl (A2 (L0 hos hds (x:=vu) rfl (A2 (L0 hos hds (x:=.none) rfl (B4 ?_)))))));refine A2 (slicePart_none ?_);show wpAny _ _ (if ((1:Int)==0)=true then _ else _) _ _ s;rw[B0 (by decide)];refine A2 (sU pl (A2 (sU pu (A2 (B4 ?_)))));show wpAny _ _ (match Builtin.Slice.sliceAdjust lo hi 1 (n:Int)with|(lo,hi)=>pure (lo,(1:Int),Builtin.Slice.slicePlaces lo hi 1)) _ _ s;rw[KN lo hi n];show wpAny _ _ (pure (((sIx n 0 lo:Nat):Int),(1:Int),Builtin.Slice.slicePlaces ((sIx n 0 lo:Nat):Int) ((sIx n n hi:Nat):Int) 1)) _ _ s;rw[JX];exact B4 h
theorem VY(xs:Array Value)(i k:Nat):((List.range k).filterMap fun(m:Nat)=>xs[((i:Int)+(m:Int)*1).toNat]?).toArray=((xs.toList.drop i).take k).toArray:=by
 have e:(fun(m:Nat)=>xs[((i:Int)+(m:Int)*1).toNat]?)=fun m=>xs[i+m]?:=by
  funext m;have:((i:Int)+(m:Int)*1).toNat=i+m:=by omega
  rw[this]
 rw[e];have:=pick_run xs i k;rw[List.filterMap_map]at this;have e2:((fun x=>xs[x]?) ∘ fun x=>i+x)=fun m=>xs[i+m]?:=rfl;rw[e2]at this;rw[this]
theorem getItem_tuple_cut{t sl:Addr}{items:Array Value}{vl vu:Value}{lo hi:Option Int}{Q:Value->Shared->Prop}(ht:IsTup s.heap t items)(hs:s.heap.IsSliceOf sl vl vu .none)(pl:IsPart vl lo)(pu:IsPart vu hi)
 (hw:¬(sIx items.size 0 lo=0/\sIx items.size items.size hi=items.size))
 (h:Q (.ref s.heap.objs.size) { s with heap:=s.heap.push { cls:=.type "tuple",data:=.seq ((items.toList.drop (sIx items.size 0 lo)).take (sIx items.size items.size hi-sIx items.size 0 lo)).toArray } })
 (hsz:items.size<=sizeLine):wpAny (model prog w) A (getItem (.ref t) (.ref sl)) Q E s:=by
 have htake:sizeOk (.seq ((items.toList.drop (sIx items.size 0 lo)).take (sIx items.size items.size hi-sIx items.size 0 lo)).toArray):=by
  show((items.toList.drop (sIx items.size 0 lo)).take (sIx items.size items.size hi-sIx items.size 0 lo)).toArray.size<=sizeLine;rw[C6,F6,J7,Z3];omega
 have hj:sIx items.size items.size hi<=items.size:=aCf _ _ (B3 _) hi;obtain⟨os,hos,hcs,hds⟩:=id hs;have hTs:s.TypeIs (.ref sl) "slice":=⟨os,hos,hcs⟩;unfold getItem
 try with_reducible refine S5 ?_
 first|refine A2 (B4 ?_)|skip
 refine A2 (wpAny_sequenceKey ht.typeIs (by decide) ?_)
 refine A2 (O9 (name:=Str.ofString "__getitem__") ht.typeIs L7
  (O6 L7 ht.typeIs entry_tuple_getitem ?_ (args_tuple_getitem _ _)))
 show wpAny _ _ (Builtin.Tuple.tupleItemsOf (.ref t) >>= _) _ _ s;refine A2 (tupleItemsOf_ ht ?_);refine A2 (A0v hTs ?_);rw[A4 (by decide)];refine A2 (oM hs pl pu ?_)
 have hno:¬((((sIx items.size 0 lo:Nat):Int)==0&&(1:Int)==1&&(sIx items.size items.size hi-sIx items.size 0 lo)==items.size)=true):=by
  intro q;rw[B5,B5]at q;have q1:((sIx items.size 0 lo:Nat):Int)=0:=eq_of_beq q.1.1;have q2:sIx items.size items.size hi-sIx items.size 0 lo=items.size:=eq_of_beq q.2;exact hw ⟨by omega,by omega⟩
 show wpAny _ _ (if (((sIx items.size 0 lo:Nat):Int)==0&&(1:Int)==1&&(sIx items.size items.size hi-sIx items.size 0 lo)==items.size)=true then _ else _) _ _ s;rw[B0 hno,VY]
 first
  |exact A2 (m:=Builtin.Tuple.tupleExact _) (J3 (B4 ⟨_,rfl,B4 h⟩) htake)
  |exact A2 (m:=Builtin.Tuple.tupleExact _) (J3 (A2 (B4 (B4 ⟨_,rfl,B4 h⟩))) htake)
  |exact A2 (A2 (m:=Builtin.Tuple.tupleExact _) (J3 (B4 (B4 ⟨_,rfl,B4 h⟩)) htake))
  |exact A2 (A2 (m:=Builtin.Tuple.tupleExact _) (J3 (B4 ⟨_,rfl,B4 h⟩) htake))
end
end HT
namespace L2
variable{H:Hp}{σ:St}{s:Shared}
open PySem PySem.Spec PyProof.Rows
noncomputable abbrev TO:=St->Hp->(Option Int->Hp->Prop)->Prop
noncomputable def PO(X:Cx)(e:Option Expr)(t:TO):Prop:=
 ∀(pins:List (Addr×Obj))(s:Shared)(σ:St)(H:Hp)(Q:Option Int->Hp->Prop),Inv X pins σ H s->t σ H Q->
  wpAny (model X.prog X.w) X.A (evalPart e X.env) (fun u s'=>∃o H',Inv X pins σ H' s'/\IsPart u o/\Q o H') X.xe s
noncomputable def ND:TO:=fun _ H Q=>Q none H
noncomputable def aBG(t:TE):TO:=fun σ H Q=>t σ H fun x H1=>∃i,x=.int i/\Q (some i) H1
theorem intsAre_of{ns:List Int}:∀{us:List Value},bQ (ns.map V.int) us->IntsAre us ns:=by
 induction ns with
 |nil=>intro us r;rw[List.map_nil]at r;cases r;exact .nil
 |cons n ns ih=>
  intro us r;rw[B6]at r;cases r with
  |cons r1 r2=>
   obtain⟨t,e⟩:=r1;subst e;exact .cons n t (ih r2)
section
variable{X:Cx}{e:Expr}{te:TE}{lo hi:Option Expr}{tl th:TO}{pos p2:Pos}
theorem ZG:PO X none ND:=by
 intro pins s σ H Q I h;rw[evalPart_none];exact B4 ⟨none,H,I,.none,h⟩
theorem YR(h:PE X e te):PO X (some e) (aBG te):=by
 intro pins s σ H Q I hw;rw[evalPart_some];refine thn (h pins s σ H _ I hw) fun u s1 ⟨x,H1,I1,r1,q1⟩=>?_;obtain⟨i,rfl,q⟩:=q1;obtain⟨t,rfl⟩:=r1;exact⟨some i,H1,I1,.int i t,q⟩
noncomputable def SlR(X:Cx)(r:V->Option Int->Option Int->Hp->VK->Prop):Prop:=
 ∀(pins:List (Addr×Obj))(s:Shared)(σ:St)(H:Hp)(x:V)(v vl vu:Value)(lo hi:Option Int)(sl:Addr)(Q:VK),Inv X pins σ H s->RelV x v->s.heap.IsSliceOf sl vl vu .none->IsPart vl lo->IsPart vu hi->r x lo hi H Q->
  ∃T id,typeLookup (.type T) "__getitem__"=pure (some (.builtin id))/\s.TypeIs v T/\wpAny (model X.prog X.w) X.A (getItem v (.ref sl)) (EP X pins σ Q) X.xe s
theorem SlR.or{r r':V->Option Int->Option Int->Hp->VK->Prop}(h:SlR X r)(h':SlR X r'):SlR X (fun x lo hi H Q=>r x lo hi H Q\/r' x lo hi H Q):=by
 intro pins s σ H x v vl vu lo hi sl Q I rx hs pl pu q;rcases q with q|q
 .exact h pins s σ H x v vl vu lo hi sl Q I rx hs pl pu q
 .exact h' pins s σ H x v vl vu lo hi sl Q I rx hs pl pu q
noncomputable def tSl(r:V->Option Int->Option Int->Hp->VK->Prop)(te:TE)(tl th:TO):TE:=fun σ H Q=>te σ H fun x H1=>tl σ H1 fun l H2=>th σ H2 fun u H3=>r x l u H3 Q
theorem UW{r:V->Option Int->Option Int->Hp->VK->Prop}(hr:SlR X r)(he:PE X e te)(hl:PO X lo tl)(hu:PO X hi th):PE X (.Subscript e (.Slice lo hi none p2) pos) (tSl r te tl th):=by
 intro pins s σ H Q I h;refine Subscript_ (thn (he pins s σ H _ I h) fun v s1 ⟨x,H1,I1,r1,q1⟩=>?_);refine wpAny_Slice (thn (hl pins s1 σ H1 _ I1 q1) fun vl s2 ⟨l,H2,I2,pl,q2⟩=>thn (hu pins s2 σ H2 _ I2 q2) fun vu s3 ⟨u,H3,I3,pu,q3⟩=>?_);rw[evalPart_none];refine B4 ?_;have I4:Inv X pins σ H3 { s3 with heap:=s3.heap.push { cls:=.type "slice",data:=.fields #[vl,vu,.none] } }:=I3.kept (t':=s3.toks) fun b ob q=>A1 _ q;obtain⟨T,id,hT,ht,hg⟩:=hr pins { s3 with heap:=s3.heap.push { cls:=.type "slice",data:=.fields #[vl,vu,.none] } } σ H3 x v vl vu l u s3.heap.objs.size Q I4 r1 (Heap.IsSliceOf.new ..) pl pu q3;show wpAny (model X.prog X.w) X.A (subscriptTail e (.Slice lo hi none p2) v (.ref s3.heap.objs.size)) (EP X pins σ Q) X.xe { s3 with heap:=s3.heap.push { cls:=.type "slice",data:=.fields #[vl,vu,.none] } };exact tail_any (ops:=[.ref s3.heap.objs.size,v]) ht hT hg (by with_unfolding_all rfl)
noncomputable def wC(xs:List V)(lo hi:Option Int):List V:=(xs.drop (HT.sIx xs.length 0 lo)).take (HT.sIx xs.length xs.length hi-HT.sIx xs.length 0 lo)
theorem xB(xs:List V)(lo hi:Option Int):(wC xs lo hi).length<=xs.length:=by
 unfold wC;rw[F6,J7];omega
noncomputable def aEI(K:Fg):V->Option Int->Option Int->Hp->VK->Prop:=fun x lo hi H Q=>∃a xs,x=.ref a/\SqT K H a xs /\
 ¬(HT.sIx xs.length 0 lo=0/\HT.sIx xs.length xs.length hi=xs.length)/\∀p,H p=none->Q (.ref p) (upd H p (.tup (wC xs lo hi)))
theorem sl_tup:SlR X (aEI X.K):=by
 intro pins s σ H x v vl vu lo hi sl Q I rx hs pl pu h;obtain⟨a,xs,rfl,hx,hw,q⟩:=h;cases rx;obtain⟨its,r,ht,hz⟩:=I.tuple hx;have hlen:its.toArray.size=xs.length:=by rw[C6];exact r.length.symm
 refine⟨"tuple",_,PyProof.Rows.slot_tuple_getitem.lookup,ht.typeIs,?_⟩;refine HT.getItem_tuple_cut ht hs pl pu (by rw[hlen];exact hw) ?_ (by rw[hlen];exact hz);rw[hlen];refine⟨.ref s.heap.objs.size,_,I.laid (t':=s.toks) (o:=.tup (wC xs lo hi)) (fun b ob q=>A1 _ q) (B3 _) ?_,rfl,q _ (I.hok.fresh (B3 _))⟩;exact⟨J4 (xB xs lo hi) hz,_,(r.drop (HT.sIx xs.length 0 lo)).take (HT.sIx xs.length xs.length hi-HT.sIx xs.length 0 lo),IsTup.new _ _⟩
noncomputable def VB(K:Fg):R2:=fun x y H Q=>∃a b xs ys,x=.ref a/\y=.ref b/\SqT K H a xs/\SqT K H b ys/\xs≠[]/\xs.length+ys.length<=sizeLine /\
 (ys=[]->Q (.ref a) H)/\(ys≠[]->∀p,H p=none->Q (.ref p) (upd H p (.tup (xs++ys))))
theorem bQ.nil_iff{xs:List V}{us:List Value}(r:bQ xs us):us=[]↔xs=[]:=by
 cases r with
 |nil=>simp
 |cons _ _=>simp
theorem aAm:OpR X (binaryOp .Add) (VB X.K):=by
 intro pins s σ H x y v u Q I rx ry h;obtain⟨a,b,xs,ys,rfl,rfl,ha,hb,hx,hz,q1,q2⟩:=h;cases rx;cases ry;obtain⟨its,r1,p1,_⟩:=I.tuple ha;obtain⟨its2,r2,p2,_⟩:=I.tuple hb;refine HT.cat_tup p1 p2 (fun z=>hx (r1.nil_iff.mp z)) (fun z=>⟨.ref a,H,I,rfl,q1 (r2.nil_iff.mp z)⟩) (fun z=>?_) (by rw[<- r1.length,<- r2.length];exact hz);refine⟨.ref s.heap.objs.size,_,I.laid (t':=s.toks) (o:=.tup (xs++ys)) (fun b ob q=>A1 _ q) (B3 _) ?_,rfl,q2 (fun w=>z (r2.nil_iff.mpr w)) _ (I.hok.fresh (B3 _))⟩;exact⟨by rw[A7];exact hz,_,r1.append r2,IsTup.new _ _⟩
end
noncomputable def ixN(n:Nat)(i:Int):Option Nat:=if 0<=i then(if i<n then some i.toNat else none)else if -(n:Int)<=i then some (i+n).toNat else none
noncomputable def atI{α:Type}(xs:List α)(i:Int):Option α:=(ixN xs.length i).bind fun j=>xs[j]?
theorem LZ{n:Nat}{i:Int}{j:Nat}(h:ixN n i=some j):seqIndex? i n=some j/\j<n/\-(n:Int)<=i/\i<n:=by
 unfold ixN at h;by_cases h0:0<=i
 .rw[A4 h0]at h;by_cases h1:i<n
  .rw[A4 h1]at h;have e:i.toNat=j:=D5 h;exact⟨by rw[seqIndex_of h0 h1,e],by omega,by omega,h1⟩
  .rw[B0 h1]at h;cases h
 .rw[B0 h0]at h;by_cases h1:-(n:Int)<=i
  .rw[A4 h1]at h;have e:(i+n).toNat=j:=D5 h;exact⟨by rw[seqIndex_neg (by omega) h1,e],by omega,h1,by omega⟩
  .rw[B0 h1]at h;cases h
theorem FL{α:Type}{xs:List α}{i:Int}{v:α}(h:atI xs i=some v):∃j,seqIndex? i xs.length=some j/\xs[j]?=some v/\j<xs.length/\-(xs.length:Int)<=i/\i<xs.length:=by
 unfold atI at h;cases e:ixN xs.length i with
 |none=>rw[e]at h;cases h
 |some j=>
  rw[e]at h;obtain⟨h1,h2,h3,h4⟩:=LZ e;exact⟨j,h1,h,h2,h3,h4⟩
theorem jC{α:Type}{xs:List α}{j:Nat}{v:α}(h:xs[j]?=some v):atI xs (j:Int)=some v:=by
 have hj:j<xs.length:=(List.getElem?_eq_some_iff.mp h).1
 have e:ixN xs.length (j:Int)=some j:=by
  unfold ixN;rw[A4 (by omega),A4 (by omega)];simp
 unfold atI;rw[e];exact h
noncomputable def MN(b:Expr):Prop:=∀o i,subscripted b false o i=operate [o,i] (getItem o i)
noncomputable def IxR(X:Cx)(r:R2):Prop:=
 ∀(value slice:Expr)(pins:List (Addr×Obj))(s:Shared)(σ:St)(H:Hp)(x y:V)(v u:Value)(Q:VK),Inv X pins σ H s->RelV x v->RelV y u->r x y H Q->
  subscripted slice false v u=operate [v,u] (getItem v u)->wpAny (model X.prog X.w) X.A (subscriptTail value slice v u) (EP X pins σ Q) X.xe s
noncomputable def MtR(X:Cx)(id:String)(r:V->List V->Hp->VK->Prop):Prop:=
 ∀(pins:List (Addr×Obj))(s:Shared)(σ:St)(H:Hp)(x:V)(xs:List V)(v:Value)(us:List Value)(Q:VK),Inv X pins σ H s->RelV x v->bQ xs us->r x xs H Q->
  wpAny (model X.prog X.w) X.A (call (.builtin id) (v::us)) (EP X pins σ Q) X.xe s
section
variable{X:Cx}{a b:Expr}{ta tb:TE}{pos:Pos}
theorem IxR.or{r r':R2}(h:IxR X r)(h':IxR X r'):IxR X (fun x y H Q=>r x y H Q\/r' x y H Q):=by
 intro value slice pins s σ H x y v u Q I rx ry q hs;rcases q with q|q
 .exact h value slice pins s σ H x y v u Q I rx ry q hs
 .exact h' value slice pins s σ H x y v u Q I rx ry q hs
theorem aFg{r:R2}(hr:IxR X r)(ha:PE X a ta)(hb:PE X b tb)(hs:MN b):PE X (.Subscript a b pos) (tOp r ta tb):=by
 intro pins s σ H Q I h;exact Subscript_ (aCH ha hb I h fun v u s2 x y H2 I2 rx ry q=>hr a b pins s2 σ H2 x y v u Q I2 rx ry q (hs _ _))
noncomputable def aEy(K:Fg):R2:=fun x y H Q=>∃p xs i v,x=.ref p/\y=.int i/\SqL K H p xs/\atI xs i=some v/\Q v H
noncomputable def aEG(K:Fg):R2:=fun x y H Q=>∃p xs i v,x=.ref p/\y=.int i/\SqT K H p xs/\atI xs i=some v/\Q v H
noncomputable def aEW:R2:=fun x y H Q=>∃z i c,x=.str z/\y=.int i/\z.length<=sizeLine/\atI z.cps.toList i=some c/\Q (.str ⟨#[c]⟩) H
theorem ix_list:IxR X (aEy X.K):=by
 intro value slice pins s σ H x y v u Q I rx ry h hs;obtain⟨p,xs,i,z,rfl,rfl,hq,he,q⟩:=h;cases rx;obtain⟨t,rfl⟩:=ry;obtain⟨its,r,pl,hz⟩:=I.list hq;obtain⟨j,h1,h2,h3,h4,h5⟩:=FL he;obtain⟨w,ew,rw'⟩:=r.get h2;have hl:=r.length;have hn:=wD;have fin:EP X pins σ Q w s:=⟨z,H,I,rw',q⟩;by_cases h0:0<=i
 .have hj:i.toNat=j:=by
   rw[seqIndex_of h0 h5]at h1;exact D5 h1
  exact item_listR pl.isList h0 (by omega) (by rw[hj];simpa using ew) fin hs
 .have hj:(i+(its.toArray.size:Int)).toNat=j:=by
   rw[seqIndex_neg (by omega) h4]at h1;rw[C6,<- hl];exact D5 h1
  exact subscriptTail_builtinR (x:=w) pl.isList.typeIs slot_list_getitem.lookup
   (wpAny_getItem_list_neg (Q:=fun r s'=>r=w/\EP X pins σ Q r s') pl.isList (by omega) (by rw[C6]<;>omega) (by omega) (by rw[hj];simpa using ew) ⟨rfl,fin⟩) hs
theorem ix_tup:IxR X (aEG X.K):=by
 intro value slice pins s σ H x y v u Q I rx ry h hs;obtain⟨p,xs,i,z,rfl,rfl,hq,he,q⟩:=h;cases rx;obtain⟨t,rfl⟩:=ry;obtain⟨its,r,pl,hz⟩:=I.tuple hq;obtain⟨j,h1,h2,h3,h4,h5⟩:=FL he;obtain⟨w,ew,rw'⟩:=r.get h2;have hl:=r.length;have hn:=wD;have fin:EP X pins σ Q w s:=⟨z,H,I,rw',q⟩
 exact subscriptTail_builtinR (x:=w) pl.typeIs slot_tuple_getitem.lookup
  (getItem_tuple (j:=j) (Q:=fun r s'=>r=w/\EP X pins σ Q r s') pl (by omega) (by omega) (by rw[C6,<- hl];exact h1) (by simpa using ew) ⟨rfl,fin⟩) hs
theorem aCd:IxR X aEW:=by
 intro value slice pins s σ H x y v u Q I rx ry h hs;obtain⟨z,i,c,rfl,rfl,hz,he,q⟩:=h;obtain⟨t,rfl⟩:=rx;obtain⟨t',rfl⟩:=ry;obtain⟨j,h1,h2,h3,h4,h5⟩:=FL he;have hl:z.cps.toList.length=z.length:=by simp[Str.length]
 rw[hl]at h1 h4 h5;have hn:=wD
 exact tail_any (typeIs_str s z t) slot_str_getitem.lookup (getItem_str (c:=c) (by
  have e1:decide (i < -(2 ^ 63:Int))=false:=E1 (by omega);have e2:decide (i>=2 ^ 63)=false:=E1 (by omega);rw[e1,e2,Bool.or_false]) (by rw[h1];simpa using h2) ⟨.str ⟨#[c]⟩,H,I.tok _,⟨_,rfl⟩,q⟩) hs
noncomputable def rIx(K:Fg):R2:=fun x y H Q=>aEy K x y H Q\/aEG K x y H Q\/aEW x y H Q
theorem aDw:IxR X (rIx X.K):=ix_list.or (ix_tup.or aCd)
theorem KL(its:List Value)(n j:Nat)(u:Value):Obj.mapSeq (·.setIfInBounds j u) { cls:=.type "list",data:=.seq its.toArray n }={ cls:=.type "list",data:=.seq (its.set j u).toArray n }:=by
 simp[Obj.mapSeq]
theorem Inv.lst{pins:List (Addr×Obj)}{p:Addr}{xs:List V}(I:Inv X pins σ H s)(h:H p=some (.lst xs)):
 ∃(its:List Value)(n:Nat),bQ xs its/\s.heap.get? p=some { cls:=.type "list",data:=.seq its.toArray n }/\xs.length<=sizeLine:=by
 obtain⟨z,its,n,r,e⟩:=I.hok p _ h;exact⟨its,n,r,e,z⟩
theorem Inv.lstUpd{pins:List (Addr×Obj)}{p:Addr}{xs ys:List V}{its its':List Value}{n n':Nat}{f:Obj->Obj}(I:Inv X pins σ H s)(h:H p=some (.lst xs))
 (ho:s.heap.get? p=some { cls:=.type "list",data:=.seq its.toArray n }) (hf:f { cls:=.type "list",data:=.seq its.toArray n }={ cls:=.type "list",data:=.seq its'.toArray n' }) (r:bQ ys its') (hz:ys.length<=sizeLine) (t:Nat):
 Inv X pins σ (upd H p (.lst ys)) { s with heap:=s.heap.update p f,toks:=t }:=by
 have e:(s.heap.update p f).get? p=some { cls:=.type "list",data:=.seq its'.toArray n' }:=by
  rw[Heap.get?_update_self f ho (by rw[hf]<;>rfl),hf]
 refine I.write (x:=p) (e:=p) (by rw[h];trivial) (.inl rfl) (fun b u hb q=>(Heap.get?_update_other _ _ (Z9 hb)).trans q) ⟨_,e⟩ ?_;exact⟨hz,its',n',r,e⟩
noncomputable def aAY:V->V->V->Hp->(Hp->Prop)->Prop:=fun o i v H Q=>∃p xs k j,o=.ref p/\i=.int k/\H p=some (.lst xs)/\ixN xs.length k=some j/\Q (upd H p (.lst (xs.set j v)))
theorem set_list:aDm X aAY:=by
 intro pins s σ H o i v ov iv u Q I ro ri rv h;obtain⟨p,xs,k,j,rfl,rfl,hp,hj,q⟩:=h;cases ro;obtain⟨t,rfl⟩:=ri;obtain⟨its,n,r,ho,hz⟩:=I.lst hp;obtain⟨h1,h2,h3,h4⟩:=LZ hj;have hl:=r.length;have hn:=wD
 have I':Inv X pins σ (upd H p (.lst (xs.set j v))) { s with heap:=s.heap.update p (Obj.mapSeq (·.setIfInBounds j u)) }:=
  I.lstUpd hp ho (KL its n j u) (r.set rv j) (by rw[S3];exact hz) s.toks
 by_cases h0:0<=k
 .have hk:k.toNat=j:=by
   rw[seqIndex_of h0 h4]at h1;exact D5 h1
  exact PySem.W.ki_setAt ho h0 (by omega) (by rw[C6,<- hl];exact h4) (by rw[hk];exact⟨_,I',q⟩)
 .have hk:(k+(its.toArray.size:Int)).toNat=j:=by
   rw[seqIndex_neg (by omega) h3]at h1;rw[C6,<- hl];exact D5 h1
  exact PySem.W.ki_setBack ho (by omega) (by rw[C6,<- hl];exact h3) (by omega) (by rw[hk];exact⟨_,I',q⟩)
theorem ER(lo hi:Option Int)(n:Nat):(sliceBounds lo hi none n).1=((HT.sIx n 0 lo:Nat):Int)/\(sliceBounds lo hi none n).2.1=((HT.sIx n n hi:Nat):Int)/\(sliceBounds lo hi none n).2.2=1:=by
 refine⟨?_,?_,rfl⟩
 .cases lo with
  |none=>simp[sliceBounds,HT.sIx]
  |some i=>
   simp only[sliceBounds,HT.sIx,Option.getD_none,show(1:Int) > 0 by decide,if_true];by_cases h:i<0
   .simp only[h,if_true]<;>omega
   .simp only[h,if_false]<;>omega
 .cases hi with
  |none=>simp[sliceBounds,HT.sIx]
  |some i=>
   simp only[sliceBounds,HT.sIx,Option.getD_none,show(1:Int) > 0 by decide,if_true];by_cases h:i<0
   .simp only[h,if_true]<;>omega
   .simp only[h,if_false]<;>omega
theorem AY(its:List Value)(lo hi:Option Int):slicePick its.toArray lo hi none=((its.drop (HT.sIx its.length 0 lo)).take (HT.sIx its.length its.length hi-HT.sIx its.length 0 lo)).toArray:=by
 obtain⟨h1,h2,h3⟩:=ER lo hi its.toArray.size;unfold slicePick;rw[h1,h2,h3];simp only[sliceRange_one,pick_run,List.size_toArray]<;>rfl
noncomputable def aFk(K:Fg):V->Option Int->Option Int->Hp->VK->Prop:=fun x lo hi H Q=>∃a xs,x=.ref a/\SqL K H a xs/\∀p,H p=none->Q (.ref p) (upd H p (.lst (wC xs lo hi)))
theorem sl_list:SlR X (aFk X.K):=by
 intro pins s σ H x v vl vu lo hi sl Q I rx hs pl pu h;obtain⟨a,xs,rfl,hx,q⟩:=h;cases rx;obtain⟨its,r,ht,hz⟩:=I.list hx;have hlen:=r.length;refine⟨"list",_,slot_list_getitem.lookup,ht.isList.typeIs,?_⟩;refine wpAny_getItem_list_slice ht.isList hs pl pu .none (by simp) ?_ (by rw[C6]<;>omega);rw[AY,<- hlen];refine⟨.ref s.heap.objs.size,_,I.laid (t':=s.toks) (o:=.lst (wC xs lo hi)) (fun b ob q=>A1 _ q) (B3 _) ?_,rfl,q _ (I.hok.fresh (B3 _))⟩;exact⟨J4 (xB xs lo hi) hz,_,0,(r.drop (HT.sIx xs.length 0 lo)).take (HT.sIx xs.length xs.length hi-HT.sIx xs.length 0 lo),B9 _ rfl⟩
theorem FP:dC X (.builtin "len") (fun xs H Q=>∃p ys,xs=[.ref p]/\(SqL X.K H p ys\/SqT X.K H p ys)/\Q (.int ys.length) H):=by
 intro pins s σ H xs us Q I r h;obtain⟨p,ys,rfl,hq,q⟩:=h;obtain⟨u,rfl,rx⟩:=vals1 r;cases rx;have hn:=wD;rcases hq with hq|hq
 .obtain⟨its,r',pl,hz⟩:=I.list hq;have hlen:=r'.length;exact Calls.call_len_list pl.isList (by simp only[List.size_toArray]<;>omega) ⟨.int ys.length,H,I.tok _,⟨s.toks+1,by rw[C6,hlen]⟩,q⟩
 .obtain⟨its,r',pl,hz⟩:=I.tuple hq;have hlen:=r'.length;exact len_tuple pl (by simp only[List.size_toArray]<;>omega) ⟨.int ys.length,H,I.tok _,⟨s.toks+1,by rw[C6,hlen]⟩,q⟩
theorem dC.or{f:Value}{r r':List V->Hp->VK->Prop}(h:dC X f r)(h':dC X f r'):dC X f (fun xs H Q=>r xs H Q\/r' xs H Q):=by
 intro pins s σ H xs us Q I rs q;rcases q with q|q
 .exact h pins s σ H xs us Q I rs q
 .exact h' pins s σ H xs us Q I rs q
theorem FO:dC X (.type "list") (fun xs H Q=>∃p ys,xs=[.ref p]/\(SqL X.K H p ys\/SqT X.K H p ys)/\∀l,H l=none->Q (.ref l) (upd H l (.lst ys))):=by
 intro pins s σ H xs us Q I r h;obtain⟨p,ys,rfl,hq,q⟩:=h;obtain⟨u,rfl,rx⟩:=vals1 r;cases rx
 have fin:∀(its:List Value),bQ ys its->ys.length<=sizeLine->∀(h':Heap)(c':Nat),(∀b o',s.heap.get? b=some o'->h'.get? b=some o')->
  h'.get? s.heap.objs.size=some { cls:=.type "list",dict:=none,data:=.seq its.toArray c',slots:=#[] }->EP X pins σ Q (.ref s.heap.objs.size) { s with heap:=h' }:=fun its r' hz h' c' kp e=>
  ⟨.ref s.heap.objs.size,_,I.laid (t':=s.toks) kp (B3 _) (show gY X.prog X.w _ h' _ (.lst ys)from⟨hz,its,c',r',e⟩),rfl,q _ (I.hok.fresh (B3 _))⟩
 rcases hq with hq|hq
 .obtain⟨its,r',pl,hz⟩:=I.list hq;have hlen:=r'.length;obtain⟨o,ho,hc,n,hd⟩:=pl.isList;exact call_list_seq p (.inl rfl) ho hc hd (fun h' c' kp e=>fin its r' hz h' c' kp e) (by simp only[List.size_toArray]<;>omega)
 .obtain⟨its,r',pl,hz⟩:=I.tuple hq;have hlen:=r'.length;obtain⟨o,ho,hc,n,hd⟩:=pl;exact call_list_seq p (.inr rfl) ho hc hd (fun h' c' kp e=>fin its r' hz h' c' kp e) (by simp only[List.size_toArray]<;>omega)
theorem AW:dC X (.type "tuple") (fun xs H Q=>∃p ys,xs=[.ref p]/\((SqL X.K H p ys/\∀l,H l=none->Q (.ref l) (upd H l (.tup ys)))\/(SqT X.K H p ys/\Q (.ref p) H))):=by
 intro pins s σ H xs us Q I r h;obtain⟨p,ys,rfl,h⟩:=h;obtain⟨u,rfl,rx⟩:=vals1 r;cases rx;rcases h with⟨hq,q⟩|⟨hq,q⟩
 .obtain⟨its,r',pl,hz⟩:=I.list hq;have hlen:=r'.length;refine call_tuple_list pl.isList (fun h' kp=>?_) (by simp only[List.size_toArray]<;>omega);have I1:Inv X pins σ H { s with heap:=h' }:=I.kept (t':=s.toks) kp
  have I2:Inv X pins σ (upd H h'.objs.size (.tup ys)) { s with heap:=h'.push { cls:=.type "tuple",data:=.seq its.toArray } }:=
   I1.laid (t':=s.toks) (fun b o e=>A1 _ e) (B3 _) (show gY X.prog X.w _ _ _ (.tup ys)from⟨hz,its,r',IsTup.new _ _⟩)
  exact⟨.ref h'.objs.size,_,I2,rfl,q _ (I1.hok.fresh (B3 _))⟩
 .obtain⟨its,r',pl,hz⟩:=I.tuple hq;exact call_tuple_same pl ⟨.ref p,H,I,rfl,q⟩
noncomputable def tyV(K:Fg)(T:String)(x:V)(H:Hp):Prop:=match x with
 |.str _=>T="str"
 |.int _=>T="int"
 |.ref p=>(T="list"/\∃xs,SqL K H p xs)\/(T="tuple"/\∃o,K.lookup p=some o/\o.cls=.type "tuple"/\o.dict=none) \/
  (T="dict"/\((∃kvs,H p=some (.dK kvs))\/∃kvs,H p=some (.dT kvs)))\/(T="set"/\∃S n,H p=some (.set S n))
 |_=>False
theorem XI{pins:List (Addr×Obj)}{T:String}{x:V}{v:Value}(I:Inv X pins σ H s)(r:RelV x v)(ty:tyV X.K T x H):
 s.TypeIs v T/\∀a,v=.ref a->∃ob,s.heap.get? a=some ob/\ob.dict=none:=by
 cases x with
 |str z=>
  obtain⟨t,rfl⟩:=r;cases (show T="str" from ty);exact⟨typeIs_str s z t,fun _ e=>nomatch e⟩
 |int i=>
  obtain⟨t,rfl⟩:=r;cases (show T="int" from ty);exact⟨typeIs_int s i t,fun _ e=>nomatch e⟩
 |ref p=>
  cases r;rcases ty with⟨rfl,xs,hq⟩|⟨rfl,o,hk,hc,hd⟩|⟨rfl,hk⟩|⟨rfl,S,n,hk⟩
  .obtain⟨its,_,pl,_⟩:=I.list hq;refine⟨pl.isList.typeIs,fun a e=>?_⟩;cases e;obtain⟨o,n,e,c,hd,_⟩:=pl;exact⟨o,e,hd⟩
  .refine⟨⟨o,I.kIn p o hk,hc⟩,fun a e=>?_⟩;cases e;exact⟨o,I.kIn _ o hk,hd⟩
  .have z:∃o,s.heap.get? p=some o/\o.ExactDict:=by
    rcases hk with⟨kvs,hk⟩|⟨kvs,hk⟩
    .obtain⟨_,_,_,_,o,_,_,e,ex,_⟩:=I.hok p _ hk;exact⟨o,e,ex⟩
    .obtain⟨_,_,_,_,o,_,_,e,ex,_⟩:=I.hok p _ hk;exact⟨o,e,ex⟩
   obtain⟨o,e,ex⟩:=z;refine⟨⟨o,e,ex.1⟩,fun a e2=>?_⟩;cases e2;exact⟨o,e,ex.2.1⟩
  .obtain⟨o,_,_,_,e,ex,_⟩:=I.hok p _ hk;refine⟨⟨o,e,ex.1⟩,fun a e2=>?_⟩;cases e2;exact⟨o,e,ex.2.1⟩
 |_=>exact False.elim ty
noncomputable def aFK(K:Fg)(T:String)(r:V->List V->Hp->VK->Prop)(to:TE):TE:=fun σ H Q=>to σ H fun x H1=>tyV K T x H1/\r x [] H1 Q
noncomputable def tBM(K:Fg)(T:String)(r:V->List V->Hp->VK->Prop)(to:TE)(t:TA):TE:=fun σ H Q=>to σ H fun x H1=>tyV K T x H1/\t σ H1 fun xs H2=>r x xs H2 Q
variable{o e:Expr}{es:List Expr}{to:TE}{t:TA}{name:Str}{apos cpos:Pos}{T id:String}{r:V->List V->Hp->VK->Prop}
theorem SV(pa:PlainAttrs T)(slot:Slot T name id)(hty:typeOf (.builtin id)=pure (.type "method_descriptor"))(hm:MtR X id r)(ho:PE X o to)
 (hbase:attributeBase o name X.env (eval o X.env)=eval o X.env:=by rfl) (hline:(apos.endLine==cpos.line)=true:=by rfl):PE X (.Call (.Attribute o name apos) [] [] cpos) (aFK X.K T r to):=by
 intro pins s σ H Q I h;refine wpAny_Call_method0_late hbase hline (thn (ho pins s σ H _ I h) fun v s1 ⟨x,H1,I1,r1,ty,q1⟩=>?_);obtain⟨h1,h2⟩:=XI I1 r1 ty;exact⟨T,id,pa,slot,hty,h1,h2,Calls.callWith_builtin rfl (PySem.evalArgs_none (hm pins s1 σ H1 x [] v [] Q I1 r1 .nil q1))⟩
theorem aEz(pa:PlainAttrs T)(slot:Slot T name id)(hty:typeOf (.builtin id)=pure (.type "method_descriptor"))(hm:MtR X id r)(ho:PE X o to)(ha:PA X (e::es) t)
 (hbase:attributeBase o name X.env (eval o X.env)=eval o X.env:=by rfl)
 (hfew:((backTo cpos (starEach (e::es) X.env)).all (fun x=>!x.1)&&(backToKw cpos (keywordEach [] X.env)).all (fun x=>x.1.isSome)
  && decide ((e::es).length+([]:List Keyword).length+(if ([]:List Keyword).isEmpty then 0 else 1)<30))=true:=by rfl)
 (hline:(apos.endLine==cpos.line)=true:=by rfl) (hs:starEach (e::es) X.env=(false,eval e X.env)::starEach es X.env:=by rfl) (hplain:(backTo cpos (starEach es X.env)).any (·.1)=false:=by rfl):
 PE X (.Call (.Attribute o name apos) (e::es) [] cpos) (tBM X.K T r to t):=by
 intro pins s σ H Q I h;refine wpAny_Call_method_late hbase hfew hline rfl (thn (ho pins s σ H _ I h) fun v s1 ⟨x,H1,I1,r1,ty,q1⟩=>?_);obtain⟨h1,h2⟩:=XI I1 r1 ty;refine⟨T,id,pa,slot,hty,h1,h2,?_⟩;have hA:=ha cpos pins s1 σ H1 _ I1 q1;rw[hs]at hA ⊢;refine Calls.callWith_builtin (by show(false || (backTo cpos (starEach es X.env)).any (·.1))=false;rw[hplain]<;>rfl) (Calls.evalArgs_plain ?_);exact thn hA fun us s2 ⟨vs,H2,I2,r2,q2⟩=>hm pins s2 σ H2 x vs v us Q I2 r1 r2 q2
end
noncomputable def MtM(X:Cx)(id:String)(r:V->List V->Hp->VK->Prop):Prop:=
 ∀(pins:List (Addr×Obj))(s:Shared)(σ:St)(H:Hp)(x:V)(xs:List V)(v:Value)(us:List Value)(Q:VK),Inv X pins σ H s->RelV x v->bQ xs us->r x xs H Q->
  wpAny (model X.prog X.w) X.A (call (.builtin id) (v::us)) (EP X pins σ Q) X.xe s
theorem bQ.one:∀{x:V}{us:List Value},bQ [x] us->∃u,us=[u]/\RelV x u
 |_,_,.cons r .nil=>⟨_,rfl,r⟩
theorem bQ.zero:∀{us:List Value},bQ [] us->us=[]
 |_,.nil=>rfl
theorem bQ.dropLast{xs:List V}{us:List Value}(h:bQ xs us):bQ xs.dropLast us.dropLast:=by
 induction h with
 |nil=>exact .nil
 |cons r t ih=>
  cases t with
  |nil=>exact .nil
  |cons q t'=>exact .cons r ih
theorem bQ.reverse{xs:List V}{us:List Value}(h:bQ xs us):bQ xs.reverse us.reverse:=by
 induction h with
 |nil=>exact .nil
 |cons r t ih=>rw[U0,U0];exact bQ.append ih (.cons r .nil)
theorem KH{α:Type}(l:List α):l.eraseIdx (l.length-1)=l.dropLast:=by
 induction l with
 |nil=>rfl
 |cons a r ih=>
  cases r with
  |nil=>rfl
  |cons b r=>
   have e:(a::b::r).length-1=((b::r).length-1)+1:=by
    have h1:(a::b::r).length=r.length+2:=rfl;have h2:(b::r).length=r.length+1:=rfl;omega
   rw[e,List.eraseIdx_cons_succ,ih]
   all_goals rfl
section
variable{X:Cx}{pins:List (Addr×Obj)}{σ:St}{H:Hp}{s:Shared}{l b:Addr}{xs ys zs:List V}
theorem Inv.lset{its its':List Value}{n:Nat}{f:Array Value->Array Value}{t':Nat}(I:Inv X pins σ H s)(hH:H l=some (.lst xs))
 (e:s.heap.get? l=some { cls:=.type "list",data:=.seq its.toArray n }) (hf:f its.toArray=its'.toArray) (hv:bQ ys its') (hz:ys.length<=sizeLine):
 Inv X pins σ (upd H l (.lst ys)) { s with heap:=s.heap.update l (Obj.mapSeq f),toks:=t' }:=by
 have q:=PySem.IsL.update e f;rw[hf]at q;refine I.write (x:=l) (e:=l) (by rw[hH];exact trivial) (.inl rfl) (fun b' u hb hu=>(Heap.get?_update_other s.heap (Obj.mapSeq f) (Z9 hb)).trans hu) ⟨_,q⟩ ?_;exact⟨hz,its',_,hv,q⟩
theorem Inv.lnew{its:List Value}{t':Nat}(I:Inv X pins σ H s)(hv:bQ ys its)(hz:ys.length<=sizeLine):
 Inv X pins σ (upd H s.heap.objs.size (.lst ys)) { s with heap:=s.heap.push { cls:=.type "list",data:=.seq its.toArray },toks:=t' }:=
 I.laid (fun _ _ q=>A1 _ q) (B3 _) ⟨hz,its,0,hv,B9 _ rfl⟩
theorem Inv.fresh(I:Inv X pins σ H s):H s.heap.objs.size=none:=I.hok.fresh (B3 _)
theorem Inv.lstM(I:Inv X pins σ H s)(hH:H l=some (.lst xs)):xs.length<=sizeLine/\∃(its:List Value)(n:Nat),bQ xs its/\xs.length=its.length/\s.heap.get? l=some { cls:=.type "list",data:=.seq its.toArray n }:=by
 obtain⟨z,its,n,r,e⟩:=I.hok l _ hH;exact⟨z,its,n,r,r.length,e⟩
end
section
variable{X:Cx}
noncomputable def LU:V->List V->Hp->VK->Prop:=fun x vs H Q=>∃l xs y,x=.ref l/\vs=[y]/\H l=some (.lst xs)/\xs.length<sizeLine/\Q .non (upd H l (.lst (xs++[y])))
theorem PF:MtM X "list.append" LU:=by
 intro pins s σ H x vs v us Q I rx rv h;obtain⟨l,xs,y,rfl,rfl,hH,hz,q⟩:=h;cases rx;obtain⟨u,rfl,ru⟩:=rv.one;obtain⟨z,its,n,r,hl,e⟩:=I.lstM hH;refine call_meets F.slot_list_append ⟨_,e,rfl⟩ F.entry_list_append (F.args_list_append_2 _ _) (PySem.list_append l its.toArray n u (by rw[C6];omega)) ⟨e,?_⟩;refine⟨.non,_,I.lset (its':=its++[u]) hH e (by simp) (r.append (.cons ru .nil)) ?_,rfl,q⟩;rw[A7,B8];omega
noncomputable def aFD:V->List V->Hp->VK->Prop:=fun x vs H Q=>∃l xs y,x=.ref l/\vs=[]/\H l=some (.lst xs)/\xs[xs.length-1]?=some y/\Q y (upd H l (.lst xs.dropLast))
theorem aDn:MtM X "list.pop" aFD:=by
 intro pins s σ H x vs v us Q I rx rv h;obtain⟨l,xs,y,rfl,rfl,hH,hy,q⟩:=h;cases rx;have hus:=rv.zero;subst hus;obtain⟨z,its,n,r,hl,e⟩:=I.lstM hH;obtain⟨u,hu,ru⟩:=r.get hy
 have hy':its.toArray[its.toArray.size-1]?=some u:=by
  show its.toArray[its.length-1]?=some u;rw[<- Y5,<- hl];exact hu
 refine call_meets F.slot_list_pop ⟨_,e,rfl⟩ F.entry_list_pop (F.args_list_pop_1 _) (MeetsSeq.list_pop_last l its.toArray n u hy' (by rw[C6];omega)) ⟨e,?_⟩;refine⟨y,_,I.lset (its':=its.dropLast) hH e ?_ r.dropLast ?_,ru,q⟩
 .show its.toArray.eraseIdxIfInBounds (its.toArray.size-1)=its.dropLast.toArray;rw[C6,List.eraseIdxIfInBounds_toArray,KH]
 .rw[List.length_dropLast];omega
noncomputable def GA:V->List V->Hp->VK->Prop:=fun x vs H Q=>∃l xs,x=.ref l/\vs=[]/\H l=some (.lst xs)/\Q .non (upd H l (.lst xs.reverse))
theorem IR:MtM X "list.reverse" GA:=by
 intro pins s σ H x vs v us Q I rx rv h;obtain⟨l,xs,rfl,rfl,hH,q⟩:=h;cases rx;have hus:=rv.zero;subst hus;obtain⟨z,its,n,r,hl,e⟩:=I.lstM hH;refine call_meets F.slot_list_reverse ⟨_,e,rfl⟩ F.entry_list_reverse (F.args_list_reverse_1 _) (AutoSeq1.list_reverse_list_0 l its.toArray n (by rw[C6];omega)) ⟨e,?_⟩;refine⟨.non,_,I.lset (its':=its.reverse) hH e (by simp) r.reverse ?_,rfl,q⟩;rw[S0];omega
end
section
variable{X:Cx}{pins:List (Addr×Obj)}{σ:St}{H:Hp}{s:Shared}{a:Addr}{y v:V}{u r:Value}{o:Option V}{A:Around}{E:Value->Shared->Prop}
theorem Inv.big(I:Inv X pins σ H s):sysModules<s.heap.objs.size:=by
 have h:mainGlobals<s.heap.objs.size:=(I.mod.glob.keeps I.bk).lt;exact Nat.lt_trans (by decide) h
end
theorem UV{P:Program}{w:World}(h:Heap)(hb:sysModules<h.objs.size):gY P w H (h.push { cls:=.type "dict",data:=.dict #[] }) h.objs.size (.dK []):=
 ⟨F9 _,beq_eq_false_iff_ne.mpr (Z9 (C9 hb)),[],.nil,Heap.DictOf.new h⟩
noncomputable def VW:TE:=fun _ H Q=>∀p,H p=none->Q (.ref p) (upd H p (.dK []))
section
variable{X:Cx}{pos:Pos}
theorem WS:PE X (.Dict [] [] pos) VW:=fun pins s σ H Q I h=>
 wpAny_Dict_empty ⟨.ref s.heap.objs.size,_,I.laid (a:=s.heap.objs.size) (o:=.dK []) (t':=s.toks) (fun _ _ q=>A1 _ q) (B3 _) (UV s.heap I.big),rfl,h _ (I.hok.fresh (B3 _))⟩
end
structure M1(X:Cx)(o:Expr)(m:Str)(apos:Pos)(e:Expr)(cpos:Pos):Prop where
 base:attributeBase o m X.env (eval o X.env)=eval o X.env
 few:((backTo cpos (starEach [e] X.env)).all (fun x=>!x.1)&&(backToKw cpos (keywordEach [] X.env)).all (fun x=>x.1.isSome)
  && decide (([e]:List Expr).length+([]:List Keyword).length+(if ([]:List Keyword).isEmpty then 0 else 1)<30))=true
 line:(apos.endLine==cpos.line)=true
 trees:backTo cpos (starEach [e] X.env)=[(false,eval e X.env)]
structure M2(X:Cx)(o:Expr)(m:Str)(apos:Pos)(e f:Expr)(cpos:Pos):Prop where
 base:attributeBase o m X.env (eval o X.env)=eval o X.env
 few:((backTo cpos (starEach [e,f] X.env)).all (fun x=>!x.1)&&(backToKw cpos (keywordEach [] X.env)).all (fun x=>x.1.isSome)
  && decide (([e,f]:List Expr).length+([]:List Keyword).length+(if ([]:List Keyword).isEmpty then 0 else 1)<30))=true
 line:(apos.endLine==cpos.line)=true
 trees:backTo cpos (starEach [e,f] X.env)=[(false,eval e X.env),(false,eval f X.env)]
end L2
namespace Att
open PySem PySem.W PySem.Calls PyProof.Rows
theorem xM{P:Params}{h:Heap}:∀(ns:List Int)(vs:List Value),WellAll P h vs (ns.map WData.int)->IntsAre vs ns:=by
 intro ns
 induction ns with
 |nil=>
  intro vs w;rw[List.map_nil]at w;cases w;exact .nil
 |cons n ns ih=>
  intro vs w;rw[B6]at w;cases w with
  |cons a b=>
   cases a;exact .cons _ _ (ih _ b)
theorem NP{l:OpenLaw}{n:Nat}(hn:l.most=some n){P:Params}{h:Heap}{args:List WData}{vals:List Value}
 (hpre:l.row.toRowW.claim.pre args=true) (hwl:WellAll P h vals args):
 ∃a vs ns,vals=[Value.ref a]/\args=[WData.list (ns.map WData.int)]/\h.get? a=some { cls:=.type "list",data:=.seq vs.toArray }/\IntsAre vs ns/\ns.length<=n:=by
 have hsh:WShape.hasAll [] args [.list .int]=true:=(pre_splitW hpre).1;have hc:l.pre.holds [] { args:=args }=true:=(pre_splitW hpre).2;obtain⟨d,r,rfl,h1,h2⟩:=hasAllW_cons hsh;obtain rfl:=hasAllW_nil h2;obtain⟨xs,rfl,h3⟩:=hasW_list h1;obtain⟨ns,rfl⟩:=items_int h3
 have hlen:ns.length<=n:=by
  unfold OpenLaw.pre at hc
  have h4:(WTm.not (.lt (.lit (.int (n:Int))) (.len (.arg 0)))).holds [] { args:=[.list (ns.map .int)] }=true:=by
   have h4:=(holds_andW hc).1;rw[hn]at h4;exact h4
  have h5:=condW_of h4 (w_not (w_lt w_lit (w_len_list (w_arg rfl))));rw[A0]at h5;refine Nat.le_of_not_lt fun q=>?_;have q':(n:Int)<((ns.length:Nat):Int):=by omega
  first
   |(rw[C5 q']at h5;exact absurd h5 (by decide))
   |(simp at h5;omega)
 cases hwl with
 |cons w1 w2=>
  cases w2;cases w1 with
  |list ho hall=>exact⟨_,_,ns,rfl,rfl,ho,xM ns _ hall,hlen⟩
theorem OS(l:OpenLaw)(args:List WData):l.row.toRowW.claim.post args (.bool true) args=true:=
 postW_of (r:=l.row.toRowW) (X:=(true==true))
  (show WShape.has [] (.bool true) .bool=true by first|rfl|decide|simp[WShape.has,WShape.arms,WShape.armsAll])
  (show(WTm.eq .res (.lit (.bool true))).value [] { args:=args,res:=some (.bool true),after:=args }=some (.bool (true==true))from w_eq_bool (w_res rfl) w_lit) rfl
theorem attach_call{l:OpenLaw}{n:Nat}{q:Program}{loose:List Str}{XP:(Str->Option Value)->Heap->Prop}{YP:World->Heap->Prop}{d:DefRec}
 (hn:l.most=some n) (hdf:d.params.defaults=[])
 (call:∀(w:World)(s₀ s₁:Shared)(mg mb:Str->Option Value)(fa:Addr)(o:Obj)(pm cd doc:Value)(a:Addr)(vs:List Value)(ns:List Int),
  Ground q loose [] XP w s₀ mg mb s₁.heap->YP w s₁.heap->
  s₁.heap.get? fa=some o->o.data=.func (docDef d.name d.params d.body d.scope pm cd doc)->s₁.heap.CodeRec cd d.name->mg d.name=some (.ref fa)->
  s₁.heap.get? a=some { cls:=.type "list",data:=.seq vs.toArray }->IntsAre vs ns->ns.length<=n->s₁.gens=#[]->
  codeAny (model l.prog w) callerA (.call (.ref fa) ⟨[.ref a],[]⟩) (fun r s'=>r=.ok (.ret (.bool true))/\OldK s₁.heap s'.heap/\s'.os=s₁.os/\AllBare s'.gens) s₁):
 WalkO q loose XP YP l.row.toRowW d [] (fun f vs=>PySem.call f vs):=by
 intro w s₀ s₁ mg mb G Y fa o pm cd doc dV kV ho hd hcd hD hmg hg args vals as hpre hlay hrd hwl hlo;obtain rfl:dV=.none:=Dflts.none hD hdf;obtain rfl:kV=.none:=Dflts.noKw hD;obtain⟨a,vs,ns,rfl,rfl,hobj,hints,hlen⟩:=NP hn hpre hwl;refine enter_call (codeAny_mono (call w s₀ s₁ mg mb fa o pm cd doc a vs ns G Y ho (fd_plain hd) hcd hmg hobj hints hlen hg) fun r s' hq=>?_);obtain⟨rfl,h2,h3,h4⟩:=hq;exact⟨.inl ⟨.bool true,.bool true,[],rfl,fun _=>rfl,.bool true,OS l _,fun _=>⟨List.Pairwise.nil,fun _ hm=>(nomatch hm)⟩⟩,h2,h3,h4⟩
section
variable{prog:Program}{w:World}{A:Around}{E:Value->Shared->Prop}{s:Shared}{K:Frag}
end
end Att
namespace L2
open PySem PySem.Spec PyProof.Rows
theorem vX:∀{vs:List Value}{ns:List Int},IntsAre vs ns->bQ (ns.map V.int) vs
 |_,_,.nil=>.nil
 |_,_,.cons n t h=>.cons ⟨t,rfl⟩ (vX h)
noncomputable def aBO(H:Hp):Prop:=∀b,H b=none\/∃o xs,H b=some (.frz o (.lst xs))
theorem QU{P:Program}{w:World}{K:Fg}{mg mb:Str->Option Value}{CX:CXT}{k:Nat}{fa a:Addr}{fd:FuncData}{x:Str}{sp:Sp}{s₁:Shared}{vs:List Value}{ns:List Int}
 (KX:K.In s₁.heap) (hns:s₁.heap.Ns mainGlobals mg) (hb:s₁.heap.Ns builtinsNs mb) (hbb:∀x:Str,x≠"__name__"->mb x=bootBuiltins x) (hlim:s₁.heap.NoLimit) (hsm:∃mm,s₁.heap.Ns sysModules mm) (hbm:∃bm ob,mg "__builtins__"=some (.ref bm)/\bm≠builtinsNs/\s₁.heap.get? bm=some ob/\ob.cls=.type "module"/\ob.dict=some builtinsNs/\ob.data=.plain) (hg:s₁.gens=#[])
 (ha:s₁.heap.get? a=some { cls:=.type "list",data:=.seq vs.toArray }) (hi:IntsAre vs ns) (hl:ns.length<=sizeLine) (hr:fX k callerA)
 (F:∀base:Heap,K.In base->base.Ns mainGlobals mg->rF P w K mg base CX k fa fd [x] sp) (hbind:∀(s:Shared)(u:Value),BindsTo s fd ⟨[u],[]⟩ [(x,u)])
 (hsp:∀H:Hp,aBO H->SqL K H a (ns.map V.int)->sp [.ref a] H (fun v _=>v=.bl true) fun _ _ _=>False)
 (hCX:∀H e s',CX [] H s₁ (fun _ _ _=>False) e s'->False):
 codeAny (model P w) callerA (.call (.ref fa) ⟨[.ref a],[]⟩) (fun r s'=>r=.ok (.ret (.bool true))/\OldK s₁.heap s'.heap/\s'.os=s₁.os/\AllBare s'.gens) s₁:=by
 have rv:=vX hi;have lenV:=hi.length
 have core:∀H:Hp,aBO H->SqL K H a (ns.map V.int)->HOk P w H s₁.heap->(∀b,H b≠none->b=a)->(H a≠none->K.lookup a=none)->
  codeAny (model P w) callerA (.call (.ref fa) ⟨[.ref a],[]⟩) (fun r s'=>r=.ok (.ret (.bool true))/\OldK s₁.heap s'.heap/\s'.os=s₁.os/\AllBare s'.gens) s₁:=by
  intro H hO hS hok hA hK;have base_of:∀{b:Addr}{o:Obj},s₁.heap.get? b=some o->H b=none->(uQ s₁.heap H).get? b=some o:=fun e n=>HR e n
  have noA:∀{b:Addr}{o:Obj}{es:Array DictEntry}{ep:Nat},s₁.heap.get? b=some o->o.data=.dict es ep->H b=none:=fun{b o es ep} e d=>by
   cases q:H b with
   |none=>rfl
   |some u=>
    have e':b=a:=hA b (by rw[q];simp);subst e';rw[ha]at e;cases e;have d':Data.seq vs.toArray _=Data.dict es ep:=d;cases d'
  have nsK:∀{b:Addr}{m:Str->Option Value},s₁.heap.Ns b m->(uQ s₁.heap H).Ns b m:=fun{b m} ⟨o,es,ep,e,d,r⟩=>⟨o,es,ep,base_of e (noA e d),d,r⟩
  have hKb:K.In (uQ s₁.heap H):=fun b o e=>base_of (KX b o e) (by
   cases q:H b with
   |none=>rfl
   |some u=>
    have e':b=a:=hA b (by rw[q];simp);subst e';rw[hK (by rw[q];simp)]at e;cases e)
  have hM:Mod K mg (uQ s₁.heap H):=⟨hKb,nsK hns,⟨mb,nsK hb,hbb⟩,(let⟨mc,h1,h2⟩:=hlim;⟨mc,nsK h1,h2⟩),(let⟨mm,hmm⟩:=hsm;let⟨o,es,ep,h1,h2,_⟩:=nsK hmm;⟨o,es,ep,h1,h2⟩),(let⟨bm,ob,b1,b2,b3,b4,b5,b6⟩:=hbm;⟨bm,ob,b1,b2,base_of b3 (by
   cases q:H bm with
   |none=>rfl
   |some u=>
    have e':bm=a:=hA bm (by rw[q];simp);rw[e',ha]at b3;cases b3;cases b6),b4,b5,b6⟩)⟩
  have e0:XD P w K mg (uQ s₁.heap H) callerA [] s₁ H:=⟨rfl,hM,fun b o e=>LF e,Nat.le_of_eq (BV _ _),trivial,fun b hb=>absurd (show b∈([]:List Addr)from hb) (by simp),hok,.of_eq hg⟩;refine codeAny_mono ((F _ hKb (nsK hns)).run callerA [] s₁ H ⟨[.ref a],[]⟩ [.ref a] [.ref a] _ _ hr e0 (hbind s₁ (.ref a)) (.cons rfl .nil) (hsp H hO hS)) fun r s' h=>?_;cases r with
  |error e=>exact(hCX H e s' h).elim
  |ok fl=>
   cases fl with
   |next=>exact False.elim h
   |brk=>exact False.elim h
   |cont=>exact False.elim h
   |ret u=>
    obtain⟨v,H',os,bare,un,hok',r',q⟩:=h;have q':v=.bl true:=q;subst q';obtain rfl:u=Value.bool true:=r';refine⟨rfl,OldK.of_keep fun b o e=>?_,os,bare⟩;cases q:H b with
    |none=>exact un.keep b o e q (by intro z;exact absurd (show b∈([]:List Addr)from z) (by simp)) (by simp)
    |some u=>
     rcases hO b with z|⟨ob,xs,z⟩
     .rw[q]at z;cases z
     .have z2:=un.frzs b ob _ z;obtain⟨e1,_⟩:=hok b _ z;obtain⟨e2,_⟩:=hok' b _ z2;rw[e]at e1;cases e1;exact e2
 cases hk:K.lookup a with
 |some o=>
  have e:=KX a o hk;rw[ha]at e;cases e;refine core (fun _=>none) (fun _=>.inl rfl) (.inr ⟨_,vs.toArray,_,hk,rfl,rfl,rfl,by rw[C6,lenV];exact hl,by simpa using rv⟩) (fun b u z=>by have z':(none:Option HO)=some u:=z;cases z') (fun b z=>absurd rfl z) fun z=>absurd rfl z
 |none=>
  refine core (fun b=>if b=a then some (.frz { cls:=.type "list",data:=.seq vs.toArray } (.lst (ns.map V.int)))else none) (fun b=>?_) (.inl (.inr ⟨{ cls:=.type "list",data:=.seq vs.toArray },A4 rfl⟩)) (fun b u z=>?_) (fun b z=>?_) fun _=>hk
  .by_cases hb:b=a
   .exact .inr ⟨_,_,A4 hb⟩
   .exact .inl (B0 hb)
  .by_cases hb:b=a
   .have z':=(A4 hb).symm.trans z;cases z';subst hb;exact⟨ha,by rw[A0];exact hl,vs,_,rv,ha⟩
   .have z':=(B0 hb).symm.trans z;cases z'
  .by_cases hb:b=a
   .exact hb
   .exact absurd (B0 hb) z
noncomputable abbrev KOf{K:Fg}{h:Heap}(_:K.In h):Fg:=K
theorem walk_of{l:PySem.W.OpenLaw}{n k:Nat}{q:Program}(hq:PyProof.Rows.importsNone q=true){loose:List Str}{XP:(Str->Option Value)->Heap->Prop}{YP:World->Heap->Prop}{d:DefRec}{K:Params->Fg}{CX:World->CXT}{sp:World->Sp}{x:Str}
 (hn:l.most=some n) (hn2:n<=sizeLine) (hdf:d.params.defaults=[]) (hr:fX k callerA)
 (hY:∀(w:World)(h:Heap),YP w h->(K w.params).In h)
 (F:∀(w:World)(mg:Str->Option Value)(fa:Addr)(h:Heap),(K w.params).In h->h.Ns mainGlobals mg->mg d.name=some (.ref fa)->
  ∃fd:FuncData,(∀(s:Shared)(u:Value),BindsTo s fd ⟨[u],[]⟩ [(x,u)]) /\
   ∀base:Heap,(K w.params).In base->base.Ns mainGlobals mg->rF l.prog w (K w.params) mg base (CX w) k fa fd [x] (sp w))
 (hsp:∀(w:World)(H:Hp)(a:Addr)(ns:List Int),ns.length<=n->aBO H->SqL (K w.params) H a (ns.map V.int)->sp w [.ref a] H (fun v _=>v=.bl true) fun _ _ _=>False)
 (hCX:∀(w:World)(H:Hp)(s:Shared)(e:Value)(s':Shared),CX w [] H s (fun _ _ _=>False) e s'->False):
 PySem.W.WalkO q loose XP YP l.row.toRowW d [] (fun f vs=>PySem.call f vs):=by
 refine Att.attach_call hn hdf fun w s₀ s₁ mg mb fa o pm cd doc a vs ns G Y ho hd hcd hmg hobj hints hlen hg=>?_;have KX:=hY w _ Y;obtain⟨fd,hb,hF⟩:=F w mg fa _ KX G.T.g hmg;exact QU KX G.T.g G.T.b G.T.builtins G.T.nolimit (let⟨mm,hmm,_⟩:=(G.T.seer hq).mods;⟨mm,hmm⟩) G.T.bmain hg hobj hints (J4 hlen hn2) hr hF hb (fun H hO hS=>hsp w H a ns hlen hO hS) fun H e s'=>hCX w H s₁ e s'
end L2
namespace L2
variable{F H H':Hp}{W:Wd}{K:Fg}{M M':Sto}{γ:Ga}
open PySem PySem.Spec PyProof.Rows
noncomputable def iG(s:Stmt):Arguments:=match s with
 |.FunctionDef _ a _ _ _ _ _ _ _ _=>a
 |_=>{ posonlyargs:=[],args:=[],vararg:=none,kwonlyargs:=[],kw_defaults:=[],kwarg:=none,defaults:=[] }
noncomputable def dF(s:Stmt):List Stmt:=match s with
 |.FunctionDef _ _ b _ _ _ _ _ _ _=>b
 |_=>[]
noncomputable def aJ(s:Stmt):Scope:=match s with
 |.FunctionDef _ _ _ _ _ _ sc _ _ _=>sc
 |_=>{ kind:=.function,names:=[],isGenerator:=false,isCoroutine:=false }
noncomputable abbrev CX0:CXT:=fun _ _ _ _ _ _=>False
noncomputable abbrev E0:XK:=fun _ _ _=>False
theorem aEN{X:Cx}:JQ CX0 X E0:=fun _ _ _ _ _ _ _ h=>h.elim
structure Fun(K:Fg)(x qual:Str)(st:Stmt)(f:Addr)(fd:FuncData):Prop where
 ex:∃(oc:Value)(od:Option Addr)(kV doc pm:Value)(an:Option Addr)(cdv ct:Value)(osl:Array (Option Value)),
  fd=PySem.W.fnOf x qual (iG st) (dF st) (aJ st) .none kV doc pm an cdv ct/\K.lookup f=some ⟨oc,od,.func fd,osl⟩/\PySem.W.codeIn K cdv qual=true
 kp:PySem.W.keepIn K (.ref f)=true
section
variable{P:Program}{w:World}{K:Fg}{mg:Str->Option Value}{base:Heap}
theorem Fun.ok{x qual:Str}{st:Stmt}{f:Addr}{fd:FuncData}{N ps:List Str}{k:Nat}{sp:Sp}{q:Bool}(F:Fun K x qual st f fd)(S:bI N ps (aJ st))(len:∀vs H Q E,sp vs H Q E->vs.length=ps.length)
 (hbody:∀(cdv:Value)(A:Around)(outer:List Env)(s:Shared)(H:Hp)(vs:List V)(Q:VK)(E:XK),fX k (A.deeper (envOfC qual (aJ st) s.heap.objs.size f cdv)) q->sp vs H Q E->
  ∃t,PSs (vP CX0 P w K mg base N qual (aJ st) f cdv A outer s H E q).nox (dF st) t/\t { nx:=fun _ H'=>Q .non H',rt:=Q } (start N vs) H):rF P w K mg base CX0 (k+1) f fd ps sp q:=by
 obtain⟨oc,od,kV,doc,pm,an,cdv,ct,osl,rfl,lk,hcd⟩:=F.ex;refine aBD lk hcd S len fun A outer s H vs Q E hr hsp=>?_;obtain⟨t,h,z⟩:=hbody cdv A outer s H vs Q E hr hsp;exact⟨t,h.nox,z⟩
theorem Fun.binds{x qual:Str}{st:Stmt}{f:Addr}{fd:FuncData}{ps:List Str}(F:Fun K x qual st f fd)
 (h:∀(kV doc pm:Value)(an:Option Addr)(cdv ct:Value)(us:List Value),us.length=ps.length->bindArgs (PySem.W.fnOf x qual (iG st) (dF st) (aJ st) .none kV doc pm an cdv ct) ⟨us,[]⟩=pure (ps.zip us)):Binds K fd ps []:=by
 obtain⟨oc,od,kV,doc,pm,an,cdv,ct,osl,rfl,lk,hcd⟩:=F.ex;exact .all (h kV doc pm an cdv ct)
theorem aCS{x qual:Str}{st:Stmt}{f:Addr}{oc:Value}{od an:Option Addr}{osl:Array (Option Value)}{kV doc pm cdv ct:Value}(l:K.lookup f=some ⟨oc,od,.func (PySem.W.fnOf x qual (iG st) (dF st) (aJ st) .none kV doc pm an cdv ct),osl⟩)
 (c:PySem.W.codeIn K cdv qual=true) (k:PySem.W.keepIn K (.ref f)=true):Fun K x qual st f (PySem.W.fnOf x qual (iG st) (dF st) (aJ st) .none kV doc pm an cdv ct):=⟨⟨oc,od,kV,doc,pm,an,cdv,ct,osl,rfl,l,c⟩,k⟩
end
noncomputable def lM(H H':Hp):Prop:=∀b o,H b=some o->H' b=some o
theorem lM.refl(H:Hp):lM H H:=fun _ _ h=>h
theorem lM.trans{H1 H2:Hp}(a:lM H H1)(b:lM H1 H2):lM H H2:=fun c o h=>b c o (a c o h)
theorem lM.free(e:lM H H'){l:Addr}(h:H' l=Option.none):H l=Option.none:=by
 cases q:H l with
 |none=>rfl
 |some o=>
  rw[e l o q]at h;cases h
theorem lM.seq{a:Addr}{xs:List V}(e:lM H H')(h:SqL K H a xs):SqL K H' a xs:=by
 rcases h with(h|⟨o,h⟩)|h
 .exact .inl (.inl (e _ _ h))
 .exact .inl (.inr ⟨o,e _ _ h⟩)
 .exact .inr h
noncomputable def eN(env:Env):List (Str×NameKind)->List (Str×Addr)->List (Str×Addr)
 |[],cs=>cs
 |y::r,cs=>eN env r (if (y.2==NameKind.free)=true then(y.1,(env.cells.lookup y.1).getD 0)::cs else cs)
theorem sV{env:Env}:∀(l:List (Str×NameKind))(cs:List (Str×Addr)),(∀y∈l,y.2=.free->∃c,env.cells.lookup y.1=some c)->
 (forIn l cs fun(x:Str×NameKind)(r:List (Str×Addr))=>if (x.2==NameKind.free)=true then(do
  let a <- cellOf env x.1
  pure (ForInStep.yield ((x.1,a)::r)))else pure (ForInStep.yield r))=(pure (eN env l cs):Sem (List (Str×Addr)))
 |[]=>fun cs _=>rfl
 |y::l=>fun cs h=>by
  rw[List.forIn_cons];by_cases hk:(y.2==NameKind.free)=true
  .obtain⟨c,hc⟩:=h y B2 (by simpa using hk);have e1:cellOf env y.1=pure c:=by unfold cellOf;rw[hc]
   rw[A4 hk,e1];show(forIn l ((y.1,c)::cs) _:Sem _)=_;rw[sV l _ fun z hz=>h z (B1 _ hz)]
   conv=>rhs;unfold eN
   rw[A4 hk,hc];rfl
  .rw[B0 hk];show(forIn l cs _:Sem _)=_;rw[sV l _ fun z hz=>h z (B1 _ hz)]
   conv=>rhs;unfold eN
   rw[B0 hk]
theorem AS{scope:Scope}{env:Env}(h:∀y∈scope.names,y.2=.free->∃c,env.cells.lookup y.1=some c):closureFor scope env=pure (eN env scope.names []):=by
 have e:=sV (env:=env) scope.names [] h;unfold closureFor
 show((forIn scope.names ([]:List (Str×Addr)) fun(x:Str×NameKind)(r:List (Str×Addr))=>if (x.2==NameKind.free)=true then(do
  let a <- cellOf env x.1
  pure (ForInStep.yield ((x.1,a)::r)))else pure (ForInStep.yield r)) >>= fun z=>pure z:Sem (List (Str×Addr)))=_
 rw[e];rfl
theorem vO{env:Env}:∀(l:List (Str×NameKind))(cs:List (Str×Addr)),(∀y∈l,y.2=.free->∃c,env.cells.lookup y.1=some c)->(∀x c,cs.lookup x=some c->env.cells.lookup x=some c)->
 ∀x c,(eN env l cs).lookup x=some c->env.cells.lookup x=some c
 |[]=>fun cs _ h x c e=>h x c e
 |y::l=>fun cs hf h x c e=>by
  unfold eN at e;refine vO l _ (fun z hz=>hf z (B1 _ hz)) ?_ x c e;intro z d ez;by_cases hk:(y.2==NameKind.free)=true
  .rw[A4 hk]at ez;obtain⟨c',hc'⟩:=hf y B2 (by simpa using hk);rw[hc']at ez;rw[F0]at ez;by_cases hz:(z==y.1)=true
   .rw[hz]at ez;have hz':z=y.1:=by simpa using hz
    rw[hz',hc'];exact ez
   .have hz':(z==y.1)=false:=by simpa using hz
    rw[hz']at ez;exact h z d ez
  .rw[B0 hk]at ez;exact h z d ez
theorem rO{env:Env}:∀(l:List (Str×NameKind))(cs:List (Str×Addr))(x:Str),((x,NameKind.free)∈l\/∃c,cs.lookup x=some c)->∃c,(eN env l cs).lookup x=some c
 |[]=>fun cs x h=>by
  rcases h with h|h
  .exact absurd h (by simp)
  .exact h
 |y::l=>fun cs x h=>by
  unfold eN;refine rO l _ x ?_;rcases h with h|⟨c,hc⟩
  .rcases List.mem_cons.mp h with e|e
   .subst e;refine .inr ?_;rw[A4 (by rfl)];exact⟨(env.cells.lookup x).getD 0,by rw[F0];simp⟩
   .exact .inl e
  .refine .inr ?_;by_cases hk:(y.2==NameKind.free)=true
   .rw[A4 hk,F0];by_cases hz:(x==y.1)=true
    .rw[hz];exact⟨_,rfl⟩
    .have hz':(x==y.1)=false:=by simpa using hz
     rw[hz'];exact⟨c,hc⟩
   .rw[B0 hk];exact⟨c,hc⟩
theorem sX{env:Env}:∀{names:List (Str×NameKind)}{x:Str}{k:NameKind},
 (names.map fun(y:Str×NameKind)=>if (y.2==NameKind.free&&env.scope.kind==.function&&env.kindOf y.1==some .cell)=true then(y.1,NameKind.cell)else(y.1,y.2)).lookup x=some k->
 (names.lookup x=some k)\/(names.lookup x=some .free/\k=.cell)
 |[],x,k=>fun h=>by simp at h
 |y::r,x,k=>fun h=>by
  rw[B6]at h;by_cases hx:(x==y.1)=true
  .by_cases hc:(y.2==NameKind.free&&env.scope.kind==.function&&env.kindOf y.1==some .cell)=true
   .rw[A4 hc,F0,hx]at h;rw[F0,hx];have:y.2=.free:=by simp at hc;exact hc.1.1
    refine .inr ⟨by rw[this],?_⟩;cases h;rfl
   .rw[B0 hc,F0,hx]at h;rw[F0,hx];exact .inl h
  .have hx':(x==y.1)=false:=by simpa using hx
   have h':(r.map fun(y:Str×NameKind)=>if (y.2==NameKind.free&&env.scope.kind==.function&&env.kindOf y.1==some .cell)=true then(y.1,NameKind.cell)else(y.1,y.2)).lookup x=some k:=by
    by_cases hc:(y.2==NameKind.free&&env.scope.kind==.function&&env.kindOf y.1==some .cell)=true
    .rw[A4 hc,F0,hx']at h;exact h
    .rw[B0 hc,F0,hx']at h;exact h
   rw[F0,hx'];exact sX h'
theorem yO{env:Env}:∀{names:List (Str×NameKind)}{x:Str},names.lookup x=some .free->
 (names.map fun(y:Str×NameKind)=>if (y.2==NameKind.free&&env.scope.kind==.function&&env.kindOf y.1==some .cell)=true then(y.1,NameKind.cell)else(y.1,y.2)).lookup x=some .cell \/
 (names.map fun(y:Str×NameKind)=>if (y.2==NameKind.free&&env.scope.kind==.function&&env.kindOf y.1==some .cell)=true then(y.1,NameKind.cell)else(y.1,y.2)).lookup x=some .free
 |[],x=>fun h=>by simp at h
 |y::r,x=>fun h=>by
  rw[B6];by_cases hx:(x==y.1)=true
  .rw[F0,hx]at h;have hy:y.2=.free:=D5 h;by_cases hc:(y.2==NameKind.free&&env.scope.kind==.function&&env.kindOf y.1==some .cell)=true
   .rw[A4 hc,F0,hx];exact .inl rfl
   .rw[B0 hc,F0,hx];exact .inr (by rw[hy])
  .have hx':(x==y.1)=false:=by simpa using hx
   rw[F0,hx']at h;have ih:=yO (env:=env) h;by_cases hc:(y.2==NameKind.free&&env.scope.kind==.function&&env.kindOf y.1==some .cell)=true
   .rw[A4 hc,F0,hx'];exact ih
   .rw[B0 hc,F0,hx'];exact ih
noncomputable def OA(X:Cx)(ifs:List Expr)(t:TT):Prop:=
 ∀(pins:List (Addr×Obj))(s:Shared)(σ:St)(H:Hp)(Q:Bool->Hp->Prop),Inv X pins σ H s->t σ H Q->
  wpAny (model X.prog X.w) X.A (forIn ifs true fun c r=>if r=true then(do
   let ok <- isTrue c X.env (eval c X.env)
   pure (ForInStep.yield ok))else pure (ForInStep.yield r)) (TP X pins σ Q) X.xe s
noncomputable def aFs:TT:=fun _ H Q=>Q true H
theorem RW{X:Cx}:OA X [] aFs:=fun _ _ _ H _ I h=>wpAny_tests_nil ⟨H,I,h⟩
theorem SL{X:Cx}{c:Expr}{t:TT}(h:PT X c t):OA X [c] t:=fun pins s σ H Q I hq=>wpAny_tests_one (h pins s σ H Q I hq)
section
variable{prog:Program}{w:World}{A:Around}{R:Result->Shared->Prop}{s:Shared}
theorem ZF{elt target iter:Expr}{ifs:List Expr}{scope:Scope}{pos:Pos}{it acc:Value}{env:Env}(I:Nat->Shared->Prop)
 (turn:∀n s,I n s->wpAny (model prog w) A (pyNext it) (fun r s1=>(r=none/\R (.ok .next) s1)\/∃v,r=some v /\
  wpAny (model prog w) A (letOwnedTupleGo target it v) (fun _ s2=>wpAny (model prog w) A (assign target env v) (fun _ s3=>
   wpAny (model prog w) A (forIn ifs true fun c r=>if r=true then(do
    let ok <- isTrue c env (eval c env)
    pure (ForInStep.yield ok))else pure (ForInStep.yield r)) (fun ok s4=>
     (ok=true/\wpAny (model prog w) A (eval elt env) (fun x s5=>wpAny (model prog w) A (call (.builtin "list.append") [acc,x]) (fun _ s6=>∃m,m<n/\I m s6) (fun _ _=>False) s5) (fun _ _=>False) s4) \/
     (ok=false/\∃m,m<n/\I m s4)) (fun _ _=>False) s3) (fun _ _=>False) s2) (fun _ _=>False) s1) (fun _ _=>False) s)
 (n:Nat) (h:I n s):codeAny (model prog w) A (.compLoop (.ListComp elt [⟨target,iter,ifs,0⟩] scope pos) 0 it acc env) R s:=by
 refine codeAny_loop rfl I (fun n s hI=>?_) n h
 show wpAny _ A ((compTurn (.ListComp elt [⟨target,iter,ifs,0⟩] scope pos) 0 it acc env).onRaise fun x=>do
  noteFrame x env
  theTreesLotGoes x) _ _ s
 refine wpAny_noted ?_;rw[compTurn_list];refine A2 (wpAny_standAt (A2 (Z7 (turn n s hI) (fun r s1 h1=>?_) fun _ _ f=>f.elim)));rcases h1 with⟨rfl,h1⟩|⟨v,rfl,h1⟩
 .exact B4 h1
 .refine A2 (Z7 h1 (fun _ s2 h2=>?_) fun _ _ f=>f.elim);refine A2 (Z7 h2 (fun _ s3 h3=>?_) fun _ _ f=>f.elim);refine A2 (Z7 h3 (fun ok s4 h4=>?_) fun _ _ f=>f.elim);rcases h4 with⟨rfl,h4⟩|⟨rfl,h4⟩
  .refine A2 (A2 (Z7 h4 (fun x s5 h5=>?_) fun _ _ f=>f.elim));exact A2 (Z7 h5 (fun _ s6 h6=>B4 (B4 ⟨rfl,h6⟩)) fun _ _ f=>f.elim)
  .exact B4 ⟨rfl,h4⟩
end
noncomputable def oB(X:Cx)(N':List Str)(scope:Scope)(C:Addr)(s2:Shared)(H2:Hp)(fp:List Addr)(pn:List (Addr×Obj)):Cx:=
 { X with N:=N',s₀:=s2,H₀:=H2,env:=compEnvC scope (eN X.env scope.names []) C X.env,outer:=X.stack,stack:=X.stack,ex:=fp,fn:=fun _=>false,pn:=X.pn++pn,xe:=fun _ _=>False }
noncomputable def DR(cap:List (Option Nat))(σ:St):St:=cap.map fun o=>o.bind fun j=>(σ[j]?).join
structure tI(X:Cx)(N':List Str)(cap:List (Option Nat))(scope:Scope):Prop where
 nocell:∀y∈scope.names,y.2≠.cell
 kind:scope.kind=.function
 names:∀y∈scope.names,y.2=.local->scope.names.lookup y.1=some .local
 frees:∀y∈scope.names,y.2=.free->X.env.kindOf y.1=some .cell\/X.env.kindOf y.1=some .free
 len:cap.length=N'.length
 cap:∀(i j:Nat),cap[i]?=some (some j)->∃x,N'[i]?=some x/\X.N[j]?=some x/\scope.names.lookup x=some .free
section
variable{X:Cx}{N':List Str}{cap:List (Option Nat)}{scope:Scope}{pins:List (Addr×Obj)}{σ:St}{H:Hp}{s:Shared}
theorem tI.cells(S:tI X N' cap scope)(ok:X.Ok):∀y∈scope.names,y.2=.free->∃c,X.env.cells.lookup y.1=some c:=fun y hy hk=>ok.has y.1 (S.frees y hy hk)
theorem tI.sub(S:tI X N' cap scope)(ok:X.Ok):∀x c,(eN X.env scope.names []).lookup x=some c->X.env.cells.lookup x=some c:=
 vO scope.names [] (S.cells ok) fun x c e=>by simp at e
theorem tI.kinds(S:tI X N' cap scope){C:Addr}{cl:List (Str×Addr)}{x:Str}(h:(compEnvC scope cl C X.env).kindOf x=some .cell\/(compEnvC scope cl C X.env).kindOf x=some .free):scope.names.lookup x=some .free:=by
 rcases h with h|h
 .rcases sX (names:=scope.names) h with q|⟨q,_⟩
  .exact absurd rfl (S.nocell _ (J8 q))
  .exact q
 .rcases sX (names:=scope.names) h with q|⟨q,_⟩
  .exact q
  .exact q
theorem Inv.stkAll(I:Inv X pins σ H s){b:Addr}(h1:b≠X.env.locals)(h2:b∉X.fs):b∉frs X.stack:=fun hb=>(List.mem_cons.mp (I.stkSub b hb)).elim h1 h2
theorem VH(S:tI X N' cap scope)(I:Inv X pins σ H s){fp:List Addr}{h4:Heap}{C:Addr}{tk:Nat}(hf:∀b∈fp,vG X pins H b)(hlt:∀b∈fp,b<s.heap.objs.size)
 (hC:s.heap.objs.size<=C) (hn:h4.Ns C fun _=>none) (hk:∀b o,s.heap.get? b=some o->h4.get? b=some o):
 Inv (oB X N' scope C s H fp pins) [] (DR cap σ) H { s with heap:=h4,toks:=tk }:=by
 have cellLt:∀x c,X.env.cells.lookup x=some c->c<s.heap.objs.size:=fun x c e=>by
  obtain⟨v,q⟩:=I.cell x c e;exact q.lt
 have fresh:H C=none:=I.hok.fresh hC
 have ok:(oB X N' scope C s H fp pins).Ok:=by
  refine⟨I.ok.mod,S.kind,I.ok.glob,I.ok.blt,hC,fun x y c h1 h2=>?_,fun x hx=>?_,fun x c hx _=>?_,I.ok.hd,I.ok.frames,.inl rfl,fun b hb=>⟨?_,fun x c e=>?_⟩,I.bs,J4 I.ok.bsz I.sz,fun b o e hb=>?_,fun b hb=>?_,I.stack,I.stkFree⟩
  .exact I.ok.inj x y c (S.sub I.ok x c h1) (S.sub I.ok y c h2)
  .exact rO scope.names [] x (.inl (J8 (S.kinds hx)))
  .exact absurd hx (by show ¬(false=true);decide)
  .exact C9 (C7 (hlt b hb) hC)
  .exact(hf b hb).2.2.2.2.1 x c (S.sub I.ok x c e)
  .rcases (hf b hb).2.2.2.1 with z|z
   .exact I.ok.noex b o e z
   .exact absurd (C7 (B7 (I.ok.bs b o e).1) z) (I0 _)
  .exact I.stkAll (hf b hb).2.1 (hf b hb).2.2.1
 refine⟨ok,rfl,I.bare,Un.kept hk,⟨_,hn,fun i x v h1 h2 h3=>?_⟩,fun x c e=>?_,fresh,fun x c e=>I.freeC x c (S.sub I.ok x c e),fun p hp=>?_,I.hok.kept hk,?_⟩
 .-- a name that is caught
  have h2':(cap[i]?).map (fun o=>o.bind fun j=>(σ[j]?).join)=some (some v):=by
   have:(DR cap σ)[i]?=some (some v):=h2;unfold DR at this;rw[C4]at this;exact this
  cases e:cap[i]? with
  |none=>rw[e]at h2';simp at h2'
  |some o=>
   cases o with
   |none=>rw[e]at h2';simp at h2'
   |some j=>
    rw[e]at h2';obtain⟨x',a1,a2,a3⟩:=S.cap i j e
    have ex:x'=x:=by
     have:N'[i]?=some x:=h1;rw[a1]at this;exact D5 this
    subst ex
    have sv:σ[j]?=some (some v):=by
     have q:(σ[j]?).join=some v:=D5 h2';cases f:σ[j]? with
     |none=>rw[f]at q;simp at q
     |some o=>rw[f]at q;cases o with
      |none=>simp at q
      |some v'=>simp at q;rw[q]
    have hv:X.env.kindOf x'=some .cell\/X.env.kindOf x'=some .free:=S.frees _ (J8 a3) rfl;obtain⟨m,hm,hl⟩:=I.loc;obtain⟨u,r,l⟩:=hl j x' v a2 sv (hv.elim (fun z=>.inr (.inl z)) fun z=>.inr (.inr z));refine⟨u,r,.inr ⟨?_,?_⟩⟩
    .exact yO (env:=X.env) (names:=scope.names) a3
    .rcases l with⟨hk',_⟩|⟨_,c,hc,o,ho,hd⟩
     .rcases hv with z|z<;>rw[z]at hk'<;>cases hk'
     .obtain⟨c',hc'⟩:=rO (env:=X.env) scope.names [] x' (.inl (J8 a3));have:=S.sub I.ok x' c' hc';rw[hc]at this;cases this;exact⟨c,hc',o,hk c o ho,hd⟩
 .obtain⟨v,o,ho,hd⟩:=I.cell x c (S.sub I.ok x c e);exact⟨v,o,hk c o ho,hd⟩
 .have hp':p∈X.pn++pins:=by
   rcases List.mem_append.mp hp with z|z
   .exact z
   .exact absurd z (by simp)
  obtain⟨e,n,ne,nf,d⟩:=I.pin p hp';exact⟨hk _ _ e,n,C9 (C7 (B7 e) hC),I.stkAll ne nf,d⟩
 .show(DR cap σ).length=N'.length;unfold DR;rw[A0];exact S.len
end
noncomputable def tLc(cap:List (Option Nat))(wi:TI)(g:TG)(tc:TT)(te:TE):TE:=fun σ H Q=>wi σ H fun J H1=>∃W:Nat->Nat->List V->St->Hp->Prop,(∃m,W 0 m [] (DR cap σ) H1)/\∀i m acc σ' H',W i m acc σ' H'->
 (J.stop i H'/\∀p,H' p=none->Q (.ref p) (upd H' p (.lst acc))) \/
 (J.go i H'/\acc.length<sizeLine/\∃N:List V->St->Hp->Prop,(∀acc' σ2 H2,N acc' σ2 H2->∃m',m'<m/\W (i+1) m' acc' σ2 H2)/\∀x H2,J.yld i H' x H2->g x σ' H2 fun σ2 H3=>tc σ2 H3 fun b H4=>(b=true/\te σ2 H4 fun v H5=>N (acc++[v]) σ2 H5)\/(b=false/\N acc σ2 H4))
section
variable{X:Cx}{N':List Str}{cap:List (Option Nat)}{scope:Scope}
theorem QO{elt tg iter:Expr}{ifs:List Expr}{pos:Pos}{wi:TI}{g:TG}{tc:TT}{te:TE}(hc:X.calm=true)(S:tI X N' cap scope)(hi:PI X tg iter wi)
 (hg:∀C s H fp pn,PG (oB X N' scope C s H fp pn) tg g) (hif:∀C s H fp pn,OA (oB X N' scope C s H fp pn) ifs tc) (he:∀C s H fp pn,PE (oB X N' scope C s H fp pn) elt te)
 (hs:∀x,foldedSetIterable iter X.env x=pure x) {pins:List (Addr×Obj)} {s:Shared} {σ:St} {H:Hp} {Q:VK} (I:Inv X pins σ H s) (h:tLc cap wi g tc te σ H Q)
 {use:Option (Value->Sem Unit)} {QQ:Value->Shared->Prop}
 (post:∀(D C:Addr)(H':Hp)(acc:List V)(s':Shared),D≠C->(∃m,s'.heap.Ns C m)->(∀h',Heap.SameBut C s'.heap h'->Inv X pins σ (upd H' D (.lst acc)) { s' with heap:=h' })->vG X pins (upd H' D (.lst acc)) C->Q (.ref D) (upd H' D (.lst acc))->compPost (model X.prog X.w) X.A X.xe use QQ (.ref D) C (.ok .next) s'):
 wpAny (model X.prog X.w) X.A (comprehension (.ListComp elt [⟨tg,iter,ifs,0⟩] scope pos) scope X.env (firstIterPos [⟨tg,iter,ifs,0⟩] pos) (newList []) false (firstIter [⟨tg,iter,ifs,0⟩] X.env) use) QQ X.xe s:=by
 refine wpAny_comprehension_free (e:=.ListComp elt [⟨tg,iter,ifs,0⟩] scope pos) (g:=⟨tg,iter,ifs,0⟩) (gs:=[]) rfl hs (AS (S.cells I.ok)) S.kind S.names ?_;refine thn (hi pins s σ H _ I h) fun v s1 h1=>thn h1 fun itv s2 h2=>?_;obtain⟨it,fp,tn,J,H2,e,I2,T,st2,f2,W,⟨m0,w0⟩,turn⟩:=h2;subst e
 have fplt:∀b∈fp,b<s2.heap.objs.size:=fun b hb=>by
  obtain⟨o,e,_⟩:=T.obj _ _ st2 b hb;exact B7 e
 refine J3 (wpAny_newFunctionEnv S.nocell (fun y hy=>by simp at hy) (fun h1' hns hsb=>?_) S.kind);dsimp only at hns hsb ⊢;generalize hP:s2.heap.push { cls:=.type "list",dict:=none,data:=.seq ([]:List Value).toArray }=P2 at hns hsb ⊢;have hsz:P2.objs.size=s2.heap.objs.size+1:=by rw[<- hP,A0k]
 have hDC:s2.heap.objs.size≠P2.objs.size:=by rw[hsz];exact C9 (Nat.lt_succ_self _)
 have hC:s2.heap.objs.size<=P2.objs.size:=by rw[hsz];exact Nat.le_succ _
 have keepP:∀b o,P2.get? b=some o->b≠P2.objs.size->h1'.get? b=some o:=fun b o e hb=>hsb.extBut b o hb (A1 _ e);have old:∀b o,s2.heap.get? b=some o->h1'.get? b=some o:=fun b o e=>keepP b o (by rw[<- hP];exact A1 _ e) (C9 (C7 (B7 e) hC));have hD0:h1'.get? s2.heap.objs.size=some { cls:=.type "list",data:=.seq #[] 0 }:=keepP _ _ (by rw[<- hP];exact B9 _ rfl) hDC
 have I4:Inv (oB X N' scope P2.objs.size s2 H2 fp pins) [] (DR cap σ) H2 { s2 with heap:=h1',toks:=s2.toks+([]:List (Str×Value)).length }:=
  VH S I2 f2 fplt hC (by simpa using hns) old
 have loop:∀s4:Shared,s4={ s2 with heap:=h1',toks:=s2.toks+([]:List (Str×Value)).length }->
  codeAny (model X.prog X.w) X.A (.compLoop (.ListComp elt [⟨tg,iter,ifs,0⟩] scope pos) 0 (.ref it) (.ref s2.heap.objs.size) (compEnvC scope (eN X.env scope.names []) P2.objs.size X.env)) (compPost (model X.prog X.w) X.A X.xe use QQ (.ref s2.heap.objs.size) P2.objs.size) s4:=by
  rintro s4 rfl
  have hfrD:s2.heap.objs.size∉frs X.stack:=fun hb=>by
   obtain⟨_,o,ho,_⟩:=I2.stack.mem hb;exact absurd (B7 ho) (I0 _)
  have cne:∀x c,(eN X.env scope.names []).lookup x=some c->c<s2.heap.objs.size:=fun x c e=>by
   obtain⟨v,q⟩:=I2.cell x c (S.sub I2.ok x c e);exact q.lt
  have stat:∀{Hx:Hp}{ob:Obj},(∀b∈fp,Hx b=none)->∀b∈fp,vG (oB X N' scope P2.objs.size s2 H2 fp pins) [(s2.heap.objs.size,ob)] Hx b:=fun{Hx ob} hn b hb=>by
   refine⟨hn b hb,C9 (C7 (fplt b hb) hC),I2.stkAll (f2 b hb).2.1 (f2 b hb).2.2.1,.inl hb,fun x c e=>(f2 b hb).2.2.2.2.1 x c (S.sub I2.ok x c e),fun p hp=>?_⟩;rcases List.mem_append.mp hp with z|z
   .exact(f2 b hb).2.2.2.2.2 p z
   .rw[List.mem_singleton.mp z];exact A0p (fplt b hb)
  refine ZF (fun n s'=>∃(i:Nat)(σ':St)(H':Hp)(acc:List V)(its:List Value)(nn:Nat),Inv (oB X N' scope P2.objs.size s2 H2 fp pins) [] σ' H' s'/\tn i s'.heap/\(∀b∈fp,H' b=none)/\H' s2.heap.objs.size=none /\
   s'.heap.get? s2.heap.objs.size=some { cls:=.type "list",data:=.seq its.toArray nn }/\bQ acc its/\acc.length<=sizeLine/\W i n acc σ' H') ?_ m0
   ⟨0,DR cap σ,H2,[],[],0,I4,T.keep _ _ _ st2 fun b _ o e=>old b o e,fun b hb=>(f2 b hb).1,I2.hok.fresh (B3 _),hD0,.nil,F9 _,w0⟩
  rintro n s5 ⟨i,σ',H',acc,its,nn,I5,t5,fr5,d5,g5,va,la,w5⟩
  have I5p:Inv (oB X N' scope P2.objs.size s2 H2 fp pins) [(s2.heap.objs.size,{ cls:=.type "list",data:=.seq its.toArray nn })] σ' H' s5:=I5.pins_of fun p hp=>by
   rw[List.mem_singleton.mp hp];exact⟨g5,d5,hDC,hfrD,fun v z=>by cases z⟩
  rcases turn i n acc σ' H' w5 with⟨stop,q⟩|⟨go,lt,N,hN,step⟩
  .refine thn (T.done (oB X N' scope P2.objs.size s2 H2 fp pins) rfl rfl rfl hc i _ s5 σ' H' _ I5p (stat fr5) t5 stop) fun r s6 ⟨hr,I6⟩=>.inl ⟨hr,?_⟩;have d6:=(I6.pin (s2.heap.objs.size,{ cls:=.type "list",data:=.seq its.toArray nn }) (by simp)).1;have nC:H' P2.objs.size=none:=I6.free;refine post _ _ H' acc s6 hDC (let⟨m,hn,_⟩:=I6.loc;⟨m,hn⟩) (fun h' hs'=>?_) (I2.fpOk hC (by rw[bB hDC.symm];exact nC)) (q _ d5);have up:∀b o,b≠P2.objs.size->s6.heap.get? b=some o->h'.get? b=some o:=fun b o hb e=>hs'.extBut b o hb e;have ltC:∀b o,s2.heap.get? b=some o->b≠P2.objs.size/\b≠s2.heap.objs.size:=fun b o e=>⟨C9 (C7 (B7 e) hC),C9 (B7 e)⟩;have u6:Un (frs X.stack) fp H2 H' s2.heap s6.heap:=I6.base
   have u7:Un (frs X.stack) fp H2 (upd H' s2.heap.objs.size (.lst acc)) s2.heap h':=by
    refine⟨fun b o e n hb hx=>up b o (ltC b o e).1 (u6.keep b o e n hb hx),fun b o e n hb hx=>?_,fun b o e n hx=>?_,fun b o e hx=>?_,fun b xs e=>?_,fun b o u e=>?_,fun b ps e=>?_⟩
    .obtain⟨sl,q⟩:=u6.slot b o e n hb hx;exact⟨sl,up b _ (ltC b o e).1 q⟩
    .rw[bB (ltC b o e).2];exact u6.free b o e n hx
    .obtain⟨o',q⟩:=u6.there b o e hx;exact⟨o',up b o' (ltC b o e).1 q⟩
    .have z:=u6.tups b xs e;rw[bB (bF z d5)];exact z
    .have z:=u6.frzs b o u e;rw[bB (bF z d5)];exact z
    .obtain⟨more,z⟩:=u6.tbls b ps e;exact⟨more,by rw[bB (bF z d5)];exact z⟩
   have ok7:HOk X.prog X.w (upd H' s2.heap.objs.size (.lst acc)) h':=fun b u e=>by
    by_cases hb:b=s2.heap.objs.size
    .subst hb;rw[bA]at e;cases e;exact⟨la,its,nn,va,up _ _ hDC d6⟩
    .rw[bB hb]at e;refine(I6.hok b u e).stay (fun c v hc' z=>up c v ?_ z) (fun c z=>by rw[bB (bF z d5)];exact z) fun c xs z=>by rw[bB (bF z d5)];exact z
     rcases hc' with rfl|z
     .exact bF e nC
     .exact bF z nC
   have os6:s6.os=s2.os:=I6.os;have ba6:=I6.bare;obtain⟨hh,gg,dd,tt,oo⟩:=s6;subst os6;have z7:=I2.call (s:=s2) (h':=h') (g':=gg) (d':=dd) (t':=tt) (ch:=fp) u7 ok7 ba6 fun b hb=>⟨(f2 b hb).2.2.2.1,(f2 b hb).2.1,(f2 b hb).2.2.2.2.1,(f2 b hb).2.2.2.2.2⟩;exact z7
  .refine thn (T.item (oB X N' scope P2.objs.size s2 H2 fp pins) rfl rfl rfl hc i _ s5 σ' H' _ I5p (stat fr5) t5 go) fun r s6 ⟨u,hr,h6⟩=>.inr ⟨u,hr,?_⟩;refine thn h6 fun _ s7 ⟨x,H7,I7,r7,y7,t7,fr7⟩=>?_;have I7':=I7.pinned (stat fr7) (T.obj _ _ t7)
   have back:∀{σx:St}{Hx:Hp}{sx:Shared},Inv (oB X N' scope P2.objs.size s2 H2 fp pins) ([(s2.heap.objs.size,{ cls:=.type "list",data:=.seq its.toArray nn })]++zW fp s7.heap) σx Hx sx->
    (∀b∈fp,∀o,s7.heap.get? b=some o->sx.heap.get? b=some o)/\(∀b∈fp,Hx b=none)/\sx.heap.get? s2.heap.objs.size=some { cls:=.type "list",data:=.seq its.toArray nn }/\Hx s2.heap.objs.size=none:=fun{σx Hx sx} Ix=>by
    refine⟨fun b hb o e=>(Ix.pin (b,o) (E2 _ (E2 _ (oV hb e)))).1,fun b hb=>?_,?_,?_⟩
    .obtain⟨o,e,_⟩:=T.obj _ _ t7 b hb;exact(Ix.pin (b,o) (E2 _ (E2 _ (oV hb e)))).2.1
    .exact(Ix.pin (s2.heap.objs.size,_) (E2 _ (J6 _ (List.mem_singleton.mpr rfl)))).1
    .exact(Ix.pin (s2.heap.objs.size,{ cls:=.type "list",data:=.seq its.toArray nn }) (E2 _ (J6 _ (List.mem_singleton.mpr rfl)))).2.1
   refine thn (hg _ _ _ _ _ _ s7 σ' H7 x u _ I7' r7 (step x H7 y7)) fun _ s8 ⟨σ8,H8,I8,q8⟩=>?_;refine thn (hif _ _ _ _ _ _ s8 σ8 H8 _ I8 q8) fun b s9 ⟨H9,I9,q9⟩=>?_;rcases q9 with⟨rfl,q9⟩|⟨rfl,n9⟩
   .refine .inl ⟨rfl,thn (he _ _ _ _ _ _ s9 σ8 H9 _ I9 q9) fun uv s10 ⟨v,H10,I10,rv,n10⟩=>?_⟩;obtain⟨m',hm,w10⟩:=hN _ _ _ n10;obtain⟨b1,b2,b3,b4⟩:=back I10;refine wpAny_list_append_plain ⟨nn,b3⟩ (fun h' hp hs'=>?_) (by rw[C6,<- va.length];exact la);obtain⟨n2,e2⟩:=hp;have up:∀b o,b≠s2.heap.objs.size->s10.heap.get? b=some o->h'.get? b=some o:=fun b o hb e=>hs'.extBut b o hb e;have I10':Inv (oB X N' scope P2.objs.size s2 H2 fp pins) [] σ8 H10 s10:=I10.pins_of fun p hp=>absurd hp (by simp);refine⟨m',hm,i+1,σ8,H10,acc++[v],its++[uv],n2,I10'.turned (t':=s10.toks) up b4 hDC (.inr (B3 _)) (fun x c e=>C9 (cne x c e)) (fun p hp=>?_),T.keep _ _ _ t7 fun b hb o e=>up b o (C9 (fplt b hb)) (b1 b hb o e),b2,b4,?_,va.append (.cons rv .nil),?_,w10⟩
    .have hp':p∈X.pn++pins:=by
      rcases List.mem_append.mp hp with z|z
      .exact z
      .exact absurd z (by simp)
     exact C9 (B7 (I2.pin p hp').1)
    .rw[e2];simp
    .rw[A7,B8];exact lt
   .obtain⟨m',hm,w9⟩:=hN _ _ _ n9;obtain⟨b1,b2,b3,b4⟩:=back I9;exact .inr ⟨rfl,m',hm,i+1,σ8,H9,acc,its,nn,I9.pins_of fun p hp=>absurd hp (by simp),T.keep _ _ _ t7 b1,b2,b4,b3,va,la,w9⟩
 exact codeAny_compStart_list (loop _ rfl) (T.self _ 0 _ _ _ (T.keep _ _ _ st2 fun b _ o e=>old b o e) (loop _ rfl))
theorem aBv{elt tg iter:Expr}{ifs:List Expr}{pos:Pos}{wi:TI}{g:TG}{tc:TT}{te:TE}(hc:X.calm=true)(S:tI X N' cap scope)(hi:PI X tg iter wi)
 (hg:∀C s H fp pn,PG (oB X N' scope C s H fp pn) tg g) (hif:∀C s H fp pn,OA (oB X N' scope C s H fp pn) ifs tc) (he:∀C s H fp pn,PE (oB X N' scope C s H fp pn) elt te)
 (hs:∀x,foldedSetIterable iter X.env x=pure x:=by intro _;rfl):PE X (.ListComp elt [⟨tg,iter,ifs,0⟩] scope pos) (tLc cap wi g tc te):=by
 intro pins s σ H Q I h;rw[eval_ListComp];refine QO (use:=none) (Q:=Q) hc S hi hg hif he hs I h fun D C H' acc s' hDC ⟨m,hn⟩ hI _ hq=>⟨m,hn,fun h' hs'=>?_⟩;exact⟨.ref D,_,hI h' hs',rfl,hq⟩
theorem GV{i:Nat}{x:Str}{elt tg iter:Expr}{ifs:List Expr}{pos pos' pos'':Pos}{wi:TI}{g:TG}{tc:TT}{te:TE}(hN:X.N.Nodup)(hix:X.N[i]?=some x)(hc:X.calm=true)(S:tI X N' cap scope)(hi:PI X tg iter wi)
 (hg:∀C s H fp pn,PG (oB X N' scope C s H fp pn) tg g) (hif:∀C s H fp pn,OA (oB X N' scope C s H fp pn) ifs tc) (he:∀C s H fp pn,PE (oB X N' scope C s H fp pn) elt te)
 (hsw:swapsWith (.ListComp elt [⟨tg,iter,ifs,0⟩] scope pos) (some (.Name x pos')) pos''.line X.env=pure true:=by rfl) (hx:X.env.scope.names.lookup x=some .local:=by rfl)
 (hs:∀x,foldedSetIterable iter X.env x=pure x:=by intro _;rfl):PS X (.Assign [.Name x pos'] (.ListComp elt [⟨tg,iter,ifs,0⟩] scope pos) pos'') (YQ (tLc cap wi g tc te) (HE i)):=by
 intro pins s σ H D I h;rw[exec_Assign_Name_used _ _ _ _ hsw];refine A2 (wpAny_standAt (A2 ?_));show wpAny _ _ (comprehension (.ListComp elt [⟨tg,iter,ifs,0⟩] scope pos) scope X.env _ (newList []) false (firstIter [⟨tg,iter,ifs,0⟩] X.env) (some (assign (.Name x pos') X.env)) >>= fun _=>pure ()) _ _ s;refine A2 (thn (QO (use:=some (assign (.Name x pos') X.env)) (QQ:=fun _ s'=>∃σ' H',Inv X pins σ' H' s'/\D.nx σ' H') (Q:=fun v H1=>HE i v σ H1 D.nx) hc S hi hg hif he hs I h fun E C H' acc s' hDC ⟨m,hn⟩ hI fC hq=>?_) fun _ s' hz=>B4 (B4 hz));have I1:Inv X pins σ (upd H' E (.lst acc)) s':=hI s'.heap (Heap.SameBut.refl ..);have I1:Inv X pins σ (upd H' E (.lst acc)) s':=I1;refine wpAny_assign_Name (CL (M:=model X.prog X.w) (A:=X.A) (E:=X.xe) I1 hN hix (.inl hx) (v:=.ref E) (u:=.ref E) rfl (fun s2 I2 hsb=>?_) (.inr hx));obtain⟨a,hs2,ha⟩:=hsb
 have hne:C≠a:=by
  rcases ha with z|z
  .rw[z];exact fC.2.1
  .exact fun w=>fC.2.2.2.2.1 x a z w.symm
 refine⟨m,hn.extBut hs2.extBut hne,fun h' hs'=>?_⟩;exact⟨_,_,I2.turned (t':=s2.toks) (fun b o hb e=>hs'.extBut b o hb e) fC.1 fC.2.1 fC.2.2.2.1 fC.2.2.2.2.1 fC.2.2.2.2.2,hq⟩
end
noncomputable def aGi:Key->PyData
 |.inl i=>.int i
 |.inr x=>.str x
mutual
noncomputable def Rep(K:Fg)(H:Hp):PyData->V->Prop
 |.none,v=>v=.non
 |.bool b,v=>v=.bl b
 |.int i,v=>v=.int i
 |.str x,v=>v=.str x
 |.list xs,v=>∃a vs,v=.ref a/\SqL K H a vs/\aK K H xs vs
 |.tuple xs,v=>∃a vs,v=.ref a/\SqT K H a vs/\aK K H xs vs
 |.dict kvs,v=>∃a ks,v=.ref a/\H a=some (.dK ks)/\qJ K H kvs ks
noncomputable def aK(K:Fg)(H:Hp):List PyData->List V->Prop
 |[],vs=>vs=[]
 |d::ds,vs=>∃v r,vs=v::r/\Rep K H d v/\aK K H ds r
noncomputable def qJ(K:Fg)(H:Hp):List (PyData×PyData)->List (Key×V)->Prop
 |[],ks=>ks=[]
 |(k,d)::kvs,ks=>∃k' v r,ks=(k',v)::r/\k=aGi k'/\Rep K H d v/\qJ K H kvs r
end
theorem lM.seqT{a:Addr}{xs:List V}(e:lM H H')(h:SqT K H a xs):SqT K H' a xs:=by
 rcases h with h|h
 .refine .inl ?_;rcases h with h|⟨o,h⟩
  .exact .inl (e _ _ h)
  .exact .inr ⟨o,e _ _ h⟩
 .exact .inr h
mutual
theorem Rep.same{K:Fg}{H H':Hp}(e:lM H H'):∀(d:PyData)(v:V),Rep K H d v->Rep K H' d v
 |.none=>fun v h=>h
 |.bool b=>fun v h=>h
 |.int i=>fun v h=>h
 |.str x=>fun v h=>h
 |.list xs=>fun v h=>by
  obtain⟨a,vs,h1,h2,h3⟩:=h;exact⟨a,vs,h1,e.seq h2,aK.same e xs vs h3⟩
 |.tuple xs=>fun v h=>by
  obtain⟨a,vs,h1,h2,h3⟩:=h;exact⟨a,vs,h1,e.seqT h2,aK.same e xs vs h3⟩
 |.dict kvs=>fun v h=>by
  obtain⟨a,ks,h1,h2,h3⟩:=h;exact⟨a,ks,h1,e _ _ h2,qJ.same e kvs ks h3⟩
theorem aK.same{K:Fg}{H H':Hp}(e:lM H H'):∀(ds:List PyData)(vs:List V),aK K H ds vs->aK K H' ds vs
 |[]=>fun vs h=>h
 |d::ds=>fun vs h=>by
  obtain⟨v,r,h1,h2,h3⟩:=h;exact⟨v,r,h1,Rep.same e d v h2,aK.same e ds r h3⟩
theorem qJ.same{K:Fg}{H H':Hp}(e:lM H H'):∀(kvs:List (PyData×PyData))(ks:List (Key×V)),qJ K H kvs ks->qJ K H' kvs ks
 |[]=>fun ks h=>h
 |(k,d)::kvs=>fun ks h=>by
  obtain⟨k',v,r,h1,h2,h3,h4⟩:=h;exact⟨k',v,r,h1,h2,Rep.same e d v h3,qJ.same e kvs r h4⟩
end
theorem aK.length{K:Fg}{H:Hp}:∀{ds:List PyData}{vs:List V},aK K H ds vs->ds.length=vs.length
 |[],vs=>fun h=>by rw[show vs=[]from h];rfl
 |d::ds,vs=>fun h=>by
  obtain⟨v,r,h1,_,h3⟩:=h;rw[h1,J5,J5,aK.length h3]
theorem aK.get{K:Fg}{H:Hp}:∀{ds:List PyData}{vs:List V}{i:Nat}{v:V},aK K H ds vs->vs[i]?=some v->∃d,ds[i]?=some d/\Rep K H d v
 |[],vs,i,v=>fun h e=>by rw[show vs=[]from h]at e;simp at e
 |d::ds,vs,0,v=>fun h e=>by
  obtain⟨w,r,h1,h2,h3⟩:=h;rw[h1]at e;simp at e;subst e;exact⟨d,rfl,h2⟩
 |d::ds,vs,i+1,v=>fun h e=>by
  obtain⟨w,r,h1,h2,h3⟩:=h;rw[h1]at e;exact aK.get (i:=i) h3 (by simpa using e)
theorem aK.app{K:Fg}{H:Hp}:∀{ds es:List PyData}{vs ws:List V},aK K H ds vs->aK K H es ws->aK K H (ds++es) (vs++ws)
 |[],es,vs,ws=>fun h k=>by rw[show vs=[]from h];exact k
 |d::ds,es,vs,ws=>fun h k=>by
  obtain⟨v,r,h1,h2,h3⟩:=h;exact⟨v,r++ws,by rw[h1];rfl,h2,aK.app h3 k⟩
section
variable{X:Cx}{pins:List (Addr×Obj)}{σ:St}{H:Hp}{s:Shared}
theorem Inv.sysN(I:Inv X pins σ H s):H sysModules=none:=by
 obtain⟨o,es,ep,h,_⟩:=I.mod.sysm;exact(I.bs _ _ h).2
theorem Inv.sysL(I:Inv X pins σ H s){a:Addr}{xs:List V}(h:SqL X.K H a xs):sysModules≠a:=by
 intro e;subst e;have hn:=I.sysN;rcases h with(h|⟨o,h⟩)|⟨o,its,n,hk,_,_,hd,_⟩
 .rw[hn]at h;cases h
 .rw[hn]at h;cases h
 .obtain⟨o',es,ep,h',hd'⟩:=I.mod.sysm;have:=I.mod.kin _ _ hk;rw[h']at this;cases this;rw[hd]at hd';cases hd'
mutual
theorem Rep.reads'(I:Inv X pins σ H s):∀(d:PyData)(v:V)(u:Value),Rep X.K H d v->RelV v u->∃as,Reads s.heap u d as/\sysModules∉as
 |.none=>fun v u r q=>by
  rw[show v=.non from r]at q;rw[show u=Value.none from q];exact⟨_,.none,by simp⟩
 |.bool b=>fun v u r q=>by
  rw[show v=.bl b from r]at q;rw[show u=Value.bool b from q];exact⟨_,.bool b,by simp⟩
 |.int i=>fun v u r q=>by
  rw[show v=.int i from r]at q;obtain⟨t,rfl⟩:=(show ∃t,u=Value.int i t from q);exact⟨_,.int i t,by simp⟩
 |.str x=>fun v u r q=>by
  rw[show v=.str x from r]at q;obtain⟨t,rfl⟩:=(show ∃t,u=Value.str x t from q);exact⟨_,.str x t,by simp⟩
 |.list xs=>fun v u r q=>by
  obtain⟨a,vs,rfl,h2,h3⟩:=r;rw[show u=Value.ref a from q];obtain⟨its,hv,⟨o,n,hg,hc,_,hd⟩,_⟩:=I.list h2;obtain⟨as,ha,hs⟩:=aK.reads' I xs vs its h3 hv;exact⟨_,.list hg hc hd (by simpa using ha),fun z=>(List.mem_cons.mp z).elim (I.sysL h2) hs⟩
 |.tuple xs=>fun v u r q=>by
  obtain⟨a,vs,rfl,h2,h3⟩:=r;rw[show u=Value.ref a from q];obtain⟨its,hv,⟨o,hg,hc,n,hd⟩,_⟩:=I.tuple h2;obtain⟨as,ha,hs⟩:=aK.reads' I xs vs its h3 hv;exact⟨_,.tuple hg hc hd (by simpa using ha),hs⟩
 |.dict kvs=>fun v u r q=>by
  obtain⟨a,ks,rfl,h2,h3⟩:=r;rw[show u=Value.ref a from q];obtain⟨_,hS,vs,hkv,o,es,ep,hg,hex,hd,_,hp,_⟩:=(show gY X.prog X.w H s.heap a (.dK ks)from I.hok a _ h2);obtain⟨as,bs,h4,h5,n1,n2⟩:=qJ.reads' I kvs ks vs es.toList h3 hkv hp;refine⟨_,.dict hg hex.1 hd h4 h5,fun z=>?_⟩;rcases List.mem_append.mp z with z|z
  .rcases List.mem_cons.mp z with z|z
   .rw[z]at hS;simp at hS
   .exact n1 z
  .exact n2 z
theorem aK.reads'(I:Inv X pins σ H s):∀(ds:List PyData)(vs:List V)(us:List Value),aK X.K H ds vs->bQ vs us->∃as,ReadsAll s.heap us ds as/\sysModules∉as
 |[]=>fun vs us r q=>by
  rw[show vs=[]from r]at q;cases q;exact⟨_,.nil,by simp⟩
 |d::ds=>fun vs us r q=>by
  obtain⟨v,t,rfl,h2,h3⟩:=r;cases q with
  |cons q1 q2=>
   obtain⟨as,ha,n1⟩:=Rep.reads' I d v _ h2 q1;obtain⟨bs,hb,n2⟩:=aK.reads' I ds t _ h3 q2;exact⟨_,.cons ha hb,fun z=>(List.mem_append.mp z).elim n1 n2⟩
theorem qJ.reads'(I:Inv X pins σ H s):∀(kvs:List (PyData×PyData))(ks:List (Key×V))(vs:List (Key×Value))(es:List DictEntry),qJ X.K H kvs ks->KV ks vs->Pairs (uD X.prog X.w) es vs->
 ∃as bs,ReadsAll s.heap (es.map (·.key)) (kvs.map (·.1)) as/\ReadsAll s.heap (es.map (·.val)) (kvs.map (·.2)) bs/\sysModules∉as/\sysModules∉bs
 |[]=>fun ks vs es r q p=>by
  rw[show ks=[]from r]at q;cases q;cases p;exact⟨_,_,.nil,.nil,by simp,by simp⟩
 |(k,d)::kvs=>fun ks vs es r q p=>by
  obtain⟨k',v,t,rfl,h1,h2,h3⟩:=r;cases q with
  |@cons _ kv _ vs' q1 q2=>
   cases p with
   |@cons e _ es' _ p1 p2 p3=>
    obtain⟨as,bs,ha,hb,n1,n2⟩:=qJ.reads' I kvs t _ _ h3 q2 p3;obtain⟨cs,hc,n3⟩:=Rep.reads' I d v _ h2 q1.2
    have hkey:Reads s.heap e.key k []:=by
     rw[h1];have p1':VQ kv.1 e.key=true:=p1;rw[<- show k'=kv.1 from q1.1]at p1';rcases dN p1' with⟨i,t',rfl,he⟩|⟨x,t',rfl,he⟩
     .rw[he];exact .int i t'
     .rw[he];exact .str x t'
    refine⟨_,_,.cons hkey ha,.cons (show Reads s.heap e.val d cs by rw[p2];exact hc) hb,by simpa using n1,fun z=>(List.mem_append.mp z).elim n3 n2⟩
end
theorem Rep.reads(I:Inv X pins σ H s)(d:PyData)(v:V)(u:Value)(r:Rep X.K H d v)(q:RelV v u):∃as,Reads s.heap u d as:=let⟨as,h,_⟩:=Rep.reads' I d v u r q;⟨as,h⟩
theorem aK.reads(I:Inv X pins σ H s)(ds:List PyData)(vs:List V)(us:List Value)(r:aK X.K H ds vs)(q:bQ vs us):∃as,ReadsAll s.heap us ds as:=let⟨as,h,_⟩:=aK.reads' I ds vs us r q;⟨as,h⟩
end
section
variable{X:Cx}
noncomputable def HS(K:Fg)(neg:Bool):R2:=fun x y H Q=>∃dx dy,Rep K H dx x/\Rep K H dy y/\SeqAt.shaped dx=true/\SeqAt.shaped dy=true/\Q (.bl (if neg then !PyData.eqv dx dy else PyData.eqv dx dy)) H
theorem UP(hu:X.A.units+64<cLine):OpR X (compareOp .Eq) (HS X.K false):=by
 intro pins s σ H x y v u Q I rx ry h;obtain⟨dx,dy,hx,hy,sx,sy,q⟩:=h;obtain⟨as,ha⟩:=Rep.reads I dx x v hx rx;obtain⟨bs,hb⟩:=Rep.reads I dy y u hy ry;exact eq_dataH ha hb sx sy hu ⟨.bl _,H,I,rfl,q⟩
theorem UO(hu:X.A.units+64<cLine):OpR X (compareOp .NotEq) (HS X.K true):=by
 intro pins s σ H x y v u Q I rx ry h;obtain⟨dx,dy,hx,hy,sx,sy,q⟩:=h;obtain⟨as,ha⟩:=Rep.reads I dx x v hx rx;obtain⟨bs,hb⟩:=Rep.reads I dy y u hy ry;exact ne_dataH ha hb sx sy hu ⟨.bl _,H,I,rfl,q⟩
open Classical in
noncomputable def rV(h:Heap)(dv:PyData)(u:Value):Bool:=if ∃d as,Reads h u d as/\PyData.eqv d dv=true then true else false
theorem aAO{h:Heap}{dv d:PyData}{u:Value}{as:List Addr}(r:Reads h u d as)(hc:d.canLay0=true):rV h dv u=PyData.eqv d dv:=by
 unfold rV;by_cases e:PyData.eqv d dv=true
 .rw[A4 ⟨d,as,r,e⟩,e]
 .rw[B0,Bool.eq_false_iff.mpr e];rintro⟨d',as',r',e'⟩;have:=SeqAt.Reads.unique d d' u as as' hc r r';subst this;exact e e'
theorem qO{A:Around}{s:Shared}{v:Value}{dv:PyData}{av:List Addr}(hv:Reads s.heap v dv av)(sv:SeqAt.shaped dv=true)(hu:A.units+64<cLine):
 ∀(us:List Value)(ds:List PyData)(as:List Addr),ReadsAll s.heap us ds as->ds.all SeqAt.shaped=true->(∀y∈us,SeqAt.EqAt A s y v (rV s.heap dv y))/\us.any (rV s.heap dv)=ds.any fun d=>PyData.eqv d dv
 |[]=>fun ds as r _=>by
  cases r;exact⟨fun y hy=>absurd hy (by simp),rfl⟩
 |y::us=>fun ds as r hs=>by
  cases r with
  |@cons _ _ d ds' as1 bs1 r1 r2=>
   rw[A0i,B5]at hs;obtain⟨h1,h2⟩:=qO hv sv hu us _ _ r2 hs.2;have e:=aAO (dv:=dv) r1 (S7 hs.1);have hy:SeqAt.EqAt A s y v (PyData.eqv d dv):=SeqAt.eqAt_reads d dv A s y v _ _ r1 hv (S7 hs.1) (S7 sv) (SeqAt.room_of_shaped hs.1 hu);refine⟨fun z hz=>?_,by rw[List.any_cons,List.any_cons,e,h2]⟩;rcases List.mem_cons.mp hz with q|q
   .rw[q,e];exact hy
   .exact h1 z q
noncomputable def OJ(K:Fg)(neg:Bool):R2:=fun x y H Q=>∃dx ds p vs,Rep K H dx x/\y=.ref p/\(SqL K H p vs\/SqT K H p vs)/\aK K H ds vs/\SeqAt.shaped dx=true/\ds.all SeqAt.shaped=true /\
 Q (.bl (if neg then !ds.any fun d=>PyData.eqv d dx else ds.any fun d=>PyData.eqv d dx)) H
theorem aEn(hu:X.A.in1.units+64<cLine):OpR X (compareOp .In) (OJ X.K false):=by
 intro pins s σ H x y v u Q I rx ry h;obtain⟨dx,ds,p,vs,hx,rfl,hp,hds,sx,sds,q⟩:=h;cases ry;obtain⟨as,ha⟩:=Rep.reads I dx x v hx rx;rcases hp with hp|hp
 .obtain⟨its,r,pl,hz⟩:=I.list hp;obtain⟨bs,hb⟩:=aK.reads I ds vs its hds r;obtain⟨h1,h2⟩:=qO (A:=X.A.in1) ha sx hu its ds bs hb sds;refine SeqAt.in_listAt (rV s.heap dx) pl.isList (fun w hw=>h1 w (by simpa using hw)) ⟨.bl _,H,I,rfl,?_⟩;rw[show its.toArray.any (rV s.heap dx)=its.any (rV s.heap dx)by simp,h2];exact q
 .obtain⟨its,r,pl,hz⟩:=I.tuple hp;obtain⟨bs,hb⟩:=aK.reads I ds vs its hds r;obtain⟨h1,h2⟩:=qO (A:=X.A.in1) ha sx hu its ds bs hb sds;refine SeqAt.in_tupleAt (rV s.heap dx) pl (fun w hw=>h1 w (by simpa using hw)) ⟨.bl _,H,I,rfl,?_⟩;rw[show its.toArray.any (rV s.heap dx)=its.any (rV s.heap dx)by simp,h2];exact q
theorem NZ(hu:X.A.in1.units+64<cLine):OpR X (compareOp .NotIn) (OJ X.K true):=by
 intro pins s σ H x y v u Q I rx ry h;obtain⟨dx,ds,p,vs,hx,rfl,hp,hds,sx,sds,q⟩:=h;cases ry;obtain⟨as,ha⟩:=Rep.reads I dx x v hx rx;rcases hp with hp|hp
 .obtain⟨its,r,pl,hz⟩:=I.list hp;obtain⟨bs,hb⟩:=aK.reads I ds vs its hds r;obtain⟨h1,h2⟩:=qO (A:=X.A.in1) ha sx hu its ds bs hb sds;refine SeqAt.notIn_listAt (rV s.heap dx) pl.isList (fun w hw=>h1 w (by simpa using hw)) ⟨.bl _,H,I,rfl,?_⟩;rw[show its.toArray.any (rV s.heap dx)=its.any (rV s.heap dx)by simp,h2];exact q
 .obtain⟨its,r,pl,hz⟩:=I.tuple hp;obtain⟨bs,hb⟩:=aK.reads I ds vs its hds r;obtain⟨h1,h2⟩:=qO (A:=X.A.in1) ha sx hu its ds bs hb sds;refine SeqAt.notIn_tupleAt (rV s.heap dx) pl (fun w hw=>h1 w (by simpa using hw)) ⟨.bl _,H,I,rfl,?_⟩;rw[show its.toArray.any (rV s.heap dx)=its.any (rV s.heap dx)by simp,h2];exact q
theorem bQ.types:∀{Ts:List String}{its:List Value},bQ (Ts.map V.ty) its->its=Ts.map Value.type
 |[],_=>fun h=>by cases h;rfl
 |t::Ts,its=>fun h=>by
  cases h with
  |cons r1 r2=>rw[show _=Value.type t from r1,bQ.types r2];rfl
theorem bQ.bools:∀{bs:List Bool}{its:List Value},bQ (bs.map V.bl) its->its=bs.map Value.bool
 |[],_=>fun h=>by cases h;rfl
 |b::bs,its=>fun h=>by
  cases h with
  |cons r1 r2=>rw[show _=Value.bool b from r1,bQ.bools r2];rfl
theorem all_range(bs:List Bool):(List.range bs.length).all (fun i=>bs.getD i false)=bs.all id:=by
 rw[L9];simp only[List.all_eq_true,List.mem_range,id];constructor
 .intro h b hb;obtain⟨i,hi,rfl⟩:=List.mem_iff_getElem.mp hb;have:=h i hi;rw[A6,A8 hi]at this;exact this
 .intro h i hi;rw[A6,A8 hi];exact h _ (S9 hi)
theorem any_range(bs:List Bool):(List.range bs.length).any (fun i=>bs.getD i false)=bs.any id:=by
 rw[L9];simp only[List.any_eq_true,List.mem_range,id];constructor
 .rintro⟨i,hi,h⟩;rw[A6,A8 hi]at h;exact⟨_,S9 hi,h⟩
 .rintro⟨b,hb,h⟩;obtain⟨i,hi,rfl⟩:=List.mem_iff_getElem.mp hb;exact⟨i,hi,by rw[A6,A8 hi];exact h⟩
theorem xD{prog:Program}{w:World}{A:Around}{bs:List Bool}:TruthOf prog w A (fun i v=>(bs.map Value.bool).toArray[i]?=some v) (fun i=>bs.getD i false):=by
 intro i v s Q E hP hQ;rw[A0f,C4]at hP;cases e:bs[i]? with
 |none=>rw[e]at hP;cases hP
 |some b=>
  rw[e]at hP;cases hP;have hb:bs.getD i false=b:=by rw[A6,e];rfl
  have hQ':Q (bs.getD i false) s:=hQ;rw[hb]at hQ';exact S6 hQ'
noncomputable def AC:Nat:=2 ^ 8000
noncomputable def RP(i:Int):Prop:=i.natAbs<AC
theorem IK{j:Int}(h:RP j):j.natAbs.log2<9000:=by
 by_cases h0:j.natAbs=0
 .rw[h0];decide +kernel
 .exact Nat.lt_trans ((Nat.log2_lt h0).mpr h) (by decide)
noncomputable def aEU(i j:Int):Prop:=RP i/\RP j
theorem BQ{j:Int}(h:RP j):Builtin.Int.intBits j<=2 ^ 20:=by
 unfold Builtin.Int.intBits;by_cases h0:(j==0)=true
 .rw[A4 h0];exact F9 _
 .rw[B0 h0];have:=IK h;omega
end
structure Callee(P:Program)(w:World)(K:Fg)(mg:Str->Option Value)(base:Heap)(k:Nat)(x:Str)(ps:List Str)(sp:Sp)(q:Bool:=true):Prop where
 ex:∃f fd,rF P w K mg base CX0 k f fd ps sp q/\mg x=some (.ref f)/\PySem.W.keepIn K (.ref f)=true/\Binds K fd ps []
structure Def(K:Fg)(mg:Str->Option Value)(x:Str)(st:Stmt):Prop where
 ex:∃f fd,Fun K x x st f fd/\mg x=some (.ref f)
section
variable{P:Program}{w:World}{K:Fg}{mg:Str->Option Value}{base:Heap}{X:Cx}
theorem Def.ok{x:Str}{st:Stmt}{N ps:List Str}{k:Nat}{sp:Sp}{q:Bool}(D:Def K mg x st)(S:bI N ps (aJ st))
 (hb:∀(kV doc pm:Value)(an:Option Addr)(cdv ct:Value)(us:List Value),us.length=ps.length->bindArgs (PySem.W.fnOf x x (iG st) (dF st) (aJ st) .none kV doc pm an cdv ct) ⟨us,[]⟩=pure (ps.zip us))
 (len:∀vs H Q E,sp vs H Q E->vs.length=ps.length)
 (hbody:∀(f:Addr)(cdv:Value)(A:Around)(outer:List Env)(s:Shared)(H:Hp)(vs:List V)(Q:VK)(E:XK),fX k (A.deeper (envOfC x (aJ st) s.heap.objs.size f cdv)) q->sp vs H Q E->
  ∃t,PSs (vP CX0 P w K mg base N x (aJ st) f cdv A outer s H E q).nox (dF st) t/\t { nx:=fun _ H'=>Q .non H',rt:=Q } (start N vs) H):Callee P w K mg base (k+1) x ps sp q:=by
 obtain⟨f,fd,F,m⟩:=D.ex;exact⟨f,fd,F.ok S len fun cdv A outer s H vs Q E hr h=>hbody f cdv A outer s H vs Q E hr h,m,F.kp,F.binds hb⟩
theorem Callee.mono{j k:Nat}{x:Str}{ps:List Str}{sp:Sp}(C:Callee P w K mg base j x ps sp)(h:j<=k):Callee P w K mg base k x ps sp:=by
 obtain⟨f,fd,F,r⟩:=C.ex;exact⟨f,fd,F.mono h,r⟩
theorem def_mk{x:Str}{st:Stmt}{h:Heap}{f:Addr}{oc:Value}{od an:Option Addr}{osl:Array (Option Value)}{kV doc pm cdv ct:Value}(X:K.In h)(G:h.Ns mainGlobals mg)(a:PySem.W.nsIn K mainGlobals x=some (some (.ref f)))
 (l:K.lookup f=some ⟨oc,od,.func (PySem.W.fnOf x x (iG st) (dF st) (aJ st) .none kV doc pm an cdv ct),osl⟩) (c:PySem.W.codeIn K cdv x=true) (k:PySem.W.keepIn K (.ref f)=true):Def K mg x st:=
 ⟨f,_,aCS l c k,PySem.W.mg_of X G a⟩
theorem aCO{k:Nat}{x:Str}{ps:List Str}{sp:Sp}{p pos:Pos}{e:Expr}{es:List Expr}{t:TA}{q:Bool}(C:Callee X.prog X.w X.K X.mg X.base k x ps sp q)(hr:fX k X.A q)(ha:PA X (e::es) t)(hg:Gl X x:=by rfl)
 (hdb:(x==("__debug__":Str))=false:=by decide) (he:starEach (e::es) X.env=(false,eval e X.env)::starEach es X.env:=by rfl) (hpl:(backTo pos (starEach es X.env)).any (·.1)=false:=by rfl):
 PE X (.Call (.Name x p) (e::es) [] pos) (WT sp [] E0 t):=by
 obtain⟨f,fd,F,m,kp,b⟩:=C.ex;exact aAC F hr hg m kp b .nil aEN ha hdb he hpl
theorem fX.units1{k:Nat}{A:Around}(r:fX k A):A.in1.units+64<cLine:=by have:=r.un;show A.units+1+64<_;omega
noncomputable def PX(mg:Str->Option Value)(xs:List Str):Prop:=∀x∈xs,mg x=none
theorem PX.of{xs:List Str}(h:PX mg xs)(x:Str)(hx:x∈xs:=by decide +kernel):mg x=none:=h x hx
theorem UX:PX mg []:=fun _ h=>absurd h (by simp)
theorem cX{x:Str}{xs:List Str}(h:mg x=none)(hr:PX mg xs):PX mg (x::xs):=fun y hy=>(List.mem_cons.mp hy).elim (fun e=>e▸h) (hr y)
noncomputable def HD(i j:Int):Prop:=aEf i j\/aEU i j
theorem HD.ok{i j:Int}(h:HD i j):IntMulOk i j:=by
 rcases h with h|h
 .exact h.ok
 .exact IntMulOk.of_bits (BQ h.1) (BQ h.2)
theorem aAT:OpR X (binaryOp .Mult) (rI HD fun i j=>.int (i*j)):=opI fun _ _ _ _ _ _ _ hc q=>mul_int q hc.ok
noncomputable def aBy(_ j:Int):Prop:=0<j/\RP j
theorem VS:OpR X (binaryOp .FloorDiv) (rI aBy fun i j=>.int (i / j)):=opI fun i j _ _ _ _ _ hc q=>by
 refine floordiv_int (Int.ne_of_gt hc.1) ?_ (.inl (PyProof.noPylong_of_log2 (IK hc.2)));rw[Int.fdiv_eq_ediv_of_nonneg _ (Int.le_of_lt hc.1)];exact q
end
noncomputable def aBd(sc0:Scope)(N N':List Str)(cap:List (Option Nat))(scope:Scope):Bool:=
 scope.names.all (fun y=>y.2 != .cell)&&(scope.kind==.function)&&scope.names.all (fun y=>y.2 != .local || scope.names.lookup y.1==some .local) &&
 scope.names.all (fun y=>y.2 != .free || (sc0.names.lookup y.1==some .cell || sc0.names.lookup y.1==some .free))&&(cap.length==N'.length) &&
 (List.range cap.length).all fun i=>match cap[i]? with
  |some (some j)=>(match N'[i]?,N[j]? with
   |some x,some y=>x==y&&scope.names.lookup x==some .free
   |_,_=>false)
  |_=>true
theorem cK{X:Cx}{sc0 scope:Scope}{N N':List Str}{cap:List (Option Nat)}(h1:X.env.scope=sc0)(h2:X.N=N)(h:aBd sc0 N N' cap scope=true):tI X N' cap scope:=by
 unfold aBd at h;simp only[Bool.and_eq_true,List.all_eq_true,beq_iff_eq,bne_iff_ne,ne_eq,Bool.or_eq_true,List.mem_range]at h;obtain⟨⟨⟨⟨⟨a,b⟩,c⟩,d⟩,e⟩,f⟩:=h;refine⟨a,b,fun y hy hk=>?_,fun y hy hk=>?_,e,fun i j hij=>?_⟩
 .rcases c y hy with z|z
  .exact absurd hk z
  .exact z
 .show X.env.scope.names.lookup y.1=_\/X.env.scope.names.lookup y.1=_;rw[h1];rcases d y hy with z|z
  .exact absurd hk z
  .exact z
 .have hi:i<cap.length:=(List.getElem?_eq_some_iff.mp hij).1;have g:=f i hi;rw[hij]at g;dsimp only at g;rw[h2];split at g
  .rename_i x y ex ey;rw[B5,Y3,Y3]at g;exact⟨x,ex,by rw[ey,g.1],g.2⟩
  .cases g
noncomputable def tyName:PyData->String
 |.none=>"NoneType"
 |.bool _=>"bool"
 |.int _=>"int"
 |.str _=>"str"
 |.list _=>"list"
 |.tuple _=>"tuple"
 |.dict _=>"dict"
noncomputable def asked:List String:=["int","bool","str","list","tuple","dict"]
noncomputable def isT(T S:String):Bool:=T==S || (T=="int"&&S=="bool")
noncomputable def vV(T:String)(d:PyData):Bool:=isT T (tyName d)
noncomputable def aFI(S T:String):Option Bool:=if (Value.type S==Value.type T)=true then some true else if PySem.W.kitMeta T=true then(PySem.fastBuiltinMro S).map (·.contains (Value.type T))else none
theorem UQ:(["NoneType","bool","int","str","list","tuple","dict"].all fun S=>asked.all fun T=>aFI S T==some (isT T S))=true:=by decide +kernel
theorem RD{T:String}{d:PyData}(h:T∈asked):PySem.W.kitOne K (.type (tyName d)) (.type T)=some (vV T d):=by
 have e:PySem.W.kitOne K (.type (tyName d)) (.type T)=aFI (tyName d) T:=rfl;rw[e];have hk:=UQ;rw[U8]at hk;have h1:=hk (tyName d) (by cases d<;>simp[tyName]);rw[U8]at h1;exact eq_of_beq (h1 T h)
theorem NB{K:Fg}{d:PyData}:∀{Ts:List String},(∀T∈Ts,T∈asked)->PySem.W.kitAny K (.type (tyName d)) (Ts.map Value.type)=some (Ts.any fun T=>vV T d)
 |[]=>fun _=>rfl
 |T::Ts=>fun h=>by
  rw[B6];unfold PySem.W.kitAny;rw[RD (h T B2),List.any_cons];cases vV T d with
  |true=>rfl
  |false=>rw[Bool.false_or];exact NB fun U hU=>h U (B1 _ hU)
section
variable{X:Cx}
theorem MX{pins:List (Addr×Obj)}{σ:St}{H:Hp}{s:Shared}(I:Inv X pins σ H s):∀{d:PyData}{v:V}{u:Value},Rep X.K H d v->RelV v u->∃Hc:Heap->Prop,PySem.W.KitX X.K u (.type (tyName d)) Hc/\Hc s.heap/\u≠.builtin "__main__.__loader__#opaque"
 |.none,v,u=>fun h r=>by
  rw[show v=.non from h]at r;cases (show u=Value.none from r);exact⟨_,PySem.W.kitx_none,True.intro,fun z=>nomatch z⟩
 |.bool b,v,u=>fun h r=>by
  rw[show v=.bl b from h]at r;cases (show u=Value.bool b from r);exact⟨_,PySem.W.kitx_bool,True.intro,fun z=>nomatch z⟩
 |.int i,v,u=>fun h r=>by
  rw[show v=.int i from h]at r;obtain⟨t,q⟩:=(show ∃t,u=Value.int i t from r);cases q;exact⟨_,PySem.W.kitx_int,True.intro,fun z=>nomatch z⟩
 |.str x,v,u=>fun h r=>by
  rw[show v=.str x from h]at r;obtain⟨t,q⟩:=(show ∃t,u=Value.str x t from r);cases q;exact⟨_,PySem.W.kitx_str,True.intro,fun z=>nomatch z⟩
 |.list xs,v,u=>fun h r=>by
  obtain⟨a,vs,rfl,h2,_⟩:=h;cases (show u=Value.ref a from r);obtain⟨its,hv,⟨o,n,hg,hc,_,hd⟩,_⟩:=I.list h2;exact⟨_,PySem.W.kitx_list,⟨o,hg,hc⟩,fun z=>nomatch z⟩
 |.tuple xs,v,u=>fun h r=>by
  obtain⟨a,vs,rfl,h2,_⟩:=h;cases (show u=Value.ref a from r);obtain⟨its,hv,⟨o,hg,hc,n,hd⟩,_⟩:=I.tuple h2;exact⟨_,PySem.W.kitx_tuple,⟨o,hg,hc⟩,fun z=>nomatch z⟩
 |.dict kvs,v,u=>fun h r=>by
  obtain⟨a,ks,rfl,h2,_⟩:=h;cases (show u=Value.ref a from r);obtain⟨_,_,vs,_,o,es,ep,h1,hx,_⟩:=(show gY X.prog X.w H s.heap a (.dK ks)from I.hok a _ h2);exact⟨_,PySem.W.kitx_dict,⟨o,h1,hx.1⟩,fun z=>nomatch z⟩
noncomputable def aCj(K:Fg):List V->Hp->VK->Prop:=fun xs H Q=>∃x T d,xs=[x,.ty T]/\T∈asked/\Rep K H d x/\Q (.bl (vV T d)) H
theorem PV:dC X (.builtin "isinstance") (aCj X.K):=by
 intro pins s σ H xs us Q I r h;obtain⟨x,T,d,rfl,hT,hd,q⟩:=h;obtain⟨u,u',rfl,ru,ru'⟩:=vals2 r;cases (show u'=Value.type T from ru');obtain⟨Hc,Z,hh,hne⟩:=MX I hd ru;exact PySem.W.kia_one Z I.kIn hh (RD hT) hne fun tk=>⟨.bl _,H,I.tok tk,rfl,q⟩
noncomputable def XE(K:Fg):List V->Hp->VK->Prop:=fun xs H Q=>∃(x:V)(p:Addr)(Ts:List String)(d:PyData),xs=[x,.ref p]/\H p=some (.tup (Ts.map V.ty))/\(∀T∈Ts,T∈asked)/\Rep K H d x/\Q (.bl (Ts.any fun T=>vV T d)) H
theorem JD:dC X (.builtin "isinstance") (XE X.K):=by
 intro pins s σ H xs us Q I r h;obtain⟨x,p,Ts,d,rfl,hp,hT,hd,q⟩:=h;obtain⟨u,u',rfl,ru,ru'⟩:=vals2 r;cases (show u'=Value.ref p from ru');obtain⟨_,its,rv,o,hg,hcl,n,hd'⟩:=(show gY X.prog X.w H s.heap p (.tup (Ts.map V.ty))from I.hok p _ hp);have hits:its=Ts.map Value.type:=bQ.types rv;subst hits;obtain⟨oc,od,odt,osl⟩:=o;dsimp only at hcl hd';subst hcl hd';obtain⟨Hc,Z,hh,hne⟩:=MX I hd ru;exact PySem.W.kia_tup Z I.kIn hh hg (NB hT) hne fun tk=>⟨.bl _,H,I.tok tk,rfl,q⟩
end
theorem lM.upd{p:Addr}{o:HO}(h:H p=none):lM H (upd H p o):=fun b u e=>by rw[bB (bF e h)];exact e
noncomputable def aM:PyData->Option (List PyData)
 |.list xs=>some xs
 |.tuple xs=>some xs
 |_=>none
theorem kJ{K:Fg}{H:Hp}:∀{d:PyData}{v:V}{ds:List PyData},Rep K H d v->aM d=some ds->∃a vs,v=.ref a/\(SqL K H a vs\/SqT K H a vs)/\aK K H ds vs
 |.list xs,v,ds=>fun h e=>by
  obtain⟨a,vs,h1,h2,h3⟩:=h;cases e;exact⟨a,vs,h1,.inl h2,h3⟩
 |.tuple xs,v,ds=>fun h e=>by
  obtain⟨a,vs,h1,h2,h3⟩:=h;cases e;exact⟨a,vs,h1,.inr h2,h3⟩
 |.none,_,_=>fun _ e=>by cases e
 |.bool _,_,_=>fun _ e=>by cases e
 |.int _,_,_=>fun _ e=>by cases e
 |.str _,_,_=>fun _ e=>by cases e
 |.dict _,_,_=>fun _ e=>by cases e
section
variable{X:Cx}{tg:Expr}
noncomputable def aAs(K:Fg)(tl:TE):TI:=fun σ H R=>tl σ H fun x H1=>∃a,x=.ref a/\((∃xs,SqL K H1 a xs/\R (Itl K a) H1)\/(∃xs,SqT K H1 a xs/\R (Itt K a) H1))
theorem aDG{l:Expr}{tl:TE}(hl:PE X l tl):PI X tg l (aAs X.K tl):=by
 intro pins s σ H R I h;refine thn (hl pins s σ H _ I h) fun v s1 hz=>?_;obtain⟨x,H1,I1,r1,a,e,q1⟩:=hz;subst e;cases r1
 have fp:∀b∈[s1.heap.objs.size],vG X pins H1 b:=fun b hb=>by
  have e:b=s1.heap.objs.size:=List.mem_singleton.mp hb;subst e;exact I1.fpOk (B3 _) (I1.hok.fresh (B3 _))
 rcases q1 with⟨xs,hq,q⟩|⟨xs,hq,q⟩
 .obtain⟨its,rv,p,hz⟩:=I1.list hq;refine wpAny_pyIter_list p.isList ?_;exact⟨s1.heap.objs.size,[s1.heap.objs.size],_,_,H1,rfl,I1.kept (t':=s1.toks) fun b o e=>A1 _ e,OL a _,⟨_,B9 _ rfl,rfl,rfl⟩,fp,q⟩
 .obtain⟨its,rv,p,hz⟩:=I1.tuple hq;refine Z0 (show s1.heap.IsTuple a its.toArray from p) ?_;exact⟨s1.heap.objs.size,[s1.heap.objs.size],_,_,H1,rfl,I1.kept (t':=s1.toks) fun b o e=>A1 _ e,JO a _,⟨_,B9 _ rfl,rfl,rfl⟩,fp,q⟩
end
inductive CD where
 |d (x:PyData)
 |c (n:Nat)
 |t (xs:List (PyData ⊕ Nat))
 |f (kvs:List (List Key×PyData))
 |g (nm:Str)
inductive Cell where
 |lst (xs:List CD)
 |dk (kvs:List (Key×CD))
 |dt (kvs:List (List Key×CD))
 |obj (nm:Str) (fs:List (Str×CD))
 |exc (fr:Bool) (nm:Str) (fs:List (Str×CD))
 |dead
structure Wd where
 F:Hp
 α:Nat->Addr
 n:Nat
structure Wd.Ext(W W':Wd):Prop where
 ff:lM W.F W'.F
 ln:W.n<=W'.n
 al:∀i,i<W.n->W'.α i=W.α i
theorem Wd.Ext.refl(W:Wd):W.Ext W:=⟨lM.refl _,B3 _,fun _ _=>rfl⟩
theorem Wd.Ext.trans{W1 W2:Wd}(a:W.Ext W1)(b:W1.Ext W2):W.Ext W2:=⟨a.ff.trans b.ff,J4 a.ln b.ln,fun i h=>(b.al i (C7 h a.ln)).trans (a.al i h)⟩
noncomputable def OW(K:Fg)(W:Wd):PyData ⊕ Nat->V->Prop
 |.inl x,v=>Rep K W.F x v
 |.inr i,v=>i<W.n/\v=.ref (W.α i)
noncomputable def cdA:PyData ⊕ Nat->CD
 |.inl x=>.d x
 |.inr i=>.c i
noncomputable def aAA(K:Fg)(nm:Str):Addr:=match PySem.W.nsIn K mainGlobals nm with
 |some (some (.ref C))=>C
 |_=>0
noncomputable def dS(K:Fg)(W:Wd):CD->V->Prop
 |.d x,v=>Rep K W.F x v
 |.c i,v=>i<W.n/\v=.ref (W.α i)
 |.t xs,v=>∃a vs,v=.ref a/\W.F a=some (.tup vs)/\Paired (OW K W) xs vs
 |.f kvs,v=>∃a o us,v=.ref a/\W.F a=some (.frz o (.dT us))/\Paired (fun p q=>p.1=q.1/\Rep K W.F p.2 q.2) kvs us
 |.g nm,v=>v=.ref (aAA K nm)
noncomputable abbrev cJ(K:Fg)(W:Wd):List CD->List V->Prop:=Paired (dS K W)
noncomputable def XU(K:Fg)(W:Wd):Option CD->Option V->Prop
 |none,none=>True
 |some x,some v=>dS K W x v
 |_,_=>False
noncomputable abbrev gG(K:Fg)(W:Wd):List (Option CD)->St->Prop:=Paired (XU K W)
noncomputable def aFY(a:Addr)(c:Value)(dx:Option Addr)(fr:Bool)(h:Heap):Prop:=∃o vs,h.get? a=some o/\o.cls=c/\o.dict=dx/\o.data=.fields vs/\(fr=true->1<vs.size/\vs[1]?=some .none)
noncomputable def UE(K:Fg)(W:Wd)(dx:Option Addr)(fs:List (Str×CD)):Prop:=match dx with
 |none=>fs=[]
 |some d=>fs≠[]/\∃us,W.F d=some (.xd us)/\Paired (fun p q=>p.1=q.1/\dS K W p.2 q.2) fs us
noncomputable def DJ(K:Fg)(W:Wd)(a:Addr):Cell->HO->Prop
 |.lst xs,.lst vs=>cJ K W xs vs
 |.dk kvs,.dK us=>Paired (fun p q=>p.1=q.1/\dS K W p.2 q.2) kvs us
 |.dt kvs,.dT us=>Paired (fun p q=>p.1=q.1/\dS K W p.2 q.2) kvs us
 |.obj nm fs,.ins C _ us=>C=aAA K nm/\Paired (fun p q=>p.1=q.1/\dS K W p.2 q.2) fs us
 |.exc fr nm fs,.ext φ=>∃dx,φ=aFY a (.ref (aAA K nm)) dx fr/\UE K W dx fs
 |_,_=>False
noncomputable def uS:List Str:=["straight_within"]
noncomputable def tabOf(K:Fg):Value->Option Addr
 |.ref c=>match K.lookup c with
  |some o=>(match o.data with
   |.fields vs=>(match (vs[11]?:Option Value)with
    |some (Value.ref P)=>some P
    |_=>none)
   |_=>none)
  |none=>none
 |_=>none
noncomputable def mH(K:Fg):List (Addr×Str):=K.filterMap fun p=>match p.2.data with
 |.func fd=>if uS.contains fd.name=true then(tabOf K fd.code).map fun P=>(P,fd.qualname++".<locals>.<lambda>")else none
 |_=>none
noncomputable def TabAt(H:Hp)(x:Addr×Str):Prop:=∃ps,H x.1=some (.tbl ps)/\TriplesOk ps.toList/\∀pos cv,codeAmong pos ps.toList=some cv->∃c' oc u vs t,cv=.ref c'/\H c'=some (.frz oc u)/\oc.data=.fields vs/\vs[1]?=some (.str x.2 t)
theorem TabAt.upd{x:Addr×Str}{p:Addr}{o:HO}(h:TabAt H x)(h1:∀ps,H p≠some (.tbl ps))(h2:∀ob u,H p≠some (.frz ob u)):TabAt (upd H p o) x:=by
 obtain⟨ps,e,t,k⟩:=h;refine⟨ps,by rw[bB (show x.1≠p from fun z=>h1 ps (z▸e))];exact e,t,fun pos cv c=>?_⟩;obtain⟨c',oc,u,vs,t',e1,e2,e3⟩:=k pos cv c;exact⟨c',oc,u,vs,t',e1,by rw[bB (show c'≠p from fun z=>h2 oc u (z▸e2))];exact e2,e3⟩
noncomputable def TabsOk(K:Fg)(F H:Hp):Prop:=∀x∈mH K,F x.1=none/\TabAt H x
theorem TabsOk.upd{p:Addr}{o:HO}(h:TabsOk K F H)(h1:∀ps,H p≠some (.tbl ps))(h2:∀ob u,H p≠some (.frz ob u)):TabsOk K F (upd H p o):=fun x hx=>⟨(h x hx).1,(h x hx).2.upd h1 h2⟩
theorem TabsOk.fresh{p:Addr}{o:HO}(h:TabsOk K F H)(hp:H p=none):TabsOk K F (L2.upd H p o):=h.upd (fun ps e=>by rw[hp]at e;cases e) fun ob u e=>by rw[hp]at e;cases e
theorem TabsOk.updF{p:Addr}{o:HO}(h:TabsOk K F H)(h1:∀ps,H p≠some (.tbl ps)):TabsOk K (L2.upd F p o) H:=fun x hx=>⟨by
 obtain⟨ps,e,_⟩:=(h x hx).2;rw[bB (show x.1≠p from fun z=>h1 ps (z▸e))];exact(h x hx).1,(h x hx).2⟩
theorem DJ.nt{a:Addr}{c:Cell}{o:HO}(r:DJ K W a c o):(∀ps,o≠.tbl ps)/\∀ob u,o≠.frz ob u:=by
 cases c<;>cases o<;>first|exact False.elim r|exact⟨fun _ e=>(by cases e),fun _ _ e=>(by cases e)⟩
theorem TabsOk.cell{a:Addr}{c:Cell}{o o':HO}(h:TabsOk K F H)(e:H a=some o)(r:DJ K W a c o):TabsOk K F (L2.upd H a o'):=
 h.upd (fun ps z=>r.nt.1 ps (D5 (e.symm.trans z))) fun ob u z=>r.nt.2 ob u (D5 (e.symm.trans z))
structure Good(K:Fg)(W:Wd)(M:List Cell)(H:Hp):Prop where
 fh:lM W.F H
 n:W.n=M.length
 cs:∀i c,M[i]?=some c->c≠.dead->W.F (W.α i)=none/\∃o,H (W.α i)=some o/\DJ K W (W.α i) c o
 inj:∀i j c c',M[i]?=some c->M[j]?=some c'->c≠.dead->c'≠.dead->W.α i=W.α j->i=j
 tb:TabsOk K W.F H
section
variable{K:Fg}{W W':Wd}{M M':List Cell}{H H':Hp}
theorem OW.up{x:PyData ⊕ Nat}{v:V}(h:OW K W x v)(e:W.Ext W'):OW K W' x v:=by
 cases x with
 |inl x=>exact Rep.same e.ff _ _ h
 |inr i=>exact⟨C7 h.1 e.ln,by rw[e.al i h.1];exact h.2⟩
theorem dS.up{x:CD}{v:V}(h:dS K W x v)(e:W.Ext W'):dS K W' x v:=by
 cases x with
 |d x=>exact Rep.same e.ff _ _ h
 |c i=>exact⟨C7 h.1 e.ln,by rw[e.al i h.1];exact h.2⟩
 |t xs=>
  obtain⟨a,vs,h1,h2,h3⟩:=h;exact⟨a,vs,h1,e.ff _ _ h2,Paired.mapP h3 fun _ _ r=>OW.up r e⟩
 |f kvs=>
  obtain⟨a,o,us,h1,h2,h3⟩:=h;exact⟨a,o,us,h1,e.ff _ _ h2,Paired.mapP h3 fun _ _ r=>⟨r.1,Rep.same e.ff _ _ r.2⟩⟩
 |g nm=>exact h
theorem cJ.up{xs:List CD}{vs:List V}(h:cJ K W xs vs)(e:W.Ext W'):cJ K W' xs vs:=Paired.mapP h fun _ _ r=>dS.up r e
theorem gG.up{γ:List (Option CD)}{σ:St}(h:gG K W γ σ)(e:W.Ext W'):gG K W' γ σ:=Paired.mapP h fun a b r=>by
 cases a<;>cases b
 .exact True.intro
 .exact False.elim r
 .exact False.elim r
 .exact dS.up r e
theorem UE.up{dx:Option Addr}{fs:List (Str×CD)}(h:UE K W dx fs)(e:W.Ext W'):UE K W' dx fs:=by
 cases dx with
 |none=>exact h
 |some d=>
  obtain⟨h0,us,h1,h2⟩:=h;exact⟨h0,us,e.ff _ _ h1,Paired.mapP h2 fun _ _ r=>⟨r.1,dS.up r.2 e⟩⟩
theorem DJ.up{a:Addr}{c:Cell}{o:HO}(h:DJ K W a c o)(e:W.Ext W'):DJ K W' a c o:=by
 cases c<;>cases o<;>first|exact(let⟨dx,h1,h2⟩:=h;⟨dx,h1,h2.up e⟩)|exact False.elim h|exact cJ.up h e|exact Paired.mapP h fun _ _ r=>⟨r.1,dS.up r.2 e⟩|exact⟨h.1,Paired.mapP h.2 fun _ _ r=>⟨r.1,dS.up r.2 e⟩⟩
theorem Good.lay(g:Good K W M H){p:Addr}{o:HO}(hp:H p=none):W.Ext { W with F:=upd W.F p o }/\Good K { W with F:=upd W.F p o } M (upd H p o):=by
 have fp:W.F p=none:=g.fh.free hp;have e:W.Ext { W with F:=upd W.F p o }:=⟨lM.upd fp,B3 _,fun _ _=>rfl⟩;refine⟨e,?_,g.n,fun i c hi hc=>?_,g.inj,(g.tb.updF fun ps e=>by rw[hp]at e;cases e).fresh hp⟩
 .intro b u hb;have hb:upd W.F p o b=some u:=hb;by_cases q:b=p
  .subst q;rw[bA]at hb;rw[bA];exact hb
  .rw[bB q]at hb;rw[bB q];exact g.fh b u hb
 .obtain⟨h1,o',h2,h3⟩:=g.cs i c hi hc;have ne:W.α i≠p:=bF h2 hp;exact⟨by show upd W.F p o (W.α i)=none;rw[bB ne];exact h1,o',by rw[bB ne];exact h2,h3.up e⟩
noncomputable def Wd.more(W:Wd)(p:Addr):Wd:={ W with α:=fun i=>if i=W.n then p else W.α i,n:=W.n+1 }
theorem Wd.ext_more(W:Wd)(p:Addr):W.Ext (W.more p):=⟨lM.refl _,Nat.le_succ _,fun i h=>B0 (C9 h)⟩
theorem Good.new(g:Good K W M H){p:Addr}{c:Cell}{o:HO}(hp:H p=none)(r:DJ K W p c o):Good K (W.more p) (M++[c]) (upd H p o):=by
 have e:=W.ext_more p
 have at_:∀i c',(M++[c])[i]?=some c'->(i<M.length/\M[i]?=some c')\/(i=M.length/\c'=c):=fun i c' h=>by
  by_cases q:i<M.length
  .rw[E3 q]at h;exact .inl ⟨q,h⟩
  .rw[E5 (Nat.le_of_not_lt q)]at h
   have h':i-M.length=0:=by
    cases k:i-M.length with
    |zero=>rfl
    |succ m=>rw[k]at h;simp at h
   rw[h']at h;refine .inr ⟨by omega,?_⟩;simpa using h.symm
 have al:∀i,i<M.length->(W.more p).α i=W.α i:=fun i h=>e.al i (by rw[g.n];exact h);have an:(W.more p).α M.length=p:=by show(if M.length=W.n then p else _)=p;rw[A4 g.n.symm]
 have nep:∀i c',M[i]?=some c'->c'≠.dead->W.α i≠p:=fun i c' h hc=>by
  obtain⟨_,o',h2,_⟩:=g.cs i c' h hc;exact bF h2 hp
 refine⟨?_,?_,fun i c' hi hc=>?_,fun i j c1 c2 hi hj d1 d2 he=>?_,g.tb.fresh hp⟩
 .intro b u hb;have:=g.fh b u hb;rw[bB (bF this hp)];exact this
 .show W.n+1=_;rw[g.n,A7];rfl
 .rcases at_ i c' hi with⟨q,h⟩|⟨rfl,rfl⟩
  .obtain⟨h1,o',h2,h3⟩:=g.cs i c' h hc;rw[al i q];exact⟨h1,o',by rw[bB (nep i c' h hc)];exact h2,h3.up e⟩
  .rw[an];exact⟨g.fh.free hp,o,bA,r.up e⟩
 .rcases at_ i c1 hi with⟨q,h⟩|⟨rfl,rfl⟩
  .rcases at_ j c2 hj with⟨q',h'⟩|⟨rfl,rfl⟩
   .rw[al i q,al j q']at he;exact g.inj i j c1 c2 h h' d1 d2 he
   .rw[al i q,an]at he;exact absurd he (nep i c1 h d1)
  .rcases at_ j c2 hj with⟨q',h'⟩|⟨rfl,rfl⟩
   .rw[an,al j q']at he;exact absurd he.symm (nep j c2 h' d2)
   .rfl
theorem Good.set(g:Good K W M H){i:Nat}{c c':Cell}{o':HO}(hi:M[i]?=some c)(hc:c≠.dead)(r:DJ K W (W.α i) c' o'):Good K W (M.set i c') (upd H (W.α i) o'):=by
 obtain⟨h1,o,h2,h3⟩:=g.cs i c hi hc;have lt:i<M.length:=(List.getElem?_eq_some_iff.mp hi).1
 have at_:∀j d,(M.set i c')[j]?=some d->(j=i/\d=c')\/(j≠i/\M[j]?=some d):=fun j d h=>by
  by_cases q:i=j
  .subst q;rw[E6 lt]at h;exact .inl ⟨rfl,(D5 h).symm⟩
  .rw[D6 q]at h;exact .inr ⟨fun z=>q z.symm,h⟩
 refine⟨?_,by rw[g.n,S3],fun j d hj hd=>?_,fun j k d1 d2 hj hk e1 e2 he=>?_,g.tb.cell h2 h3⟩
 .intro b u hb;rw[bB (bF hb h1)];exact g.fh b u hb
 .rcases at_ j d hj with⟨rfl,rfl⟩|⟨q,h⟩
  .exact⟨h1,o',bA,r⟩
  .obtain⟨k1,u,k2,k3⟩:=g.cs j d h hd;have ne:W.α j≠W.α i:=fun z=>q (g.inj j i d c h hi hd hc z);exact⟨k1,u,by rw[bB ne];exact k2,k3⟩
 .rcases at_ j d1 hj with⟨rfl,rfl⟩|⟨q,h⟩<;>rcases at_ k d2 hk with⟨rfl,rfl⟩|⟨q',h'⟩
  .rfl
  .exact g.inj _ k c d2 hi h' hc e2 he
  .exact g.inj j _ d1 c h hi e1 hc he
  .exact g.inj j k d1 d2 h h' e1 e2 he
end
noncomputable abbrev Ga:=List (Option CD)
noncomputable abbrev Sto:=List Cell
noncomputable abbrev EF:=Ga->Sto->Option (CD×Sto)
noncomputable abbrev TF:=Ga->Sto->Option (Bool×Sto)
noncomputable abbrev AF:=Ga->Sto->Option (List CD×Sto)
inductive Out where
 |nx (γ:Ga)|bk (γ:Ga)|ct (γ:Ga)|rt (x:CD)
noncomputable abbrev SF:=Ga->Sto->Option (Out×Sto)
noncomputable abbrev GF:=CD->Ga->Sto->Option (Ga×Sto)
noncomputable abbrev GsF:=List CD->Ga->Sto->Option (Ga×Sto)
noncomputable abbrev F1:=CD->Sto->Option (CD×Sto)
noncomputable abbrev F2:=CD->CD->Sto->Option (CD×Sto)
noncomputable abbrev FN:=List CD->Sto->Option (CD×Sto)
section
variable(K:Fg)
noncomputable def SE(t:TE)(f:EF):Prop:=∀γ M x M',f γ M=some (x,M')->∀(W:Wd)(H:Hp)(σ:St)(Q:VK),Good K W M H->gG K W γ σ->(∀v W' H',W.Ext W'->Good K W' M' H'->dS K W' x v->Q v H')->t σ H Q
noncomputable def STt(t:TT)(f:TF):Prop:=∀γ M b M',f γ M=some (b,M')->∀(W:Wd)(H:Hp)(σ:St)(Q:Bool->Hp->Prop),Good K W M H->gG K W γ σ->(∀W' H',W.Ext W'->Good K W' M' H'->Q b H')->t σ H Q
noncomputable def SA(t:TA)(f:AF):Prop:=∀γ M xs M',f γ M=some (xs,M')->∀(W:Wd)(H:Hp)(σ:St)(Q:List V->Hp->Prop),Good K W M H->gG K W γ σ->(∀vs W' H',W.Ext W'->Good K W' M' H'->cJ K W' xs vs->Q vs H')->t σ H Q
noncomputable def aBJ(D:Ends)(W:Wd)(H:Hp):Out->Prop
 |.nx γ=>∀σ,gG K W γ σ->D.nx σ H
 |.bk γ=>∀σ,gG K W γ σ->D.bk σ H
 |.ct γ=>∀σ,gG K W γ σ->D.ct σ H
 |.rt x=>∀v,dS K W x v->D.rt v H
noncomputable def SS(t:TS)(f:SF):Prop:=∀γ M o M',f γ M=some (o,M')->∀(W:Wd)(H:Hp)(σ:St)(D:Ends),Good K W M H->gG K W γ σ->(∀W' H',W.Ext W'->Good K W' M' H'->aBJ K D W' H' o)->t D σ H
noncomputable def SG(t:TG)(f:GF):Prop:=∀x γ M γ' M',f x γ M=some (γ',M')->∀(W:Wd)(H:Hp)(σ:St)(v:V)(Q:St->Hp->Prop),Good K W M H->gG K W γ σ->dS K W x v->(∀σ' W' H',W.Ext W'->Good K W' M' H'->gG K W' γ' σ'->Q σ' H')->t v σ H Q
noncomputable def SGs(t:TGs)(f:GsF):Prop:=∀xs γ M γ' M',f xs γ M=some (γ',M')->∀(W:Wd)(H:Hp)(σ:St)(vs:List V)(Q:St->Hp->Prop),Good K W M H->gG K W γ σ->cJ K W xs vs->(∀σ' W' H',W.Ext W'->Good K W' M' H'->gG K W' γ' σ'->Q σ' H')->t vs σ H Q
noncomputable def P2(r:R2)(f:F2):Prop:=∀x y M z M',f x y M=some (z,M')->∀(W:Wd)(H:Hp)(v u:V)(Q:VK),Good K W M H->dS K W x v->dS K W y u->(∀w W' H',W.Ext W'->Good K W' M' H'->dS K W' z w->Q w H')->r v u H Q
noncomputable def P1(r:V->Hp->VK->Prop)(f:F1):Prop:=∀x M z M',f x M=some (z,M')->∀(W:Wd)(H:Hp)(v:V)(Q:VK),Good K W M H->dS K W x v->(∀w W' H',W.Ext W'->Good K W' M' H'->dS K W' z w->Q w H')->r v H Q
noncomputable def PN(r:List V->Hp->VK->Prop)(f:FN):Prop:=∀xs M z M',f xs M=some (z,M')->∀(W:Wd)(H:Hp)(vs:List V)(Q:VK),Good K W M H->cJ K W xs vs->(∀w W' H',W.Ext W'->Good K W' M' H'->dS K W' z w->Q w H')->r vs H Q
noncomputable def spM(f:FN):Sp:=fun vs H Q _=>∃xs M W y M',Good K W M H/\cJ K W xs vs/\f xs M=some (y,M')/\∀v W' H',W.Ext W'->Good K W' M' H'->dS K W' y v->Q v H'
end
noncomputable def aB(i:Nat):EF:=fun γ M=>match γ[i]? with
 |some (some x)=>some (x,M)
 |_=>none
noncomputable def fC(x:PyData):EF:=fun _ M=>some (.d x,M)
noncomputable def fOp(h:F2)(f g:EF):EF:=fun γ M=>(f γ M).bind fun r=>(g γ r.2).bind fun q=>h r.1 q.1 q.2
noncomputable def fUn(h:F1)(f:EF):EF:=fun γ M=>(f γ M).bind fun r=>h r.1 r.2
noncomputable def asB:CD->Option Bool
 |.d (.bool b)=>some b
 |_=>none
noncomputable def fN(f g:EF):EF:=fun γ M=>(f γ M).bind fun r=>(asB r.1).bind fun b=>if b=true then g γ r.2 else some (.d (.bool false),r.2)
noncomputable def fOr(f g:EF):EF:=fun γ M=>(f γ M).bind fun r=>(asB r.1).bind fun b=>if b=true then some (.d (.bool true),r.2)else g γ r.2
noncomputable def FE(f:EF):EF:=fun γ M=>(f γ M).bind fun r=>(asB r.1).bind fun b=>some (.d (.bool (!b)),r.2)
noncomputable def fIf(t:TF)(f g:EF):EF:=fun γ M=>(t γ M).bind fun r=>if r.1=true then f γ r.2 else g γ r.2
noncomputable def mE(f g:TF):TF:=fun γ M=>(f γ M).bind fun r=>if r.1=true then g γ r.2 else some (false,r.2)
noncomputable def gOr(f g:TF):TF:=fun γ M=>(f γ M).bind fun r=>if r.1=true then some (true,r.2)else g γ r.2
noncomputable def cB(f:TF):TF:=fun γ M=>(f γ M).bind fun r=>some (!r.1,r.2)
noncomputable def gB(f:EF):TF:=fun γ M=>(f γ M).bind fun r=>(asB r.1).bind fun b=>some (b,r.2)
noncomputable def AU(h h':F2)(f g e:EF):EF:=fun γ M=>(f γ M).bind fun r=>(g γ r.2).bind fun q=>(h r.1 q.1 q.2).bind fun z=>(asB z.1).bind fun b=>if b=true then(e γ z.2).bind fun w=>h' q.1 w.1 w.2 else some (.d (.bool false),z.2)
noncomputable def aE:AF:=fun _ M=>some ([],M)
noncomputable def aA(f:EF)(g:AF):AF:=fun γ M=>(f γ M).bind fun r=>(g γ r.2).bind fun q=>some (r.1::q.1,q.2)
noncomputable def kO:List CD->Option (List PyData)
 |[]=>some []
 |.d x::r=>(kO r).map (x::·)
 |.c _::_=>none
 |.t _::_=>none
 |.f _::_=>none
 |.g _::_=>none
noncomputable def bK(f:AF):EF:=fun γ M=>(f γ M).bind fun r=>(kO r.1).bind fun ds=>if ds.length<=sizeLine then some (.d (.tuple ds),r.2)else none
noncomputable def eX(f:AF):EF:=fun γ M=>(f γ M).bind fun r=>(kO r.1).bind fun ds=>if ds.length<=sizeLine then some (.d (.list ds),r.2)else none
noncomputable def dU(f:AF):EF:=fun γ M=>(f γ M).bind fun r=>if r.1.length<=sizeLine then some (.c r.2.length,r.2++[.lst r.1])else none
noncomputable def aF(h:FN)(f:AF):EF:=fun γ M=>(f γ M).bind fun r=>h r.1 r.2
noncomputable def bH:SF:=fun γ M=>some (.nx γ,M)
noncomputable def aW(f g:SF):SF:=fun γ M=>(f γ M).bind fun r=>match r.1 with
 |.nx γ'=>g γ' r.2
 |o=>some (o,r.2)
noncomputable def gA(f:EF):SF:=fun γ M=>(f γ M).bind fun r=>some (.nx γ,r.2)
noncomputable def bT(f:EF):SF:=fun γ M=>(f γ M).bind fun r=>some (.rt r.1,r.2)
noncomputable def aFL:SF:=fun _ M=>some (.rt (.d .none),M)
noncomputable def sIf(c:TF)(f g:SF):SF:=fun γ M=>(c γ M).bind fun r=>if r.1=true then f γ r.2 else g γ r.2
noncomputable def bG(f:EF)(g:GF):SF:=fun γ M=>(f γ M).bind fun r=>(g r.1 γ r.2).bind fun q=>some (.nx q.1,q.2)
noncomputable def hName(i:Nat):GF:=fun x γ M=>some (γ.set i (some x),M)
noncomputable def nG:GsF:=fun xs γ M=>match xs with
 |[]=>some (γ,M)
 |_=>none
noncomputable def cT(f:GF)(g:GsF):GsF:=fun xs γ M=>match xs with
 |x::r=>(f x γ M).bind fun q=>g r q.1 q.2
 |[]=>none
noncomputable def pA(n:Nat)(g:GsF):GF:=fun x γ M=>match x with
 |.d (.tuple ds)=>if ds.length=n then g (ds.map .d) γ M else none
 |.t xs=>if xs.length=n then g (xs.map cdA) γ M else none
 |_=>none
noncomputable abbrev F3:=CD->CD->CD->Sto->Option Sto
noncomputable def hSub(fo fi:EF)(s:F3):GF:=fun x γ M=>(fo γ M).bind fun r=>(fi γ r.2).bind fun q=>(s r.1 q.1 x q.2).bind fun M'=>some (γ,M')
noncomputable def jT(g:GF)(b:SF):List CD->Ga->Sto->Option (Out×Sto)
 |[],γ,M=>some (.nx γ,M)
 |x::xs,γ,M=>(g x γ M).bind fun r=>(b r.1 r.2).bind fun q=>match q.1 with
  |.nx γ'=>jT g b xs γ' q.2
  |.ct γ'=>jT g b xs γ' q.2
  |.bk γ'=>some (.nx γ',q.2)
  |.rt x=>some (.rt x,q.2)
noncomputable def jW(f:AF)(g:GF)(b:SF):SF:=fun γ M=>(f γ M).bind fun r=>jT g b r.1 γ r.2
noncomputable def lcF(g:GF)(c:TF)(e:EF):List CD->Ga->Sto->Option (List CD×Sto)
 |[],γ,M=>some ([],M)
 |x::xs,γ,M=>(g x γ M).bind fun a=>(c a.1 a.2).bind fun b=>if b.1=true then(e a.1 b.2).bind fun r=>(lcF g c e xs a.1 r.2).bind fun q=>some (r.1::q.1,q.2)else lcF g c e xs a.1 b.2
noncomputable def mL(cap:List (Option Nat))(γ:Ga):Ga:=cap.map fun o=>o.bind fun j=>(γ[j]?).join
noncomputable def eR:TF:=fun _ M=>some (true,M)
noncomputable def wU(cap:List (Option Nat))(f:AF)(g:GF)(c:TF)(e:EF):AF:=fun γ M=>(f γ M).bind fun r=>if r.1.length<=sizeLine then lcF g c e r.1 (mL cap γ) r.2 else none
noncomputable def fLc(cap:List (Option Nat))(f:AF)(g:GF)(c:TF)(e:EF):EF:=eX (wU cap f g c e)
noncomputable def QH(cap:List (Option Nat))(f:AF)(g:GF)(c:TF)(e:EF):EF:=dU (wU cap f g c e)
noncomputable def fnF(ps N:Nat)(b:SF):FN:=fun xs M=>if xs.length=ps then(b (xs.map some++List.replicate (N-xs.length) none) M).bind fun r=>match r.1 with
 |.rt x=>some (x,r.2)
 |.nx _=>some (.d .none,r.2)
 |_=>none else none
theorem aP{α β:Type}{o:Option α}{k:α->Option β}{r:β}(h:o.bind k=some r):∃a,o=some a/\k a=some r:=by
 cases o with
 |none=>cases h
 |some a=>exact⟨a,rfl,h⟩
theorem Paired.get{α β:Type}{R:α->β->Prop}:∀{xs:List α}{ys:List β}{i:Nat}{x:α},Paired R xs ys->xs[i]?=some x->∃y,ys[i]?=some y/\R x y
 |_,_,_,_,.nil=>fun e=>by simp at e
 |_,_,0,_,.cons r _=>fun e=>by simp at e;subst e;exact⟨_,rfl,r⟩
 |_,_,i+1,x,.cons _ t=>fun e=>by
  obtain⟨u,h1,h2⟩:=Paired.get (i:=i) (x:=x) t (by simpa using e);exact⟨u,by simpa using h1,h2⟩
theorem Paired.set{α β:Type}{R:α->β->Prop}{x:α}{y:β}(r:R x y):∀{xs:List α}{ys:List β}(i:Nat),Paired R xs ys->Paired R (xs.set i x) (ys.set i y)
 |_,_,_,.nil=>.nil
 |_,_,0,.cons _ t=>.cons r t
 |_,_,i+1,.cons q t=>.cons q (Paired.set r i t)
theorem Paired.app{α β:Type}{R:α->β->Prop}:∀{xs xs':List α}{ys ys':List β},Paired R xs ys->Paired R xs' ys'->Paired R (xs++xs') (ys++ys')
 |_,_,_,_,.nil=>fun s=>s
 |_,_,_,_,.cons r t=>fun s=>.cons r (Paired.app t s)
theorem Paired.len{α β:Type}{R:α->β->Prop}{xs:List α}{ys:List β}(p:Paired R xs ys):xs.length=ys.length:=Paired.length p
section
variable{K:Fg}
theorem fF{W:Wd}:∀{xs:List CD}{ds:List PyData}{vs:List V},kO xs=some ds->cJ K W xs vs->aK K W.F ds vs
 |[],ds,vs=>fun e h=>by
  cases e;cases h;rfl
 |.c _::_,ds,vs=>fun e h=>by cases e
 |.t _::_,ds,vs=>fun e h=>by cases e
 |.f _::_,ds,vs=>fun e h=>by cases e
 |.g _::_,ds,vs=>fun e h=>by cases e
 |.d x::r,ds,vs=>fun e h=>by
  cases h with
  |@cons _ v _ vs' h1 h2=>
   unfold kO at e;cases q:kO r with
   |none=>rw[q]at e;cases e
   |some es=>
    rw[q]at e;cases e;exact⟨v,vs',rfl,h1,fF q h2⟩
theorem NO{xs:List (PyData ⊕ Nat)}{vs:List V}(h:Paired (OW K W) xs vs):cJ K W (xs.map cdA) vs:=by
 induction h with
 |nil=>exact .nil
 |@cons x v _ _ r _ ih=>exact .cons (by cases x<;>exact r) ih
theorem fK{W:Wd}:∀{ds:List PyData}{vs:List V},aK K W.F ds vs->cJ K W (ds.map .d) vs
 |[],vs=>fun h=>by rw[show vs=[]from h];exact .nil
 |d::ds,vs=>fun h=>by
  obtain⟨v,r,rfl,h1,h2⟩:=h;exact .cons h1 (fK h2)
theorem GI:∀{xs:List CD}{ds:List PyData},kO xs=some ds->ds.length=xs.length
 |[],ds=>fun e=>by cases e;rfl
 |.c _::_,ds=>fun e=>by cases e
 |.t _::_,ds=>fun e=>by cases e
 |.f _::_,ds=>fun e=>by cases e
 |.g _::_,ds=>fun e=>by cases e
 |.d x::r,ds=>fun e=>by
  unfold kO at e;cases q:kO r with
  |none=>rw[q]at e;cases e
  |some es=>
   rw[q]at e;cases e;rw[J5,J5,GI q]
theorem aEa{i:Nat}:SE K (aFz i) (aB i):=by
 intro γ M x M' h W H σ Q g r k;unfold aB at h;cases e:γ[i]? with
 |none=>rw[e]at h;cases h
 |some o=>
  cases o with
  |none=>rw[e]at h;cases h
  |some y=>
   rw[e]at h;cases h;obtain⟨v,hv,rv⟩:=Paired.get r e;cases v with
   |none=>exact False.elim rv
   |some v=>exact⟨v,hv,k v W H (.refl _) g rv⟩
theorem aCV{i:Int}:SE K (tC (.int i)) (fC (.int i)):=by
 intro γ M x M' h W H σ Q g r k;cases h;exact k _ W H (.refl _) g rfl
theorem aEC{b:Bool}:SE K (tC (.bl b)) (fC (.bool b)):=by
 intro γ M x M' h W H σ Q g r k;cases h;exact k _ W H (.refl _) g rfl
theorem aBP:SE K (tC .non) (fC .none):=by
 intro γ M x M' h W H σ Q g r k;cases h;exact k _ W H (.refl _) g rfl
theorem aEk{x:Str}:SE K (tC (.str x)) (fC (.str x)):=by
 intro γ M x M' h W H σ Q g r k;cases h;exact k _ W H (.refl _) g rfl
variable{ta tb tc:TE}{f g e:EF}{tt uu:TT}{ft gt:TF}{tA:TA}{fa:AF}
theorem NK{r:R2}{h:F2}(p:P2 K r h)(a:SE K ta f)(b:SE K tb g):SE K (tOp r ta tb) (fOp h f g):=by
 intro γ M x M' hh W H σ Q G R k;obtain⟨⟨y,M1⟩,h1,hh⟩:=aP hh;obtain⟨⟨z,M2⟩,h2,hh⟩:=aP hh;refine a _ _ _ _ h1 W H σ _ G R fun v W1 H1 e1 G1 r1=>?_;refine b _ _ _ _ h2 W1 H1 σ _ G1 (R.up e1) fun u W2 H2 e2 G2 r2=>?_;exact p _ _ _ _ _ hh W2 H2 v u Q G2 (r1.up e2) r2 fun w W3 H3 e3 G3 r3=>k w W3 H3 ((e1.trans e2).trans e3) G3 r3
theorem aFE{r:V->Hp->VK->Prop}{h:F1}(p:P1 K r h)(a:SE K ta f):SE K (tUn r ta) (fUn h f):=by
 intro γ M x M' hh W H σ Q G R k;obtain⟨⟨y,M1⟩,h1,hh⟩:=aP hh;refine a _ _ _ _ h1 W H σ _ G R fun v W1 H1 e1 G1 r1=>?_;exact p _ _ _ _ hh W1 H1 v Q G1 r1 fun w W3 H3 e3 G3 r3=>k w W3 H3 (e1.trans e3) G3 r3
theorem DQ{x:CD}{b:Bool}(h:asB x=some b):x=.d (.bool b):=by
 cases x with
 |c n=>cases h
 |t n=>cases h
 |f n=>cases h
 |g _=>cases h
 |d x=>cases x<;>first|cases h;rfl|cases h
theorem aDM(a:SE K ta f)(b:SE K tb g):SE K (aBH ta tb) (fN f g):=by
 intro γ M x M' hh W H σ Q G R k;obtain⟨⟨y,M1⟩,h1,hh⟩:=aP hh;obtain⟨c,h2,hh⟩:=aP hh;refine a _ _ _ _ h1 W H σ _ G R fun v W1 H1 e1 G1 r1=>?_;have hy:y=_:=DQ h2;subst hy;refine⟨c,r1,?_⟩;cases c with
 |true=>rw[A4 rfl];rw[A4 rfl]at hh;exact b _ _ _ _ hh W1 H1 σ Q G1 (R.up e1) fun w W3 H3 e3 G3 r3=>k w W3 H3 (e1.trans e3) G3 r3
 |false=>
  rw[B0 A9];rw[B0 A9]at hh;cases hh;exact k _ W1 H1 e1 G1 rfl
theorem aCK(a:SE K ta f):SE K (aBm ta) (FE f):=by
 intro γ M x M' hh W H σ Q G R k;obtain⟨⟨y,M1⟩,h1,hh⟩:=aP hh;obtain⟨c,h2,hh⟩:=aP hh;refine a _ _ _ _ h1 W H σ _ G R fun v W1 H1 e1 G1 r1=>?_;have hy:y=_:=DQ h2;subst hy;cases hh;exact⟨c,r1,k _ W1 H1 e1 G1 rfl⟩
theorem WV{r r':R2}{h h':F2}(p:P2 K r h)(p':P2 K r' h')(a:SE K ta f)(b:SE K tb g)(c:SE K tc e):SE K (VA r r' ta tb tc) (AU h h' f g e):=by
 intro γ M x M' hh W H σ Q G R k;obtain⟨⟨y,M1⟩,h1,hh⟩:=aP hh;obtain⟨⟨z,M2⟩,h2,hh⟩:=aP hh;obtain⟨⟨w,M3⟩,h3,hh⟩:=aP hh;obtain⟨q,h4,hh⟩:=aP hh;refine a _ _ _ _ h1 W H σ _ G R fun v W1 H1 e1 G1 r1=>?_;refine b _ _ _ _ h2 W1 H1 σ _ G1 (R.up e1) fun u W2 H2 e2 G2 r2=>?_;refine p _ _ _ _ _ h3 W2 H2 v u _ G2 (r1.up e2) r2 fun t W3 H3 e3 G3 r3=>?_;have hy:w=_:=DQ h4;subst hy;refine⟨q,r3,?_⟩;have e13:=(e1.trans e2).trans e3;cases q with
 |true=>
  rw[A4 rfl];rw[A4 rfl]at hh;obtain⟨⟨m,M4⟩,h5,hh⟩:=aP hh;refine c _ _ _ _ h5 W3 H3 σ _ G3 (R.up e13) fun o W4 H4 e4 G4 r4=>?_;exact p' _ _ _ _ _ hh W4 H4 u o Q G4 (r2.up (e3.trans e4)) r4 fun w W5 H5 e5 G5 r5=>k w W5 H5 ((e13.trans e4).trans e5) G5 r5
 |false=>
  rw[B0 A9];rw[B0 A9]at hh;cases hh;exact k _ W3 H3 e13 G3 rfl
theorem aCQ(a:STt K tt ft)(b:STt K uu gt):STt K (aFe tt uu) (mE ft gt):=by
 intro γ M x M' hh W H σ Q G R k;obtain⟨⟨c,M1⟩,h1,hh⟩:=aP hh;refine a _ _ _ _ h1 W H σ _ G R fun W1 H1 e1 G1=>?_;cases c with
 |true=>rw[A4 rfl];rw[A4 rfl]at hh;exact b _ _ _ _ hh W1 H1 σ Q G1 (R.up e1) fun W3 H3 e3 G3=>k W3 H3 (e1.trans e3) G3
 |false=>rw[B0 A9];rw[B0 A9]at hh;cases hh;exact k W1 H1 e1 G1
theorem aFN(a:STt K tt ft)(b:STt K uu gt):STt K (tOr tt uu) (gOr ft gt):=by
 intro γ M x M' hh W H σ Q G R k;obtain⟨⟨c,M1⟩,h1,hh⟩:=aP hh;refine a _ _ _ _ h1 W H σ _ G R fun W1 H1 e1 G1=>?_;cases c with
 |true=>rw[A4 rfl];rw[A4 rfl]at hh;cases hh;exact k W1 H1 e1 G1
 |false=>rw[B0 A9];rw[B0 A9]at hh;exact b _ _ _ _ hh W1 H1 σ Q G1 (R.up e1) fun W3 H3 e3 G3=>k W3 H3 (e1.trans e3) G3
theorem aBQ(a:STt K tt ft):STt K (aFy tt) (cB ft):=by
 intro γ M x M' hh W H σ Q G R k;obtain⟨⟨c,M1⟩,h1,hh⟩:=aP hh;cases hh;exact a _ _ _ _ h1 W H σ _ G R fun W1 H1 e1 G1=>k W1 H1 e1 G1
theorem aFr(a:SE K ta f):STt K (tB ta) (gB f):=by
 intro γ M x M' hh W H σ Q G R k;obtain⟨⟨y,M1⟩,h1,hh⟩:=aP hh;obtain⟨c,h2,hh⟩:=aP hh;refine a _ _ _ _ h1 W H σ _ G R fun v W1 H1 e1 G1 r1=>?_;have hy:y=_:=DQ h2;subst hy;cases hh;exact⟨_,r1,k W1 H1 e1 G1⟩
theorem YN(a:SE K ta f):STt K (aBB ta) (gB f):=aFr a
theorem aDf:SA K WR aE:=by
 intro γ M x M' hh W H σ Q G R k;cases hh;exact k [] W H (.refl _) G .nil
theorem ZD(a:SE K ta f)(b:SA K tA fa):SA K (xH ta tA) (aA f fa):=by
 intro γ M x M' hh W H σ Q G R k;obtain⟨⟨y,M1⟩,h1,hh⟩:=aP hh;obtain⟨⟨ys,M2⟩,h2,hh⟩:=aP hh;cases hh;refine a _ _ _ _ h1 W H σ _ G R fun v W1 H1 e1 G1 r1=>?_;exact b _ _ _ _ h2 W1 H1 σ _ G1 (R.up e1) fun vs W2 H2 e2 G2 r2=>k _ W2 H2 (e1.trans e2) G2 (.cons (r1.up e2) r2)
theorem aDs(b:SA K tA fa):SE K (aCi tA) (bK fa):=by
 intro γ M x M' hh W H σ Q G R k;obtain⟨⟨ys,M1⟩,h1,hh⟩:=aP hh;obtain⟨ds,h2,hh⟩:=aP hh;by_cases hl:ds.length<=sizeLine
 .rw[A4 hl]at hh;cases hh;refine b _ _ _ _ h1 W H σ _ G R fun vs W1 H1 e1 G1 r1=>?_;have ra:=fF h2 r1;refine⟨by rw[<- ra.length];exact hl,fun p hp=>?_⟩;obtain⟨e2,G2⟩:=G1.lay (o:=.tup vs) hp;exact k _ _ _ (e1.trans e2) G2 ⟨p,vs,rfl,SqT.of bA,aK.same e2.ff _ _ ra⟩
 .rw[B0 hl]at hh;cases hh
theorem aDO(b:SA K tA fa):SE K (aCG tA) (eX fa):=by
 intro γ M x M' hh W H σ Q G R k;obtain⟨⟨ys,M1⟩,h1,hh⟩:=aP hh;obtain⟨ds,h2,hh⟩:=aP hh;by_cases hl:ds.length<=sizeLine
 .rw[A4 hl]at hh;cases hh;refine b _ _ _ _ h1 W H σ _ G R fun vs W1 H1 e1 G1 r1=>?_;have ra:=fF h2 r1;refine⟨by rw[<- ra.length];exact hl,fun p hp=>?_⟩;obtain⟨e2,G2⟩:=G1.lay (o:=.lst vs) hp;exact k _ _ _ (e1.trans e2) G2 ⟨p,vs,rfl,SqL.of bA,aK.same e2.ff _ _ ra⟩
 .rw[B0 hl]at hh;cases hh
theorem Good.newV(g:Good K W M H){p:Addr}:dS K (W.more p) (.c M.length) (.ref p):=by
 refine⟨?_,?_⟩
 .show M.length<W.n+1;rw[g.n];exact Nat.lt_succ_self _
 .show V.ref p=.ref (if M.length=W.n then p else W.α M.length);rw[A4 g.n.symm]
theorem aCL(b:SA K tA fa):SE K (aCG tA) (dU fa):=by
 intro γ M x M' hh W H σ Q G R k;obtain⟨⟨ys,M1⟩,h1,hh⟩:=aP hh;by_cases hl:ys.length<=sizeLine
 .have hh:(if ys.length<=sizeLine then some (CD.c M1.length,M1++[Cell.lst ys])else none)=some (x,M'):=hh;rw[A4 hl]at hh;cases hh;refine b _ _ _ _ h1 W H σ _ G R fun vs W1 H1 e1 G1 r1=>?_;refine⟨by rw[<- Paired.len r1];exact hl,fun p hp=>?_⟩;exact k _ _ _ (e1.trans (W1.ext_more p)) (G1.new hp (c:=.lst ys) (o:=.lst vs) r1) G1.newV
 .have hh:(if ys.length<=sizeLine then some (CD.c M1.length,M1++[Cell.lst ys])else none)=some (x,M'):=hh;rw[B0 hl]at hh;cases hh
theorem YB{h:FN}(b:SA K tA fa):SE K (WT (spM K h) [] E0 tA) (aF h fa):=by
 intro γ M x M' hh W H σ Q G R k;obtain⟨⟨ys,M1⟩,h1,hh⟩:=aP hh;refine b _ _ _ _ h1 W H σ _ G R fun vs W1 H1 e1 G1 r1=>?_;rw[E7];exact⟨ys,M1,W1,x,M',G1,r1,hh,fun v W2 H2 e2 G2 r2=>k v W2 H2 (e1.trans e2) G2 r2⟩
theorem aBx{r:List V->Hp->VK->Prop}{h:FN}(p:PN K r h)(b:SA K tA fa):SE K (tCB r tA) (aF h fa):=by
 intro γ M x M' hh W H σ Q G R k;obtain⟨⟨ys,M1⟩,h1,hh⟩:=aP hh;refine b _ _ _ _ h1 W H σ _ G R fun vs W1 H1 e1 G1 r1=>?_;exact p _ _ _ _ hh W1 H1 vs Q G1 r1 fun v W2 H2 e2 G2 r2=>k v W2 H2 (e1.trans e2) G2 r2
end
section
variable{K:Fg}{ta tb tc:TE}{f g e:EF}{tt uu:TT}{ft gt:TF}{tA:TA}{fa:AF}{t u:TS}{p q:SF}{tg:TG}{hg:GF}{tgs:TGs}{hgs:GsF}
theorem YK:SS K aAZ bH:=by
 intro γ M o M' hh W H σ D G R k;cases hh;exact k W H (.refl _) G σ R
theorem aDd(a:SS K t p)(b:SS K u q):SS K (aFm t u) (aW p q):=by
 intro γ M o M' hh W H σ D G R k;obtain⟨⟨o1,M1⟩,h1,hh⟩:=aP hh;refine a _ _ _ _ h1 W H σ _ G R fun W1 H1 e1 G1=>?_;cases o1 with
 |nx γ1=>
  intro σ1 R1;exact b _ _ _ _ hh W1 H1 σ1 D G1 R1 fun W2 H2 e2 G2=>k W2 H2 (e1.trans e2) G2
 |bk γ1=>cases hh;exact k W1 H1 e1 G1
 |ct γ1=>cases hh;exact k W1 H1 e1 G1
 |rt x=>cases hh;exact k W1 H1 e1 G1
theorem aAa(a:SE K ta f):SS K (aBg ta) (gA f):=by
 intro γ M o M' hh W H σ D G R k;obtain⟨⟨y,M1⟩,h1,hh⟩:=aP hh;cases hh;exact a _ _ _ _ h1 W H σ _ G R fun v W1 H1 e1 G1 r1=>k W1 H1 e1 G1 σ (R.up e1)
theorem aDh(a:SE K ta f):SS K (aEB ta) (bT f):=by
 intro γ M o M' hh W H σ D G R k;obtain⟨⟨y,M1⟩,h1,hh⟩:=aP hh;cases hh;exact a _ _ _ _ h1 W H σ _ G R fun v W1 H1 e1 G1 r1=>k W1 H1 e1 G1 v r1
theorem aEE(c:STt K tt ft)(a:SS K t p)(b:SS K u q):SS K (aFq tt t u) (sIf ft p q):=by
 intro γ M o M' hh W H σ D G R k;obtain⟨⟨c1,M1⟩,h1,hh⟩:=aP hh;refine c _ _ _ _ h1 W H σ _ G R fun W1 H1 e1 G1=>?_;cases c1 with
 |true=>rw[A4 rfl];rw[A4 rfl]at hh;exact a _ _ _ _ hh W1 H1 σ D G1 (R.up e1) fun W3 H3 e3 G3=>k W3 H3 (e1.trans e3) G3
 |false=>rw[B0 A9];rw[B0 A9]at hh;exact b _ _ _ _ hh W1 H1 σ D G1 (R.up e1) fun W3 H3 e3 G3=>k W3 H3 (e1.trans e3) G3
theorem ED(a:SE K ta f)(b:SG K tg hg):SS K (YQ ta tg) (bG f hg):=by
 intro γ M o M' hh W H σ D G R k;obtain⟨⟨y,M1⟩,h1,hh⟩:=aP hh;obtain⟨⟨γ1,M2⟩,h2,hh⟩:=aP hh;cases hh;refine a _ _ _ _ h1 W H σ _ G R fun v W1 H1 e1 G1 r1=>?_;exact b _ _ _ _ _ h2 W1 H1 σ v _ G1 (R.up e1) r1 fun σ' W2 H2 e2 G2 R2=>k W2 H2 (e1.trans e2) G2 σ' R2
theorem gG.set{σ:St}{x:CD}{v:V}(R:gG K W γ σ)(i:Nat)(r:dS K W x v):gG K W (γ.set i (some x)) (σ.set i (some v)):=Paired.set (R:=XU K W) (show XU K W (some x) (some v)from r) i R
theorem xR{i:Nat}:SG K (HE i) (hName i):=by
 intro x γ M γ' M' hh W H σ v Q G R r k;cases hh;exact k _ W H (.refl _) G (gG.set R i r)
theorem aAc:SGs K aFp nG:=by
 intro xs γ M γ' M' hh W H σ vs Q G R r k;cases r with
 |nil=>cases hh;exact⟨rfl,k σ W H (.refl _) G R⟩
 |cons _ _=>cases hh
theorem SC(a:SG K tg hg)(b:SGs K tgs hgs):SGs K (aBi tg tgs) (cT hg hgs):=by
 intro xs γ M γ' M' hh W H σ vs Q G R r k;cases r with
 |nil=>cases hh
 |@cons x v xs vs r1 r2=>
  obtain⟨⟨γ1,M1⟩,h1,hh⟩:=aP (show(hg x γ M).bind _=_ from hh);refine⟨v,vs,rfl,a _ _ _ _ _ h1 W H σ v _ G R r1 fun σ1 W1 H1 e1 G1 R1=>?_⟩;exact b _ _ _ _ _ hh W1 H1 σ1 vs _ G1 R1 (cJ.up r2 e1) fun σ2 W2 H2 e2 G2 R2=>k σ2 W2 H2 (e1.trans e2) G2 R2
theorem RJ{n:Nat}(b:SGs K tgs hgs):SG K (aAF K n tgs) (pA n hgs):=by
 intro x γ M γ' M' hh W H σ v Q G R r k;cases x with
 |c _=>cases hh
 |f _=>cases hh
 |g _=>cases hh
 |t xs=>
  have hh:(if xs.length=n then hgs (xs.map cdA) γ M else none)=some (γ',M'):=hh;by_cases hl:xs.length=n
  .rw[A4 hl]at hh;obtain⟨a,vs,rfl,h2,h3⟩:=r;have hp:=NO h3;exact⟨a,vs,rfl,SqT.of (G.fh _ _ h2),by rw[<- hl];simpa using(Paired.len h3).symm,b _ _ _ _ _ hh W H σ vs Q G R hp k⟩
  .rw[B0 hl]at hh;cases hh
 |d x=>
  cases x with
  |tuple ds=>
   have hh:(if ds.length=n then hgs (ds.map .d) γ M else none)=some (γ',M'):=hh;by_cases hl:ds.length=n
   .rw[A4 hl]at hh;obtain⟨a,vs,rfl,h2,h3⟩:=(show ∃a vs,v=.ref a/\SqT K W.F a vs/\aK K W.F ds vs from r);exact⟨a,vs,rfl,G.fh.seqT h2,by rw[<- h3.length];exact hl,b _ _ _ _ _ hh W H σ vs Q G R (fK h3) k⟩
   .rw[B0 hl]at hh;cases hh
  |_=>cases hh
noncomputable def P3(K:Fg)(r:V->V->V->Hp->(Hp->Prop)->Prop)(f:F3):Prop:=∀x y z M M',f x y z M=some M'->∀(W:Wd)(H:Hp)(v u w:V)(Q:Hp->Prop),Good K W M H->dS K W x v->dS K W y u->dS K W z w->(∀W' H',W.Ext W'->Good K W' M' H'->Q H')->r v u w H Q
theorem aCC{r:aAR}{s:F3}(p:P3 K r s)(a:SE K ta f)(b:SE K tb g):SG K (aFA ta tb r) (hSub f g s):=by
 intro x γ M γ' M' hh W H σ v Q G R rv k;obtain⟨⟨o,M1⟩,h1,hh⟩:=aP hh;obtain⟨⟨i,M2⟩,h2,hh⟩:=aP hh;obtain⟨M3,h3,hh⟩:=aP hh;cases hh;refine a _ _ _ _ h1 W H σ _ G R fun v1 W1 H1 e1 G1 r1=>?_;refine b _ _ _ _ h2 W1 H1 σ _ G1 (R.up e1) fun v2 W2 H2 e2 G2 r2=>?_;exact p _ _ _ _ _ h3 W2 H2 v1 v2 v _ G2 (r1.up e2) r2 (rv.up (e1.trans e2)) fun W3 H3 e3 G3=>k σ W3 H3 ((e1.trans e2).trans e3) G3 (R.up ((e1.trans e2).trans e3))
noncomputable def JN(K:Fg)(J:It)(xs:List CD)(W:Wd):Prop:=∀W' M' H',W.Ext W'->Good K W' M' H'->
 (∀i x,xs[i]?=some x->J.go i H'/\∀y H'',J.yld i H' y H''->∃W'',W'.Ext W''/\Good K W'' M' H''/\dS K W'' x y)/\J.stop xs.length H'
noncomputable def SI(K:Fg)(wi:TI)(f:AF):Prop:=∀γ M xs M',f γ M=some (xs,M')->∀(W:Wd)(H:Hp)(σ:St)(R:It->Hp->Prop),Good K W M H->gG K W γ σ->(∀J W' H',W.Ext W'->Good K W' M' H'->JN K J xs W'->R J H')->wi σ H R
noncomputable def bE(f:EF):AF:=fun γ M=>(f γ M).bind fun r=>match r.1 with
 |.d x=>(aM x).bind fun ds=>some (ds.map .d,r.2)
 |_=>none
theorem aCU(a:SE K ta f):SI K (aAs K ta) (bE f):=by
 intro γ M xs M' hh W H σ R G Rs k;obtain⟨⟨y,M1⟩,h1,hh⟩:=aP hh;cases y with
 |c _=>cases hh
 |t _=>cases hh
 |f _=>cases hh
 |g _=>cases hh
 |d y=>
  obtain⟨ds,h2,hh⟩:=aP (show(aM y).bind _=_ from hh);cases hh;refine a _ _ _ _ h1 W H σ _ G Rs fun v W1 H1 e1 G1 r1=>?_;obtain⟨p,vs,rfl,hs,hr⟩:=kJ (show Rep K W1.F y v from r1) h2;refine⟨p,rfl,?_⟩
  have item:∀(i:Nat)(x:CD)(W2:Wd),W1.Ext W2->(ds.map CD.d)[i]?=some x->∃u,vs[i]?=some u/\dS K W2 x u:=fun i x W2 e2 hx=>by
   obtain⟨u,hu,ru⟩:=Paired.get (fK hr) hx;exact⟨u,hu,ru.up e2⟩
  have hlen:(ds.map CD.d).length=vs.length:=by rw[A0];exact hr.length
  rcases hs with hs|hs
  .refine .inl ⟨vs,G1.fh.seq hs,k _ W1 H1 e1 G1 fun W2 M2 H2 e2 G2=>?_⟩;have hs2:SqL K H2 p vs:=G2.fh.seq (e2.ff.seq hs);refine⟨fun i x hx=>?_,?_⟩
   .obtain⟨u,hu,ru⟩:=item i x W2 e2 hx;refine⟨⟨vs,u,hs2,hu⟩,fun y' H'' hy=>⟨W2,.refl _,by rw[hy.1];exact G2,?_⟩⟩;have:=hy.2 vs hs2;rw[hu]at this;cases this;exact ru
   .rw[hlen];exact⟨vs,hs2,B3 _⟩
  .refine .inr ⟨vs,G1.fh.seqT hs,k _ W1 H1 e1 G1 fun W2 M2 H2 e2 G2=>?_⟩;have hs2:SqT K H2 p vs:=G2.fh.seqT (e2.ff.seqT hs);refine⟨fun i x hx=>?_,?_⟩
   .obtain⟨u,hu,ru⟩:=item i x W2 e2 hx;refine⟨⟨vs,u,hs2,hu⟩,fun y' H'' hy=>⟨W2,.refl _,by rw[hy.1];exact G2,?_⟩⟩;have:=hy.2 vs hs2;rw[hu]at this;cases this;exact ru
   .rw[hlen];exact⟨vs,hs2,B3 _⟩
noncomputable def kP(lo:Int)(n:Nat):List CD:=(List.range n).map fun i=>.d (.int (lo+(i:Nat)))
theorem IL{lo:Int}{n i:Nat}{x:CD}(h:(kP lo n)[i]?=some x):i<n/\x=.d (.int (lo+i)):=by
 unfold kP at h;rw[C4]at h;by_cases hi:i<n
 .rw[Z4 hi]at h;exact⟨hi,(D5 h).symm⟩
 .rw[List.getElem?_eq_none_iff.mpr (by simpa using hi)]at h;cases h
noncomputable def cY(i:Int):Bool:=decide (-(2 ^ 62)<=i)&&decide (i<2 ^ 62)
noncomputable def gZ(f:AF):AF:=fun γ M=>(f γ M).bind fun r=>match r.1 with
 |[.d (.int j)]=>if cY j=true then some (kP 0 j.toNat,r.2)else none
 |_=>none
theorem OU{lo:Int}{n:Nat}:JN K (Itr lo n) (kP lo n) W:=fun W' M' H' e G=>
 ⟨fun i x hx=>⟨(IL hx).1,fun y H'' hy=>⟨W',.refl _,by rw[hy.1];exact G,by rw[(IL hx).2];exact hy.2⟩⟩,by show n<=_;simp[kP]⟩
theorem eO{i:Int}(h:cY i=true):-(2 ^ 62)<=i/\i<2 ^ 62:=by
 unfold cY at h;rw[B5]at h;exact⟨D7 h.1,D7 h.2⟩
theorem aAD(b:SA K tA fa):SI K (aAW tA) (gZ fa):=by
 intro γ M xs M' hh W H σ R G Rs k;obtain⟨⟨ys,M1⟩,h1,hh⟩:=aP hh;refine b _ _ _ _ h1 W H σ _ G Rs fun vs W1 H1 e1 G1 r1=>?_;revert hh;dsimp only;split
 .rename_i j;intro hh;by_cases hs:cY j=true
  .rw[A4 hs]at hh;cases hh;cases r1 with
   |cons r r'=>
    cases r';exact⟨j,by rw[show _=V.int j from r],(eO hs).1,(eO hs).2,k _ W1 H1 e1 G1 OU⟩
  .rw[B0 hs]at hh;cases hh
 .intro hh;cases hh
theorem aCy{wi:TI}(i:SI K wi fa)(a:SG K tg hg)(b:SS K t p):SS K (aFx wi tg t) (jW fa hg p):=by
 intro γ M o M' hh W H σ D G R k;obtain⟨⟨xs,M1⟩,h1,hh⟩:=aP hh;have hh:jT hg p xs γ M1=some (o,M'):=hh;refine i _ _ _ _ h1 W H σ _ G R fun J W1 H1 e1 G1 gv=>?_;refine⟨fun j m σ' H'=>∃γ' M2 W2,j<=xs.length/\m=xs.length-j/\W1.Ext W2/\Good K W2 M2 H'/\gG K W2 γ' σ'/\jT hg p (xs.drop j) γ' M2=some (o,M'),⟨_,γ,M1,W1,F9 _,rfl,.refl _,G1,R.up e1,hh⟩,?_⟩;rintro j m σ' H' ⟨γ',M2,W2,hj,rfl,e2,G2,R2,h2⟩;obtain⟨gv1,gv2⟩:=gv W2 M2 H' e2 G2;by_cases hlt:j<xs.length
 .obtain⟨go,yl⟩:=gv1 j xs[j] (A8 hlt);rw[List.drop_eq_getElem_cons hlt]at h2;refine .inr ⟨go,fun σ3 H3=>∃γ3 M3 W3,W2.Ext W3/\Good K W3 M3 H3/\gG K W3 γ3 σ3/\jT hg p (xs.drop (j+1)) γ3 M3=some (o,M'),?_,fun y H3 hy=>?_⟩
  .rintro σ3 H3 ⟨γ3,M3,W3,e3,G3,R3,h3⟩;exact⟨_,by omega,γ3,M3,W3,hlt,rfl,e2.trans e3,G3,R3,h3⟩
  .obtain⟨W8,e8,G8,ry⟩:=yl y H3 hy;obtain⟨⟨γ4,M4⟩,h4,h2⟩:=aP (show(hg xs[j] γ' M2).bind _=_ from h2);obtain⟨⟨o5,M5⟩,h5,h2⟩:=aP h2;refine a _ _ _ _ _ h4 W8 _ σ' y _ G8 (R2.up e8) ry fun σ4 W4 H4 e4 G4 R4=>?_;refine b _ _ _ _ h5 W4 H4 σ4 _ G4 R4 fun W5 H5 e5 G5=>?_;have e25:=(e8.trans e4).trans e5;cases o5 with
   |nx γ5=>exact fun σ5 R5=>⟨γ5,M5,W5,e25,G5,R5,h2⟩
   |ct γ5=>exact fun σ5 R5=>⟨γ5,M5,W5,e25,G5,R5,h2⟩
   |bk γ5=>cases h2;exact k W5 H5 ((e1.trans e2).trans e25) G5
   |rt x=>cases h2;exact k W5 H5 ((e1.trans e2).trans e25) G5
 .have e:j=xs.length:=by omega
  subst e;rw[List.drop_length]at h2;cases h2;exact .inl ⟨gv2,k W2 H' (e1.trans e2) G2 σ' R2⟩
theorem EM{W:Wd}{γ:Ga}{σ:St}(R:gG K W γ σ):∀cap:List (Option Nat),gG K W (mL cap γ) (DR cap σ)
 |[]=>.nil
 |none::r=>.cons True.intro (EM R r)
 |some j::r=>by
  refine .cons ?_ (EM R r);show XU K W ((γ[j]?).join) ((σ[j]?).join);cases e:γ[j]? with
  |none=>
   have:σ[j]?=none:=by
    have hl:=Paired.len R;exact List.getElem?_eq_none_iff.mpr (by have:=List.getElem?_eq_none_iff.mp e;omega)
   rw[this];exact True.intro
  |some x=>
   obtain⟨y,hy,r'⟩:=Paired.get R e;rw[hy];exact r'
theorem EZ{g:GF}{c:TF}{e:EF}:∀{xs:List CD}{γ:Ga}{M:Sto}{ys:List CD}{M':Sto},lcF g c e xs γ M=some (ys,M')->ys.length<=xs.length
 |[],_,_,_,_=>fun h=>by cases h;exact F9 _
 |x::xs,γ,M,ys,M'=>fun h=>by
  obtain⟨⟨γ1,M1⟩,h1,h⟩:=aP (show(g x γ M).bind _=_ from h);obtain⟨⟨b,M2⟩,h2,h⟩:=aP h;cases b with
  |true=>
   rw[A4 rfl]at h;obtain⟨⟨y,M3⟩,h3,h⟩:=aP h;obtain⟨⟨zs,M4⟩,h4,h⟩:=aP h;cases h;have:=EZ h4;simp only[List.length_cons];omega
  |false=>
   rw[B0 A9]at h;have:=EZ h;simp only[List.length_cons];omega
theorem SB{wi:TI}{cap:List (Option Nat)}{te:TE}{fe:EF}(i:SI K wi fa)(a:SG K tg hg)(c:STt K tt ft)(b:SE K te fe){xs:List CD}(hh:wU cap fa hg ft fe γ M=some (xs,M'))
 {W:Wd} {H:Hp} {σ:St} {Q:VK} (G:Good K W M H) (R:gG K W γ σ) (k:∀vs W' H',W.Ext W'->Good K W' M' H'->cJ K W' xs vs->∀p,H' p=none->Q (.ref p) (upd H' p (.lst vs))):tLc cap wi tg tt te σ H Q:=by
 obtain⟨⟨ys,M1⟩,h1,hh⟩:=aP hh;have hh:(if ys.length<=sizeLine then lcF hg ft fe ys (mL cap γ) M1 else none)=some (xs,M'):=hh;by_cases hl:ys.length<=sizeLine
 .rw[A4 hl]at hh;refine i _ _ _ _ h1 W H σ _ G R fun J W1 H1 e1 G1 gv=>?_
  refine⟨fun j m acc σ' H'=>∃γ' M2 W2 pre suf,j<=ys.length/\m=ys.length-j/\acc.length<=j/\W1.Ext W2/\Good K W2 M2 H'/\gG K W2 γ' σ'/\cJ K W2 pre acc/\pre++suf=xs/\lcF hg ft fe (ys.drop j) γ' M2=some (suf,M'),
   ⟨_,mL cap γ,M1,W1,[],xs,F9 _,rfl,F9 _,.refl _,G1,EM (R.up e1) cap,.nil,rfl,hh⟩,?_⟩
  rintro j m acc σ' H' ⟨γ',M2,W2,pre,suf,hj,rfl,hacc,e2,G2,R2,rp,hx,h2⟩;obtain⟨gv1,gv2⟩:=gv W2 M2 H' e2 G2;by_cases hlt:j<ys.length
  .obtain⟨go,yl⟩:=gv1 j ys[j] (A8 hlt);rw[List.drop_eq_getElem_cons hlt]at h2;refine .inr ⟨go,by omega,fun acc3 σ3 H3=>∃γ3 M3 W3 pre3 suf3,acc3.length<=j+1/\W2.Ext W3/\Good K W3 M3 H3/\gG K W3 γ3 σ3/\cJ K W3 pre3 acc3/\pre3++suf3=xs/\lcF hg ft fe (ys.drop (j+1)) γ3 M3=some (suf3,M'),?_,fun y H3 hy=>?_⟩
   .rintro acc3 σ3 H3 ⟨γ3,M3,W3,pre3,suf3,hl3,e3,G3,R3,rp3,hx3,h3⟩;exact⟨_,by omega,γ3,M3,W3,pre3,suf3,hlt,rfl,hl3,e2.trans e3,G3,R3,rp3,hx3,h3⟩
   .obtain⟨W8,e8,G8,ry⟩:=yl y H3 hy;obtain⟨⟨γ4,M4⟩,h4,h2⟩:=aP (show(hg ys[j] γ' M2).bind _=_ from h2);obtain⟨⟨b5,M5⟩,h5,h2⟩:=aP h2;refine a _ _ _ _ _ h4 W8 _ σ' y _ G8 (R2.up e8) ry fun σ4 W4 H4 e4 G4 R4=>?_;refine c _ _ _ _ h5 W4 H4 σ4 _ G4 R4 fun W5 H5 e5 G5=>?_;have e25:=(e8.trans e4).trans e5;cases b5 with
    |true=>
     rw[A4 rfl]at h2;obtain⟨⟨z,M6⟩,h6,h2⟩:=aP h2;obtain⟨⟨zs,M7⟩,h7,h2⟩:=aP h2;cases h2;refine .inl ⟨rfl,b _ _ _ _ h6 W5 H5 σ4 _ G5 (R4.up e5) fun v W6 H6 e6 G6 r6=>?_⟩;refine⟨γ4,M6,W6,pre++[z],zs,by rw[A7];simp only[List.length_singleton];omega,e25.trans e6,G6,R4.up (e5.trans e6),Paired.app (cJ.up rp (e25.trans e6)) (.cons r6 .nil),by rw[<- hx,F7];rfl,h7⟩
    |false=>
     rw[B0 A9]at h2;exact .inr ⟨rfl,γ4,M5,W5,pre,suf,by omega,e25,G5,R4.up e5,cJ.up rp e25,hx,h2⟩
  .have e:j=ys.length:=by omega
   subst e;rw[List.drop_length]at h2;cases h2;rw[E7]at hx;subst hx;exact .inl ⟨gv2,k acc W2 H' (e1.trans e2) G2 rp⟩
 .rw[B0 hl]at hh;cases hh
theorem OC{cap:List (Option Nat)}{fa:AF}{hg:GF}{ft:TF}{fe:EF}{xs:List CD}(hh:wU cap fa hg ft fe γ M=some (xs,M')):xs.length<=sizeLine:=by
 obtain⟨⟨ys,M1⟩,h1,hh⟩:=aP hh;have hh:(if ys.length<=sizeLine then lcF hg ft fe ys (mL cap γ) M1 else none)=some (xs,M'):=hh;by_cases hl:ys.length<=sizeLine
 .rw[A4 hl]at hh;exact J4 (EZ hh) hl
 .rw[B0 hl]at hh;cases hh
theorem aBA{wi:TI}{cap:List (Option Nat)}{te:TE}{fe:EF}(i:SI K wi fa)(a:SG K tg hg)(c:STt K tt ft)(b:SE K te fe):SE K (tLc cap wi tg tt te) (fLc cap fa hg ft fe):=by
 intro γ M x M' hh W H σ Q G R k;obtain⟨⟨ys,M1⟩,h1,hh⟩:=aP hh;obtain⟨ds,h2,hh⟩:=aP hh;by_cases hl:ds.length<=sizeLine
 .rw[A4 hl]at hh;cases hh;refine SB i a c b h1 G R fun vs W1 H1 e1 G1 r1 p hp=>?_;obtain⟨e2,G2⟩:=G1.lay (o:=.lst vs) hp;exact k _ _ _ (e1.trans e2) G2 ⟨p,vs,rfl,SqL.of bA,aK.same e2.ff _ _ (fF h2 r1)⟩
 .rw[B0 hl]at hh;cases hh
theorem aBX{wi:TI}{cap:List (Option Nat)}{te:TE}{fe:EF}(i:SI K wi fa)(a:SG K tg hg)(c:STt K tt ft)(b:SE K te fe):SE K (tLc cap wi tg tt te) (QH cap fa hg ft fe):=by
 intro γ M x M' hh W H σ Q G R k;obtain⟨⟨ys,M1⟩,h1,hh⟩:=aP hh;have hh:(if ys.length<=sizeLine then some (CD.c M1.length,M1++[Cell.lst ys])else none)=some (x,M'):=hh;rw[A4 (OC h1)]at hh;cases hh;refine SB i a c b h1 G R fun vs W1 H1 e1 G1 r1 p hp=>?_;exact k _ _ _ (e1.trans (W1.ext_more p)) (G1.new hp (c:=.lst ys) (o:=.lst vs) r1) G1.newV
theorem aEb:STt K aFs eR:=by
 intro γ M x M' hh W H σ Q G R k;cases hh;exact k W H (.refl _) G
theorem cJ.some{W:Wd}:∀{xs:List CD}{vs:List V},cJ K W xs vs->gG K W (xs.map some) (vs.map some)
 |_,_,.nil=>.nil
 |_,_,.cons r t=>.cons r (cJ.some t)
theorem uP{W:Wd}:∀n:Nat,gG K W (List.replicate n none) (List.replicate n none)
 |0=>.nil
 |n+1=>.cons True.intro (uP n)
theorem Def.okM{P:Program}{w:World}{mg:Str->Option Value}{base:Heap}{x:Str}{st:Stmt}{N ps:List Str}{k:Nat}{b:SF}{q:Bool}(D:Def K mg x st)(S:bI N ps (aJ st))
 (hb:∀(kV doc pm:Value)(an:Option Addr)(cdv ct:Value)(us:List Value),us.length=ps.length->bindArgs (PySem.W.fnOf x x (iG st) (dF st) (aJ st) .none kV doc pm an cdv ct) ⟨us,[]⟩=pure (ps.zip us))
 (hbody:∀(f:Addr)(cdv:Value)(A:Around)(outer:List Env)(s:Shared)(H:Hp)(E:XK),fX k (A.deeper (envOfC x (aJ st) s.heap.objs.size f cdv)) q->
  ∃t,PSs (vP CX0 P w K mg base N x (aJ st) f cdv A outer s H E q).nox (dF st) t/\SS K t b):Callee P w K mg base (k+1) x ps (spM K (fnF ps.length N.length b)) q:=by
 have len:∀vs H Q E,spM K (fnF ps.length N.length b) vs H Q E->vs.length=ps.length:=fun vs H Q E h=>by
  obtain⟨xs,M,W,y,M',G,R,hf,_⟩:=h;by_cases hl:xs.length=ps.length
  .rw[<- Paired.len R];exact hl
  .unfold fnF at hf;rw[B0 hl]at hf;cases hf
 refine D.ok S hb len fun f cdv A outer s H vs Q E hr h=>?_;obtain⟨t,hP,hS⟩:=hbody f cdv A outer s H E hr;refine⟨t,hP,?_⟩;obtain⟨xs,M,W,y,M',G,R,hf,k⟩:=h;by_cases hl:xs.length=ps.length
 .unfold fnF at hf;rw[A4 hl]at hf;obtain⟨⟨o,M1⟩,h1,hf⟩:=aP hf
  have hR:gG K W (xs.map some++List.replicate (N.length-xs.length) none) (start N vs):=by
   unfold start;rw[<- Paired.len R];exact Paired.app (cJ.some R) (uP _)
  refine hS _ _ _ _ h1 W H _ _ G hR fun W1 H1 e1 G1=>?_;cases o with
  |rt x=>cases hf;exact fun v r=>k v W1 H1 e1 G1 r
  |nx γ=>cases hf;exact fun σ r=>k .non W1 H1 e1 G1 rfl
  |bk γ=>cases hf
  |ct γ=>cases hf
 .unfold fnF at hf;rw[B0 hl]at hf;cases hf
end
noncomputable def DH(h h':F2):F2:=fun x y M=>match h x y M with
 |some r=>some r
 |none=>h' x y M
noncomputable def pI(g:Int->Int->Option PyData):F2:=fun x y M=>match x,y with
 |.d (.int i),.d (.int j)=>(g i j).bind fun z=>some (.d z,M)
 |_,_=>none
theorem WD{g:Int->Int->Option PyData}{x y:CD}{z:CD}(h:pI g x y M=some (z,M')):∃i j w,x=.d (.int i)/\y=.d (.int j)/\g i j=some w/\z=.d w/\M'=M:=by
 unfold pI at h;split at h
 .rename_i i j;obtain⟨w,h1,h⟩:=aP h;cases h;exact⟨i,j,w,rfl,rfl,h1,rfl,rfl⟩
 .cases h
section
variable{X:Cx}{K:Fg}
theorem RK{g:Int->Int->Int}:P2 K (rI0 fun i j=>.int (g i j)) (pI fun i j=>some (.int (g i j))):=by
 intro x y M z M' h W H v u Q G rx ry k;obtain⟨i,j,w,rfl,rfl,hw,rfl,rfl⟩:=WD h;cases hw;exact⟨i,j,rx,ry,k _ W H (.refl _) G rfl⟩
theorem LI{g:Int->Int->Bool}:P2 K (rI0 fun i j=>.bl (g i j)) (pI fun i j=>some (.bool (g i j))):=by
 intro x y M z M' h W H v u Q G rx ry k;obtain⟨i,j,w,rfl,rfl,hw,rfl,rfl⟩:=WD h;cases hw;exact⟨i,j,rx,ry,k _ W H (.refl _) G rfl⟩
noncomputable def ifS(c:Bool)(x:PyData):Option PyData:=if c=true then some x else none
theorem aDu{c:Bool}{x y:PyData}(h:ifS c x=some y):c=true/\y=x:=by
 unfold ifS at h;cases c with
 |true=>rw[A4 rfl]at h;cases h;exact⟨rfl,rfl⟩
 |false=>rw[B0 A9]at h;cases h
theorem XO{C:Int->Int->Prop}{c:Int->Int->Bool}{g:Int->Int->Int}(hc:∀i j,c i j=true->C i j):P2 K (rI C fun i j=>.int (g i j)) (pI fun i j=>ifS (c i j) (.int (g i j))):=by
 intro x y M z M' h W H v u Q G rx ry k;obtain⟨i,j,w,rfl,rfl,hw,rfl,rfl⟩:=WD h;obtain⟨h1,rfl⟩:=aDu hw;exact⟨i,j,rx,ry,hc i j h1,k _ W H (.refl _) G rfl⟩
noncomputable def aFH:F2:=pI fun i j=>some (.int (i+j))
noncomputable def BB:F2:=pI fun i j=>some (.int (i-j))
noncomputable def pU(i j:Int):Bool:=decide (i.natAbs<2 ^ 64) || decide (j.natAbs<2 ^ 64) || (decide (i.natAbs<AC)&&decide (j.natAbs<AC))
noncomputable def HG:F2:=pI fun i j=>ifS (pU i j) (.int (i*j))
noncomputable def yW(_ j:Int):Bool:=decide (0<j)&&decide (j.natAbs<AC)
noncomputable def eW:F2:=pI fun i j=>ifS (yW i j) (.int (i / j))
noncomputable def pY(_ j:Int):Bool:=decide (0<j)
noncomputable def cH:F2:=pI fun i j=>ifS (pY i j) (.int (i % j))
noncomputable def zH(i j:Int):Bool:=decide (0<=j)&&decide (j<=1000000)&&decide (i.natAbs<2 ^ 64)
noncomputable def aGa:F2:=pI fun i j=>ifS (zH i j) (.int (i ^ j.toNat))
theorem mulOk_of{i j:Int}(h:pU i j=true):HD i j:=by
 unfold pU at h;simp only[Bool.or_eq_true,Bool.and_eq_true,decide_eq_true_eq]at h;rcases h with(h|h)|h
 .exact .inl (.inl ⟨by omega,by omega⟩)
 .exact .inl (.inr ⟨by omega,by omega⟩)
 .exact .inr h
noncomputable def ltI:F2:=pI fun i j=>some (.bool (decide (i<j)))
noncomputable def leI:F2:=pI fun i j=>some (.bool (decide (i<=j)))
noncomputable def gtI:F2:=pI fun i j=>some (.bool (decide (j<i)))
noncomputable def geI:F2:=pI fun i j=>some (.bool (decide (j<=i)))
noncomputable def eqD(neg:Bool):F2:=fun x y M=>match x,y with
 |.d a,.d b=>if (SeqAt.shaped a&&SeqAt.shaped b)=true then some (.d (.bool (if neg then !PyData.eqv a b else PyData.eqv a b)),M)else none
 |_,_=>none
theorem aBr{neg:Bool}:P2 K (HS K neg) (eqD neg):=by
 intro x y M z M' h W H v u Q G rx ry k;unfold eqD at h;split at h
 .rename_i a b;by_cases hs:(SeqAt.shaped a&&SeqAt.shaped b)=true
  .rw[A4 hs]at h;cases h;rw[B5]at hs;exact⟨a,b,Rep.same G.fh _ _ rx,Rep.same G.fh _ _ ry,hs.1,hs.2,k _ W H (.refl _) G rfl⟩
  .rw[B0 hs]at h;cases h
 .cases h
noncomputable def inD(neg:Bool):F2:=fun x y M=>match x,y with
 |.d a,.d b=>(aM b).bind fun ds=>if (SeqAt.shaped a&&ds.all SeqAt.shaped)=true then some (.d (.bool (if neg then !ds.any fun d=>PyData.eqv d a else ds.any fun d=>PyData.eqv d a)),M)else none
 |_,_=>none
theorem aBp{neg:Bool}:P2 K (OJ K neg) (inD neg):=by
 intro x y M z M' h W H v u Q G rx ry k;unfold inD at h;split at h
 .rename_i a b;obtain⟨ds,h1,h⟩:=aP h;by_cases hs:(SeqAt.shaped a&&ds.all SeqAt.shaped)=true
  .rw[A4 hs]at h;cases h;rw[B5]at hs;obtain⟨p,vs,rfl,hq,hr⟩:=kJ (Rep.same G.fh _ _ ry) h1;exact⟨a,ds,p,vs,Rep.same G.fh _ _ rx,rfl,hq,hr,hs.1,hs.2,k _ W H (.refl _) G rfl⟩
  .rw[B0 hs]at h;cases h
 .cases h
theorem aK.nth{ds:List PyData}{vs:List V}{i:Nat}{d:PyData}(h:aK K H ds vs)(e:ds[i]?=some d):∃v,vs[i]?=some v/\Rep K H d v:=by
 have hlt:i<vs.length:=by rw[<- h.length];exact(List.getElem?_eq_some_iff.mp e).1
 have hv:vs[i]?=some vs[i]:=A8 hlt;obtain⟨d',hd',r⟩:=h.get hv;rw[e]at hd';cases hd';exact⟨_,hv,r⟩
theorem KG{α:Type}{xs:List α}{i:Int}{x:α}(h:atI xs i=some x):∃j,ixN xs.length i=some j/\xs[j]?=some x:=by
 unfold atI at h;exact aP h
theorem EU{α:Type}{xs:List α}{i:Int}{j:Nat}{x:α}(h:ixN xs.length i=some j)(e:xs[j]?=some x):atI xs i=some x:=by
 unfold atI;rw[h];exact e
noncomputable def ixF:F2:=fun x y M=>match x,y with
 |.d a,.d (.int n)=>(aM a).bind fun ds=>(atI ds n).bind fun e=>some (.d e,M)
 |.c i,.d (.int n)=>match M[i]? with
  |some (.lst xs)=>(atI xs n).bind fun e=>some (e,M)
  |_=>none
 |.t xs,.d (.int n)=>(atI xs n).bind fun e=>some (cdA e,M)
 |_,_=>none
theorem Good.lstAt{i:Nat}{xs:List CD}(G:Good K W M H)(h:M[i]?=some (.lst xs)):∃vs,H (W.α i)=some (.lst vs)/\cJ K W xs vs:=by
 obtain⟨_,o,h2,h3⟩:=G.cs i _ h (by intro z;cases z);cases o with
 |lst vs=>exact⟨vs,h2,h3⟩
 |_=>exact False.elim h3
theorem aFo:P2 K (rIx K) ixF:=by
 intro x y M z M' h W H v u Q G rx ry k;unfold ixF at h;split at h
 .rename_i a n;obtain⟨ds,h1,h⟩:=aP h;obtain⟨e,h2,h⟩:=aP h;cases h;obtain⟨p,vs,rfl,hq,hr⟩:=kJ (Rep.same G.fh _ _ rx) h1;obtain⟨j,hj,he⟩:=KG h2;obtain⟨w,hw,rw'⟩:=hr.nth he;have hlen:=hr.length;have hat:atI vs n=some w:=EU (by rw[<- hlen];exact hj) hw;obtain⟨p',vs',e',hq',hr'⟩:=kJ (show Rep K W.F a (.ref p)from rx) h1;cases e'
  have same:∀w',vs'[j]?=some w'->Rep K W.F e w':=fun w' hw'=>by
   obtain⟨w2,h3,h4⟩:=hr'.nth he;rw[hw']at h3;cases h3;exact h4
  obtain⟨w',hw',r'⟩:=hr'.nth he;have hat':atI vs' n=some w':=EU (by rw[<- hr'.length];exact hj) hw';rcases hq' with hq'|hq'
  .exact .inl ⟨p,vs',n,w',rfl,ry,G.fh.seq hq',hat',k _ W H (.refl _) G r'⟩
  .exact .inr (.inl ⟨p,vs',n,w',rfl,ry,G.fh.seqT hq',hat',k _ W H (.refl _) G r'⟩)
 .rename_i i n;split at h
  .rename_i xs hx;obtain⟨e,h2,h⟩:=aP h;cases h;obtain⟨vs,hv,hr⟩:=G.lstAt hx;obtain⟨j,hj,he⟩:=KG h2;obtain⟨w,hw,r'⟩:=Paired.get hr he;have hat:atI vs n=some w:=EU (by rw[<- Paired.len hr];exact hj) hw;rw[show v=.ref (W.α i)from rx.2];exact .inl ⟨_,vs,n,w,rfl,ry,SqL.of hv,hat,k _ W H (.refl _) G r'⟩
  .cases h
 .rename_i xs n;obtain⟨e,h2,h⟩:=aP h;cases h;obtain⟨a,vs,rfl,hv,hr⟩:=rx;obtain⟨j,hj,he⟩:=KG h2;obtain⟨w,hw,r'⟩:=Paired.get hr he;have hat:atI vs n=some w:=EU (by rw[<- Paired.len hr];exact hj) hw;exact .inr (.inl ⟨_,vs,n,w,rfl,ry,SqT.of (G.fh _ _ hv),hat,k _ W H (.refl _) G (by cases e<;>exact r')⟩)
 .cases h
noncomputable def bW:FN:=fun xs M=>match xs with
 |[.d a]=>(aM a).bind fun ds=>some (.d (.int ds.length),M)
 |[.c i]=>match M[i]? with
  |some (.lst ys)=>some (.d (.int ys.length),M)
  |_=>none
 |[.t xs]=>some (.d (.int xs.length),M)
 |_=>none
theorem aDD:PN K (fun xs H Q=>∃p ys,xs=[.ref p]/\(SqL K H p ys\/SqT K H p ys)/\Q (.int ys.length) H) bW:=by
 intro xs M z M' h W H vs Q G r k;unfold bW at h;split at h
 .rename_i a;obtain⟨ds,h1,h⟩:=aP h;cases h;rcases r with _|⟨r1,_|_⟩;obtain⟨p,us,rfl,hq,hr⟩:=kJ (Rep.same G.fh _ _ r1) h1;refine⟨p,us,rfl,hq,?_⟩;rw[<- hr.length];exact k _ W H (.refl _) G rfl
 .rename_i i;split at h
  .rename_i ys hy;cases h;rcases r with _|⟨r1,_|_⟩;obtain⟨us,hv,hr⟩:=G.lstAt hy;rw[r1.2];refine⟨_,us,rfl,.inl (SqL.of hv),?_⟩;rw[<- Paired.len hr];exact k _ W H (.refl _) G rfl
  .cases h
 .rename_i xs;cases h;rcases r with _|⟨r1,_|_⟩;obtain⟨a,us,rfl,hv,hr⟩:=r1;refine⟨_,us,rfl,.inr (SqT.of (G.fh _ _ hv)),?_⟩;rw[<- Paired.len hr];exact k _ W H (.refl _) G rfl
 .cases h
noncomputable def pV:FN:=fun xs M=>match xs with
 |[.d a]=>(aM a).bind fun ds=>some (.d (.list ds),M)
 |[.c i]=>match M[i]? with
  |some (.lst ys)=>(kO ys).bind fun ds=>some (.d (.list ds),M)
  |_=>none
 |_=>none
theorem aAM:PN K (fun xs H Q=>∃p ys,xs=[.ref p]/\(SqL K H p ys\/SqT K H p ys)/\∀l,H l=none->Q (.ref l) (upd H l (.lst ys))) pV:=by
 intro xs M z M' h W H vs Q G r k;unfold pV at h;split at h
 .rename_i a;obtain⟨ds,h1,h⟩:=aP h;cases h;rcases r with _|⟨r1,_|_⟩;obtain⟨p,us,rfl,hq,hr⟩:=kJ (show Rep K W.F a _ from r1) h1;refine⟨p,us,rfl,hq.imp (fun z=>G.fh.seq z) (fun z=>G.fh.seqT z),fun l hl=>?_⟩;obtain⟨e2,G2⟩:=G.lay (o:=.lst us) hl;exact k _ _ _ e2 G2 ⟨l,us,rfl,SqL.of bA,aK.same e2.ff _ _ hr⟩
 .rename_i i;split at h
  .rename_i ys hy;obtain⟨ds,h1,h⟩:=aP h;cases h;rcases r with _|⟨r1,_|_⟩;obtain⟨us,hv,hr⟩:=G.lstAt hy;rw[r1.2];refine⟨_,us,rfl,.inl (SqL.of hv),fun l hl=>?_⟩;obtain⟨e2,G2⟩:=G.lay (o:=.lst us) hl;exact k _ _ _ e2 G2 ⟨l,us,rfl,SqL.of bA,aK.same e2.ff _ _ (fF h1 hr)⟩
  .cases h
 .cases h
noncomputable def cM:FN:=fun xs M=>match xs with
 |[.d (.list ds)]=>some (.d (.tuple ds),M)
 |[.d (.tuple ds)]=>some (.d (.tuple ds),M)
 |[.c i]=>match M[i]? with
  |some (.lst ys)=>(kO ys).bind fun ds=>some (.d (.tuple ds),M)
  |_=>none
 |_=>none
theorem TN:PN K (fun xs H Q=>∃p ys,xs=[.ref p]/\((SqL K H p ys/\∀l,H l=none->Q (.ref l) (upd H l (.tup ys)))\/(SqT K H p ys/\Q (.ref p) H))) cM:=by
 intro xs M z M' h W H vs Q G r k;unfold cM at h;split at h
 .rename_i ds;cases h;rcases r with _|⟨r1,_|_⟩;obtain⟨p,us,rfl,hq,hr⟩:=(show ∃a us,_=V.ref a/\SqL K W.F a us/\aK K W.F ds us from r1);refine⟨p,us,rfl,.inl ⟨G.fh.seq hq,fun l hl=>?_⟩⟩;obtain⟨e2,G2⟩:=G.lay (o:=.tup us) hl;exact k _ _ _ e2 G2 ⟨l,us,rfl,SqT.of bA,aK.same e2.ff _ _ hr⟩
 .rename_i ds;cases h;rcases r with _|⟨r1,_|_⟩;obtain⟨p,us,rfl,hq,hr⟩:=(show ∃a us,_=V.ref a/\SqT K W.F a us/\aK K W.F ds us from r1);exact⟨p,us,rfl,.inr ⟨G.fh.seqT hq,k _ W H (.refl _) G ⟨p,us,rfl,hq,hr⟩⟩⟩
 .rename_i i;split at h
  .rename_i ys hy;obtain⟨ds,h1,h⟩:=aP h;cases h;rcases r with _|⟨r1,_|_⟩;obtain⟨us,hv,hr⟩:=G.lstAt hy;rw[r1.2];refine⟨_,us,rfl,.inl ⟨SqL.of hv,fun l hl=>?_⟩⟩;obtain⟨e2,G2⟩:=G.lay (o:=.tup us) hl;exact k _ _ _ e2 G2 ⟨l,us,rfl,SqT.of bA,aK.same e2.ff _ _ (fF h1 hr)⟩
  .cases h
 .cases h
noncomputable def xK(T:String)(f:EF):EF:=fun γ M=>(f γ M).bind fun r=>match r.1 with
 |.d a=>some (.d (.bool (vV T a)),r.2)
 |_=>none
theorem aEe{T:String}{ta:TE}{f:EF}(hT:T∈asked)(a:SE K ta f):SE K (tCB (aCj K) (xH ta (xH (tC (.ty T)) WR))) (xK T f):=by
 intro γ M x M' hh W H σ Q G R k;obtain⟨⟨y,M1⟩,h1,hh⟩:=aP hh;cases y with
 |c _=>cases hh
 |t _=>cases hh
 |f _=>cases hh
 |g _=>cases hh
 |d y=>
  cases hh;refine a _ _ _ _ h1 W H σ _ G R fun v W1 H1 e1 G1 r1=>?_;exact⟨v,T,y,rfl,hT,Rep.same G1.fh _ _ r1,k _ W1 H1 e1 G1 rfl⟩
noncomputable def IJ(T U:String)(f:EF):EF:=fun γ M=>(f γ M).bind fun r=>match r.1 with
 |.d a=>some (.d (.bool (vV T a || vV U a)),r.2)
 |_=>none
theorem ZZ{T U:String}{ta:TE}{f:EF}(hT:T∈asked)(hU:U∈asked)(a:SE K ta f):SE K (tCB (XE K) (xH ta (xH (aCi (xH (tC (.ty T)) (xH (tC (.ty U)) WR))) WR))) (IJ T U f):=by
 intro γ M x M' hh W H σ Q G R k;obtain⟨⟨y,M1⟩,h1,hh⟩:=aP hh;cases y with
 |c _=>cases hh
 |t _=>cases hh
 |f _=>cases hh
 |g _=>cases hh
 |d y=>
  cases hh;refine a _ _ _ _ h1 W H σ _ G R fun v W1 H1 e1 G1 r1=>?_;refine⟨by show 2<=sizeLine;decide,fun p hp=>?_⟩;obtain⟨e2,G2⟩:=G1.lay (o:=.tup [.ty T,.ty U]) hp;refine⟨v,p,[T,U],y,rfl,bA,fun S hS=>?_,Rep.same (e2.ff.trans G2.fh) _ _ r1,?_⟩
  .rcases List.mem_cons.mp hS with rfl|hS
   .exact hT
   .rw[List.mem_singleton.mp hS];exact hU
  .have e:([T,U].any fun T=>vV T y)=(vV T y || vV U y):=by simp
   rw[e];exact k _ _ _ (e1.trans e2) G2 rfl
noncomputable def aDy(M:Sto):CD->Option Bool
 |.d .none=>some false
 |.d (.bool b)=>some b
 |.d (.int i)=>some (i != 0)
 |.d (.list ds)=>some (!ds.isEmpty)
 |.d (.tuple ds)=>some (!ds.isEmpty)
 |.c i=>match M[i]? with
  |some (.lst xs)=>some (!xs.isEmpty)
  |some (.dk kvs)=>some (!kvs.isEmpty)
  |_=>none
 |_=>none
noncomputable def KR(f:EF):TF:=fun γ M=>(f γ M).bind fun r=>(aDy r.2 r.1).bind fun b=>some (b,r.2)
theorem nA{α β:Type}{xs:List α}{ys:List β}(h:xs.length=ys.length):xs.isEmpty=ys.isEmpty:=by
 cases xs<;>cases ys<;>simp at h ⊢
theorem aDJ{ta:TE}{f:EF}(a:SE K ta f):STt K (fun σ H Q=>ta σ H fun x H'=>∃k,aAx K x H' k/\Q k H') (KR f):=by
 intro γ M b M' hh W H σ Q G R k;obtain⟨⟨y,M1⟩,h1,hh⟩:=aP hh;obtain⟨b1,h2,hh⟩:=aP hh;cases hh;refine a _ _ _ _ h1 W H σ _ G R fun v W1 H1 e1 G1 r1=>⟨_,?_,k W1 H1 e1 G1⟩;cases y with
 |d y=>
  cases y with
  |none=>cases h2;rw[show v=.non from r1];rfl
  |bool c=>cases h2;rw[show v=.bl _ from r1];rfl
  |int i=>cases h2;rw[show v=.int _ from r1];rfl
  |str x=>cases h2
  |list ds=>
   cases h2;obtain⟨p,us,rfl,hq,hr⟩:=(show ∃a us,_=V.ref a/\SqL K W1.F a us/\aK K W1.F ds us from r1);exact .inl ⟨us,G1.fh.seq hq,by rw[nA hr.length]⟩
  |tuple ds=>
   cases h2;obtain⟨p,us,rfl,hq,hr⟩:=(show ∃a us,_=V.ref a/\SqT K W1.F a us/\aK K W1.F ds us from r1);exact .inr (.inl ⟨us,G1.fh.seqT hq,by rw[nA hr.length]⟩)
  |dict kvs=>cases h2
 |t _=>cases h2
 |f _=>cases h2
 |g _=>cases h2
 |c i=>
  rw[r1.2];unfold aDy at h2;dsimp only at h2;split at h2
  .rename_i xs hx;cases h2;obtain⟨us,hv,hr⟩:=G1.lstAt hx;exact .inl ⟨us,SqL.of hv,by rw[nA (Paired.len hr)]⟩
  .rename_i kvs hx;cases h2;obtain⟨_,o,g2,g3⟩:=G1.cs i _ hx (by intro z;cases z);cases o with
   |dK us=>exact .inr (.inr ⟨us,g2,by rw[nA (Paired.len g3)]⟩)
   |_=>exact False.elim g3
  .cases h2
noncomputable def boolsOf:List PyData->Option (List Bool)
 |[]=>some []
 |.bool b::r=>(boolsOf r).bind fun bs=>some (b::bs)
 |_::_=>none
noncomputable def mN:FN:=fun xs M=>match xs with
 |[.d (.list ds)]=>(boolsOf ds).bind fun bs=>some (.d (.bool (bs.all id)),M)
 |_=>none
noncomputable def anyF:FN:=fun xs M=>match xs with
 |[.d (.list ds)]=>(boolsOf ds).bind fun bs=>some (.d (.bool (bs.any id)),M)
 |_=>none
theorem vK{H:Hp}:∀{ds:List PyData}{bs:List Bool}{vs:List V},boolsOf ds=some bs->aK K H ds vs->vs=bs.map V.bl
 |[],bs,vs=>fun e h=>by cases e;exact h
 |.bool b::r,bs,vs=>fun e h=>by
  obtain⟨cs,h1,e⟩:=aP (show(boolsOf r).bind _=_ from e);cases e;obtain⟨v,us,rfl,h2,h3⟩:=h;rw[show v=V.bl b from h2,vK h1 h3];rfl
 |.none::_,_,_=>fun e _=>by cases e
 |.int _::_,_,_=>fun e _=>by cases e
 |.str _::_,_,_=>fun e _=>by cases e
 |.list _::_,_,_=>fun e _=>by cases e
 |.tuple _::_,_,_=>fun e _=>by cases e
 |.dict _::_,_,_=>fun e _=>by cases e
theorem PP(hc:X.calm=true):dC X (.builtin "all") (fun xs H Q=>∃(p:Addr)(bs:List Bool),xs=[.ref p]/\SqL X.K H p (bs.map V.bl)/\Q (.bl (bs.all id)) H):=by
 intro pins s σ H xs us Q I r h;obtain⟨p,bs,rfl,hp,q⟩:=h;obtain⟨u,rfl,ru⟩:=vals1 r;cases (show u=Value.ref p from ru);obtain⟨its,rv,pl,hz⟩:=I.list hp;have hits:=bQ.bools rv;subst hits;refine call_all_walk (wpAny_pyIter_list pl.isList ?_);have hlt:p<s.heap.objs.size:=pl.lt;refine⟨_,_,_,_,_,_,(fun i=>bs.getD i false),rfl,Walks.list (A:=X.A.in1) (I.ok.hd hc) s.heap.objs.size p (C9 hlt) (bs.map Value.bool).toArray,⟨⟨_,B9 _ rfl,rfl,rfl⟩,pl.isList.at fun o e=>A1 _ e⟩,xD,fun h' tk hk=>?_⟩;have e1:((bs.map Value.bool).toArray).size=bs.length:=by simp
 rw[e1,all_range];refine⟨.bl _,H,I.kept (h':=h') (t':=tk) fun b o e=>?_,rfl,q⟩;exact hk b o (fun z=>by rw[List.mem_singleton]at z;exact absurd (B7 e) (by rw[z];exact I0 _)) (A1 _ e)
theorem OE(hc:X.calm=true):dC X (.builtin "any") (fun xs H Q=>∃(p:Addr)(bs:List Bool),xs=[.ref p]/\SqL X.K H p (bs.map V.bl)/\Q (.bl (bs.any id)) H):=by
 intro pins s σ H xs us Q I r h;obtain⟨p,bs,rfl,hp,q⟩:=h;obtain⟨u,rfl,ru⟩:=vals1 r;cases (show u=Value.ref p from ru);obtain⟨its,rv,pl,hz⟩:=I.list hp;have hits:=bQ.bools rv;subst hits;refine call_any_walk (wpAny_pyIter_list pl.isList ?_);have hlt:p<s.heap.objs.size:=pl.lt;refine⟨_,_,_,_,_,_,(fun i=>bs.getD i false),rfl,Walks.list (A:=X.A.in1) (I.ok.hd hc) s.heap.objs.size p (C9 hlt) (bs.map Value.bool).toArray,⟨⟨_,B9 _ rfl,rfl,rfl⟩,pl.isList.at fun o e=>A1 _ e⟩,xD,fun h' tk hk=>?_⟩;have e1:((bs.map Value.bool).toArray).size=bs.length:=by simp
 rw[e1,any_range];refine⟨.bl _,H,I.kept (h':=h') (t':=tk) fun b o e=>?_,rfl,q⟩;exact hk b o (fun z=>by rw[List.mem_singleton]at z;exact absurd (B7 e) (by rw[z];exact I0 _)) (A1 _ e)
theorem aDW:PN K (fun xs H Q=>∃(p:Addr)(bs:List Bool),xs=[.ref p]/\SqL K H p (bs.map V.bl)/\Q (.bl (bs.all id)) H) mN:=by
 intro xs M z M' h W H vs Q G r k;unfold mN at h;split at h
 .rename_i ds;obtain⟨bs,h1,h⟩:=aP h;cases h;rcases r with _|⟨r1,_|_⟩;obtain⟨p,us,rfl,hq,hr⟩:=(show ∃a us,_=V.ref a/\SqL K W.F a us/\aK K W.F ds us from r1);have e:=vK h1 hr;subst e;exact⟨p,bs,rfl,G.fh.seq hq,k _ W H (.refl _) G rfl⟩
 .cases h
theorem aCE:PN K (fun xs H Q=>∃(p:Addr)(bs:List Bool),xs=[.ref p]/\SqL K H p (bs.map V.bl)/\Q (.bl (bs.any id)) H) anyF:=by
 intro xs M z M' h W H vs Q G r k;unfold anyF at h;split at h
 .rename_i ds;obtain⟨bs,h1,h⟩:=aP h;cases h;rcases r with _|⟨r1,_|_⟩;obtain⟨p,us,rfl,hq,hr⟩:=(show ∃a us,_=V.ref a/\SqL K W.F a us/\aK K W.F ds us from r1);have e:=vK h1 hr;subst e;exact⟨p,bs,rfl,G.fh.seq hq,k _ W H (.refl _) G rfl⟩
 .cases h
noncomputable def EW:F3:=fun x y z M=>match x,y with
 |.c i,.d (.int k)=>match M[i]? with
  |some (.lst xs)=>(ixN xs.length k).bind fun j=>some (M.set i (.lst (xs.set j z)))
  |_=>none
 |_,_=>none
theorem aCr:P3 K aAY EW:=by
 intro x y z M M' h W H v u w Q G rx ry rz k;unfold EW at h;split at h
 .rename_i i n;split at h
  .rename_i xs hx;obtain⟨j,h1,h⟩:=aP h;cases h;obtain⟨us,hv,hr⟩:=G.lstAt hx;refine⟨W.α i,us,n,j,rx.2,ry,hv,by rw[<- Paired.len hr];exact h1,?_⟩;exact k W _ (.refl _) (G.set hx (by intro q;cases q) (c':=.lst (xs.set j z)) (show cJ K W _ _ from Paired.set (R:=dS K W) rz j hr))
  .cases h
 .cases h
end
section
variable{X:Cx}{K:Fg}
noncomputable def HY(K:Fg):R2:=fun x y H Q=>∃l b xs zs,x=.ref l/\y=.ref b/\SqL K H l xs/\SqL K H b zs/\xs.length+zs.length<=sizeLine/\∀p,H p=none->Q (.ref p) (upd H p (.lst (xs++zs)))
theorem op_catS:OpR X (binaryOp .Add) (HY X.K):=by
 intro pins s σ H x y v u Q I rx ry h;obtain⟨l,b,xs,zs,rfl,rfl,hH,hB,hz,q⟩:=h;cases rx;cases ry;obtain⟨its,r,⟨⟨cls,dd,data,sl⟩,n,ho,hc,hdd,hd⟩,_⟩:=I.list hH;obtain⟨its2,r2,⟨⟨cls2,dd2,data2,sl2⟩,n2,ho2,hc2,hdd2,hd2⟩,_⟩:=I.list hB;simp only at hc hd hc2 hd2;subst hc hd hc2 hd2;have e1:=r.length;have e2:=r2.length;refine concat_meets ⟨_,ho,rfl⟩ ⟨_,ho2,rfl⟩ noFill_list_add seq_list_add PySem.F.slot_list_add PySem.F.entry_list_add (PySem.F.args_list_add_2 _ _) (list_addW l b its.toArray its2.toArray n n2 dd dd2 sl sl2 (by rw[C6,C6];omega)) ⟨ho,ho2,?_⟩;have ea:its.toArray++its2.toArray=(its++its2).toArray:=by simp
 rw[ea];exact⟨.ref _,_,I.lnew (t':=s.toks) (r.append r2) (by rw[A7];omega),rfl,q _ I.fresh⟩
noncomputable def sN(M:Sto):CD->Option (List CD)
 |.d (.list ds)=>some (ds.map .d)
 |.c i=>match M[i]? with
  |some (.lst xs)=>some xs
  |_=>none
 |_=>none
theorem rP{x:CD}{xs:List CD}{v:V}(G:Good K W M H)(h:sN M x=some xs)(r:dS K W x v):∃p vs,v=.ref p/\SqL K H p vs/\cJ K W xs vs:=by
 unfold sN at h;split at h
 .rename_i ds;cases h;obtain⟨p,us,rfl,hq,hr⟩:=(show ∃a us,_=V.ref a/\SqL K W.F a us/\aK K W.F ds us from r);exact⟨p,us,rfl,G.fh.seq hq,fK hr⟩
 .rename_i i;split at h
  .rename_i ys hy;cases h;obtain⟨us,hv,hr⟩:=G.lstAt hy;exact⟨_,us,r.2,SqL.of hv,hr⟩
  .cases h
 .cases h
noncomputable def aFG:F2:=fun x y M=>(sN M x).bind fun xs=>(sN M y).bind fun ys=>(kO (xs++ys)).bind fun ds=>if ds.length<=sizeLine then some (.d (.list ds),M)else none
theorem aAI:P2 K (HY K) aFG:=by
 intro x y M z M' h W H v u Q G rx ry k;obtain⟨xs,h1,h⟩:=aP h;obtain⟨ys,h2,h⟩:=aP h;obtain⟨ds,h3,h⟩:=aP h;by_cases hl:ds.length<=sizeLine
 .rw[A4 hl]at h;cases h;obtain⟨p,vs,rfl,hp,hr⟩:=rP G h1 rx;obtain⟨q,us,rfl,hq,hs⟩:=rP G h2 ry;have el:=GI h3;rw[A7]at el;refine⟨p,q,vs,us,rfl,rfl,hp,hq,by rw[<- Paired.len hr,<- Paired.len hs];omega,fun l hl=>?_⟩;obtain⟨e2,G2⟩:=G.lay (o:=.lst (vs++us)) hl;exact k _ _ _ e2 G2 ⟨l,_,rfl,SqL.of bA,aK.same e2.ff _ _ (fF h3 (Paired.app hr hs))⟩
 .rw[B0 hl]at h;cases h
noncomputable def aDv:F2:=fun x y M=>match x,y with
 |.d (.tuple xs),.d (.tuple ys)=>if xs≠[]/\xs.length+ys.length<=sizeLine then some (.d (.tuple (xs++ys)),M)else none
 |_,_=>none
theorem aK.nil_iff{ds:List PyData}{vs:List V}(r:aK K H ds vs):vs=[]↔ds=[]:=by
 have:=r.length;constructor<;>intro h<;>subst h<;>simp at this
 .exact this
 .exact List.eq_nil_of_length_eq_zero this.symm
theorem aAE:P2 K (VB K) aDv:=by
 intro x y M z M' h W H v u Q G rx ry k;unfold aDv at h;split at h
 .rename_i xs ys;by_cases hc:xs≠[]/\xs.length+ys.length<=sizeLine
  .rw[A4 hc]at h;cases h;obtain⟨p,vs,rfl,hp,hr⟩:=(show ∃a us,v=V.ref a/\SqT K W.F a us/\aK K W.F xs us from rx);obtain⟨q,us,rfl,hq,hs⟩:=(show ∃a us,u=V.ref a/\SqT K W.F a us/\aK K W.F ys us from ry);refine⟨p,q,vs,us,rfl,rfl,G.fh.seqT hp,G.fh.seqT hq,fun z=>hc.1 (hr.nil_iff.mp z),by rw[<- hr.length,<- hs.length];exact hc.2,fun z=>?_,fun z l hl=>?_⟩
   .have:ys=[]:=hs.nil_iff.mp z;subst this;rw[E7]at k;exact k _ W H (.refl _) G ⟨p,vs,rfl,hp,hr⟩
   .obtain⟨e2,G2⟩:=G.lay (o:=.tup (vs++us)) hl;exact k _ _ _ e2 G2 ⟨l,_,rfl,SqT.of bA,aK.same e2.ff _ _ (aK.app hr hs)⟩
  .rw[B0 hc]at h;cases h
 .cases h
theorem P2.or{r r':R2}{h h':F2}(a:P2 K r h)(b:P2 K r' h'):P2 K (fun x y H Q=>r x y H Q\/r' x y H Q) (DH h h'):=by
 intro x y M z M' hh W H v u Q G rv ru k;unfold DH at hh;cases e:h x y M with
 |some q=>
  rw[e]at hh;cases hh;exact .inl (a _ _ _ _ _ e W H v u Q G rv ru k)
 |none=>
  rw[e]at hh;exact .inr (b _ _ _ _ _ hh W H v u Q G rv ru k)
noncomputable def IP(K:Fg):R2:=fun x y H Q=>∃a b ys,x=.ref a/\y=.ref b/\SqT K H a []/\SqT K H b ys/\Q (.ref b) H
theorem op_catT0:OpR X (binaryOp .Add) (IP X.K):=by
 intro pins s σ H x y v u Q I rx ry h;obtain⟨a,b,ys,rfl,rfl,ha,hb,q⟩:=h;cases rx;cases ry;obtain⟨its,r1,⟨⟨cls,dd,data,sl⟩,ho,hc,n,hd⟩,_⟩:=I.tuple ha;obtain⟨its2,r2,⟨⟨cls2,dd2,data2,sl2⟩,ho2,hc2,n2,hd2⟩,_⟩:=I.tuple hb;simp only at hc hd hc2 hd2;subst hc hd hc2 hd2;cases r1;exact concat_meets ⟨_,ho,rfl⟩ ⟨_,ho2,rfl⟩ noFill_tuple_add seq_tuple_add PySem.F.slot_tuple_add PySem.F.entry_tuple_add (PySem.F.args_tuple_add_2 _ _) (tuple_addW0 a b #[] its2.toArray n n2 dd dd2 sl sl2 rfl) ⟨ho,ho2,⟨.ref b,H,I,rfl,q⟩⟩
noncomputable def RF:F2:=fun x y M=>match x,y with
 |.d (.tuple []),.d (.tuple ys)=>some (.d (.tuple ys),M)
 |_,_=>none
theorem WQ:P2 K (IP K) RF:=by
 intro x y M z M' h W H v u Q G rx ry k;unfold RF at h;split at h
 .rename_i ys;cases h;obtain⟨p,vs,rfl,hp,hr⟩:=(show ∃a us,v=V.ref a/\SqT K W.F a us/\aK K W.F [] us from rx);obtain⟨q,us,rfl,hq,hs⟩:=(show ∃a us,u=V.ref a/\SqT K W.F a us/\aK K W.F ys us from ry);rw[show vs=[]from hr]at hp;exact⟨p,q,us,rfl,rfl,G.fh.seqT hp,G.fh.seqT hq,k _ W H (.refl _) G ⟨q,us,rfl,hq,hs⟩⟩
 .cases h
noncomputable def bO:F2:=DH aFH (DH aFG (DH RF aDv))
noncomputable def RN(K:Fg):R2:=fun x y H Q=>(rI0 fun i j=>.int (i+j)) x y H Q\/HY K x y H Q\/IP K x y H Q\/VB K x y H Q
theorem aAt:OpR X (binaryOp .Add) (RN X.K):=op_add.or (op_catS.or (op_catT0.or aAm))
theorem ZL:P2 K (RN K) bO:=P2.or RK (P2.or aAI (P2.or WQ aAE))
noncomputable def eqS(neg:Bool):F2:=fun x y M=>match x,y with
 |.d (.str a),.d (.str b)=>some (.d (.bool (if neg then !(a==b)else a==b)),M)
 |_,_=>none
noncomputable def eqX(neg:Bool):F2:=DH (eqS neg) (eqD neg)
noncomputable def aCT(K:Fg):R2:=fun x y H Q=>rEq x y H Q\/HS K false x y H Q
noncomputable def aCb(K:Fg):R2:=fun x y H Q=>rNe x y H Q\/HS K true x y H Q
theorem VU{a b:Str}:decide (V.str a=V.str b)=(a==b):=by
 by_cases e:a=b
 .subst e;simp
 .have h:¬V.str a=V.str b:=fun q=>e (V.str.inj q);rw[E1 h,beq_eq_false_iff_ne.mpr e]
theorem aDT:P2 K rEq (eqS false):=by
 intro x y M z M' h W H v u Q G rx ry k;unfold eqS at h;split at h
 .rename_i a b;cases h;rw[show v=.str a from rx,show u=.str b from ry];refine⟨rfl,?_⟩;rw[VU];exact k _ W H (.refl _) G rfl
 .cases h
theorem aCu:P2 K rNe (eqS true):=by
 intro x y M z M' h W H v u Q G rx ry k;unfold eqS at h;split at h
 .rename_i a b;cases h;rw[show v=.str a from rx,show u=.str b from ry];refine⟨rfl,?_⟩;rw[VU];exact k _ W H (.refl _) G rfl
 .cases h
theorem TX:P2 K (aCT K) (eqX false):=P2.or aDT aBr
theorem QY:P2 K (aCb K) (eqX true):=P2.or aCu aBr
theorem aDe(hu:X.A.units+64<cLine):OpR X (compareOp .Eq) (aCT X.K):=op_eq.or (UP hu)
theorem aDc(hu:X.A.units+64<cLine):OpR X (compareOp .NotEq) (aCb X.K):=op_ne.or (UO hu)
theorem aDo:P2 K (rI0 fun i j=>.int (i-j)) BB:=RK
theorem aCz:P2 K (rI HD fun i j=>.int (i*j)) HG:=XO fun _ _ h=>mulOk_of h
theorem aAd:P2 K (rI aBy fun i j=>.int (i / j)) eW:=XO fun i j h=>by
 unfold yW at h;rw[B5]at h;exact⟨D7 h.1,D7 (p:=j.natAbs<AC) h.2⟩
theorem aCP:P2 K (rI (fun _ j=>0<j) fun i j=>.int (i % j)) cH:=XO fun i j h=>D7 h
theorem aBk:P2 K (rI0 fun i j=>.bl (decide (i<j))) ltI:=LI
theorem aEP:P2 K (rI0 fun i j=>.bl (decide (i<=j))) leI:=LI
theorem aER:P2 K (rI0 fun i j=>.bl (decide (j<i))) gtI:=LI
theorem aES:P2 K (rI0 fun i j=>.bl (decide (j<=i))) geI:=LI
noncomputable def kS:F1:=fun x M=>match x with
 |.d (.int i)=>some (.d (.int (-i)),M)
 |_=>none
theorem aDY:P1 K (rU fun i=>.int (-i)) kS:=by
 intro x M z M' h W H v Q G r k;unfold kS at h;split at h
 .rename_i i;cases h;exact⟨i,r,k _ W H (.refl _) G rfl⟩
 .cases h
end
section
variable{X:Cx}{K:Fg}
theorem aFW(h:X.K=K):dC X (.builtin "isinstance") (aCj K):=by subst h;exact PV
theorem aEH(h:X.K=K):dC X (.builtin "isinstance") (XE K):=by subst h;exact JD
noncomputable def aEF(K:Fg):R2:=rIx K
theorem kIx(h:X.K=K):IxR X (aEF K):=by subst h;exact aDw
theorem aCa:P2 K (aEF K) ixF:=aFo
noncomputable def aBt(K:Fg):List V->Hp->VK->Prop:=fun xs H Q=>∃p ys,xs=[.ref p]/\(SqL K H p ys\/SqT K H p ys)/\Q (.int ys.length) H
theorem aGh(h:X.K=K):dC X (.builtin "len") (aBt K):=by subst h;exact FP
theorem ZO:PN K (aBt K) bW:=aDD
noncomputable def KI(K:Fg):List V->Hp->VK->Prop:=fun xs H Q=>∃p ys,xs=[.ref p]/\(SqL K H p ys\/SqT K H p ys)/\∀l,H l=none->Q (.ref l) (upd H l (.lst ys))
theorem aBo(h:X.K=K):dC X (.type "list") (KI K):=by subst h;exact FO
theorem XG:PN K (KI K) pV:=aAM
noncomputable def MC(K:Fg):List V->Hp->VK->Prop:=fun xs H Q=>∃p ys,xs=[.ref p]/\((SqL K H p ys/\∀l,H l=none->Q (.ref l) (upd H l (.tup ys)))\/(SqT K H p ys/\Q (.ref p) H))
theorem aBY(h:X.K=K):dC X (.type "tuple") (MC K):=by subst h;exact AW
theorem OQ:PN K (MC K) cM:=TN
noncomputable def aBl(K:Fg):List V->Hp->VK->Prop:=fun xs H Q=>∃(p:Addr)(bs:List Bool),xs=[.ref p]/\SqL K H p (bs.map V.bl)/\Q (.bl (bs.all id)) H
theorem aGb(h:X.K=K)(hc:X.calm=true):dC X (.builtin "all") (aBl K):=by subst h;exact PP hc
theorem ZY:PN K (aBl K) mN:=aDW
noncomputable def aBs(K:Fg):List V->Hp->VK->Prop:=fun xs H Q=>∃(p:Addr)(bs:List Bool),xs=[.ref p]/\SqL K H p (bs.map V.bl)/\Q (.bl (bs.any id)) H
theorem aFZ(h:X.K=K)(hc:X.calm=true):dC X (.builtin "any") (aBs K):=by subst h;exact OE hc
theorem XS:PN K (aBs K) anyF:=aCE
theorem kEq(h:X.K=K)(hu:X.A.units+64<cLine):OpR X (compareOp .Eq) (aCT K):=by subst h;exact aDe hu
theorem kNe(h:X.K=K)(hu:X.A.units+64<cLine):OpR X (compareOp .NotEq) (aCb K):=by subst h;exact aDc hu
theorem kIn(h:X.K=K)(hu:X.A.in1.units+64<cLine):OpR X (compareOp .In) (OJ K false):=by subst h;exact aEn hu
theorem UB(h:X.K=K)(hu:X.A.in1.units+64<cLine):OpR X (compareOp .NotIn) (OJ K true):=by subst h;exact NZ hu
theorem aGj(h:X.K=K):OpR X (binaryOp .Add) (RN K):=by subst h;exact aAt
theorem LR{tg l:Expr}{tl:TE}(h:X.K=K)(hl:PE X l tl):PI X tg l (aAs K tl):=by subst h;exact aDG hl
theorem LL{es:List Expr}{k:Nat}{t:TGs}{n:Nat}{pos:Pos}(hK:X.K=K)(hc:X.calm=true)(h:PGs X es t)
 (hn:(assignEach es X.env).length=n:=by rfl) (hst:(assignEach es X.env).findIdx? (·.1)=none:=by rfl):PG X (.Tuple es k pos) (aAF K n t):=by subst hK;exact aBN hc h hn hst
noncomputable def aFV(K:Fg)(ta:TE):TT:=fun σ H Q=>ta σ H fun x H'=>∃k,aAx K x H' k/\Q k H'
theorem ZE{a:Expr}{ta:TE}(hK:X.K=K)(ha:PE X a ta)(he:∀whole,isTrue a X.env whole=(do let v <- whole;standAt a.pos;holding [v] (truthy v))):PT X a (aFV K ta):=by subst hK;exact RA ha he
theorem aAf{ta:TE}{f:EF}(a:SE K ta f):STt K (aFV K ta) (KR f):=aDJ a
end
section
variable{es:List Expr}{env:Env}
theorem eB{a b}:starEach (.Name a b::es) env=(false,eval (.Name a b) env)::starEach es env:=rfl
theorem zO{a b c}:starEach (.Tuple a b c::es) env=(false,eval (.Tuple a b c) env)::starEach es env:=rfl
theorem rK{a b c d}:starEach (.Call a b c d::es) env=(false,eval (.Call a b c d) env)::starEach es env:=rfl
theorem BU{pos:Pos}:(backTo pos (starEach [] env)).any (·.1)=false:=rfl
theorem tG{pos:Pos}{e:Expr}(hs:starEach (e::es) env=(false,eval e env)::starEach es env)(h:(backTo pos (starEach es env)).any (·.1)=false):(backTo pos (starEach (e::es) env)).any (·.1)=false:=by
 rw[hs];have e1:backTo pos ((false,eval e env)::starEach es env)=(false,(do let v <- eval e env;standAt pos;pure v:Sem Value))::backTo pos (starEach es env)\/(backTo pos ((false,eval e env)::starEach es env)).any (·.1)=(backTo pos (starEach es env)).any (·.1):=.inr (by unfold backTo;simp);rcases e1 with q|q
 .rw[q,List.any_cons,h];rfl
 .rw[q];exact h
end
section
variable{P:Program}{w:World}{K:Fg}{mg:Str->Option Value}
theorem Fun.okM{base:Heap}{x:Str}{st:Stmt}{N ps:List Str}{k:Nat}{b:SF}{f:Addr}{fd:FuncData}(F:Fun K x x st f fd)(S:bI N ps (aJ st))
 (hbody:∀(f:Addr)(cdv:Value)(A:Around)(outer:List Env)(s:Shared)(H:Hp)(E:XK),fX k (A.deeper (envOfC x (aJ st) s.heap.objs.size f cdv))->
  ∃t,PSs (vP CX0 P w K mg base N x (aJ st) f cdv A outer s H E).nox (dF st) t/\SS K t b):rF P w K mg base CX0 (k+1) f fd ps (spM K (fnF ps.length N.length b)):=by
 have len:∀vs H Q E,spM K (fnF ps.length N.length b) vs H Q E->vs.length=ps.length:=fun vs H Q E h=>by
  obtain⟨xs,M,W,y,M',G,R,hf,_⟩:=h;by_cases hl:xs.length=ps.length
  .rw[<- Paired.len R];exact hl
  .unfold fnF at hf;rw[B0 hl]at hf;cases hf
 refine F.ok S len fun cdv A outer s H vs Q E hr h=>?_;obtain⟨t,hP,hS⟩:=hbody f cdv A outer s H E hr;refine⟨t,hP,?_⟩;obtain⟨xs,M,W,y,M',G,R,hf,k⟩:=h;by_cases hl:xs.length=ps.length
 .unfold fnF at hf;rw[A4 hl]at hf;obtain⟨⟨o,M1⟩,h1,hf⟩:=aP hf
  have hR:gG K W (xs.map some++List.replicate (N.length-xs.length) none) (start N vs):=by
   unfold start;rw[<- Paired.len R];exact Paired.app (cJ.some R) (uP _)
  refine hS _ _ _ _ h1 W H _ _ G hR fun W1 H1 e1 G1=>?_;cases o with
  |rt x=>cases hf;exact fun v r=>k v W1 H1 e1 G1 r
  |nx γ=>cases hf;exact fun σ r=>k .non W1 H1 e1 G1 rfl
  |bk γ=>cases hf
  |ct γ=>cases hf
 .unfold fnF at hf;rw[B0 hl]at hf;cases hf
theorem Def.okL{x p:Str}{st:Stmt}{N:List Str}{k:Nat}{b:SF}{F:FN}(D:Def K mg x st)(S:bI N [p] (aJ st))(hF:F=fnF 1 N.length b)
 (hb:∀(kV doc pm:Value)(an:Option Addr)(cdv ct:Value)(us:List Value),us.length=[p].length->bindArgs (PySem.W.fnOf x x (iG st) (dF st) (aJ st) .none kV doc pm an cdv ct) ⟨us,[]⟩=pure ([p].zip us))
 (hbody:∀(base:Heap)(f:Addr)(cdv:Value)(A:Around)(outer:List Env)(s:Shared)(H:Hp)(E:XK),fX k (A.deeper (envOfC x (aJ st) s.heap.objs.size f cdv))->
  ∃t,PSs (vP CX0 P w K mg base N x (aJ st) f cdv A outer s H E).nox (dF st) t/\SS K t b):
 ∃f fd,mg x=some (.ref f)/\(∀(s:Shared)(u:Value),BindsTo s fd ⟨[u],[]⟩ [(p,u)])/\∀base,rF P w K mg base CX0 (k+1) f fd [p] (spM K F):=by
 subst hF;obtain⟨f,fd,Fu,m⟩:=D.ex;refine⟨f,fd,m,fun s u=>?_,fun base=>Fu.okM S (hbody base)⟩;obtain⟨oc,od,kV,doc,pm,an,cdv,ct,osl,rfl,lk,hcd⟩:=Fu.ex;exact .of_eq (hb kV doc pm an cdv ct [u] rfl)
theorem uO{H:Hp}:∀ns:List Int,aK K H (ns.map .int) (ns.map V.int)
 |[]=>rfl
 |n::ns=>⟨.int n,ns.map V.int,rfl,rfl,uO ns⟩
end
noncomputable def aAK(e:Expr)(es:List Expr):Prop:=∀env:Env,starEach (e::es) env=(false,eval e env)::starEach es env
noncomputable def MM:List Expr->Prop
 |[]=>True
 |e::es=>aAK e es/\MM es
theorem MM.plain:∀{es:List Expr},MM es->∀(env:Env)(pos:Pos),(backTo pos (starEach es env)).any (·.1)=false
 |[]=>fun _ _ _=>rfl
 |_::_=>fun h env pos=>tG (h.1 env) (h.2.plain env pos)
section
variable{ι:Type}
structure ME(K:Fg)(X:ι->Cx)(e:Expr)(f:EF):Prop where
 ex:∃t,(∀i,PE (X i) e t)/\SE K t f
structure MT(K:Fg)(X:ι->Cx)(e:Expr)(f:TF):Prop where
 ex:∃t,(∀i,PT (X i) e t)/\STt K t f
structure MW(K:Fg)(X:ι->Cx)(e:Expr)(f:TF):Prop where
 ex:∃t,(∀i,PW (X i) e t)/\STt K t f
structure MA(K:Fg)(X:ι->Cx)(es:List Expr)(f:AF):Prop where
 ex:∃t,(∀i,PA (X i) es t)/\SA K t f
 st:MM es
structure MG(K:Fg)(X:ι->Cx)(e:Expr)(f:GF):Prop where
 ex:∃t,(∀i,PG (X i) e t)/\SG K t f
structure MGs(K:Fg)(X:ι->Cx)(es:List Expr)(f:GsF):Prop where
 ex:∃t,(∀i,PGs (X i) es t)/\SGs K t f
structure MI(K:Fg)(X:ι->Cx)(tg e:Expr)(f:AF):Prop where
 ex:∃t,(∀i,PI (X i) tg e t)/\SI K t f
structure MF(K:Fg)(X:ι->Cx)(es:List Expr)(f:TF):Prop where
 ex:∃t,(∀i,OA (X i) es t)/\STt K t f
structure MS(K:Fg)(X:ι->Cx)(st:Stmt)(f:SF):Prop where
 ex:∃t,(∀i,PS (X i) st t)/\SS K t f
structure ML(K:Fg)(X:ι->Cx)(st:List Stmt)(f:SF):Prop where
 ex:∃t,(∀i,PSs (X i) st t)/\SS K t f
structure Q2(K:Fg)(X:ι->Cx)(o:Value->Value->Sem Value)(h:F2):Prop where
 ex:∃r,(∀i,OpR (X i) o r)/\P2 K r h
structure Q1(K:Fg)(X:ι->Cx)(o:Value->Sem Value)(h:F1):Prop where
 ex:∃r,(∀i,UnR (X i) o r)/\P1 K r h
structure QN(K:Fg)(X:ι->Cx)(f:Value)(h:FN):Prop where
 ex:∃r,(∀i,dC (X i) f r)/\PN K r h
structure QI(K:Fg)(X:ι->Cx)(h:F2):Prop where
 ex:∃r,(∀i,IxR (X i) r)/\P2 K r h
structure QS(K:Fg)(X:ι->Cx)(h:F3):Prop where
 ex:∃r,(∀i,aDm (X i) r)/\P3 K r h
variable{K:Fg}{X:ι->Cx}{a b c e:Expr}{es:List Expr}{f g h:EF}{ft gt:TF}{fa:AF}{pos:Pos}
theorem aC(i:Nat){x:Str}(hN:∀j,(X j).N[i]?=some x:=by intro _;rfl)(hv:∀j,Vis (X j).env.scope x:=by intro _;first|exact Or.inl rfl|exact Or.inr (Or.inl rfl)|exact Or.inr (Or.inr rfl))(hd:(x==("__debug__":Str))=false:=by decide)(hcd:(x==("__classdict__":Str))=false:=by decide):
 ME K X (.Name x pos) (aB i):=⟨_,fun j=>aCx (hN j) (hv j) hd hcd,aEa⟩
theorem aI{i:Int}{j:Nat}:ME K X (.Constant (.int i) j pos) (fC (.int i)):=⟨_,fun _=>aCg,aCV⟩
theorem eS{i:Bool}{j:Nat}:ME K X (.Constant (.bool i) j pos) (fC (.bool i)):=⟨_,fun _=>aFt,aEC⟩
theorem aBZ{j:Nat}:ME K X (.Constant .none j pos) (fC .none):=⟨_,fun _=>aBV,aBP⟩
theorem VJ{i:Str}{j:Nat}:ME K X (.Constant (.str i) j pos) (fC (.str i)):=⟨_,fun _=>aBT,aEk⟩
theorem aZ{op:Operator}{k:F2}(q:Q2 K X (binaryOp op) k)(x:ME K X a f)(y:ME K X b g):ME K X (.BinOp a op b pos) (fOp k f g):=by
 obtain⟨r,q1,q2⟩:=q.ex;obtain⟨t,x1,x2⟩:=x.ex;obtain⟨u,y1,y2⟩:=y.ex;exact⟨_,fun i=>aFP (q1 i) (x1 i) (y1 i),NK q2 x2 y2⟩
theorem wV{op:UnaryOp}{k:F1}(q:Q1 K X (unaryOp op) k)(x:ME K X a f):ME K X (.UnaryOp op a pos) (fUn k f):=by
 obtain⟨r,q1,q2⟩:=q.ex;obtain⟨t,x1,x2⟩:=x.ex;exact⟨_,fun i=>aEt (q1 i) (x1 i),aFE q2 x2⟩
theorem fI{rest:List Expr}(x:ME K X a f)(y:ME K X (.BoolOp .And (b::rest) pos) g):ME K X (.BoolOp .And (a::b::rest) pos) (fN f g):=by
 obtain⟨t,x1,x2⟩:=x.ex;obtain⟨u,y1,y2⟩:=y.ex;exact⟨_,fun i=>aDU (x1 i) (y1 i),aDM x2 y2⟩
theorem iT{op:BoolOp}(x:ME K X a f):ME K X (.BoolOp op [a] pos) f:=by
 obtain⟨t,x1,x2⟩:=x.ex;exact⟨_,fun i=>aEq (x1 i),x2⟩
theorem JP(x:ME K X a f):ME K X (.UnaryOp .Not a pos) (FE f):=by
 obtain⟨t,x1,x2⟩:=x.ex;exact⟨_,fun i=>aCc (x1 i),aCK x2⟩
theorem iV{op:CmpOp}{k:F2}(q:Q2 K X (compareOp op) k)(x:ME K X a f)(y:ME K X b g)(hm:behindInMarks op b=false:=by rfl):ME K X (.Compare a [op] [b] pos) (fOp k f g):=by
 obtain⟨r,q1,q2⟩:=q.ex;obtain⟨t,x1,x2⟩:=x.ex;obtain⟨u,y1,y2⟩:=y.ex;exact⟨_,fun i=>XW (q1 i) (x1 i) (y1 i) hm,NK q2 x2 y2⟩
theorem HJ{op op':CmpOp}{k k':F2}(q:Q2 K X (compareOp op) k)(q':Q2 K X (compareOp op') k')(x:ME K X a f)(y:ME K X b g)(z:ME K X c h)(hm:lastMarks [op,op'] [b,c]=false:=by with_unfolding_all rfl):ME K X (.Compare a [op,op'] [b,c] pos) (AU k k' f g h):=by
 obtain⟨r,q1,q2⟩:=q.ex;obtain⟨r',q1',q2'⟩:=q'.ex;obtain⟨t,x1,x2⟩:=x.ex;obtain⟨u,y1,y2⟩:=y.ex;obtain⟨v,z1,z2⟩:=z.ex;exact⟨_,fun i=>TJ (q1 i) (q1' i) (x1 i) (y1 i) (z1 i) hm,WV q2 q2' x2 y2 z2⟩
theorem aG:MA K X [] aE:=⟨⟨_,fun _=>EI,aDf⟩,trivial⟩
theorem aD(x:ME K X e f)(y:MA K X es fa)(hs:aAK e es:=by intro _;rfl):MA K X (e::es) (aA f fa):=by
 obtain⟨t,x1,x2⟩:=x.ex;obtain⟨u,y1,y2⟩:=y.ex;exact⟨⟨_,fun i=>oW (x1 i) (y1 i) (hs _),ZD x2 y2⟩,hs,y.st⟩
theorem bN{k:Nat}(x:MA K X es fa):ME K X (.Tuple es k pos) (bK fa):=by
 obtain⟨t,x1,x2⟩:=x.ex;exact⟨_,fun i=>QM (x1 i),aDs x2⟩
theorem jU(x:MA K X es fa):ME K X (.List es pos) (eX fa):=by
 obtain⟨t,x1,x2⟩:=x.ex;exact⟨_,fun i=>RO (x1 i),aDO x2⟩
theorem iI(x:MA K X es fa):ME K X (.List es pos) (dU fa):=by
 obtain⟨t,x1,x2⟩:=x.ex;exact⟨_,fun i=>RO (x1 i),aCL x2⟩
theorem bY{k:F2}(q:QI K X k)(x:ME K X a f)(y:ME K X b g)(hs:MN b:=by intro _ _;rfl):ME K X (.Subscript a b pos) (fOp k f g):=by
 obtain⟨r,q1,q2⟩:=q.ex;obtain⟨t,x1,x2⟩:=x.ex;obtain⟨u,y1,y2⟩:=y.ex;exact⟨_,fun i=>aFg (q1 i) (x1 i) (y1 i) hs,NK q2 x2 y2⟩
theorem aX{k:Nat}{x:Str}{ps:List Str}{F:FN}{p:Pos}{q:Bool}(C:∀i,Callee (X i).prog (X i).w (X i).K (X i).mg (X i).base k x ps (spM K F) q)(hr:∀i,fX k (X i).A q)(y:MA K X (e::es) fa)(hg:∀i,Gl (X i) x:=by intro _;rfl)(hd:(x==("__debug__":Str))=false:=by decide):
 ME K X (.Call (.Name x p) (e::es) [] pos) (aF F fa):=by
 obtain⟨u,y1,y2⟩:=y.ex;exact⟨_,fun i=>aCO (C i) (hr i) (y1 i) (hg i) hd (y.st.1 _) (y.st.2.plain _ _),YB y2⟩
theorem aS{x:Str}{id:String}{F:FN}{p:Pos}(q:QN K X (.builtin id) F)(hm:∀i,(X i).mg x=none)(hv:bootBuiltins x=some (.builtin id))(y:MA K X (e::es) fa)(hg:∀i,Gl (X i) x:=by intro _;rfl)(hn:x≠"__name__":=by decide)(hd:(x==("__debug__":Str))=false:=by decide):
 ME K X (.Call (.Name x p) (e::es) [] pos) (aF F fa):=by
 obtain⟨r,q1,q2⟩:=q.ex;obtain⟨u,y1,y2⟩:=y.ex;exact⟨_,fun i=>AE (q1 i) (hg i) (hm i) hv (y1 i) hn hd (y.st.1 _) (y.st.2.plain _ _),aBx q2 y2⟩
theorem dR{x:Str}{id:String}{F:FN}{p:Pos}(q:QN K X (.type id) F)(hm:∀i,(X i).mg x=none)(hv:bootBuiltins x=some (.type id))(y:MA K X (e::es) fa)(hg:∀i,Gl (X i) x:=by intro _;rfl)(hn:x≠"__name__":=by decide)(hd:(x==("__debug__":Str))=false:=by decide):
 ME K X (.Call (.Name x p) (e::es) [] pos) (aF F fa):=by
 obtain⟨r,q1,q2⟩:=q.ex;obtain⟨u,y1,y2⟩:=y.ex;exact⟨_,fun i=>NY (q1 i) (hg i) (hm i) hv (y1 i) hn hd (y.st.1 _) (y.st.2.plain _ _),aBx q2 y2⟩
theorem wF{T:String}{y:Str}{p p':Pos}(hK:∀i,(X i).K=K)(hT:T∈asked)(x:ME K X a f)(hs:aAK a [.Name y p'])(hm:∀i,(X i).mg "isinstance"=none)(hmy:∀i,(X i).mg y=none)(hb:bootBuiltins y=some (.type T))(hg:∀i,Gl (X i) "isinstance":=by intro _;rfl)(hgy:∀i,Gl (X i) y:=by intro _;rfl)
 (hn:y≠"__name__":=by decide) (hd:(y==("__debug__":Str))=false:=by decide):ME K X (.Call (.Name "isinstance" p) [a,.Name y p'] [] pos) (xK T f):=by
 obtain⟨t,x1,x2⟩:=x.ex;refine⟨_,fun i=>AE (aFW (hK i)) (hg i) (hm i) boot_isinstance (oW (x1 i) (oW (ET (v:=.ty T) (hgy i) (hmy i) hb rfl hn hd) EI eB) (hs _)) (by decide) (by decide) (hs _) (tG eB BU),aEe hT x2⟩
theorem LB{T U:String}{y z:Str}{p p' p'' p3:Pos}{k:Nat}(hK:∀i,(X i).K=K)(hT:T∈asked)(hU:U∈asked)(x:ME K X a f)(hs:aAK a [.Tuple [.Name y p',.Name z p''] k p3])(hm:∀i,(X i).mg "isinstance"=none)(hmy:∀i,(X i).mg y=none)(hmz:∀i,(X i).mg z=none)
 (hb:bootBuiltins y=some (.type T)) (hbz:bootBuiltins z=some (.type U)) (hg:∀i,Gl (X i) "isinstance":=by intro _;rfl) (hgy:∀i,Gl (X i) y:=by intro _;rfl) (hgz:∀i,Gl (X i) z:=by intro _;rfl)
 (hn:y≠"__name__":=by decide) (hd:(y==("__debug__":Str))=false:=by decide) (hn':z≠"__name__":=by decide) (hd':(z==("__debug__":Str))=false:=by decide):ME K X (.Call (.Name "isinstance" p) [a,.Tuple [.Name y p',.Name z p''] k p3] [] pos) (IJ T U f):=by
 obtain⟨t,x1,x2⟩:=x.ex;refine⟨_,fun i=>AE (aEH (hK i)) (hg i) (hm i) boot_isinstance (oW (x1 i) (oW (QM (oW (ET (v:=.ty T) (hgy i) (hmy i) hb rfl hn hd) (oW (ET (v:=.ty U) (hgz i) (hmz i) hbz rfl hn' hd') EI eB) eB)) EI zO) (hs _)) (by decide) (by decide) (hs _) (tG zO BU),ZZ hT hU x2⟩
theorem cW(x:MT K X a ft):MT K X (.UnaryOp .Not a pos) (cB ft):=by
 obtain⟨t,x1,x2⟩:=x.ex;exact⟨_,fun i=>aCA (x1 i),aBQ x2⟩
theorem zT{rest:List Expr}(x:MT K X a ft)(y:MW K X (.BoolOp .And (b::rest) pos) gt):MW K X (.BoolOp .And (a::b::rest) pos) (mE ft gt):=by
 obtain⟨t,x1,x2⟩:=x.ex;obtain⟨u,y1,y2⟩:=y.ex;exact⟨_,fun i=>aDV (x1 i) (y1 i),aCQ x2 y2⟩
theorem uF(x:MT K X a ft):MW K X (.BoolOp .And [a] pos) ft:=by
 obtain⟨t,x1,x2⟩:=x.ex;exact⟨_,fun i=>aAl (x1 i),x2⟩
theorem iS{rest:List Expr}(x:MT K X a ft)(y:MW K X (.BoolOp .Or (b::rest) pos) gt):MW K X (.BoolOp .Or (a::b::rest) pos) (gOr ft gt):=by
 obtain⟨t,x1,x2⟩:=x.ex;obtain⟨u,y1,y2⟩:=y.ex;exact⟨_,fun i=>aFc (x1 i) (y1 i),aFN x2 y2⟩
theorem jK(x:MT K X a ft):MW K X (.BoolOp .Or [a] pos) ft:=by
 obtain⟨t,x1,x2⟩:=x.ex;exact⟨_,fun i=>aCo (x1 i),x2⟩
theorem pH(x:MW K X a ft):MT K X a ft:=by
 obtain⟨t,x1,x2⟩:=x.ex;exact⟨_,fun i=>(x1 i).pt,x2⟩
theorem bU{op:CmpOp}{k:F2}(q:Q2 K X (compareOp op) k)(x:ME K X a f)(y:ME K X b g)(hm:behindInMarks op b=false:=by rfl):MT K X (.Compare a [op] [b] pos) (gB (fOp k f g)):=by
 obtain⟨r,q1,q2⟩:=q.ex;obtain⟨t,x1,x2⟩:=x.ex;obtain⟨u,y1,y2⟩:=y.ex;exact⟨_,fun i=>aAr (q1 i) (x1 i) (y1 i) hm,YN (NK q2 x2 y2)⟩
theorem cO(x:ME K X a f)(he:∀(env:Env)(whole:Sem Value),isTrue a env whole=(do let v <- whole;standAt a.pos;holding [v] (truthy v)):=by intro _ _;rfl):MT K X a (gB f):=by
 obtain⟨t,x1,x2⟩:=x.ex;exact⟨_,fun i=>aCN (x1 i) (he _),aFr x2⟩
theorem aCB(hK:∀i,(X i).K=K)(x:ME K X a f)(he:∀(env:Env)(whole:Sem Value),isTrue a env whole=(do let v <- whole;standAt a.pos;holding [v] (truthy v)):=by intro _ _;rfl):MT K X a (KR f):=by
 obtain⟨t,x1,x2⟩:=x.ex;exact⟨_,fun i=>ZE (hK i) (x1 i) (he _),aAf x2⟩
theorem oR{tg:Expr}{p:Pos}(hm:∀i,(X i).mg "range"=none)(x:MA K X [a] fa)(hg:∀i,Gl (X i) "range":=by intro _;rfl):MI K X tg (.Call (.Name "range" p) [a] [] pos) (gZ fa):=by
 obtain⟨t,x1,x2⟩:=x.ex;exact⟨_,fun i=>PR (hg i) (hm i) (x1 i) (x.st.1 _),aAD x2⟩
theorem cL{tg:Expr}(hK:∀i,(X i).K=K)(x:ME K X a f):MI K X tg a (bE f):=by
 obtain⟨t,x1,x2⟩:=x.ex;exact⟨_,fun i=>LR (hK i) (x1 i),aCU x2⟩
theorem bD(i:Nat){x:Str}(hN:∀j,(X j).N.Nodup)(hi:∀j,(X j).N[i]?=some x:=by intro _;rfl)(hx:∀j,Loc (X j).env.scope x:=by intro _;first|exact Or.inl rfl|exact Or.inr rfl)(hf:∀j,(X j).fn x=true\/(X j).env.scope.names.lookup x=some .local:=by intro _;first|exact .inl rfl|exact .inr rfl):
 MG K X (.Name x pos) (hName i):=⟨_,fun j=>YJ (hN j) (hi j) (hx j) (hf j),xR⟩
theorem pO:MGs K X [] nG:=⟨_,fun _=>YT,aAc⟩
theorem eL{gf:GF}{gs:GsF}(x:MG K X e gf)(y:MGs K X es gs)(hs:∀env:Env,(assignEach (e::es) env).map (·.2)=assign e env::(assignEach es env).map (·.2):=by intro _;rfl):MGs K X (e::es) (cT gf gs):=by
 obtain⟨t,x1,x2⟩:=x.ex;obtain⟨u,y1,y2⟩:=y.ex;exact⟨_,fun i=>VT (x1 i) (y1 i) (hs _),SC x2 y2⟩
theorem vQ{gs:GsF}{k n:Nat}(hK:∀i,(X i).K=K)(hc:∀i,(X i).calm=true)(x:MGs K X es gs)(hn:∀env:Env,(assignEach es env).length=n:=by intro _;rfl)(hst:∀env:Env,(assignEach es env).findIdx? (·.1)=none:=by intro _;rfl):MG K X (.Tuple es k pos) (pA n gs):=by
 obtain⟨t,x1,x2⟩:=x.ex;exact⟨_,fun i=>LL (hK i) (hc i) (x1 i) (hn _) (hst _),RJ x2⟩
theorem WA{s:F3}(q:QS K X s)(x:ME K X a f)(y:ME K X b g) (hs:∀(env:Env)(v:Value),assign (.Subscript a b pos) env v=(do
 let ov <- holding [v] (eval a env);let iv <- holding [v,ov] (eval b env)
 standAt pos
 holding [v,ov,iv] (setItem ov iv v)
 release [v,ov,iv] []):=by intro _ _;rfl):MG K X (.Subscript a b pos) (hSub f g s):=by
 obtain⟨r,q1,q2⟩:=q.ex;obtain⟨t,x1,x2⟩:=x.ex;obtain⟨u,y1,y2⟩:=y.ex;exact⟨_,fun i=>aCY (x1 i) (y1 i) (q1 i) (hs _),aCC q2 x2 y2⟩
theorem dX:MF K X [] eR:=⟨_,fun _=>RW,aEb⟩
theorem IX(x:MT K X c ft):MF K X [c] ft:=by
 obtain⟨t,x1,x2⟩:=x.ex;exact⟨_,fun i=>SL (x1 i),x2⟩
noncomputable abbrev LcI(ι:Type):Type:=ι×Addr×Shared×Hp×List Addr×List (Addr×Obj)
noncomputable def qA(X:ι->Cx)(N':List Str)(scope:Scope):LcI ι->Cx:=fun j=>oB (X j.1) N' scope j.2.1 j.2.2.1 j.2.2.2.1 j.2.2.2.2.1 j.2.2.2.2.2
variable{N':List Str}{cap:List (Option Nat)}{scope:Scope}{tg iter elt:Expr}{ifs:List Expr}{gf:GF}
theorem iP(hc:∀i,(X i).calm=true)(S:∀i,tI (X i) N' cap scope)(x:MI K X tg iter fa)(y:MG K (qA X N' scope) tg gf)(z:MF K (qA X N' scope) ifs ft)(w:ME K (qA X N' scope) elt f)(hs:∀(env:Env)(x:Value),foldedSetIterable iter env x=pure x:=by intro _ _;rfl):
 ME K X (.ListComp elt [⟨tg,iter,ifs,0⟩] scope pos) (fLc cap fa gf ft f):=by
 obtain⟨t,x1,x2⟩:=x.ex;obtain⟨u,y1,y2⟩:=y.ex;obtain⟨v,z1,z2⟩:=z.ex;obtain⟨o,w1,w2⟩:=w.ex;exact⟨_,fun i=>aBv (hc i) (S i) (x1 i) (fun C s H fp pn=>y1 (i,C,s,H,fp,pn)) (fun C s H fp pn=>z1 (i,C,s,H,fp,pn)) (fun C s H fp pn=>w1 (i,C,s,H,fp,pn)) (hs _),aBA x2 y2 z2 w2⟩
theorem zL(i:Nat){x':Str}{pos' pos'':Pos}(hN:∀j,(X j).N.Nodup)(hc:∀i,(X i).calm=true)(S:∀i,tI (X i) N' cap scope)(x:MI K X tg iter fa)(y:MG K (qA X N' scope) tg gf)(z:MF K (qA X N' scope) ifs ft)(w:ME K (qA X N' scope) elt f)
 (hix:∀j,(X j).N[i]?=some x':=by intro _;rfl) (hsw:∀j,swapsWith (.ListComp elt [⟨tg,iter,ifs,0⟩] scope pos) (some (.Name x' pos')) pos''.line (X j).env=pure true:=by intro _;rfl) (hx:∀j,(X j).env.scope.names.lookup x'=some .local:=by intro _;rfl) (hs:∀(env:Env)(x:Value),foldedSetIterable iter env x=pure x:=by intro _ _;rfl):
 MS K X (.Assign [.Name x' pos'] (.ListComp elt [⟨tg,iter,ifs,0⟩] scope pos) pos'') (bG (fLc cap fa gf ft f) (hName i)):=by
 obtain⟨t,x1,x2⟩:=x.ex;obtain⟨u,y1,y2⟩:=y.ex;obtain⟨v,z1,z2⟩:=z.ex;obtain⟨o,w1,w2⟩:=w.ex;exact⟨_,fun j=>GV (hN j) (hix j) (hc j) (S j) (x1 j) (fun C s H fp pn=>y1 (j,C,s,H,fp,pn)) (fun C s H fp pn=>z1 (j,C,s,H,fp,pn)) (fun C s H fp pn=>w1 (j,C,s,H,fp,pn)) (hsw j) (hx j) (hs _),ED (aBA x2 y2 z2 w2) xR⟩
theorem PD(i:Nat){x':Str}{pos' pos'':Pos}(hN:∀j,(X j).N.Nodup)(hc:∀i,(X i).calm=true)(S:∀i,tI (X i) N' cap scope)(x:MI K X tg iter fa)(y:MG K (qA X N' scope) tg gf)(z:MF K (qA X N' scope) ifs ft)(w:ME K (qA X N' scope) elt f)
 (hix:∀j,(X j).N[i]?=some x':=by intro _;rfl) (hsw:∀j,swapsWith (.ListComp elt [⟨tg,iter,ifs,0⟩] scope pos) (some (.Name x' pos')) pos''.line (X j).env=pure true:=by intro _;rfl) (hx:∀j,(X j).env.scope.names.lookup x'=some .local:=by intro _;rfl) (hs:∀(env:Env)(x:Value),foldedSetIterable iter env x=pure x:=by intro _ _;rfl):
 MS K X (.Assign [.Name x' pos'] (.ListComp elt [⟨tg,iter,ifs,0⟩] scope pos) pos'') (bG (QH cap fa gf ft f) (hName i)):=by
 obtain⟨t,x1,x2⟩:=x.ex;obtain⟨u,y1,y2⟩:=y.ex;obtain⟨v,z1,z2⟩:=z.ex;obtain⟨o,w1,w2⟩:=w.ex;exact⟨_,fun j=>GV (hN j) (hix j) (hc j) (S j) (x1 j) (fun C s H fp pn=>y1 (j,C,s,H,fp,pn)) (fun C s H fp pn=>z1 (j,C,s,H,fp,pn)) (fun C s H fp pn=>w1 (j,C,s,H,fp,pn)) (hsw j) (hx j) (hs _),ED (aBX x2 y2 z2 w2) xR⟩
variable{st:Stmt}{sts:List Stmt}{sf sg:SF}
theorem bP:ML K X [] bH:=⟨_,fun _=>aAS,YK⟩
theorem aQ(x:MS K X st sf):ML K X [st] sf:=by
 obtain⟨t,x1,x2⟩:=x.ex;exact⟨_,fun i=>aAy (x1 i),x2⟩
theorem aL(x:MS K X st sf)(y:ML K X sts sg):ML K X (st::sts) (aW sf sg):=by
 obtain⟨t,x1,x2⟩:=x.ex;obtain⟨u,y1,y2⟩:=y.ex;exact⟨_,fun i=>SU (x1 i) (y1 i),aDd x2 y2⟩
theorem bC(x:ME K X e f):MS K X (.Return (some e) pos) (bT f):=by
 obtain⟨t,x1,x2⟩:=x.ex;exact⟨_,fun i=>aCe (x1 i),aDh x2⟩
theorem jF(x:ME K X e f)(hs:∀i,swapsWith e none pos.line (X i).env=pure false:=by intro _;rfl):MS K X (.Expr e pos) (gA f):=by
 obtain⟨t,x1,x2⟩:=x.ex;exact⟨_,fun i=>aAi (x1 i) (hs i),aAa x2⟩
theorem cC{sts':List Stmt}(x:MT K X c ft)(y:ML K X sts sf)(z:ML K X sts' sg):MS K X (.If c sts sts' pos) (sIf ft sf sg):=by
 obtain⟨t,x1,x2⟩:=x.ex;obtain⟨u,y1,y2⟩:=y.ex;obtain⟨v,z1,z2⟩:=z.ex;exact⟨_,fun i=>aFR (x1 i) (y1 i) (z1 i),aEE x2 y2 z2⟩
theorem fW(hp:∀i,PassesOwn (model (X i).prog (X i).w) (X i).A (X i).env (X i).xe)(hc:∀i,(X i).calm=true)(x:MI K X tg iter fa)(y:MG K X tg gf)(z:ML K X sts sf)(hs:∀(env:Env)(x:Value),foldedSetIterable iter env x=pure x:=by intro _ _;rfl):MS K X (.For tg iter sts [] pos) (jW fa gf sf):=by
 obtain⟨t,x1,x2⟩:=x.ex;obtain⟨u,y1,y2⟩:=y.ex;obtain⟨v,z1,z2⟩:=z.ex;exact⟨_,fun i=>aCD (hp i) (hc i) (x1 i) (y1 i) (z1 i) (hs _),aCy x2 y2 z2⟩
theorem bL(i:Nat){x':Str}{pos':Pos}(hN:∀j,(X j).N.Nodup)(x:ME K X e f)(hi:∀j,(X j).N[i]?=some x':=by intro _;rfl)(hx:∀j,Loc (X j).env.scope x':=by intro _;first|exact Or.inl rfl|exact Or.inr rfl)(hs:∀j,swapsWith e (some (.Name x' pos')) pos.line (X j).env=pure false:=by intro _;rfl)
 (hf:∀j,(X j).fn x'=true\/(X j).env.scope.names.lookup x'=some .local:=by intro _;first|exact .inl rfl|exact .inr rfl):MS K X (.Assign [.Name x' pos'] e pos) (bG f (hName i)):=by
 obtain⟨t,x1,x2⟩:=x.ex;exact⟨_,fun j=>aEc (hN j) (hi j) (hx j) (x1 j) (hs j) (hf j),ED x2 xR⟩
theorem DF(x:ME K X e f)(y:MG K X tg gf)(h1:∀k,swapsWithSole [tg] e pos.line (X k).env=pure false:=by intro _;rfl)(h2:∀k,swappedStores [tg] e (X k).env=pure none:=by intro _;rfl)(h3:∀env:Env,(assignEach [tg] env).map (·.2)=[assign tg env]:=by intro _;rfl):MS K X (.Assign [tg] e pos) (bG f gf):=by
 obtain⟨t,x1,x2⟩:=x.ex;obtain⟨u,y1,y2⟩:=y.ex;exact⟨_,fun k=>aCW (x1 k) (y1 k) (h1 k) (h2 k) (h3 _),ED x2 y2⟩
theorem cF(hK:∀i,(X i).K=K:=by intro _;rfl):Q2 K X (binaryOp .Add) bO:=⟨_,fun i=>aGj (hK i),ZL⟩
theorem TV:Q2 K X (binaryOp .Sub) BB:=⟨_,fun _=>aDr,aDo⟩
theorem GU:Q2 K X (binaryOp .Mult) HG:=⟨_,fun _=>aAT,aCz⟩
theorem nW:Q2 K X (binaryOp .FloorDiv) eW:=⟨_,fun _=>VS,aAd⟩
theorem eV:Q2 K X (binaryOp .Mod) cH:=⟨_,fun _=>aDF,aCP⟩
theorem xA:Q1 K X (unaryOp .USub) kS:=⟨_,fun _=>aDp,aDY⟩
theorem OY:Q2 K X (compareOp .Lt) ltI:=⟨_,fun _=>op_lt,aBk⟩
theorem aDE:Q2 K X (compareOp .LtE) leI:=⟨_,fun _=>aFC,aEP⟩
theorem AN:Q2 K X (compareOp .Gt) gtI:=⟨_,fun _=>aEZ,aER⟩
theorem aFO:Q2 K X (compareOp .GtE) geI:=⟨_,fun _=>aEQ,aES⟩
theorem lS(hK:∀i,(X i).K=K)(hu:∀i,(X i).A.units+64<cLine):Q2 K X (compareOp .Eq) (eqX false):=⟨_,fun i=>kEq (hK i) (hu i),TX⟩
theorem OB(hK:∀i,(X i).K=K)(hu:∀i,(X i).A.units+64<cLine):Q2 K X (compareOp .NotEq) (eqX true):=⟨_,fun i=>kNe (hK i) (hu i),QY⟩
theorem aFU(hK:∀i,(X i).K=K)(hu:∀i,(X i).A.in1.units+64<cLine):Q2 K X (compareOp .In) (inD false):=⟨_,fun i=>kIn (hK i) (hu i),aBp⟩
theorem MB(hK:∀i,(X i).K=K)(hu:∀i,(X i).A.in1.units+64<cLine):Q2 K X (compareOp .NotIn) (inD true):=⟨_,fun i=>UB (hK i) (hu i),aBp⟩
theorem dD(hK:∀i,(X i).K=K:=by intro _;rfl):QI K X ixF:=⟨_,fun i=>kIx (hK i),aCa⟩
theorem dM(hK:∀i,(X i).K=K:=by intro _;rfl):QN K X (.builtin "len") bW:=⟨_,fun i=>aGh (hK i),ZO⟩
theorem DD(hK:∀i,(X i).K=K):QN K X (.type "list") pV:=⟨_,fun i=>aBo (hK i),XG⟩
theorem kH(hK:∀i,(X i).K=K):QN K X (.type "tuple") cM:=⟨_,fun i=>aBY (hK i),OQ⟩
theorem wX(hK:∀i,(X i).K=K)(hc:∀i,(X i).calm=true):QN K X (.builtin "all") mN:=⟨_,fun i=>aGb (hK i) (hc i),ZY⟩
theorem RY(hK:∀i,(X i).K=K)(hc:∀i,(X i).calm=true):QN K X (.builtin "any") anyF:=⟨_,fun i=>aFZ (hK i) (hc i),XS⟩
theorem aBq:QS K X EW:=⟨_,fun _=>set_list,aCr⟩
end
section
variable{P:Program}{w:World}{K:Fg}{mg:Str->Option Value}
theorem Def.okG{base:Heap}{x:Str}{st:Stmt}{N ps:List Str}{k:Nat}{b:SF}{q:Bool}(D:Def K mg x st)(S:bI N ps (aJ st))
 (hb:∀(kV doc pm:Value)(an:Option Addr)(cdv ct:Value)(us:List Value),us.length=ps.length->bindArgs (PySem.W.fnOf x x (iG st) (dF st) (aJ st) .none kV doc pm an cdv ct) ⟨us,[]⟩=pure (ps.zip us))
 (hbody:∀(f:Addr)(cdv:Value)(A:Around)(outer:List Env)(s:Shared)(H:Hp)(E:XK),fX k (A.deeper (envOfC x (aJ st) s.heap.objs.size f cdv)) q->
  ML K (fun _:Unit=>(vP CX0 P w K mg base N x (aJ st) f cdv A outer s H E q).nox) (dF st) b):Callee P w K mg base (k+1) x ps (spM K (fnF ps.length N.length b)) q:=
 D.okM S hb fun f cdv A outer s H E hr=>by
  obtain⟨t,h1,h2⟩:=(hbody f cdv A outer s H E hr).ex;exact⟨t,h1 (),h2⟩
theorem Def.okLG{x p:Str}{st:Stmt}{N:List Str}{k:Nat}{b:SF}{F:FN}(D:Def K mg x st)(S:bI N [p] (aJ st))(hF:F=fnF 1 N.length b)
 (hb:∀(kV doc pm:Value)(an:Option Addr)(cdv ct:Value)(us:List Value),us.length=[p].length->bindArgs (PySem.W.fnOf x x (iG st) (dF st) (aJ st) .none kV doc pm an cdv ct) ⟨us,[]⟩=pure ([p].zip us))
 (hbody:∀(base:Heap)(f:Addr)(cdv:Value)(A:Around)(outer:List Env)(s:Shared)(H:Hp)(E:XK),fX k (A.deeper (envOfC x (aJ st) s.heap.objs.size f cdv))->
  ML K (fun _:Unit=>(vP CX0 P w K mg base N x (aJ st) f cdv A outer s H E).nox) (dF st) b):
 ∃f fd,mg x=some (.ref f)/\(∀(s:Shared)(u:Value),BindsTo s fd ⟨[u],[]⟩ [(p,u)])/\∀base,rF P w K mg base CX0 (k+1) f fd [p] (spM K F):=
 D.okL S hF hb fun base f cdv A outer s H E hr=>by
  obtain⟨t,h1,h2⟩:=(hbody base f cdv A outer s H E hr).ex;exact⟨t,h1 (),h2⟩
end
end L2
namespace HT
open PySem PyProof.Rows PySem.Spec
section
variable{prog:Program}{w:World}{A:Around}{E:Value->Shared->Prop}{s:Shared}
theorem getItem_tuple_whole{t sl:Addr}{items:Array Value}{vl vu:Value}{lo hi:Option Int}{Q:Value->Shared->Prop}(ht:IsTup s.heap t items)(hs:s.heap.IsSliceOf sl vl vu .none)(pl:IsPart vl lo)(pu:IsPart vu hi)
 (hw:sIx items.size 0 lo=0/\sIx items.size items.size hi=items.size) (h:Q (.ref t) s):wpAny (model prog w) A (getItem (.ref t) (.ref sl)) Q E s:=by
 obtain⟨os,hos,hcs,hds⟩:=id hs;have hTs:s.TypeIs (.ref sl) "slice":=⟨os,hos,hcs⟩;unfold getItem
 try with_reducible refine S5 ?_
 first|refine A2 (B4 ?_)|skip
 refine A2 (wpAny_sequenceKey ht.typeIs (by decide) ?_)
 refine A2 (O9 (name:=Str.ofString "__getitem__") ht.typeIs L7
  (O6 L7 ht.typeIs entry_tuple_getitem ?_ (args_tuple_getitem _ _)))
 show wpAny _ _ (Builtin.Tuple.tupleItemsOf (.ref t) >>= _) _ _ s;refine A2 (tupleItemsOf_ ht ?_);refine A2 (A0v hTs ?_);rw[A4 (by decide)];refine A2 (oM hs pl pu ?_)
 have hyes:(((sIx items.size 0 lo:Nat):Int)==0&&(1:Int)==1&&(sIx items.size items.size hi-sIx items.size 0 lo)==items.size)=true:=by
  rw[hw.1,hw.2];simp
 show wpAny _ _ (if (((sIx items.size 0 lo:Nat):Int)==0&&(1:Int)==1&&(sIx items.size items.size hi-sIx items.size 0 lo)==items.size)=true then _ else _) _ _ s;rw[A4 hyes];refine A2 (m:=Builtin.Tuple.tupleIsExact (.ref t)) ?_;unfold Builtin.Tuple.tupleIsExact;refine A2 (A0v ht.typeIs (B4 ?_));rw[A4 (by decide)];exact A2 (wpAny_rule (B4 ⟨_,rfl,B4 h⟩))
end
end HT
namespace L2
variable{K:Fg}{H:Hp}{W:Wd}{apos cpos:Pos}
open PySem PySem.Spec PyProof.Rows
noncomputable def aFF(K:Fg):V->Option Int->Option Int->Hp->VK->Prop:=fun x lo hi H Q=>∃a xs,x=.ref a/\SqT K H a xs/\(HT.sIx xs.length 0 lo=0/\HT.sIx xs.length xs.length hi=xs.length)/\Q (.ref a) H
theorem TU{X:Cx}:SlR X (aFF X.K):=by
 intro pins s σ H x v vl vu lo hi sl Q I rx hs pl pu h;obtain⟨a,xs,rfl,hx,hw,q⟩:=h;cases rx;obtain⟨its,r,ht,hz⟩:=I.tuple hx;have hlen:its.toArray.size=xs.length:=by rw[C6];exact r.length.symm
 refine⟨"tuple",_,PyProof.Rows.slot_tuple_getitem.lookup,ht.typeIs,?_⟩;exact HT.getItem_tuple_whole ht hs pl pu (by rw[hlen];exact hw) ⟨.ref a,H,I,rfl,q⟩
noncomputable def gN{α:Type}(xs:List α)(lo hi:Option Int):List α:=(xs.drop (HT.sIx xs.length 0 lo)).take (HT.sIx xs.length xs.length hi-HT.sIx xs.length 0 lo)
noncomputable abbrev OF:=Ga->Sto->Option (Option Int×Sto)
noncomputable def aV:OF:=fun _ M=>some (none,M)
noncomputable def asI:CD->Option Int
 |.d (.int i)=>some i
 |_=>none
noncomputable def aY(f:EF):OF:=fun γ M=>(f γ M).bind fun r=>(asI r.1).bind fun i=>some (some i,r.2)
noncomputable def slF(x:CD)(lo hi:Option Int)(M:Sto):Option (CD×Sto):=match x with
 |.d (.list ds)=>some (.d (.list (gN ds lo hi)),M)
 |.d (.tuple ds)=>some (.d (.tuple (gN ds lo hi)),M)
 |.c i=>match M[i]? with
  |some (.lst xs)=>(kO (gN xs lo hi)).bind fun ds=>some (.d (.list ds),M)
  |_=>none
 |_=>none
noncomputable def fSl(f:EF)(l u:OF):EF:=fun γ M=>(f γ M).bind fun r=>(l γ r.2).bind fun p=>(u γ p.2).bind fun q=>slF r.1 p.1 q.1 q.2
noncomputable def aDx(K:Fg):V->Option Int->Option Int->Hp->VK->Prop:=fun x lo hi H Q=>aFk K x lo hi H Q\/aEI K x lo hi H Q\/aFF K x lo hi H Q
theorem kSl{X:Cx}(h:X.K=K):SlR X (aDx K):=by subst h;exact sl_list.or (sl_tup.or TU)
section
variable{K:Fg}
noncomputable def SO(K:Fg)(t:TO)(f:OF):Prop:=∀γ M b M',f γ M=some (b,M')->∀(W:Wd)(H:Hp)(σ:St)(Q:Option Int->Hp->Prop),Good K W M H->gG K W γ σ->(∀W' H',W.Ext W'->Good K W' M' H'->Q b H')->t σ H Q
theorem ZQ:SO K ND aV:=by
 intro γ M x M' hh W H σ Q G R k;cases hh;exact k W H (.refl _) G
theorem aDt{x:CD}{i:Int}(h:asI x=some i):x=.d (.int i):=by
 cases x with
 |c n=>cases h
 |t n=>cases h
 |f n=>cases h
 |g _=>cases h
 |d x=>cases x<;>first|cases h;rfl|cases h
theorem ZV{ta:TE}{f:EF}(a:SE K ta f):SO K (aBG ta) (aY f):=by
 intro γ M x M' hh W H σ Q G R k;obtain⟨⟨y,M1⟩,h1,hh⟩:=aP hh;obtain⟨i,h2,hh⟩:=aP hh;cases hh;refine a _ _ _ _ h1 W H σ _ G R fun v W1 H1 e1 G1 r1=>?_;have hy:y=_:=aDt h2;subst hy;exact⟨i,r1,k W1 H1 e1 G1⟩
theorem aK.drop{H:Hp}:∀{ds:List PyData}{vs:List V}(n:Nat),aK K H ds vs->aK K H (ds.drop n) (vs.drop n)
 |_,_,0=>fun h=>h
 |[],vs,n+1=>fun h=>by rw[show vs=[]from h];rfl
 |d::ds,vs,n+1=>fun h=>by
  obtain⟨v,r,rfl,_,h3⟩:=h;exact aK.drop n h3
theorem aK.take{H:Hp}:∀{ds:List PyData}{vs:List V}(n:Nat),aK K H ds vs->aK K H (ds.take n) (vs.take n)
 |_,_,0=>fun h=>rfl
 |[],vs,n+1=>fun h=>by rw[show vs=[]from h];rfl
 |d::ds,vs,n+1=>fun h=>by
  obtain⟨v,r,rfl,h2,h3⟩:=h;exact⟨v,r.take n,rfl,h2,aK.take n h3⟩
theorem aK.cut{ds:List PyData}{vs:List V}(h:aK K H ds vs)(lo hi:Option Int):aK K H (gN ds lo hi) (wC vs lo hi):=by
 unfold gN wC;rw[h.length];exact(h.drop _).take _
theorem yZ{α β:Type}{R:α->β->Prop}:∀{xs:List α}{ys:List β}(n:Nat),Paired R xs ys->Paired R (xs.drop n) (ys.drop n)
 |_,_,0,h=>h
 |_,_,_+1,.nil=>.nil
 |_,_,n+1,.cons _ t=>yZ n t
theorem tH{α β:Type}{R:α->β->Prop}:∀{xs:List α}{ys:List β}(n:Nat),Paired R xs ys->Paired R (xs.take n) (ys.take n)
 |_,_,0,h=>.nil
 |_,_,_+1,.nil=>.nil
 |_,_,n+1,.cons r t=>.cons r (tH n t)
theorem PQ{xs:List CD}{vs:List V}(h:cJ K W xs vs)(lo hi:Option Int):cJ K W (gN xs lo hi) (wC vs lo hi):=by
 unfold gN wC;rw[Paired.len h];exact tH _ (yZ _ h)
theorem WN{x:CD}{lo hi:Option Int}{M:Sto}{z:CD}{M':Sto}(h:slF x lo hi M=some (z,M')){v:V}{Q:VK}(G:Good K W M H)(rx:dS K W x v)(k:∀w W' H',W.Ext W'->Good K W' M' H'->dS K W' z w->Q w H'):aDx K v lo hi H Q:=by
 unfold slF at h;split at h
 .rename_i ds;cases h;obtain⟨p,us,rfl,hq,hr⟩:=(show ∃a us,_=V.ref a/\SqL K W.F a us/\aK K W.F ds us from rx);refine .inl ⟨p,us,rfl,G.fh.seq hq,fun l hl=>?_⟩;obtain⟨e2,G2⟩:=G.lay (o:=.lst (wC us lo hi)) hl;exact k _ _ _ e2 G2 ⟨l,_,rfl,SqL.of bA,aK.same e2.ff _ _ (hr.cut lo hi)⟩
 .rename_i ds;cases h;obtain⟨p,us,rfl,hq,hr⟩:=(show ∃a us,_=V.ref a/\SqT K W.F a us/\aK K W.F ds us from rx);by_cases hw:HT.sIx us.length 0 lo=0/\HT.sIx us.length us.length hi=us.length
  .refine .inr (.inr ⟨p,us,rfl,G.fh.seqT hq,hw,?_⟩)
   have e:gN ds lo hi=ds:=by
    unfold gN;rw[hr.length,hw.1,hw.2,<- hr.length];simp
   rw[e]at k;exact k _ W H (.refl _) G ⟨p,us,rfl,hq,hr⟩
  .refine .inr (.inl ⟨p,us,rfl,G.fh.seqT hq,hw,fun l hl=>?_⟩);obtain⟨e2,G2⟩:=G.lay (o:=.tup (wC us lo hi)) hl;exact k _ _ _ e2 G2 ⟨l,_,rfl,SqT.of bA,aK.same e2.ff _ _ (hr.cut lo hi)⟩
 .rename_i i;split at h
  .rename_i xs hx;obtain⟨ds,h1,h⟩:=aP h;cases h;obtain⟨us,hv,hr⟩:=G.lstAt hx;rw[rx.2];refine .inl ⟨_,us,rfl,SqL.of hv,fun l hl=>?_⟩;obtain⟨e2,G2⟩:=G.lay (o:=.lst (wC us lo hi)) hl;exact k _ _ _ e2 G2 ⟨l,_,rfl,SqL.of bA,aK.same e2.ff _ _ (fF h1 (PQ hr lo hi))⟩
  .cases h
 .cases h
theorem aEw{ta:TE}{f:EF}{tl th:TO}{l u:OF}(a:SE K ta f)(b:SO K tl l)(c:SO K th u):SE K (tSl (aDx K) ta tl th) (fSl f l u):=by
 intro γ M x M' hh W H σ Q G R k;obtain⟨⟨y,M1⟩,h1,hh⟩:=aP hh;obtain⟨⟨p,M2⟩,h2,hh⟩:=aP hh;obtain⟨⟨q,M3⟩,h3,hh⟩:=aP hh;refine a _ _ _ _ h1 W H σ _ G R fun v W1 H1 e1 G1 r1=>?_;refine b _ _ _ _ h2 W1 H1 σ _ G1 (R.up e1) fun W2 H2 e2 G2=>?_;refine c _ _ _ _ h3 W2 H2 σ _ G2 (R.up (e1.trans e2)) fun W3 H3 e3 G3=>?_;exact WN hh G3 (r1.up (e2.trans e3)) fun w W4 H4 e4 G4 r4=>k w W4 H4 (((e1.trans e2).trans e3).trans e4) G4 r4
noncomputable def intF:FN:=fun xs M=>match xs with
 |[.d (.int i)]=>some (.d (.int i),M)
 |[.d (.bool b)]=>some (.d (.int (if b then 1 else 0)),M)
 |_=>none
noncomputable def tyB(T:String)(M:Sto):CD->Bool
 |.d (.list _)=>T=="list"
 |.d (.str _)=>T=="str"
 |.c i=>match M[i]? with
  |some (.lst _)=>T=="list"
  |some (.dk _)=>T=="dict"
  |some (.dt _)=>T=="dict"
  |_=>false
 |_=>false
theorem VE{T:String}{M:Sto}{x:CD}{v:V}(h:tyB T M x=true)(G:Good K W M H)(r:dS K W x v):tyV K T v H:=by
 unfold tyB at h;split at h
 .rename_i ds;obtain⟨p,us,rfl,hq,hr⟩:=(show ∃a us,_=V.ref a/\SqL K W.F a us/\aK K W.F ds us from r);exact .inl ⟨eq_of_beq h,us,G.fh.seq hq⟩
 .rename_i x;rw[show v=.str x from r];exact eq_of_beq h
 .rename_i i;rw[r.2];split at h
  .rename_i xs hx;obtain⟨us,hv,hr⟩:=G.lstAt hx;exact .inl ⟨eq_of_beq h,us,SqL.of hv⟩
  .rename_i kvs hx;obtain⟨_,o,g2,g3⟩:=G.cs i _ hx (by intro z;cases z);cases o with
   |dK us=>exact .inr (.inr (.inl ⟨eq_of_beq h,.inl ⟨us,g2⟩⟩))
   |_=>exact False.elim g3
  .rename_i kvs hx;obtain⟨_,o,g2,g3⟩:=G.cs i _ hx (by intro z;cases z);cases o with
   |dT us=>exact .inr (.inr (.inl ⟨eq_of_beq h,.inr ⟨us,g2⟩⟩))
   |_=>exact False.elim g3
  .cases h
 .cases h
noncomputable abbrev FM:=CD->List CD->Sto->Option (CD×Sto)
noncomputable def bM(T:String)(h:FM)(f:EF)(fa:AF):EF:=fun γ M=>(f γ M).bind fun r=>if tyB T r.2 r.1=true then(fa γ r.2).bind fun q=>h r.1 q.1 q.2 else none
noncomputable def PM(K:Fg)(r:V->List V->Hp->VK->Prop)(f:FM):Prop:=∀x xs M z M',f x xs M=some (z,M')->∀(W:Wd)(H:Hp)(v:V)(vs:List V)(Q:VK),Good K W M H->dS K W x v->cJ K W xs vs->(∀w W' H',W.Ext W'->Good K W' M' H'->dS K W' z w->Q w H')->r v vs H Q
theorem aAp{T:String}{r:V->List V->Hp->VK->Prop}{h:FM}{ta:TE}{f:EF}{tA:TA}{fa:AF}(p:PM K r h)(a:SE K ta f)(b:SA K tA fa):SE K (tBM K T r ta tA) (bM T h f fa):=by
 intro γ M x M' hh W H σ Q G R k;obtain⟨⟨y,M1⟩,h1,hh⟩:=aP hh;by_cases hT:tyB T M1 y=true
 .have hh:(if tyB T M1 y=true then(fa γ M1).bind fun q=>h y q.1 q.2 else none)=some (x,M'):=hh;rw[A4 hT]at hh;obtain⟨⟨ys,M2⟩,h2,hh⟩:=aP hh;refine a _ _ _ _ h1 W H σ _ G R fun v W1 H1 e1 G1 r1=>⟨VE hT G1 r1,?_⟩;refine b _ _ _ _ h2 W1 H1 σ _ G1 (R.up e1) fun vs W2 H2 e2 G2 r2=>?_;exact p _ _ _ _ _ hh W2 H2 v vs Q G2 (r1.up e2) r2 fun w W3 H3 e3 G3 r3=>k w W3 H3 ((e1.trans e2).trans e3) G3 r3
 .have hh:(if tyB T M1 y=true then(fa γ M1).bind fun q=>h y q.1 q.2 else none)=some (x,M'):=hh;rw[B0 hT]at hh;cases hh
theorem FZ{T:String}{r:V->List V->Hp->VK->Prop}{h:FM}{ta:TE}{f:EF}(p:PM K r h)(a:SE K ta f):SE K (aFK K T r ta) (bM T h f aE):=by
 intro γ M x M' hh W H σ Q G R k;obtain⟨⟨y,M1⟩,h1,hh⟩:=aP hh;have hh:(if tyB T M1 y=true then h y [] M1 else none)=some (x,M'):=hh;by_cases hT:tyB T M1 y=true
 .rw[A4 hT]at hh;refine a _ _ _ _ h1 W H σ _ G R fun v W1 H1 e1 G1 r1=>⟨VE hT G1 r1,?_⟩;exact p _ _ _ _ _ hh W1 H1 v [] Q G1 r1 .nil fun w W3 H3 e3 G3 r3=>k w W3 H3 (e1.trans e3) G3 r3
 .rw[B0 hT]at hh;cases hh
noncomputable def cD:FM:=fun x ys M=>match x,ys with
 |.c i,[y]=>match M[i]? with
  |some (.lst xs)=>if xs.length<sizeLine then some (.d .none,M.set i (.lst (xs++[y])))else none
  |_=>none
 |_,_=>none
theorem OR:PM K LU cD:=by
 intro x ys M z M' h W H v vs Q G rx rs k;unfold cD at h;split at h
 .rename_i i y;split at h
  .rename_i xs hx;by_cases hl:xs.length<sizeLine
   .rw[A4 hl]at h;cases h;obtain⟨us,hv,hr⟩:=G.lstAt hx;rcases rs with _|⟨r1,_|_⟩;refine⟨W.α i,us,_,rx.2,rfl,hv,by rw[<- Paired.len hr];exact hl,?_⟩;exact k _ W _ (.refl _) (G.set hx (by intro q;cases q) (c':=.lst (xs++[y])) (show cJ K W _ _ from Paired.app hr (.cons r1 .nil))) rfl
   .rw[B0 hl]at h;cases h
  .cases h
 .cases h
noncomputable def fM:FM:=fun x ys M=>match x,ys with
 |.c i,[]=>match M[i]? with
  |some (.lst xs)=>(xs[xs.length-1]?).bind fun y=>some (y,M.set i (.lst xs.dropLast))
  |_=>none
 |_,_=>none
theorem zI{α β:Type}{R:α->β->Prop}{xs:List α}{ys:List β}(h:Paired R xs ys):Paired R xs.dropLast ys.dropLast:=by
 rw[List.dropLast_eq_take,List.dropLast_eq_take,Paired.len h];exact tH _ h
theorem aDC:PM K aFD fM:=by
 intro x ys M z M' h W H v vs Q G rx rs k;unfold fM at h;split at h
 .rename_i i;split at h
  .rename_i xs hx;obtain⟨y,h1,h⟩:=aP h;cases h;obtain⟨us,hv,hr⟩:=G.lstAt hx;obtain⟨u,hu,ru⟩:=Paired.get hr h1;cases rs;refine⟨W.α i,us,u,rx.2,rfl,hv,by rw[<- Paired.len hr];exact hu,?_⟩;exact k _ W _ (.refl _) (G.set hx (by intro q;cases q) (c':=.lst xs.dropLast) (show cJ K W _ _ from zI hr)) ru
  .cases h
 .cases h
end
section
variable{ι:Type}{K:Fg}{X:ι->Cx}{a b c e o:Expr}{es:List Expr}{f g h:EF}{fa:AF}{pos:Pos}
structure MO(K:Fg)(X:ι->Cx)(e:Option Expr)(f:OF):Prop where
 ex:∃t,(∀i,PO (X i) e t)/\SO K t f
theorem cE:MO K X none aV:=⟨_,fun _=>ZG,ZQ⟩
theorem bS(x:ME K X e f):MO K X (some e) (aY f):=by
 obtain⟨t,x1,x2⟩:=x.ex;exact⟨_,fun i=>YR (x1 i),ZV x2⟩
theorem dQ{lo hi:Option Expr}{l u:OF}{p2:Pos}(hK:∀i,(X i).K=K)(x:ME K X a f)(y:MO K X lo l)(z:MO K X hi u):ME K X (.Subscript a (.Slice lo hi none p2) pos) (fSl f l u):=by
 obtain⟨t,x1,x2⟩:=x.ex;obtain⟨t',y1,y2⟩:=y.ex;obtain⟨t'',z1,z2⟩:=z.ex;exact⟨_,fun i=>UW (kSl (hK i)) (x1 i) (y1 i) (z1 i),aEw x2 y2 z2⟩
theorem gU(hK:∀i,(X i).K=K)(x:ME K X o f)(y:MA K X [e] fa)(hb:∀env:Env,attributeBase o "append" env (eval o env)=eval o env:=by intro _;rfl)(hl:(apos.endLine==cpos.line)=true:=by rfl):
 ME K X (.Call (.Attribute o "append" apos) [e] [] cpos) (bM "list" cD f fa):=by
 obtain⟨t,x1,x2⟩:=x.ex;obtain⟨u,y1,y2⟩:=y.ex;refine⟨_,fun i=>?_,aAp OR x2 y2⟩;have:=aEz PySem.F.plainAttrs_list PySem.F.slot_list_append PySem.F.type_list_append PF (x1 i) (y1 i) (apos:=apos) (cpos:=cpos) (hb _) (by rw[y.st.1];rfl) hl (y.st.1 _) (y.st.2.plain _ _);rw[hK i]at this;exact this
theorem nQ(hK:∀i,(X i).K=K)(x:ME K X o f)(hb:∀env:Env,attributeBase o "pop" env (eval o env)=eval o env:=by intro _;rfl)(hl:(apos.endLine==cpos.line)=true:=by rfl):
 ME K X (.Call (.Attribute o "pop" apos) [] [] cpos) (bM "list" fM f aE):=by
 obtain⟨t,x1,x2⟩:=x.ex;refine⟨_,fun i=>?_,FZ aDC x2⟩;have:=SV PySem.F.plainAttrs_list PySem.F.slot_list_pop PySem.F.type_list_pop aDn (x1 i) (apos:=apos) (cpos:=cpos) (hb _) hl;rw[hK i]at this;exact this
end
theorem Def.okNone{P:Program}{w:World}{mg:Str->Option Value}{base:Heap}{x:Str}{st:Stmt}{N ps:List Str}{k:Nat}(D:Def K mg x st)(S:bI N ps (aJ st))
 (hb:∀(kV doc pm:Value)(an:Option Addr)(cdv ct:Value)(us:List Value),us.length=ps.length->bindArgs (PySem.W.fnOf x x (iG st) (dF st) (aJ st) .none kV doc pm an cdv ct) ⟨us,[]⟩=pure (ps.zip us)):
 Callee P w K mg base (k+1) x ps (spM K fun _ _=>none):=by
 refine D.ok S hb (fun vs H Q E h=>?_) fun f cdv A outer s H vs Q E hr h=>?_
 .obtain⟨xs,M,W,y,M',G,R,hf,_⟩:=h;cases hf
 .obtain⟨xs,M,W,y,M',G,R,hf,_⟩:=h;cases hf
noncomputable def DW:EF:=fun _ M=>some (.d (.dict []),M)
theorem VP:SE K VW DW:=by
 intro γ M x M' hh W H σ Q G R k;cases hh;intro p hp;obtain⟨e2,G2⟩:=G.lay (o:=.dK []) hp;exact k _ _ _ e2 G2 ⟨p,[],rfl,bA,rfl⟩
noncomputable def UD:List (EF×EF)->Ga->Sto->Option (List (CD×CD)×Sto)
 |[],_,M=>some ([],M)
 |(f,g)::r,γ,M=>(f γ M).bind fun a=>(g γ a.2).bind fun b=>(UD r γ b.2).bind fun q=>some ((a.1,b.1)::q.1,q.2)
noncomputable def keyOf:CD->Option Key
 |.d (.int i)=>some (.inl i)
 |.d (.str x)=>some (.inr x)
 |_=>none
section
variable{ι:Type}{K:Fg}{X:ι->Cx}
theorem WW{pos:Pos}:ME K X (.Dict [] [] pos) DW:=⟨_,fun _=>WS,VP⟩
end
section
variable{K:Fg}
theorem CS{α β:Type}{R:α->β->Prop}:∀{xs:List α}{ys:List β},Paired R xs ys->Paired R xs.reverse ys.reverse
 |_,_,.nil=>.nil
 |_,_,.cons h t=>by
  rw[U0,U0];exact Paired.app (CS t) (.cons h .nil)
noncomputable def fT:FM:=fun x ys M=>match x,ys with
 |.c i,[]=>match M[i]? with
  |some (.lst xs)=>some (.d .none,M.set i (.lst xs.reverse))
  |_=>none
 |_,_=>none
theorem KC:PM K GA fT:=by
 intro x ys M z M' h W H v vs Q G rx rs k;unfold fT at h;split at h
 .rename_i i;split at h
  .rename_i xs hx;cases h;obtain⟨us,hv,hr⟩:=G.lstAt hx;cases rs;refine⟨W.α i,us,rx.2,rfl,hv,?_⟩;exact k _ W _ (.refl _) (G.set hx (by intro q;cases q) (c':=.lst xs.reverse) (show cJ K W _ _ from CS hr)) rfl
  .cases h
 .cases h
noncomputable def aFS:List V->Hp->VK->Prop:=fun xs H Q=>∃i j,xs=[.int i,.int j]/\Q (.int (if j > i then j else i)) H
noncomputable def oI:FN:=fun xs M=>match xs with
 |[.d (.int i),.d (.int j)]=>some (.d (.int (if j > i then j else i)),M)
 |_=>none
theorem XJ:PN K aFS oI:=by
 intro xs M z M' h W H vs Q G r k;unfold oI at h;split at h
 .rename_i i j;cases h;rcases r with _|⟨r1,_|⟨r2,_|_⟩⟩;exact⟨i,j,by rw[show _=V.int i from r1,show _=V.int j from r2],k _ W H (.refl _) G rfl⟩
 .cases h
end
section
variable{ι:Type}{K:Fg}{X:ι->Cx}{a b c e o:Expr}{es:List Expr}{f g h:EF}{fa:AF}{pos:Pos}
theorem KB(hc:∀i,(X i).calm=true):QN K X (.builtin "max") oI:=⟨_,fun i=>OM (hc i),XJ⟩
theorem yY(hK:∀i,(X i).K=K)(x:ME K X o f)(hb:∀env:Env,attributeBase o "reverse" env (eval o env)=eval o env:=by intro _;rfl)(hl:(apos.endLine==cpos.line)=true:=by rfl):
 ME K X (.Call (.Attribute o "reverse" apos) [] [] cpos) (bM "list" fT f aE):=by
 obtain⟨t,x1,x2⟩:=x.ex;refine⟨_,fun i=>?_,FZ KC x2⟩;have:=SV PySem.F.plainAttrs_list PySem.F.slot_list_reverse PySem.F.type_list_reverse IR (x1 i) (apos:=apos) (cpos:=cpos) (hb _) hl;rw[hK i]at this;exact this
end
open PySem PySem.W PyProof.Rows
noncomputable def KS{α:Type}(lt:Nat->Nat->Bool)(n:Nat):KasT α->(α->Prop)->Prop
 |.ret a,Q=>Q a
 |.ask i j k,Q=>i<n/\j<n/\KS lt n (k (lt i j)) Q
theorem KS.bind{α β:Type}{lt:Nat->Nat->Bool}{n:Nat}{f:α->KasT β}{Q:β->Prop}:∀{t:KasT α},KS lt n t (fun a=>KS lt n (f a) Q)->KS lt n (t.bind f) Q
 |.ret _=>fun h=>h
 |.ask _ _ _=>fun h=>⟨h.1,h.2.1,KS.bind h.2.2⟩
theorem KS.mono{α:Type}{lt:Nat->Nat->Bool}{n:Nat}{Q R:α->Prop}(m:∀a,Q a->R a):∀{t:KasT α},KS lt n t Q->KS lt n t R
 |.ret _=>fun h=>m _ h
 |.ask _ _ _=>fun h=>⟨h.1,h.2.1,KS.mono m h.2.2⟩
theorem KS.wp{α:Type}{lt:Nat->Nat->Bool}{n:Nat}{Q:α->Prop}{R:α->Shared->Prop}{s:Shared}{cmp:Nat->Nat->(Bool->Shared->Prop)->Shared->Prop}
 (hc:∀i j C,i<n->j<n->C (lt i j) s->cmp i j C s) (m:∀a,Q a->R a s):∀{t:KasT α},KS lt n t Q->KasT.kasWp cmp t R s
 |.ret _=>fun h=>m _ h
 |.ask _ _ _=>fun h=>hc _ _ _ h.1 h.2.1 (KS.wp hc m h.2.2)
section
variable{lt:Nat->Nat->Bool}{n:Nat}
structure uX(lt:Nat->Nat->Bool):Prop where
 as:∀a b,lt a b=true->lt b a=false
 tr:∀a b c,lt b a=false->lt c b=false->lt c a=false
theorem uX.up(o:uX lt){a b c:Nat}(h:lt c a=true)(h':lt b a=false):lt c b=true:=by
 cases e:lt c b with
 |true=>rfl
 |false=>rw[o.tr _ _ _ h' e]at h;cases h
noncomputable def Inv2(n:Nat)(p:Array Nat):Prop:=p.Perm (List.range n).toArray
theorem Inv2.sz{p:Array Nat}(h:Inv2 n p):p.size=n:=by
 have:=(Array.perm_iff_toList_perm.mp h).length_eq;simpa using this
theorem Inv2.ent{p:Array Nat}(h:Inv2 n p)(h0:0<n)(k:Nat):p.getD k 0<n:=by
 rw[F8];cases e:p[k]? with
 |none=>exact h0
 |some x=>
  have hm:x∈p:=Array.mem_of_getElem? e;have:=(h.mem_iff (a:=x)).mp hm;simpa using this
noncomputable def jE(lt:Nat->Nat->Bool)(p:Array Nat)(n:Nat):Prop:=∀i j,i<j->j<n->lt (p.getD j 0) (p.getD i 0)=false
noncomputable def vC(lt:Nat->Nat->Bool)(p:Array Nat)(n:Nat):Prop:=∀i j,i<j->j<n->lt (p.getD i 0) (p.getD j 0)=false
noncomputable def QW(lt:Nat->Nat->Bool)(p:Array Nat)(n q:Nat):Prop:=∀i j,n<=i+q+1->i<j->j<n->lt (p.getD j 0) (p.getD i 0)=false
theorem jE.ext(o:uX lt){p:Array Nat}{m:Nat}(h:jE lt p m)(h1:1<=m)(h2:lt (p.getD m 0) (p.getD (m-1) 0)=false):jE lt p (m+1):=by
 intro i j hij hj;by_cases e:j=m
 .subst e;by_cases e':i=j-1
  .subst e';exact h2
  .exact o.tr _ _ _ (h i (j-1) (by omega) (by omega)) h2
 .exact h i j hij (by omega)
theorem vC.ext(o:uX lt){p:Array Nat}{m:Nat}(h:vC lt p m)(h1:1<=m)(h2:lt (p.getD (m-1) 0) (p.getD m 0)=false):vC lt p (m+1):=by
 intro i j hij hj;by_cases e:j=m
 .subst e;by_cases e':i=j-1
  .subst e';exact h2
  .exact o.tr _ _ _ h2 (h i (j-1) (by omega) (by omega))
 .exact h i j hij (by omega)
theorem JB(o:uX lt){p:Array Nat}(hp:Inv2 n p)(h0:0<n){Q:Nat->Prop}:∀(f m:Nat),1<=m->jE lt p m->(∀r,m<=r->r<=m+f->jE lt p r->(r<m+f->lt (p.getD r 0) (p.getD (r-1) 0)=true)->Q r)->KS lt n (kas_asc p f m) Q
 |0=>fun m h1 hs k=>by
  rw[kas_asc.eq_def];exact k m (B3 _) (B3 _) hs (fun h=>absurd h (I0 _))
 |f+1=>fun m h1 hs k=>by
  rw[kas_asc.eq_def];refine⟨hp.ent h0 _,hp.ent h0 _,?_⟩;cases e:lt (p.getD m 0) (p.getD (m-1) 0)with
  |true=>exact k m (B3 _) (by omega) hs (fun _=>e)
  |false=>exact JB o hp h0 f (m+1) (by omega) (hs.ext o h1 e) fun r a b c d=>k r (by omega) (by omega) c (fun z=>d (by omega))
theorem iF{p:Array Nat}(hp:Inv2 n p)(i j:Nat):Inv2 n (kas_rev p i j):=(mirror_perm p i j _).trans hp
theorem rT{p:Array Nat}{i j:Nat}(hj:j<=p.size)(k:Nat):(kas_rev p i j).getD k 0=if i<=k/\k<j then p.getD (i+j-1-k) 0 else p.getD k 0:=by
 rw[F8,show(kas_rev p i j)[k]?=_ from getElem?_mirror_all hj k];by_cases e:i<=k/\k<j
 .rw[A4 e,A4 e,F8]
 .rw[B0 e,B0 e,F8]
theorem GH(o:uX lt){p:Array Nat}{lo hi m:Nat}(hm:m<=p.size)(hh:hi<=m)(d:vC lt p m)(e:∀i j,lo<=i->i<j->j<hi->lt (p.getD j 0) (p.getD i 0)=false):vC lt (kas_rev p lo hi) m:=by
 intro i j hij hj;rw[rT (by omega),rT (by omega)];by_cases a:lo<=i/\i<hi
 .rw[A4 a];by_cases b:lo<=j/\j<hi
  .rw[A4 b];exact e _ _ (by omega) (by omega) (by omega)
  .rw[B0 b];exact d _ _ (by omega) hj
 .rw[B0 a];by_cases b:lo<=j/\j<hi
  .rw[A4 b];exact d _ _ (by omega) (by omega)
  .rw[B0 b];exact d _ _ hij hj
theorem yC(o:uX lt)(h0:0<n){Q:Array Nat×Nat×Nat->Prop}:∀(f:Nat)(p:Array Nat)(m q:Nat),Inv2 n p->1<=m->m+f<=n->vC lt p m->QW lt p m q->q+1<=m->
 (∀p' m' q',Inv2 n p'->m<=m'->m'<=m+f->vC lt p' m'->QW lt p' m' q'->q'+1<=m'->Q (p',m',q'))->KS lt n (kas_desc f p m q) Q
 |0=>fun p m q hp h1 h2 hd he hq k=>by
  rw[kas_desc.eq_def];exact k p m q hp (B3 _) (B3 _) hd he hq
 |f+1=>fun p m q hp h1 h2 hd he hq k=>by
  rw[kas_desc.eq_def];refine⟨hp.ent h0 _,hp.ent h0 _,?_⟩;have hsz:=hp.sz;have e0:∀p':Array Nat,QW lt p' (m+1) 0:=fun p' i j a b c=>by omega
  cases c:lt (p.getD m 0) (p.getD (m-1) 0)with
  |true=>
   have hd1:=hd.ext o h1 (o.as _ _ c);dsimp only;rw[A4 rfl];by_cases hq0:q > 0
   .rw[A4 hq0];exact yC o h0 f _ (m+1) 0 (iF hp _ _) (by omega) (by omega) (GH o (by omega) (by omega) hd1 (fun i j a b d=>he i j (by omega) b (by omega))) (e0 _) (by omega) fun p' m' q' a b c' d e g=>k p' m' q' a (by omega) (by omega) d e g
   .rw[B0 hq0];exact yC o h0 f _ (m+1) 0 hp (by omega) (by omega) hd1 (e0 _) (by omega) fun p' m' q' a b c' d e g=>k p' m' q' a (by omega) (by omega) d e g
  |false=>
   dsimp only;rw[B0 A9];refine⟨hp.ent h0 _,hp.ent h0 _,?_⟩;cases d:lt (p.getD (m-1) 0) (p.getD m 0)with
   |true=>
    dsimp only;rw[A4 rfl];exact k p m q hp (B3 _) (by omega) hd he hq
   |false=>
    dsimp only;rw[B0 A9];refine yC o h0 f p (m+1) (q+1) hp (by omega) (by omega) (hd.ext o h1 d) ?_ (by omega) fun p' m' q' a b c' d e g=>k p' m' q' a (by omega) (by omega) d e g;intro i j a b e;by_cases ej:j=m
    .subst ej;by_cases ei:i=j-1
     .subst ei;exact c
     .exact o.tr _ _ _ (he i (j-1) (by omega) (by omega) (by omega)) c
    .exact he i j (by omega) b (by omega)
noncomputable def Part(lt:Nat->Nat->Bool)(n:Nat)(r:Nat×Array Nat):Prop:=Inv2 n r.2/\1<=r.1/\r.1<=n/\jE lt r.2 r.1
theorem HU(o:uX lt)(h0:0<n){p:Array Nat}{m:Nat}(hp:Inv2 n p)(h1:1<=m)(h2:m<=n)(hd:vC lt p m):KS lt n (kas_tail3 m n p) (Part lt n):=by
 have hsz:=hp.sz;rw[kas_tail3.eq_def];refine KS.bind (JB o (iF hp 0 m) h0 _ _ h1 ?_ fun r a b c _=>⟨iF hp 0 m,by omega,by omega,c⟩);intro i j hij hj;rw[rT (by omega),rT (by omega),A4 (by omega),A4 (by omega)];exact hd _ _ (by omega) (by omega)
theorem wL(o:uX lt)(h0:0<n){p:Array Nat}{m:Nat}(hp:Inv2 n p)(h2:m+1<=n)(hd:vC lt p (m+1)):KS lt n (kas_descPart m n p) (Part lt n):=by
 rw[kas_descPart.eq_def];refine KS.bind (yC o h0 _ _ _ _ hp (by omega) (by omega) hd (fun i j a b c=>by omega) (by omega) fun p' m' q' a b c d e g=>?_);have hsz:=a.sz;show KS lt n (if q' > 0 then kas_tail3 m' n (kas_rev p' (m'-(q'+1)) m')else kas_tail3 m' n p') _;by_cases hq:q' > 0
 .rw[A4 hq];exact HU o h0 (iF a _ _) (by omega) (by omega) (GH o (by omega) (B3 _) d fun i j x y z=>e i j (by omega) y z)
 .rw[B0 hq];exact HU o h0 a (by omega) (by omega) d
theorem US(o:uX lt)(h0:0<n){p:Array Nat}(hp:Inv2 n p):KS lt n (kas_count n p) (Part lt n):=by
 have hsz:=hp.sz;rw[kas_count.eq_def];refine KS.bind (JB o hp h0 _ _ (B3 _) (fun i j a b=>by omega) fun r a b c d=>?_);by_cases e:(r==n)=true
 .rw[A4 e];exact⟨hp,a,by omega,c⟩
 .rw[B0 e];have e':r≠n:=by simpa using e
  have hl:=d (by omega);by_cases g:r > 1
  .rw[A4 g];refine⟨hp.ent h0 _,hp.ent h0 _,?_⟩;cases l:lt (p.getD 0 0) (p.getD (r-1) 0)with
   |true=>dsimp only;rw[A4 rfl];exact⟨hp,a,by omega,c⟩
   |false=>
    dsimp only;rw[B0 A9];have le:∀i j,i<=j->j<r->i<j\/i=j:=fun i j x y=>by omega
    have irr:∀x,lt x x=false:=fun x=>by
     cases q:lt x x with
     |false=>rfl
     |true=>rw[o.as _ _ q]at q;cases q
    have up:∀i,i<r->lt (p.getD i 0) (p.getD (r-1) 0)=false:=fun i hi=>by
     have x1:lt (p.getD i 0) (p.getD 0 0)=false:=by
      by_cases z:i=0
      .subst z;exact irr _
      .exact c 0 i (by omega) hi
     exact o.tr _ _ _ l x1
    have dn:∀i,i<r->lt (p.getD (r-1) 0) (p.getD i 0)=false:=fun i hi=>by
     by_cases z:i=r-1
     .subst z;exact irr _
     .exact c i (r-1) (by omega) (by omega)
    have al:∀i j,i<r->j<r->lt (p.getD i 0) (p.getD j 0)=false:=fun i j hi hj=>o.tr _ _ _ (dn j hj) (up i hi);refine wL o h0 (iF hp _ _) (by omega) ?_;intro i j hij hj;rw[rT (by omega),rT (by omega),A4 (by omega)];by_cases z:j<r
    .rw[A4 (by omega)];exact al _ _ (by omega) (by omega)
    .rw[B0 (by omega)];have:j=r:=by omega
     subst this;exact o.tr _ _ _ (o.as _ _ hl) (up _ (by omega))
  .rw[B0 g];have:r=1:=by omega
   subst this;refine wL o h0 hp (by omega) ?_;intro i j hij hj;have:i=0:=by omega
   have:j=1:=by omega
   subst i;subst j;exact o.as _ _ hl
theorem AA(o:uX lt)(h0:0<n){p:Array Nat}(hp:Inv2 n p){k:Nat}(hs:jE lt p k){Q:Nat->Prop}(q:∀l,l<=k->(∀i,i<l->lt (p.getD k 0) (p.getD i 0)=false)->(∀i,l<=i->i<k->lt (p.getD k 0) (p.getD i 0)=true)->Q l):
 ∀(f l r:Nat),l<=r->r<=k->r-l<=f->(∀i,i<l->lt (p.getD k 0) (p.getD i 0)=false)->(∀i,r<=i->i<k->lt (p.getD k 0) (p.getD i 0)=true)->KS lt n (kas_place p k f l r) Q
 |0=>fun l r h1 h2 h3 a b=>by
  rw[kas_place.eq_def];have:l=r:=by omega
  subst this;exact q l h2 a b
 |f+1=>fun l r h1 h2 h3 a b=>by
  rw[kas_place.eq_def];show KS lt n (if l>=r then _ else _) Q;by_cases g:l>=r
  .rw[A4 g];have:l=r:=by omega
   subst this;exact q l h2 a b
  .rw[B0 g];refine⟨hp.ent h0 _,hp.ent h0 _,?_⟩;cases c:lt (p.getD k 0) (p.getD ((l+r) / 2) 0)with
   |true=>
    dsimp only;rw[A4 rfl];refine AA o h0 hp hs q f _ _ (by omega) (by omega) (by omega) a fun i x y=>?_;by_cases z:i=(l+r) / 2
    .subst z;exact c
    .exact o.up c (hs _ _ (by omega) y)
   |false=>
    dsimp only;rw[B0 A9];refine AA o h0 hp hs q f _ _ (by omega) (by omega) (by omega) (fun i x=>?_) b;by_cases z:i=(l+r) / 2
    .subst z;exact c
    .exact o.tr _ _ _ (hs i ((l+r) / 2) (by omega) (by omega)) c
theorem LJ{p:Array Nat}{src d:Nat}(h:src<p.size)(hd:d<=src)(k:Nat):(bubble p src d).getD k 0=if k=src-d then p.getD src 0 else if src-d<k/\k<=src then p.getD (k-1) 0 else p.getD k 0:=by
 rw[F8,getElem?_bubble h d hd k];by_cases e:k=src-d
 .rw[A4 e,A4 e,F8]
 .rw[B0 e,B0 e];by_cases e2:src-d<k/\k<=src
  .rw[A4 e2,A4 e2,F8]
  .rw[B0 e2,B0 e2,F8]
theorem VI(o:uX lt)(h0:0<n){Q:Array Nat->Prop}(q:∀p,Inv2 n p->jE lt p n->Q p):∀(f:Nat)(p:Array Nat)(k:Nat),Inv2 n p->k+f=n->jE lt p k->KS lt n (kas_bin f p k) Q
 |0=>fun p k hp hk hs=>by
  rw[kas_bin.eq_def];have:k=n:=by omega
  subst this;exact q p hp hs
 |f+1=>fun p k hp hk hs=>by
  rw[kas_bin.eq_def];have hsz:=hp.sz;refine KS.bind (AA o h0 hp hs (fun l hl a b=>?_) k 0 k (by omega) (by omega) (by omega) (fun i x=>by omega) (fun i x y=>by omega));refine VI o h0 q f _ (k+1) ((bubble_perm p k (k-l)).trans hp) (by omega) ?_;intro i j hij hj;rw[LJ (by omega) (by omega),LJ (by omega) (by omega)];have hkl:k-(k-l)=l:=by omega
  rw[hkl];by_cases j1:j=l
  .rw[A4 j1,B0 (by omega),B0 (by omega)];exact a i (by omega)
  .rw[B0 j1];by_cases j2:l<j/\j<=k
   .rw[A4 j2];by_cases i1:i=l
    .rw[A4 i1];exact o.as _ _ (b _ (by omega) (by omega))
    .rw[B0 i1];by_cases i2:l<i/\i<=k
     .rw[A4 i2];exact hs _ _ (by omega) (by omega)
     .rw[B0 i2];exact hs _ _ (by omega) (by omega)
   .rw[B0 j2,B0 (by omega),B0 (by omega)];exact hs _ _ hij (by omega)
theorem ZS(o:uX lt)(h0:0<n):KS lt n (kas_sort n) (fun p=>Inv2 n p/\jE lt p n):=by
 unfold kas_sort;refine KS.bind (KS.mono (fun r h=>?_) (US o h0 (p:=(List.range n).toArray) (Array.Perm.refl _)));obtain⟨a,b,c,d⟩:=h;by_cases e:r.fst<n
 .rw[A4 e];have hm:max r.fst 1=r.fst:=by omega
  rw[hm];exact VI o h0 (fun p x y=>⟨x,y⟩) _ _ _ a (by omega) d
 .rw[B0 e];have:r.fst=n:=by omega
  exact⟨a,this▸d⟩
end
end L2
namespace L2
open PySem PySem.Spec PyProof.Rows
noncomputable def cR:List PyData->Option (List Int)
 |[]=>some []
 |.int n::r=>(cR r).bind fun ns=>some (n::ns)
 |_=>none
theorem oC{h:Heap}:∀{ds:List PyData}{us:List Value}{as:List Addr}{ns:List Int},ReadsAll h us ds as->cR ds=some ns->IntsAre us ns
 |[],_,_,_=>fun r e=>by cases r;cases e;exact .nil
 |d::ds,_,_,_=>fun r e=>by
  cases r with
  |cons r1 r2=>
   cases d with
   |int n=>
    have e:(cR ds).bind (fun ns=>some (n::ns))=some _:=e;obtain⟨ms,h1,h2⟩:=Option.bind_eq_some_iff.mp e;cases h2;cases r1;exact .cons _ _ (oC r2 h1)
   |_=>cases e
noncomputable def fR:PyData->PyData->Option Bool
 |.int a,.int b=>some (decide (a<b))
 |.tuple xs,.tuple ys=>(cR xs).bind fun ns=>(cR ys).bind fun ms=>some (HT.lexLt ns ms)
 |_,_=>none
noncomputable def cU:List PyData->List PyData->Option Bool
 |[],ys=>some (decide (0<ys.length))
 |_::_,[]=>some false
 |x::xs,y::ys=>if PyData.eqv x y=true then cU xs ys else fR x y
noncomputable def isI:PyData->Bool
 |.int _=>true
 |_=>false
section
variable{prog:Program}{w:World}{A:Around}{E:Value->Shared->Prop}{s:Shared}
theorem aAP{p q:Value}{x y:PyData}{as bs:List Addr}{c fl:Bool}{Q:Bool->Shared->Prop}(hu:A.units<cLine)(r1:Reads s.heap p x as)(r2:Reads s.heap q y bs)(h:fR x y=some c)(hf:fl=true->isI x=true/\isI y=true)(k:Q c s):
 wpAny (model prog w) A (oneLt' fl p q) Q E s:=by
 unfold fR at h;split at h
 .rename_i a b;cases r1;cases r2;cases h;cases fl with
  |true=>exact oneLt_int k
  |false=>exact PySem.W.kat_one _ _ (lt_int k)
 .rename_i xs ys;obtain⟨ns,h1,h⟩:=Option.bind_eq_some_iff.mp h;obtain⟨ms,h2,h⟩:=Option.bind_eq_some_iff.mp h;cases h;cases fl with
  |true=>exact absurd (hf rfl).1 (by intro z;cases z)
  |false=>
   cases r1 with
   |tuple g1 g2 g3 g4=>
    cases r2 with
    |tuple k1 k2 k3 k4=>
     exact PySem.W.kat_one _ _ (HT.lt_tupInts ⟨_,g1,g2,_,g3⟩ ⟨_,k1,k2,_,k3⟩ (oC g4 h1) (oC k4 h2) hu k)
 .cases h
theorem MJ{b fin c:Bool}{Q:Bool->Shared->Prop}(hu:A.units+64<cLine)(k:Q c s):∀(xs ys:List PyData)(us ws:List Value)(as bs:List Addr)(i:Nat),ReadsAll s.heap us xs as->ReadsAll s.heap ws ys bs->xs.all SeqAt.shaped=true->ys.all SeqAt.shaped=true->
 cU xs ys=some c->fin=decide (us.length<ws.length)->((b&&i==0)=true->xs.head?.all isI=true/\ys.head?.all isI=true)->PySem.W.KatLex prog w A b fin Q (us.zip ws) i s
 |[],ys=>fun us ws as bs i r1 r2 s1 s2 h hf hb=>by
  cases r1
  have hl:ws.length=ys.length:=by
   clear k h hf hb s2
   induction r2 using ReadsAll.rec (motive_1:=fun _ _ _ _=>True)with
   |nil=>rfl
   |cons _ _ _ ih=>simp[ih]
   |_=>trivial
  rw[List.zip_nil_left];refine PySem.W.kat_nil ?_;have h:some (decide (0<ys.length))=some c:=h;cases h;rw[hf,hl];exact k
 |x::xs,[]=>fun us ws as bs i r1 r2 s1 s2 h hf hb=>by
  cases r2;rw[List.zip_nil_right];refine PySem.W.kat_nil ?_;cases h;rw[hf];simpa using k
 |x::xs,y::ys=>fun us ws as bs i r1 r2 s1 s2 h hf hb=>by
  cases r1 with
  |cons a1 a2=>
   cases r2 with
   |cons b1 b2=>
    rw[A0i,B5]at s1 s2;rw[A0a];refine PySem.W.kat_cons ?_;refine SeqAt.eqAt_reads x y A s _ _ _ _ a1 b1 (S7 s1.1) (S7 s2.1) (SeqAt.room_of_shaped s1.1 hu) _ _ _ _ ?_;have h:(if PyData.eqv x y=true then cU xs ys else fR x y)=some c:=h;cases e:PyData.eqv x y with
    |true=>
     rw[e,A4 rfl]at h;refine PySem.W.kat_yes (MJ hu k xs ys _ _ _ _ (i+1) a2 b2 s1.2 s2.2 h ?_ (fun z=>?_))
     .rw[hf];simp
     .simp at z
    |false=>
     rw[e,B0 A9]at h;refine PySem.W.kat_no (aAP (by omega) a1 b1 h (fun z=>?_) k);have:=hb z;simpa using this
end
open PySem PySem.W PyProof.Rows
noncomputable def PJ{α:Type}(lt:Nat->Nat->Bool):KasT α->α
 |.ret a=>a
 |.ask i j k=>PJ lt (k (lt i j))
noncomputable def KA{α:Type}(n:Nat):KasT α->(α->Prop)->Prop
 |.ret a,Q=>Q a
 |.ask i j k,Q=>i<n/\j<n/\∀b,KA n (k b) Q
section
variable{n:Nat}
theorem KA.bind{α β:Type}{f:α->KasT β}{Q:β->Prop}:∀{t:KasT α},KA n t (fun a=>KA n (f a) Q)->KA n (t.bind f) Q
 |.ret _=>fun h=>h
 |.ask _ _ _=>fun h=>⟨h.1,h.2.1,fun b=>KA.bind (h.2.2 b)⟩
theorem KA.ks{α:Type}{lt:Nat->Nat->Bool}{Q:α->Prop}:∀{t:KasT α},KA n t Q->KS lt n t (fun a=>a=PJ lt t/\Q a)
 |.ret _=>fun h=>⟨rfl,h⟩
 |.ask i j _=>fun h=>⟨h.1,h.2.1,KA.ks (h.2.2 (lt i j))⟩
theorem KS.run{α:Type}{lt:Nat->Nat->Bool}{Q:α->Prop}:∀{t:KasT α},KS lt n t Q->Q (PJ lt t)
 |.ret _=>fun h=>h
 |.ask i j k=>fun h=>KS.run (t:=k (lt i j)) h.2.2
theorem IZ{p:Array Nat}(hp:Inv2 n p)(h0:0<n){Q:Nat->Prop}(q:∀r,Q r):∀(f m:Nat),KA n (kas_asc p f m) Q
 |0=>fun m=>by rw[kas_asc.eq_def];exact q m
 |f+1=>fun m=>by
  rw[kas_asc.eq_def];refine⟨hp.ent h0 _,hp.ent h0 _,fun b=>?_⟩;cases b with
  |true=>exact q m
  |false=>exact IZ hp h0 q f (m+1)
theorem yH(h0:0<n){Q:Array Nat×Nat×Nat->Prop}(k:∀p m q,Inv2 n p->Q (p,m,q)):∀(f:Nat)(p:Array Nat)(m q:Nat),Inv2 n p->KA n (kas_desc f p m q) Q
 |0=>fun p m q hp=>by rw[kas_desc.eq_def];exact k p m q hp
 |f+1=>fun p m q hp=>by
  rw[kas_desc.eq_def];refine⟨hp.ent h0 _,hp.ent h0 _,fun b=>?_⟩;cases b with
  |true=>
   dsimp only;rw[A4 rfl];by_cases hq:q > 0
   .rw[A4 hq];exact yH h0 k f _ _ _ (iF hp _ _)
   .rw[B0 hq];exact yH h0 k f _ _ _ hp
  |false=>
   dsimp only;rw[B0 A9];refine⟨hp.ent h0 _,hp.ent h0 _,fun b=>?_⟩;cases b with
   |true=>exact k p m q hp
   |false=>exact yH h0 k f _ _ _ hp
theorem IC(h0:0<n){p:Array Nat}{m:Nat}(hp:Inv2 n p):KA n (kas_tail3 m n p) (fun r=>Inv2 n r.2):=by
 rw[kas_tail3.eq_def];exact KA.bind (IZ (iF hp 0 m) h0 (fun r=>iF hp 0 m) _ _)
theorem wR(h0:0<n){p:Array Nat}{m:Nat}(hp:Inv2 n p):KA n (kas_descPart m n p) (fun r=>Inv2 n r.2):=by
 rw[kas_descPart.eq_def];refine KA.bind (yH h0 (fun p' m' q' a=>?_) _ _ _ _ hp);show KA n (if q' > 0 then kas_tail3 m' n (kas_rev p' (m'-(q'+1)) m')else kas_tail3 m' n p') _;by_cases hq:q' > 0
 .rw[A4 hq];exact IC h0 (iF a _ _)
 .rw[B0 hq];exact IC h0 a
theorem SX(h0:0<n){p:Array Nat}(hp:Inv2 n p):KA n (kas_count n p) (fun r=>Inv2 n r.2):=by
 rw[kas_count.eq_def];refine KA.bind (IZ hp h0 (fun r=>?_) _ _);by_cases e:(r==n)=true
 .rw[A4 e];exact hp
 .rw[B0 e];by_cases g:r > 1
  .rw[A4 g];refine⟨hp.ent h0 _,hp.ent h0 _,fun b=>?_⟩;cases b with
   |true=>exact hp
   |false=>exact wR h0 (iF hp _ _)
  .rw[B0 g];exact wR h0 hp
theorem zS(h0:0<n){p:Array Nat}(hp:Inv2 n p){k:Nat}{Q:Nat->Prop}(q:∀l,Q l):∀(f l r:Nat),KA n (kas_place p k f l r) Q
 |0=>fun l r=>by rw[kas_place.eq_def];exact q l
 |f+1=>fun l r=>by
  rw[kas_place.eq_def];show KA n (if l>=r then _ else _) Q;by_cases g:l>=r
  .rw[A4 g];exact q l
  .rw[B0 g];refine⟨hp.ent h0 _,hp.ent h0 _,fun b=>?_⟩;cases b with
   |true=>exact zS h0 hp q f _ _
   |false=>exact zS h0 hp q f _ _
theorem UH(h0:0<n):∀(f:Nat)(p:Array Nat)(k:Nat),Inv2 n p->KA n (kas_bin f p k) (Inv2 n)
 |0=>fun p k hp=>by rw[kas_bin.eq_def];exact hp
 |f+1=>fun p k hp=>by
  rw[kas_bin.eq_def];exact KA.bind (zS h0 hp (fun l=>UH h0 f _ (k+1) ((bubble_perm p k (k-l)).trans hp)) k 0 k)
theorem xT(h0:0<n):KA n (kas_sort n) (Inv2 n):=by
 unfold kas_sort;have:=SX h0 (p:=(List.range n).toArray) (Array.Perm.refl _);refine KA.bind ?_
 have mono:∀{α:Type}{Q R:α->Prop}(m:∀a,Q a->R a)(t:KasT α),KA n t Q->KA n t R:=by
  intro α Q R m t
  induction t with
  |ret a=>exact m a
  |ask i j k ih=>exact fun h=>⟨h.1,h.2.1,fun b=>ih b (h.2.2 b)⟩
 refine mono (fun r a=>?_) _ this;by_cases e:r.fst<n
 .rw[A4 e];exact UH h0 _ _ _ a
 .rw[B0 e];exact a
noncomputable def dY(lt:Nat->Nat->Bool)(n:Nat):List Nat:=(PJ lt (kas_sort n)).toList
theorem iR(lt:Nat->Nat->Bool)(h0:0<n):(dY lt n).Perm (List.range n):=by
 have:=KS.run (KA.ks (lt:=lt) (xT h0));simpa[dY]using Array.perm_iff_toList_perm.mp this.2
end
end L2
namespace L2
variable{K:Fg}
open PySem PySem.Spec PyProof.Rows
mutual
noncomputable def fO:PyData->Bool
 |.int _=>true
 |.tuple xs=>cG xs
 |_=>false
noncomputable def cG:List PyData->Bool
 |[]=>true
 |x::r=>fO x&&cG r
end
mutual
theorem rk{h h':Heap}(k:∀b o vs n,h.get? b=some o->o.data=.seq vs n->h'.get? b=some o):∀(d:PyData)(v:Value)(as:List Addr),fO d=true->Reads h v d as->Reads h' v d as
 |.int n=>fun _ _ _ r=>by cases r;exact .int _ _
 |.tuple xs=>fun _ _ e r=>by
  cases r with
  |tuple a b c d=>exact .tuple (k _ _ _ _ a c) b c (GS k xs _ _ (by unfold fO at e;exact e) d)
 |.none=>fun _ _ e _=>by unfold fO at e;cases e
 |.bool _=>fun _ _ e _=>by unfold fO at e;cases e
 |.str _=>fun _ _ e _=>by unfold fO at e;cases e
 |.list _=>fun _ _ e _=>by unfold fO at e;cases e
 |.dict _=>fun _ _ e _=>by unfold fO at e;cases e
theorem GS{h h':Heap}(k:∀b o vs n,h.get? b=some o->o.data=.seq vs n->h'.get? b=some o):∀(ds:List PyData)(vs:List Value)(as:List Addr),cG ds=true->ReadsAll h vs ds as->ReadsAll h' vs ds as
 |[]=>fun _ _ _ r=>by cases r;exact .nil
 |d::ds=>fun _ _ e r=>by
  cases r with
  |cons a b=>
   unfold cG at e;rw[B5]at e;exact .cons (rk k d _ _ e.1 a) (GS k ds _ _ e.2 b)
end
theorem ReadsAll.at{h:Heap}:∀{ds:List PyData}{vs:List Value}{as:List Addr}(i:Nat),ReadsAll h vs ds as->i<ds.length->∃bs,Reads h (vs.getD i .none) (ds.getD i .none) bs
 |[],_,_,i=>fun _ hi=>absurd hi (Nat.not_lt_zero _)
 |d::ds,_,_,0=>fun r _=>by cases r with|cons a b=>exact⟨_,a⟩
 |d::ds,_,_,i+1=>fun r hi=>by
  cases r with
  |cons a b=>
   obtain⟨bs,x⟩:=ReadsAll.at i b (Nat.lt_of_succ_lt_succ hi);exact⟨bs,x⟩
theorem ReadsAll.len{h:Heap}:∀{ds:List PyData}{vs:List Value}{as:List Addr},ReadsAll h vs ds as->vs.length=ds.length
 |[],_,_=>fun r=>by cases r;rfl
 |d::ds,_,_=>fun r=>by
  cases r with
  |cons a b=>simp[ReadsAll.len b]
section
variable{prog:Program}{w:World}{A:Around}{E:Value->Shared->Prop}{s:Shared}
theorem UR{b c:Bool}{p q:Value}{xs ys:List PyData}{as bs:List Addr}{Q:Bool->Shared->Prop}(hu:A.units+64<cLine)(r1:Reads s.heap p (.tuple xs) as)(r2:Reads s.heap q (.tuple ys) bs)
 (s1:xs.all SeqAt.shaped=true) (s2:ys.all SeqAt.shaped=true) (h:cU xs ys=some c) (hb:b=true->xs.head?.all isI=true/\ys.head?.all isI=true) (k:Q c s):wpAny (model prog w) A (keyLt' (tuples' b) p q) Q E s:=by
 cases r1 with
 |tuple a1 a2 a3 a4=>
  cases r2 with
  |tuple b1 b2 b3 b4=>
   refine PySem.W.kat_lt a1 a3 b1 b3 (MJ hu k xs ys _ _ _ _ 0 a4 b4 s1 s2 h (by simp) (fun z=>hb ?_));simpa using z
noncomputable def kL(rows:List (List PyData)):Bool:=rows.all fun r=>match r with
 |.int _::_=>true
 |_=>false
noncomputable def qT(rows:List (List PyData)):Bool:=rows.all fun r=>match r with
 |.tuple _::_=>true
 |_=>false
theorem aEj{M:Model}{h:Heap}(n:Int)(t:Tok):PySem.W.Looks M h (typeOf (.int n t)) (.type "int"):=fun A Q E s _ q=>by
 show wpAny M A (pure _) Q E s;exact B4 q
theorem firstsI{h:Heap}:∀{rows:List (List PyData)}{vs:List Value}{as:List Addr},ReadsAll h vs (rows.map .tuple) as->kL rows=true->∃fs,PySem.W.KatTups h vs fs/\fs.length=rows.length/\∀v∈fs,∃n t,v=.int n t
 |[],_,_=>fun r _=>by cases r;exact⟨[],.nil,rfl,fun v hv=>nomatch hv⟩
 |x::rows,_,_=>fun r e=>by
  unfold kL at e;rw[A0i,B5]at e;cases r with
  |cons a b=>
   obtain⟨fs,h1,h2,h3⟩:=firstsI b (by unfold kL;exact e.2);cases x with
   |nil=>exact absurd e.1 (by decide)
   |cons d ds=>
    cases d with
    |int n=>
     cases a with
     |tuple g1 g2 g3 g4=>
      rename_i o vs n' ;generalize hv:vs.toList=l at g4;cases g4 with
      |cons q1 q2=>
       cases q1 with
       |int _ t=>
        refine⟨.int n t::fs,.cons g1 g2 g3 (f:=.int n t) ?_ h1,by simp[h2],?_⟩
        .rw[<- Y5,hv];rfl
        .intro v hv';rcases List.mem_cons.mp hv' with z|z
         .exact⟨_,_,z⟩
         .exact h3 v z
    |_=>exact absurd e.1 (by intro z;cases z)
end
section
variable{prog:Program}{w:World}{A:Around}{E:Value->Shared->Prop}{s:Shared}
theorem IY{M:Model}{h:Heap}{a:Addr}{o:Obj}(g:h.get? a=some o)(c:o.cls=.type "tuple"):PySem.W.Looks M h (typeOf (.ref a)) (.type "tuple"):=fun A Q E s k q=>A0v (show s.TypeIs (.ref a) "tuple" from⟨o,k _ _ g,c⟩) q
theorem LW{h:Heap}:∀{rows:List (List PyData)}{vs:List Value}{as:List Addr},ReadsAll h vs (rows.map .tuple) as->qT rows=true->∃fs,PySem.W.KatTups h vs fs/\fs.length=rows.length/\∀v∈fs,∃a o,v=.ref a/\h.get? a=some o/\o.cls=.type "tuple"
 |[],_,_=>fun r _=>by cases r;exact⟨[],.nil,rfl,fun v hv=>nomatch hv⟩
 |x::rows,_,_=>fun r e=>by
  unfold qT at e;rw[A0i,B5]at e;cases r with
  |cons a b=>
   obtain⟨fs,h1,h2,h3⟩:=LW b (by unfold qT;exact e.2);cases x with
   |nil=>exact absurd e.1 (by decide)
   |cons d ds=>
    cases d with
    |tuple ys=>
     cases a with
     |tuple g1 g2 g3 g4=>
      rename_i o vs n';generalize hv:vs.toList=l at g4;cases g4 with
      |cons q1 q2=>
       cases q1 with
       |@tuple a' _ _ _ _ _ k1 k2 k3 k4=>
        refine⟨.ref a'::fs,.cons g1 g2 g3 (f:=.ref a') ?_ h1,by simp[h2],?_⟩
        .rw[<- Y5,hv];rfl
        .intro v hv';rcases List.mem_cons.mp hv' with z|z
         .exact⟨_,_,z,k1,k2⟩
         .exact h3 v z
    |_=>exact absurd e.1 (by intro z;cases z)
theorem CT{M:Model}{rows:List (List PyData)}{vs:List Value}{as:List Addr}{Q:SortKind->Shared->Prop}(r:ReadsAll s.heap vs (rows.map .tuple) as)(h0:0<rows.length)(hk:kL rows=true\/qT rows=true)(q:Q (tuples' (kL rows)) s):wpAny M A (keyKind' vs.toArray) Q E s:=by
 rcases hk with hk|hk
 .obtain⟨fs,h1,h2,h3⟩:=firstsI r hk;rw[hk]at q;refine PySem.W.kat_kind (T:=.type "int") h1 (by omega) (fun v hv=>?_) (by decide) q;obtain⟨n,t,rfl⟩:=h3 v hv;exact aEj n t
 .obtain⟨fs,h1,h2,h3⟩:=LW r hk
  have e:kL rows=false:=by
   cases rows with
   |nil=>cases h0
   |cons x r=>
    unfold qT at hk;rw[A0i,B5]at hk;cases x with
    |nil=>rfl
    |cons d ds=>cases d<;>first|rfl|exact absurd hk.1 (by intro z;cases z)
  rw[e]at q;refine PySem.W.kat_kind (T:=.type "tuple") h1 (by omega) (fun v hv=>?_) (by decide) q;obtain⟨a,o,rfl,g,c⟩:=h3 v hv;exact IY g c
end
section
variable{X:Cx}{pins:List (Addr×Obj)}{σ:St}{H:Hp}{s:Shared}{h':Heap}
theorem gY.there{P:Program}{w:World}{H:Hp}{h:Heap}{a:Addr}{o:HO}(x:gY P w H h a o):∃u,h.get? a=some u:=by
 induction o with
 |lst xs=>obtain⟨_,_,_,_,e⟩:=x;exact⟨_,e⟩
 |tup xs=>obtain⟨_,_,_,_,e,_⟩:=x;exact⟨_,e⟩
 |dK kvs=>obtain⟨_,_,_,_,o,_,_,e,_⟩:=x;exact⟨_,e⟩
 |dT kvs=>obtain⟨_,_,_,_,o,_,_,e,_⟩:=x;exact⟨_,e⟩
 |set S n=>obtain⟨o,_,_,_,e,_⟩:=x;exact⟨_,e⟩
 |ins C dx fs=>obtain⟨_,_,_,e,_⟩:=x;exact⟨_,e⟩
 |own y=>exact x
 |xd fs=>obtain⟨_,⟨_,_,_,e,_⟩,_⟩:=x;exact⟨_,e⟩
 |rng lo hi=>obtain⟨_,_,_,e⟩:=x;exact⟨_,e⟩
 |frz o u=>exact⟨_,x.1⟩
 |tbl ps=>exact⟨_,x⟩
 |met f x'=>exact⟨_,x⟩
 |ext φ=>exact x.2.1
theorem HOk.none{P:Program}{w:World}{H:Hp}{h:Heap}{a:Addr}(x:HOk P w H h)(e:h.get? a=none):H a=none:=by
 cases q:H a with
 |none=>rfl
 |some o=>
  obtain⟨u,z⟩:=(x a o q).there;rw[e]at z;cases z
theorem Inv.laidL{a:Addr}{o:HO}(I:Inv X pins σ H s)(k:∀b u,b≠X.env.locals->s.heap.get? b=some u->h'.get? b=some u)(ns:∀m,s.heap.Ns X.env.locals m->h'.Ns X.env.locals m)(hp:s.heap.get? a=none)(new:gY X.prog X.w (upd H a o) h' a o):
 Inv X pins σ (upd H a o) { s with heap:=h' }:=by
 have hn:=I.hok.none hp;have nt:∀b u,H b=some u->b≠X.env.locals:=fun b u e z=>by rw[z,I.free]at e;cases e
 refine I.step (g':=s.gens) (t':=s.toks) (d':=s.drawn) (ch:=[]) (fun _ z=>nomatch z) (fun b o h1 _ _ e _=>k b o h1 e) (fun b o h1 _ _ e _=>⟨o.slots,k b o h1 e⟩) (fun b o _ e n=>?_) (fun b o _ e=>?_) (fun b xs e=>?_) (fun b o u e=>?_) (fun b ps e=>⟨#[],?_⟩) ns ?_ I.bare
 .rw[bB (fun z=>by subst z;rw[hp]at e;cases e)];exact n
 .by_cases z:b=X.env.locals
  .subst z;obtain⟨m,hm,_⟩:=I.loc;obtain⟨o',_,_,q,_⟩:=ns m hm;exact⟨o',q⟩
  .exact⟨o,k b o z e⟩
 .rw[bB (bF e hn)];exact e
 .rw[bB (bF e hn)];exact e
 .rw[bB (bF e hn)];simpa using e
 .intro b u e;by_cases hb:b=a
  .subst hb;rw[bA]at e;cases e;exact new
  .rw[bB hb]at e;refine(I.hok b u e).stay (fun c v hc q=>k c v ?_ q) (fun c q=>by rw[bB (bF q hn)];exact q) fun c xs q=>by rw[bB (bF q hn)];exact q
   rcases hc with z|z
   .rw[z];exact nt b _ e
   .exact nt c _ z
theorem yG{h:Heap}{L:Addr}{m m':Str->Option Value}(a:h.Ns L m)(b:h.Ns L m'):m=m':=by
 obtain⟨o,es,ep,h1,h2,_,h3⟩:=a;obtain⟨o',es',ep',k1,k2,_,k3⟩:=b;rw[h1]at k1;cases k1;rw[h2]at k2;cases k2;funext x;rw[<- h3 x,k3 x]
noncomputable def dZ(rows:List (List PyData))(i j:Nat):Bool:=(cU (rows.getD i []) (rows.getD j [])).getD false
noncomputable def IS(K:Fg):List V->Hp->VK->Prop:=fun xs H Q=>∃(p:Addr)(vs:List V)(rows:List (List PyData)),xs=[.ref p]/\SqL K H p vs/\aK K H (rows.map .tuple) vs/\2<=rows.length/\rows.length<64 /\
 (∀r∈rows,r.all SeqAt.shaped=true/\cG r=true)/\(kL rows=true\/qT rows=true)/\(∀i j,i<rows.length->j<rows.length->(cU (rows.getD i []) (rows.getD j [])).isSome=true) /\
 ∀l,H l=none->Q (.ref l) (upd H l (.lst ((dY (dZ rows) rows.length).map fun i=>vs.getD i .non)))
theorem rR{vs:List V}{us:List Value}(r:bQ vs us):∀ps:List Nat,bQ (ps.map fun i=>vs.getD i .non) (ps.map fun i=>us.getD i .none)
 |[]=>.nil
 |p::ps=>by
  refine .cons ?_ (rR r ps)
  have go:∀{vs:List V}{us:List Value}(i:Nat),bQ vs us->RelV (vs.getD i .non) (us.getD i .none):=by
   intro vs us i r
   induction r generalizing i with
   |nil=>exact rfl
   |cons a b ih=>cases i with
    |zero=>exact a
    |succ i=>exact ih i
  exact go p r
theorem DN(hu:X.A.in1.in1.units+64<cLine):dC X (.builtin "sorted") (IS X.K):=by
 intro pins s σ H xs us Q I r h;obtain⟨p,vs,rows,rfl,hp,hrep,h2,h64,hsh,hknd,hlt,q⟩:=h;obtain⟨u,rfl,ru⟩:=vals1 r;cases ru;obtain⟨its,rv,pl,hz⟩:=I.list hp;obtain⟨as,hr⟩:=aK.reads I _ vs its hrep rv;have hlen:its.length=rows.length:=by rw[ReadsAll.len hr,A0]
 obtain⟨m,F⟩:=I.fr;have N:News X.base X.env.locals s.heap (gE X.base s.heap X.env.locals):=vI;refine PySem.W.kat_sorted F N pl.isList (by omega) (by omega) fun D e1 h' F' N' hD=>?_
 have kp:∀(h1:Heap),Fr X.base X.env.locals h1 m->(∀q∈gE X.base s.heap X.env.locals,h1.get? q.1=some q.2)->∀b o,b≠X.env.locals->s.heap.get? b=some o->h1.get? b=some o:=fun h1 G1 M1 b o hb e=>by
  cases z:X.base.get? b with
  |some v=>
   have:=I.bk b v z;rw[e]at this;cases this;exact G1.keep b _ z
  |none=>exact M1 (b,o) (gL hb z e)
 have k':=kp h' F' (fun q hq=>(N' q (B1 _ hq)).1)
 have hsz:s.heap.get? D=none:=by
  have hN:=N' _ B2;cases e:s.heap.get? D with
  |none=>rfl
  |some o=>exact absurd (hD (D,o) (gL hN.2.1 hN.2.2 e)) (I0 _)
 have seqL:∀b o vs n,s.heap.get? b=some o->o.data=.seq vs n->b≠X.env.locals:=fun b o vs n e d z=>by
  obtain⟨o',es,ep,x1,x2,_⟩:=F.ns;subst z;rw[e]at x1;cases x1;rw[d]at x2;cases x2
 have onl:cG (rows.map .tuple)=true:=by
  clear hrep hr hlen q hknd hlt h2 h64
  induction rows with
  |nil=>rfl
  |cons x r ih=>
   show(cG x&&cG (r.map .tuple))=true;rw[(hsh x B2).2,ih fun y hy=>hsh y (B1 _ hy)];rfl
 have hr':ReadsAll h' its (rows.map .tuple) as:=GS (fun b o vs n e d=>k' b o (seqL b o vs n e d) e) _ _ _ onl hr;refine CT (s:={ s with heap:=h' }) hr' (by omega) hknd ?_;rw[hlen];refine KS.wp (lt:=dZ rows) (n:=rows.length) (fun i j C hi hj c=>?_) (fun p hp'=>?_) ((xT (by omega)).ks (lt:=dZ rows))
 .have at_:∀i,i<rows.length->∃bs,Reads h' (its.getD i .none) (.tuple (rows.getD i [])) bs:=fun i hi=>by
   obtain⟨bs,x⟩:=ReadsAll.at i hr' (by simpa using hi)
   have:(rows.map PyData.tuple).getD i .none=.tuple (rows.getD i []):=by
    rw[A6,C4,A6,A8 hi];rfl
   rw[this]at x;exact⟨bs,x⟩
  obtain⟨b1,r1⟩:=at_ i hi;obtain⟨b2,r2⟩:=at_ j hj
  have mem:∀i,i<rows.length->rows.getD i []∈rows:=fun i hi=>by
   rw[A6,A8 hi];exact S9 hi
  have hd:kL rows=true->∀r∈rows,r.head?.all isI=true:=fun z r hr=>by
   unfold kL at z;have:=List.all_eq_true.mp z r hr;cases r with
   |nil=>rfl
   |cons d ds=>cases d<;>first|rfl|exact absurd this (by intro z;cases z)
  obtain⟨c0,hc0⟩:=Option.isSome_iff_exists.mp (hlt i j hi hj);have hc:dZ rows i j=c0:=by unfold dZ;rw[hc0];rfl
  rw[hc]at c;exact UR (s:={ s with heap:=h' }) hu r1 r2 (hsh _ (mem i hi)).1 (hsh _ (mem j hj)).1 hc0 (fun z=>⟨hd z _ (mem i hi),hd z _ (mem j hj)⟩) c
 .obtain⟨e,_⟩:=hp';subst e;refine PySem.W.KasFin.intro F' N' (.head fun q hq=>C9 (hD q hq)) fun h'' c F'' N''=>?_;have k'':=kp h'' F'' (fun q hq=>(N'' q (B1 _ hq)).1);refine⟨.ref D,upd H D (.lst ((dY (dZ rows) rows.length).map fun i=>vs.getD i .non)),?_,rfl,q D (I.hok.none hsz)⟩;refine I.laidL k'' (fun m' hm'=>?_) hsz ⟨?_,_,c,rR rv _,(N'' _ B2).1⟩
  .rw[<- yG F.ns hm'];exact F''.ns
  .rw[A0,(iR (dZ rows) (by omega)).length_eq,E9];have:64<=sizeLine:=by decide
   omega
end
noncomputable def rowsOf:List PyData->Option (List (List PyData))
 |[]=>some []
 |.tuple r::ds=>(rowsOf ds).bind fun rs=>some (r::rs)
 |_=>none
theorem oK:∀{ds:List PyData}{rows:List (List PyData)},rowsOf ds=some rows->ds=rows.map .tuple
 |[],_=>fun h=>by cases h;rfl
 |d::ds,rows=>fun h=>by
  cases d with
  |tuple r=>
   have h:(rowsOf ds).bind (fun rs=>some (r::rs))=some rows:=h;obtain⟨rs,h1,h2⟩:=Option.bind_eq_some_iff.mp h;cases h2;rw[oK h1];rfl
  |_=>cases h
noncomputable def sortable(rows:List (List PyData)):Bool:=decide (2<=rows.length)&&decide (rows.length<64)&&rows.all (fun r=>r.all SeqAt.shaped&&cG r)&&(kL rows || qT rows)&&(List.range rows.length).all fun i=>(List.range rows.length).all fun j=>(cU (rows.getD i []) (rows.getD j [])).isSome
noncomputable def zC(rows:List (List PyData)):List PyData:=(dY (dZ rows) rows.length).map fun i=>.tuple (rows.getD i [])
noncomputable def vB:FN:=fun xs M=>match xs with
 |[.d (.list ds)]=>(rowsOf ds).bind fun rows=>if sortable rows=true then some (.d (.list (zC rows)),M)else none
 |[.c i]=>match M[i]? with
  |some (.lst ys)=>(kO ys).bind fun ds=>(rowsOf ds).bind fun rows=>if sortable rows=true then some (.d (.list (zC rows)),M)else none
  |_=>none
 |_=>none
theorem kK{rows:List (List PyData)}(h:sortable rows=true):2<=rows.length/\rows.length<64/\(∀r∈rows,r.all SeqAt.shaped=true/\cG r=true)/\(kL rows=true\/qT rows=true)/\(∀i j,i<rows.length->j<rows.length->(cU (rows.getD i []) (rows.getD j [])).isSome=true):=by
 unfold sortable at h;rw[B5,B5,B5,B5,Bool.or_eq_true]at h;obtain⟨⟨⟨⟨h1,h2⟩,h3⟩,h4⟩,h5⟩:=h;refine⟨D7 h1,D7 h2,fun r hr=>?_,h4,fun i j hi hj=>?_⟩
 .have:=List.all_eq_true.mp h3 r hr
  rwa [B5]at this
 .exact List.all_eq_true.mp (List.all_eq_true.mp h5 i (List.mem_range.mpr hi)) j (List.mem_range.mpr hj)
section
variable{K:Fg}
theorem aK.len{H:Hp}:∀{ds:List PyData}{vs:List V},aK K H ds vs->vs.length=ds.length
 |[],_=>fun h=>by
  have h:_=[]:=h;rw[h];rfl
 |d::ds,_=>fun h=>by
  obtain⟨v,r,rfl,_,h2⟩:=(show ∃v r,_=v::r/\Rep K H d v/\aK K H ds r from h);simp[aK.len h2]
theorem qH{H:Hp}{rows:List (List PyData)}{us:List V}(r:aK K H (rows.map .tuple) us):∀ps:List Nat,(∀i∈ps,i<rows.length)->aK K H (ps.map fun i=>.tuple (rows.getD i [])) (ps.map fun i=>us.getD i .non)
 |[]=>fun _=>rfl
 |p::ps=>fun hp=>by
  refine⟨_,_,rfl,?_,qH r ps fun i hi=>hp i (B1 _ hi)⟩;have hi:=hp p B2;have hl:=aK.len r;rw[A0]at hl
  have hu:us[p]?=some (us.getD p .non):=by
   rw[A6,A8 (by omega)];rfl
  obtain⟨d,h1,h2⟩:=aK.get r hu;rw[C4,A8 hi]at h1;cases h1;have e:rows.getD p []=rows[p]:=by rw[A6,A8 hi];rfl
  show Rep K H (.tuple (rows.getD p [])) (us.getD p .non);rw[e];exact h2
theorem NG{lt:Nat->Nat->Bool}{n:Nat}(h0:0<n):∀i∈dY lt n,i<n:=fun i hi=>List.mem_range.mp ((iR lt h0).mem_iff.mp hi)
theorem QD:PN K (IS K) vB:=by
 intro xs M z M' h W H vs Q G r k;unfold vB at h;split at h
 .rename_i ds;obtain⟨rows,h1,h⟩:=aP h;by_cases hs:sortable rows=true
  .rw[A4 hs]at h;cases h;obtain⟨a1,a2,a3,a4,a5⟩:=kK hs;rcases r with _|⟨r1,_|_⟩;obtain⟨p,us,rfl,hq,hr⟩:=(show ∃a us,_=V.ref a/\SqL K W.F a us/\aK K W.F ds us from r1);rw[oK h1]at hr;refine⟨p,us,rows,rfl,G.fh.seq hq,aK.same G.fh _ _ hr,a1,a2,a3,a4,a5,fun l hl=>?_⟩;obtain⟨e2,G2⟩:=G.lay (o:=.lst ((dY (dZ rows) rows.length).map fun i=>us.getD i .non)) hl;exact k _ _ _ e2 G2 ⟨l,_,rfl,SqL.of bA,qH (aK.same e2.ff _ _ hr) _ (NG (by omega))⟩
  .rw[B0 hs]at h;cases h
 .rename_i i;split at h
  .rename_i ys hy;obtain⟨ds,h0,h⟩:=aP h;obtain⟨rows,h1,h⟩:=aP h;by_cases hs:sortable rows=true
   .rw[A4 hs]at h;cases h;obtain⟨a1,a2,a3,a4,a5⟩:=kK hs;rcases r with _|⟨r1,_|_⟩;obtain⟨us,hv,hr⟩:=G.lstAt hy;have hr:=fF h0 hr;rw[oK h1]at hr;rw[r1.2];refine⟨_,us,rows,rfl,SqL.of hv,aK.same G.fh _ _ hr,a1,a2,a3,a4,a5,fun l hl=>?_⟩;obtain⟨e2,G2⟩:=G.lay (o:=.lst ((dY (dZ rows) rows.length).map fun i=>us.getD i .non)) hl;exact k _ _ _ e2 G2 ⟨l,_,rfl,SqL.of bA,qH (aK.same e2.ff _ _ hr) _ (NG (by omega))⟩
   .rw[B0 hs]at h;cases h
  .cases h
 .cases h
end
theorem fX.units2{k:Nat}{A:Around}(r:fX k A):A.in1.in1.units+64<cLine:=by have:=r.un;show A.units+1+1+64<_;omega
section
variable{prog:Program}{w:World}{A:Around}{E:Value->Shared->Prop}{s:Shared}
theorem pT{a:Addr}{vs:List Value}{n:Nat}{P:PySem.Fin->Shared->Prop}(g:s.heap.get? a=some (seqObj "list" vs.toArray n))(h2:vs.length<2)
 (k:P (.done (.ret .none)) { s with heap:=sortedHeap s.heap a vs vs.toArray }):wpAny (model prog w) A (Builtin.«list.sort» ⟨[.ref a],[]⟩) P E s:=by
 rw[list_sort_plain];have hz:vs.toArray.size<=sizeLine:=by rw[C6,J9];omega
 refine A2 (listItems_at g rfl ?_);refine A2 (listUpdate_at g rfl ?_ hz (by simp));have g1:=U1 g (fun _=>#[]);have hlt:=B7 g1;refine A2 (seqEpoch_at g1 rfl ?_);refine A2 (wpAny_newTuple ?_ (by simpa using hz));refine A2 (wpAny_newList ?_);refine S5 ?_;have hs:vs.toArray.size<2:=by simpa using h2
 dsimp only;rw[A4 hs,A4 hs];refine A2 (B4 ?_);refine A2 ?_;show wpAny (model prog w) A (pure ((),SortSt.mk' general' (vs.toArray.zip vs.toArray) #[] 7 none)) _ E _;refine B4 ?_;dsimp only;have g2:=A1 { cls:=.type "tuple",data:=.seq vs.toArray.toList.toArray } g1;have g3:=A1 { cls:=.type "list",data:=.seq ([]:List Value).toArray } g2;refine A2 (seqEpoch_at g3 rfl ?_)
 have hm:Array.map (fun x=>x.snd) (arrOf (SortSt.mk' general' (vs.toArray.zip vs.toArray) #[] 7 none))=vs.toArray:=by
  show Array.map (fun x=>x.snd) (vs.toArray.zip vs.toArray)=vs.toArray
  apply Array.ext
  .simp
  .intro i h1 h2;simp
 rw[hm];refine A2 (listUpdate_at g3 rfl ?_ (by simp) (by omega));rw[B0 (by simp)];exact B4 k
theorem FH{l:Addr}{vs:List Value}{Q:Value->Shared->Prop}(g:s.heap.IsList l vs.toArray)(h2:vs.length<2)
 (k:∀(h':Heap)(D:Addr),(∀b o,s.heap.get? b=some o->h'.get? b=some o)->s.heap.objs.size<=D->(∃c,h'.get? D=some (seqObj "list" vs.toArray c))->Q (.ref D) { s with heap:=h' }):wpAny (model prog w) A (call (.builtin "sorted") [.ref l]) Q E s:=by
 refine A0b kind_sorted plain_sorted entry_sorted (args_sorted1 _) ?_;have hz:vs.length<=sizeLine:=by rw[J9];omega
 unfold Builtin.sorted;refine A2 (show wpAny _ _ (pure ()) _ _ _ from B4 ?_);refine A2 (collect_list g ?_ hz);refine A2 (wpAny_newList ?_ hz);generalize hh1:(s.heap.push (seqObj "list" #[] 0)).update s.heap.objs.size (Obj.mapSeq fun x=>x++vs.toArray)=h1
 have k1:∀b o,s.heap.get? b=some o->h1.get? b=some o:=fun b o e=>by
  rw[<- hh1,L5 _ _ _ _ (C9 (B7 e))];exact A1 _ e
 have sz1:s.heap.objs.size<=h1.objs.size:=by
  have e1:(s.heap.push (seqObj "list" #[] 0)).get? s.heap.objs.size=some (seqObj "list" #[] 0):=B9 _ rfl;have e2:=U1 e1 (fun x=>x++vs.toArray);rw[hh1]at e2;exact A0c (B7 e2)
 refine A2 (S5 ?_);have gD:(h1.push { cls:=.type "list",data:=.seq vs.toArray }).get? h1.objs.size=some (seqObj "list" vs.toArray 0):=B9 _ rfl;refine O6 slot_list_sort ⟨_,gD,rfl⟩ entry_list_sort (pT gD h2 ⟨_,rfl,?_⟩) (args_list_sort _);refine B4 ⟨_,rfl,k _ _ (fun b o e=>?_) sz1 ?_⟩
 .have hb:b≠h1.objs.size:=C9 (B7 (k1 b o e));unfold sortedHeap;rw[L5 _ _ _ _ hb];refine A1 _ (A1 _ ?_);rw[L5 _ _ _ _ hb];exact A1 _ (k1 b o e)
 .unfold sortedHeap;have g1:=U1 gD (fun _=>#[]);have g2:=A1 (seqObj "tuple" vs.toArray 0) g1;have g3:=A1 (seqObj "list" #[] 0) g2;exact⟨_,U1 g3 (fun _=>vs.toArray)⟩
end
noncomputable def JZ(K:Fg):List V->Hp->VK->Prop:=fun xs H Q=>∃(p:Addr)(vs:List V),xs=[.ref p]/\SqL K H p vs/\vs.length<2/\∀l,H l=none->Q (.ref l) (upd H l (.lst vs))
theorem EJ{X:Cx}:dC X (.builtin "sorted") (JZ X.K):=by
 intro pins s σ H xs us Q I r h;obtain⟨p,vs,rfl,hp,h2,q⟩:=h;obtain⟨u,rfl,ru⟩:=vals1 r;cases ru;obtain⟨its,rv,pl,hz⟩:=I.list hp;have hl:=rv.length;refine FH pl.isList (by omega) fun h' D k hD ⟨c,g⟩=>?_;exact⟨.ref D,upd H D (.lst vs),I.laid (t':=s.toks) k hD ⟨hz,its,c,rv,g⟩,rfl,q D (I.hok.fresh hD)⟩
noncomputable def QR(K:Fg):List V->Hp->VK->Prop:=fun xs H Q=>IS K xs H Q\/JZ K xs H Q
theorem aCn{X:Cx}(h:X.K=K)(hu:X.A.in1.in1.units+64<cLine):dC X (.builtin "sorted") (QR K):=by
 subst h;intro pins s σ H xs us Q I r h;rcases h with h|h
 .exact DN hu pins s σ H xs us Q I r h
 .exact EJ pins s σ H xs us Q I r h
noncomputable def pE:FN:=fun xs M=>match xs with
 |[.d (.list ds)]=>if ds.length<2 then some (.d (.list ds),M)else none
 |[.c i]=>match M[i]? with
  |some (.lst ys)=>(kO ys).bind fun ds=>if ds.length<2 then some (.d (.list ds),M)else none
  |_=>none
 |_=>none
theorem VC:PN K (JZ K) pE:=by
 intro xs M z M' h W H vs Q G r k;unfold pE at h;split at h
 .rename_i ds;by_cases hs:ds.length<2
  .rw[A4 hs]at h;cases h;rcases r with _|⟨r1,_|_⟩;obtain⟨p,us,rfl,hq,hr⟩:=(show ∃a us,_=V.ref a/\SqL K W.F a us/\aK K W.F ds us from r1);refine⟨p,us,rfl,G.fh.seq hq,by rw[aK.len hr];exact hs,fun l hl=>?_⟩;obtain⟨e2,G2⟩:=G.lay (o:=.lst us) hl;exact k _ _ _ e2 G2 ⟨l,_,rfl,SqL.of bA,aK.same e2.ff _ _ hr⟩
  .rw[B0 hs]at h;cases h
 .rename_i i;split at h
  .rename_i ys hy;obtain⟨ds,h0,h⟩:=aP h;by_cases hs:ds.length<2
   .rw[A4 hs]at h;cases h;rcases r with _|⟨r1,_|_⟩;obtain⟨us,hv,hr⟩:=G.lstAt hy;have hr:=fF h0 hr;rw[r1.2];refine⟨_,us,rfl,SqL.of hv,by rw[aK.len hr];exact hs,fun l hl=>?_⟩;obtain⟨e2,G2⟩:=G.lay (o:=.lst us) hl;exact k _ _ _ e2 G2 ⟨l,_,rfl,SqL.of bA,aK.same e2.ff _ _ hr⟩
   .rw[B0 hs]at h;cases h
  .cases h
 .cases h
noncomputable def jM:FN:=fun xs M=>match pE xs M with
 |some r=>some r
 |none=>vB xs M
theorem WX:PN K (QR K) jM:=by
 intro xs M z M' h W H vs Q G r k;unfold jM at h;split at h
 .rename_i q hq;cases h;exact .inr (VC xs M z M' hq W H vs Q G r k)
 .exact .inl (QD xs M z M' h W H vs Q G r k)
theorem LD{ι:Type}{X:ι->Cx}(hK:∀i,(X i).K=K)(hu:∀i,(X i).A.in1.in1.units+64<cLine):QN K X (.builtin "sorted") jM:=⟨_,fun i=>aCn (hK i) (hu i),WX⟩
mutual
theorem FK:∀(x y:PyData),fO x=true->fO y=true->(PyData.eqv x y=true↔x=y)
 |.int a,.int b=>fun _ _=>by rw[PyData.eqv.eq_def];simp
 |.int a,.tuple b=>fun _ _=>by rw[PyData.eqv.eq_def];simp
 |.tuple a,.int b=>fun _ _=>by rw[PyData.eqv.eq_def];simp
 |.tuple xs,.tuple ys=>fun h k=>by
  unfold fO at h k;rw[PyData.eqv.eq_def];have:=aBM xs ys h k;simpa using this
 |.none,_=>fun h _=>by unfold fO at h;cases h
 |.bool _,_=>fun h _=>by unfold fO at h;cases h
 |.str _,_=>fun h _=>by unfold fO at h;cases h
 |.list _,_=>fun h _=>by unfold fO at h;cases h
 |.dict _,_=>fun h _=>by unfold fO at h;cases h
 |.int _,.none=>fun _ h=>by unfold fO at h;cases h
 |.int _,.bool _=>fun _ h=>by unfold fO at h;cases h
 |.int _,.str _=>fun _ h=>by unfold fO at h;cases h
 |.int _,.list _=>fun _ h=>by unfold fO at h;cases h
 |.int _,.dict _=>fun _ h=>by unfold fO at h;cases h
 |.tuple _,.none=>fun _ h=>by unfold fO at h;cases h
 |.tuple _,.bool _=>fun _ h=>by unfold fO at h;cases h
 |.tuple _,.str _=>fun _ h=>by unfold fO at h;cases h
 |.tuple _,.list _=>fun _ h=>by unfold fO at h;cases h
 |.tuple _,.dict _=>fun _ h=>by unfold fO at h;cases h
theorem aBM:∀(xs ys:List PyData),cG xs=true->cG ys=true->(PyData.eqvAll xs ys=true↔xs=ys)
 |[],[]=>fun _ _=>by rw[A0r];simp
 |[],_::_=>fun _ _=>by rw[A0r];simp
 |_::_,[]=>fun _ _=>by rw[A0r];simp
 |x::xs,y::ys=>fun h k=>by
  unfold cG at h k;rw[B5]at h k;rw[A0r];show(PyData.eqv x y&&PyData.eqvAll xs ys)=true↔_;rw[B5,FK x y h.1 k.1,aBM xs ys h.2 k.2,O0]
end
theorem WL:∀a b:List Int,HT.lexLt a b=true->HT.lexLt b a=false
 |[],[]=>fun h=>by cases h
 |[],_::_=>fun _=>rfl
 |_::_,[]=>fun h=>by cases h
 |x::xs,y::ys=>fun h=>by
  rw[HT.lexLt_cons]at h ⊢;by_cases e:x=y
  .rw[A4 e]at h;rw[A4 e.symm];exact WL xs ys h
  .rw[B0 e]at h;rw[B0 (Z9 e)];have:=D7 h;exact E1 (by omega)
theorem wH:∀a b c:List Int,HT.lexLt b a=false->HT.lexLt c b=false->HT.lexLt c a=false
 |[],_,[]=>fun _ _=>rfl
 |[],_,_::_=>fun _ _=>rfl
 |x::xs,[],_=>fun h _=>by cases h
 |x::xs,y::ys,[]=>fun _ h=>by cases h
 |x::xs,y::ys,z::zs=>fun h k=>by
  rw[HT.lexLt_cons]at h k ⊢;by_cases e:y=x
  .rw[A4 e]at h;by_cases e':z=y
   .rw[A4 e']at k;rw[A4 (e'.trans e)];exact wH xs ys zs h k
   .rw[B0 e']at k;subst e;rw[B0 e'];exact k
  .rw[B0 e]at h;have h:=O7 h;by_cases e':z=y
   .subst e';rw[B0 e];exact E1 h
   .rw[B0 e']at k;have k:=O7 k;rw[B0 (by omega)];exact E1 (by omega)
theorem SM:∀a b:List Int,HT.lexLt a b=false->HT.lexLt b a=false->a=b
 |[],[]=>fun _ _=>rfl
 |[],_::_=>fun h _=>by cases h
 |_::_,[]=>fun _ h=>by cases h
 |x::xs,y::ys=>fun h k=>by
  rw[HT.lexLt_cons]at h k;by_cases e:x=y
  .rw[A4 e]at h;rw[A4 e.symm]at k;rw[e,SM xs ys h k]
  .rw[B0 e]at h;rw[B0 (Z9 e)]at k;have h:=O7 h;have k:=O7 k;omega
theorem OG:∀{xs ys:List PyData}{ns:List Int},cR xs=some ns->cR ys=some ns->xs=ys:=by
 have go:∀{xs:List PyData}{ns:List Int},cR xs=some ns->xs=ns.map .int:=by
  intro xs
  induction xs with
  |nil=>intro ns h;cases h;rfl
  |cons d ds ih=>
   intro ns h;cases d with
   |int n=>
    have h:(cR ds).bind (fun ns=>some (n::ns))=some ns:=h;obtain⟨ms,h1,h2⟩:=Option.bind_eq_some_iff.mp h;cases h2;rw[ih h1];rfl
   |_=>cases h
 intro xs ys ns h k;rw[go h,go k]
theorem rL{x y:PyData}{c:Bool}(h:fR x y=some c):(∃a b,x=.int a/\y=.int b/\c=decide (a<b))\/∃xs ys ns ms,x=.tuple xs/\y=.tuple ys/\cR xs=some ns/\cR ys=some ms/\c=HT.lexLt ns ms:=by
 unfold fR at h;split at h
 .cases h;exact .inl ⟨_,_,rfl,rfl,rfl⟩
 .obtain⟨ns,h1,h⟩:=Option.bind_eq_some_iff.mp h;obtain⟨ms,h2,h⟩:=Option.bind_eq_some_iff.mp h;cases h;exact .inr ⟨_,_,_,_,rfl,rfl,h1,h2,rfl⟩
 .cases h
theorem IA{x y:PyData}{c:Bool}(h:fR x y=some c):∃d,fR y x=some d/\(c=true->d=false)/\(c=false->d=false->x=y):=by
 rcases rL h with⟨a,b,rfl,rfl,rfl⟩|⟨xs,ys,ns,ms,rfl,rfl,h1,h2,rfl⟩
 .refine⟨decide (b<a),rfl,fun z=>E1 (by have:=D7 z;omega),fun z z'=>?_⟩;have z:=O7 z;have z':=O7 z';rw[show a=b by omega]
 .refine⟨HT.lexLt ms ns,?_,fun z=>WL _ _ z,fun z z'=>?_⟩
  .show(cR ys).bind _=_;rw[h2];show(cR xs).bind _=_;rw[h1];rfl
  .have:=SM _ _ z z';subst this;rw[OG h1 h2]
theorem aAg{x y z:PyData}(h:fR y x=some false)(k:fR z y=some false):fR z x=some false:=by
 rcases rL h with⟨a,b,rfl,rfl,hh⟩|⟨xs,ys,ns,ms,rfl,rfl,h1,h2,hh⟩
 .rcases rL k with⟨c,d,rfl,e,kk⟩|⟨_,_,_,_,_,e,_⟩
  .cases e;have hh:=O7 hh.symm;have kk:=O7 kk.symm;show some (decide (c<b))=some false;rw[E1 (by omega)]
  .cases e
 .rcases rL k with⟨c,d,rfl,e,kk⟩|⟨zs,ys',ns',ms',rfl,e,k1,k2,kk⟩
  .cases e
  .cases e;rw[h1]at k2;cases k2;have:=wH _ _ _ hh.symm kk.symm;show(cR zs).bind _=_;rw[k1];show(cR ys).bind _=_;rw[h2];show some _=some false;rw[this]
theorem SZ:∀a b:List PyData,cG a=true->cG b=true->cU a b=some true->cU b a=some false
 |[],[]=>fun _ _ h=>by cases h
 |[],_::_=>fun _ _ _=>rfl
 |_::_,[]=>fun _ _ h=>by cases h
 |x::xs,y::ys=>fun p q h=>by
  unfold cG at p q;rw[B5]at p q;have h:(if PyData.eqv x y=true then cU xs ys else fR x y)=some true:=h;show(if PyData.eqv y x=true then cU ys xs else fR y x)=some false;by_cases e:PyData.eqv x y=true
  .rw[A4 e]at h;have e':=(FK x y p.1 q.1).mp e;rw[A4 ((FK y x q.1 p.1).mpr e'.symm)];exact SZ xs ys p.2 q.2 h
  .rw[B0 e]at h;rw[B0 fun z=>e ((FK x y p.1 q.1).mpr ((FK y x q.1 p.1).mp z).symm)];obtain⟨d,h1,h2,_⟩:=IA h;rw[h1,h2 rfl]
theorem TH:∀a b c:List PyData,cG a=true->cG b=true->cG c=true->cU b a=some false->cU c b=some false->cU c a=some false
 |[],_,[]=>fun _ _ _ _ _=>rfl
 |[],_,_::_=>fun _ _ _ _ _=>rfl
 |x::xs,[],_=>fun _ _ _ h _=>by cases h
 |x::xs,y::ys,[]=>fun _ _ _ _ h=>by cases h
 |x::xs,y::ys,z::zs=>fun p q r h k=>by
  unfold cG at p q r;rw[B5]at p q r;have hA:(if PyData.eqv y x=true then cU ys xs else fR y x)=some false:=h;clear h;have kA:(if PyData.eqv z y=true then cU zs ys else fR z y)=some false:=k;clear k;show(if PyData.eqv z x=true then cU zs xs else fR z x)=some false;by_cases e:PyData.eqv y x=true
  .rw[A4 e]at hA;have e1:=(FK y x q.1 p.1).mp e;subst e1;by_cases e':PyData.eqv z y=true
   .rw[A4 e']at kA ⊢;exact TH xs ys zs p.2 q.2 r.2 hA kA
   .rw[B0 e']at kA ⊢;exact kA
  .rw[B0 e]at hA;by_cases e':PyData.eqv z y=true
   .have e1:=(FK z y r.1 q.1).mp e';subst e1;rw[B0 e];exact hA
   .rw[B0 e']at kA
    have ez:¬PyData.eqv z x=true:=fun w=>by
     have w:=(FK z x r.1 p.1).mp w;subst w;obtain⟨d,h1,_,h3⟩:=IA hA;rw[h1]at kA;cases kA;exact e ((FK y z q.1 p.1).mpr (h3 rfl rfl))
    rw[B0 ez];exact aAg hA kA
theorem SK{rows:List (List PyData)}(h:sortable rows=true):uX (dZ rows):=by
 obtain⟨a1,a2,a3,a4,a5⟩:=kK h
 have onl:∀i,cG (rows.getD i [])=true:=fun i=>by
  rw[A6];cases e:rows[i]? with
  |none=>rfl
  |some r=>exact(a3 r (List.mem_of_getElem? e)).2
 have out:∀i,¬i<rows.length->rows.getD i []=[]:=fun i hi=>by
  rw[A6,Y6 (by omega)];rfl
 have ans:∀i j,∃c,cU (rows.getD i []) (rows.getD j [])=some c:=fun i j=>by
  by_cases hi:i<rows.length
  .by_cases hj:j<rows.length
   .exact Option.isSome_iff_exists.mp (a5 i j hi hj)
   .rw[out j hj];cases rows.getD i []with
    |nil=>exact⟨_,rfl⟩
    |cons _ _=>exact⟨_,rfl⟩
  .rw[out i hi];exact⟨_,rfl⟩
 have is:∀i j c,dZ rows i j=c->cU (rows.getD i []) (rows.getD j [])=some c:=fun i j c e=>by
  obtain⟨d,hd⟩:=ans i j;unfold dZ at e;rw[hd]at e ⊢;exact D4 some e
 have un:∀i j c,cU (rows.getD i []) (rows.getD j [])=some c->dZ rows i j=c:=fun i j c e=>by
  unfold dZ;rw[e];rfl
 exact⟨fun a b e=>un _ _ _ (SZ _ _ (onl a) (onl b) (is _ _ _ e)),fun a b c e e'=>un _ _ _ (TH _ _ _ (onl a) (onl b) (onl c) (is _ _ _ e) (is _ _ _ e'))⟩
theorem BL{rows:List (List PyData)}(h:sortable rows=true):jE (dZ rows) (PJ (dZ rows) (PySem.W.kas_sort rows.length)) rows.length:=
 (KS.run (ZS (SK h) (by have:=(kK h).1;omega))).2
section
variable{X:Cx}{pins:List (Addr×Obj)}{σ:St}{H:Hp}{s:Shared}
end
structure Exc where
 nm:Str
 fs:List (Str×CD)
inductive Rs where
 |v (x:CD)|x (e:Exc)
inductive aEX where
 |o (o:Out)|xc (γ:Ga) (e:Exc)
noncomputable abbrev EX:=Ga->Sto->Option (Rs×Sto)
noncomputable abbrev AX:=Ga->Sto->Option ((List CD ⊕ Exc)×Sto)
noncomputable abbrev SFX:=Ga->Sto->Option (aEX×Sto)
noncomputable abbrev FX:=List CD->Sto->Option (Rs×Sto)
section
variable(K:Fg)
noncomputable def ExR(W:Wd)(ex:Exc)(c:Value)(dx:Option Addr):Prop:=c=.ref (aAA K ex.nm)/\UE K W dx ex.fs
noncomputable def OutOkX(EE:St->XK)(D:Ends)(W:Wd)(H:Hp):aEX->Prop
 |.o o=>aBJ K D W H o
 |.xc γ ex=>∀σ c dx,gG K W γ σ->ExR K W ex c dx->EE σ c dx H
end
noncomputable def liE(f:EF):EX:=fun γ M=>(f γ M).bind fun r=>some (.v r.1,r.2)
noncomputable def liA(f:AF):AX:=fun γ M=>(f γ M).bind fun r=>some (.inl r.1,r.2)
noncomputable def liS(f:SF):SFX:=fun γ M=>(f γ M).bind fun r=>some (.o r.1,r.2)
noncomputable def xCons(f:EX)(g:AX):AX:=fun γ M=>(f γ M).bind fun r=>match r.1 with
 |.x e=>some (.inr e,r.2)
 |.v x=>(g γ r.2).bind fun q=>match q.1 with
  |.inr e=>some (.inr e,q.2)
  |.inl xs=>some (.inl (x::xs),q.2)
noncomputable def aFd(f:EX)(k:CD->Sto->Option (Rs×Sto)):EX:=fun γ M=>(f γ M).bind fun r=>match r.1 with
 |.x e=>some (.x e,r.2)
 |.v x=>k x r.2
noncomputable def aBz(f:AX)(k:List CD->Sto->Option (Rs×Sto)):EX:=fun γ M=>(f γ M).bind fun r=>match r.1 with
 |.inr e=>some (.x e,r.2)
 |.inl xs=>k xs r.2
noncomputable def aFw(h:FX)(f:AX):EX:=aBz f h
noncomputable def aEL(f g:SFX):SFX:=fun γ M=>(f γ M).bind fun r=>match r.1 with
 |.o (.nx γ')=>g γ' r.2
 |o=>some (o,r.2)
noncomputable def aFh(f:EX):SFX:=fun γ M=>(f γ M).bind fun r=>match r.1 with
 |.x e=>some (.xc γ e,r.2)
 |.v x=>some (.o (.rt x),r.2)
noncomputable def aDS(f:EX):SFX:=fun γ M=>(f γ M).bind fun r=>match r.1 with
 |.x e=>some (.xc γ e,r.2)
 |.v _=>some (.o (.nx γ),r.2)
noncomputable def aEv(f:EX)(g:GF):SFX:=fun γ M=>(f γ M).bind fun r=>match r.1 with
 |.x e=>some (.xc γ e,r.2)
 |.v x=>(g x γ r.2).bind fun q=>some (.o (.nx q.1),q.2)
noncomputable def aGg(c:TF)(f g:SFX):SFX:=fun γ M=>(c γ M).bind fun r=>if r.1=true then f γ r.2 else g γ r.2
noncomputable def aEh(nm:Str):SFX:=fun γ M=>some (.xc γ ⟨nm,[]⟩,M)
noncomputable def fnX(ps N:Nat)(b:SFX):FX:=fun xs M=>if xs.length=ps then(b (xs.map some++List.replicate (N-xs.length) none) M).bind fun r=>match r.1 with
 |.o (.rt x)=>some (.v x,r.2)
 |.o (.nx _)=>some (.v (.d .none),r.2)
 |.xc _ e=>some (.x e,r.2)
 |_=>none else none
noncomputable def YA:Option Nat->Ga->Ga
 |none,γ=>γ
 |some i,γ=>γ.set i none
noncomputable def setG:Option Nat->Ga->CD->Ga
 |none,γ,_=>γ
 |some i,γ,x=>γ.set i (some x)
noncomputable def aFv(n:Option Nat):Out->Out
 |.nx γ=>.nx (YA n γ)
 |.bk γ=>.bk (YA n γ)
 |.ct γ=>.ct (YA n γ)
 |.rt x=>.rt x
structure HMi where
 tab:List (Str×Bool)
 n:Option Nat
 f:SF
noncomputable def aDA:List HMi->Ga->Exc->Sto->Option (Out×Sto)
 |[],_,_,_=>none
 |h::r,γ,ex,M=>match h.tab.lookup ex.nm with
  |some true=>(h.f (setG h.n γ (.c M.length)) (M++[.exc false ex.nm ex.fs])).bind fun q=>some (aFv h.n q.1,q.2)
  |some false=>aDA r γ ex M
  |none=>none
noncomputable def aFX(b:SFX)(hs:List HMi):SF:=fun γ M=>(b γ M).bind fun r=>match r.1 with
 |.o o=>some (o,r.2)
 |.xc γ' ex=>aDA hs γ' ex r.2
section
variable{K:Fg}{EE:St->XK}{ta tb:TE}{tA:TA}{t u:TS}{f g:EX}{fa:AX}{p q:SFX}{tt:TT}{ft:TF}{tg:TG}{hg:GF}
end
section
variable{ι:Type}
variable{K:Fg}{X:ι->Cx}{EE:ι->St->XK}{e a b c tg iter:Expr}{es:List Expr}{f g:EX}{fa:AX}{p q:SFX}{ft:TF}{gf:GF}{st:Stmt}{sts sts':List Stmt}{pos:Pos}
end
section
variable{X:Cx}{K:Fg}
noncomputable def aFJ(tab:List (Str×Bool))(nn:Option Bool)(f:EF):EF:=fun γ M=>(f γ M).bind fun r=>match r.1 with
 |.c i=>(match r.2[i]? with
  |some (.exc _ nm _)=>(tab.lookup nm).bind fun b=>some (.d (.bool b),r.2)
  |_=>none)
 |.d .none=>nn.bind fun b=>some (.d (.bool b),r.2)
 |_=>none
end
noncomputable def aDa(h:FX)(f:AF):EF:=fun γ M=>(f γ M).bind fun r=>(h r.1 r.2).bind fun q=>match q.1 with
 |.v x=>some (x,q.2)
 |.x _=>none
mutual
noncomputable def snap:Nat->Sto->CD->Option PyData
 |_,_,.d x=>some x
 |0,_,.c _=>none
 |n+1,M,.c i=>match M[i]? with
  |some (.lst xs)=>(kN n M xs).bind fun ds=>some (.list ds)
  |_=>none
 |_,_,.f _=>none
 |_,_,.g _=>none
 |0,_,.t _=>none
 |n+1,M,.t xs=>(kN n M (xs.map cdA)).bind fun ds=>some (.tuple ds)
noncomputable def kN:Nat->Sto->List CD->Option (List PyData)
 |_,_,[]=>some []
 |n,M,x::xs=>(snap n M x).bind fun d=>(kN n M xs).bind fun ds=>some (d::ds)
end
section
variable{K:Fg}{W:Wd}{M:Sto}{H:Hp}
theorem Good.lstAt'(G:Good K W M H){i:Nat}{xs:List CD}(h:M[i]?=some (.lst xs)):∃vs,H (W.α i)=some (.lst vs)/\cJ K W xs vs:=by
 obtain⟨_,o,h2,h3⟩:=G.cs i _ h (by intro z;cases z);cases o with
 |lst vs=>exact⟨vs,h2,h3⟩
 |_=>exact False.elim h3
mutual
theorem rA(G:Good K W M H):∀(n:Nat)(x:CD)(d:PyData)(v:V),snap n M x=some d->dS K W x v->Rep K H d v
 |0,.d x=>fun d v h r=>by unfold snap at h;cases h;exact Rep.same G.fh _ _ r
 |n+1,.d x=>fun d v h r=>by unfold snap at h;cases h;exact Rep.same G.fh _ _ r
 |0,.c i=>fun d v h r=>by unfold snap at h;cases h
 |n+1,.c i=>fun d v h r=>by
  unfold snap at h;cases e:M[i]? with
  |none=>rw[e]at h;cases h
  |some c=>
   rw[e]at h;cases c with
   |lst xs=>
    obtain⟨ds,h1,h⟩:=aP (show(kN n M xs).bind _=_ from h);cases h;obtain⟨vs,h2,h3⟩:=G.lstAt' e;exact⟨W.α i,vs,r.2,SqL.of h2,vY G n xs ds vs h1 h3⟩
   |_=>cases h
 |0,.f xs=>fun d v h r=>by unfold snap at h;cases h
 |n+1,.f xs=>fun d v h r=>by unfold snap at h;cases h
 |0,.g xs=>fun d v h r=>by unfold snap at h;cases h
 |n+1,.g xs=>fun d v h r=>by unfold snap at h;cases h
 |0,.t xs=>fun d v h r=>by unfold snap at h;cases h
 |n+1,.t xs=>fun d v h r=>by
  unfold snap at h;obtain⟨ds,h1,h⟩:=aP h;cases h;obtain⟨a,vs,rfl,h2,h3⟩:=r;exact⟨a,vs,rfl,SqT.of (G.fh _ _ h2),vY G n _ ds vs h1 (NO h3)⟩
theorem vY(G:Good K W M H):∀(n:Nat)(xs:List CD)(ds:List PyData)(vs:List V),kN n M xs=some ds->cJ K W xs vs->aK K H ds vs
 |_,[]=>fun ds vs h r=>by
  unfold kN at h;cases h;cases r;rfl
 |n,x::xs=>fun ds vs h r=>by
  unfold kN at h;obtain⟨d,h1,h⟩:=aP h;obtain⟨es,h2,h⟩:=aP h;cases h;cases r with
  |@cons _ v _ vs' r1 r2=>exact⟨v,vs',rfl,rA G n x d v h1 r1,vY G n xs es vs' h2 r2⟩
end
end
theorem vR{n:Nat}{M:Sto}{x:PyData}:snap n M (.d x)=some x:=by cases n<;>simp only[snap]
open PySem PySem.Spec PyProof.Rows PySem.Builtin PySem.Builtin.ObjectAttr
end L2
namespace L2
open PySem PySem.Spec PyProof.Rows
section
variable{K:Fg}
noncomputable def FI:F2:=fun x y M=>(sN M x).bind fun xs=>(sN M y).bind fun ys=>if xs.length+ys.length<=sizeLine then some (.c M.length,M++[.lst (xs++ys)])else none
theorem aAQ:P2 K (HY K) FI:=by
 intro x y M z M' h W H v u Q G rx ry k;obtain⟨xs,h1,h⟩:=aP h;obtain⟨ys,h2,h⟩:=aP h;by_cases hl:xs.length+ys.length<=sizeLine
 .rw[A4 hl]at h;cases h;obtain⟨p,vs,rfl,hp,hr⟩:=rP G h1 rx;obtain⟨q,us,rfl,hq,hs⟩:=rP G h2 ry;refine⟨p,q,vs,us,rfl,rfl,hp,hq,by rw[<- Paired.len hr,<- Paired.len hs];exact hl,fun l hl=>?_⟩;exact k _ (W.more l) _ (W.ext_more l) (G.new hl (c:=.lst (xs++ys)) (o:=.lst (vs++us)) (Paired.app hr hs)) G.newV
 .rw[B0 hl]at h;cases h
end
noncomputable abbrev KY:=Key ⊕ List Key
noncomputable abbrev KF:=Ga->Sto->Option (KY×Sto)
section
variable{K:Fg}
noncomputable def keysOf:List CD->Option (List Key)
 |[]=>some []
 |x::xs=>(keyOf x).bind fun k=>(keysOf xs).bind fun ks=>some (k::ks)
variable{t td ty tx tv:TE}{tA:TA}{f fo fx fv:EF}{fk:KF}{fa:AF}
section
variable{κ:Type}[DecidableEq κ]
noncomputable def lkC(kvs:List (κ×CD))(k:κ):Option CD:=(kvs.find? fun kv=>decide (kv.1=k)).map (·.2)
end
noncomputable def lkP(kvs:List (List Key×PyData))(k:List Key):Option PyData:=(kvs.find? fun kv=>decide (kv.1=k)).map (·.2)
noncomputable def atD(M:Sto):CD->KY->Option (Option CD)
 |.c i,.inl k=>match M[i]? with
  |some (.dk kvs)=>some (lkC kvs k)
  |_=>none
 |.c i,.inr ks=>match M[i]? with
  |some (.dt kvs)=>some (lkC kvs ks)
  |_=>none
 |.f kvs,.inr ks=>some ((lkP kvs ks).map .d)
 |_,_=>none
end
end L2
namespace PySem
open Sem (wp)
open AutoSeq1 (wpAny_loadPart')
section
variable{prog:Program}{w:World}{A:Around}{E:Value->Shared->Prop}{s:Shared}
theorem BH{it l:Addr}{i:Nat}{items}{x:Value}{Q:Value->Shared->Prop}(hit:s.heap.IsTupleIter it l i)(hl:s.heap.IsTuple l items)(hx:items[i]?=some x)
 (hQ:∀h',h'.IsTupleIter it l (i+1)->Heap.SameBut it s.heap h'->Q x { s with heap:=h' }):wpAny (model prog w) A (Builtin.SmallTypes.nextOf (.ref it)) Q E s:=by
 obtain⟨o,ho,hc,hd⟩:=id hit;obtain⟨ol,hol,_,nl,hdl⟩:=hl;unfold Builtin.SmallTypes.nextOf;refine A2 (O9 (name:=Str.ofString "__next__") hit.typeIs Z8 (O6 Z8 hit.typeIs F.entry_tuple_iterator_next ?_ (F.args_tuple_iterator_next_1 _)));show wpAny _ _ (field (.ref it) 0 >>= _) _ _ s;refine A2 (L0 ho hd (x:=.ref l) rfl ?_);show wpAny _ _ (if (Value.ref l==Value.none)=true then _ else _) _ _ s;rw[B0 (show ¬((Value.ref l==Value.none)=true)from A9)];show wpAny _ _ (field (.ref it) 1 >>= _) _ _ s;refine A2 (L0 ho hd (x:=.int i 0) rfl ?_);show wpAny _ _ (seqItems? (.ref l) >>= _) _ _ s;refine A2 (Y4 hol hdl ?_);simp only[Int.toNat_natCast,hx];refine A2 (wpAny_setField ho hd (by simp) (B4 ⟨x,rfl,B4 (hQ _ ?_ (Heap.SameBut.update ..))⟩));exact⟨_,Heap.get?_update_self _ ho (Obj.isFreed_of_fields (Obj.data_mapFields hd _)),(Obj.cls_mapFields ..).trans hc,by rw[Obj.data_mapFields hd];simp[rawInt]⟩
theorem vT{it l:Addr}{i:Nat}{items}{Q:Value->Shared->Prop}(hh:A.handled=none)(hit:s.heap.IsTupleIter it l i)(hl:s.heap.IsTuple l items)(hx:items[i]?=none)
 (hE:∀h' e,Heap.ExtBut it s.heap h'->(∃o,h'.get? e=some o/\o.cls=.type "StopIteration")->E (.ref e) { s with heap:=h' }):wpAny (model prog w) A (Builtin.SmallTypes.nextOf (.ref it)) Q E s:=by
 obtain⟨o,ho,hc,hd⟩:=id hit;obtain⟨ol,hol,_,nl,hdl⟩:=hl;unfold Builtin.SmallTypes.nextOf;refine A2 (O9 (name:=Str.ofString "__next__") hit.typeIs Z8 (O6 Z8 hit.typeIs F.entry_tuple_iterator_next ?_ (F.args_tuple_iterator_next_1 _)));show wpAny _ _ (field (.ref it) 0 >>= _) _ _ s;refine A2 (L0 ho hd (x:=.ref l) rfl ?_);show wpAny _ _ (if (Value.ref l==Value.none)=true then _ else _) _ _ s;rw[B0 (show ¬((Value.ref l==Value.none)=true)from A9)];show wpAny _ _ (field (.ref it) 1 >>= _) _ _ s;refine A2 (L0 ho hd (x:=.int i 0) rfl ?_);show wpAny _ _ (seqItems? (.ref l) >>= _) _ _ s;refine A2 (Y4 hol hdl ?_);simp only[Int.toNat_natCast,hx];refine A2 (wpAny_rule (A2 (wpAny_setField ho hd (by simp) ?_)));show wpAny _ _ (newExc (.type "StopIteration") [] >>= _) _ _ _;refine A2 ?_;simp only[newExc,newTuple];refine A2 (J3 ?_ (by size_fits));refine A2 (m:=firstArgMember _ _) (wpAny_of_eq (a:=Value.none) (by first|rfl|(simp only[firstArgMember];rfl)) ?_);refine J3 ?_ (by size_fits);simp only[raiseNew];refine A2 (wpAny_handled ?_)
 first|rw[show A.in1.handled=none from hh]|rw[hh]
 refine A2 (B4 (wpAny_throw ?_));exact hE _ _ (((Heap.SameBut.update ..).extBut.push _).push _) ⟨_,B9 _ rfl,rfl⟩
end
theorem oE{prog:Program}{w:World}{A:Around}(hh:A.handled=none)(it l:Addr)(hne:l≠it)(items:Array Value):
 Draws prog w A it [it,l] items.size (fun i v=>items[i]?=some v) (fun i h=>h.IsTupleIter it l i/\h.IsTuple l items) where
 live:=fun _ _ st=>let⟨o,ho,_⟩:=st.1;⟨o,ho⟩
 frame:=fun _ _ _ st hk=>⟨st.1.at fun o e=>hk it (by simp) o e,let⟨o,ho,r⟩:=st.2;⟨o,hk l (by simp) o ho,r⟩⟩
 item:=fun i s Q E hi st hQ=>by
  refine BH st.1 st.2 (x:=items[i]) (by simp[hi]) fun h' hit' hs'=>?_;exact hQ _ h' s.toks (by simp[hi]) ⟨hit',let⟨o,ho,r⟩:=st.2;⟨o,(hs'.2 l hne).trans ho,r⟩⟩ hs'
 done:=fun s Q E st hE=>vT hh st.1 st.2 (by simp) hE
theorem yP(l:Addr)(items:Array Value)(n:Nat)(dct:Option Addr)(sl:Array (Option Value)):
 Meets (Builtin.«enumerate.__new__» ⟨[.type "enumerate",.ref l],[]⟩) (fun _ R s=>s.heap.get? l=some { cls:=.type "tuple",dict:=dct,data:=.seq items n,slots:=sl } /\
  R (.ok (.ret (.ref (s.heap.push { cls:=.type "tuple_iterator",data:=.fields #[.ref l,.int 0 0] }).objs.size)))
   { s with heap:=(s.heap.push { cls:=.type "tuple_iterator",data:=.fields #[.ref l,.int 0 0] }).push { cls:=.type "enumerate",data:=.fields #[.none,.bool false,.ref s.heap.objs.size,rawInt 0,.none,.none] } }):=
 .of_wp fun prog w A R s h=>by
  obtain⟨hp,g,d,tk,os⟩:=s;obtain⟨hl,h⟩:=h;have hsub:=sub_enumerate;have hL:Heap.IsTuple (Shared.heap ⟨hp,g,d,tk,os⟩) l items:=⟨_,hl,rfl,n,rfl⟩
  wp_walk using U7 hl
  refine wpAny_stack_any fun st=>B4 ?_;split
  .rename_i c _ _ _ _ _;cases (c==Value.type "enumerate")
   .wp_walk using U7 hl,Z0 hL
    exact⟨_,rfl,h⟩
   .wp_walk using U7 hl,Z0 hL
    exact⟨_,rfl,h⟩
  .wp_walk using U7 hl,Z0 hL
   exact⟨_,rfl,h⟩
section
variable{prog:Program}{w:World}{A:Around}{E:Value->Shared->Prop}{s:Shared}
theorem BE{l:Addr}{items:Array Value}{Q:Value->Shared->Prop}(hL:s.heap.IsTuple l items)
 (h:∀h',IsEnum h' (s.heap.objs.size+1) s.heap.objs.size 0 .none->h'.IsTupleIter s.heap.objs.size l 0->h'.objs.size=s.heap.objs.size+2->
  (∀b o,s.heap.get? b=some o->h'.get? b=some o)->Q (.ref (s.heap.objs.size+1)) { s with heap:=h' }):
 wpAny (model prog w) A (call (.type "enumerate") [.ref l]) Q E s:=by
 obtain⟨⟨c,dct,dt,sl⟩,hl,hc,n,hd⟩:=hL
 replace hc:c=.type "tuple":=hc
 replace hd:dt=.seq items n:=hd
 subst hc hd
 refine callType_new F.called_enumerate (by decide) (F.typeCall_enumerate_1 _) (F.newCall_enumerate_1 _) (fun obj=>F.args_object_init_2 obj _) F.entry_enumerate_new
  (yP l items n dct sl) ⟨hl,?_⟩
 have hz:(s.heap.push { cls:=.type "tuple_iterator",data:=.fields #[.ref l,.int 0 0] }).objs.size=s.heap.objs.size+1:=A0k ..;show _/\_;rw[hz]
 have he:IsEnum ((s.heap.push { cls:=.type "tuple_iterator",data:=.fields #[.ref l,.int 0 0] }).push
  { cls:=.type "enumerate",data:=.fields #[.none,.bool false,.ref s.heap.objs.size,rawInt 0,.none,.none] }) (s.heap.objs.size+1) s.heap.objs.size 0 .none:=by
  have:=B9 (s.heap.push { cls:=.type "tuple_iterator",data:=.fields #[.ref l,.int 0 0] })
   (o:={ cls:=.type "enumerate",data:=.fields #[.none,.bool false,.ref s.heap.objs.size,rawInt 0,.none,.none] }) rfl
  rw[hz]at this;exact this
 refine⟨⟨_,he,rfl⟩,h _ he ⟨_,A1 _ (B9 _ rfl),rfl,rfl⟩ (by rw[A0k,hz]) fun b o x=>A1 _ (A1 _ x)⟩
end
end PySem
namespace L2
open PySem PySem.Spec PyProof.Rows
section
variable{X:Cx}{pins:List (Addr×Obj)}{σ:St}{H:Hp}{s:Shared}{h':Heap}
theorem Inv.turnLay{fp:List Addr}{a:Addr}{o:HO}{t':Nat}(I:Inv X pins σ H s)(hf:∀b∈fp,vG X pins H b)(k:∀b u,b∉fp->s.heap.get? b=some u->h'.get? b=some u)(hp:s.heap.objs.size<=a)(new:gY X.prog X.w (upd H a o) h' a o):
 Inv X pins σ (upd H a o) { s with heap:=h',toks:=t' }:=by
 have hn:H a=none:=I.hok.fresh hp;have nf:∀b u,H b=some u->b∉fp:=fun b u e z=>by rw[(hf b z).1]at e;cases e
 refine I.step (g':=s.gens) (d':=s.drawn) (ch:=fp) (fun b hb=>?_) (fun b o _ _ hc e _=>k b o hc e) (fun b o _ _ hc e _=>⟨o.slots,k b o hc e⟩) (fun b o _ e n=>?_) (fun b o hc e=>⟨o,k b o hc e⟩)
  (fun b xs e=>?_) (fun b o u e=>?_) (fun b ps e=>⟨#[],?_⟩) (fun m hm=>?_) ?_ I.bare
 .obtain⟨_,f1,_,f3,f4,f5⟩:=hf b hb;exact⟨f3,f1,f4,f5⟩
 .rw[bB (fun z=>by subst z;exact absurd (B7 e) (Nat.not_lt.mpr hp))];exact n
 .rw[bB (bF e hn)];exact e
 .rw[bB (bF e hn)];exact e
 .rw[bB (bF e hn)];simpa using e
 .obtain⟨o,es,ep,ho,r⟩:=hm;exact⟨o,es,ep,k _ o (fun z=>(hf _ z).2.1 rfl) ho,r⟩
 .intro b u e;by_cases hb:b=a
  .subst hb;rw[bA]at e;cases e;exact new
  .rw[bB hb]at e;refine(I.hok b u e).stay (fun c v hc q=>k c v ?_ q) (fun c q=>by rw[bB (bF q hn)];exact q) fun c xs q=>by rw[bB (bF q hn)];exact q
   rcases hc with z|z
   .rw[z];exact nf b _ e
   .exact nf c _ z
theorem Inv.turnF{fp:List Addr}{t':Nat}(I:Inv X pins σ H s)(hf:∀b∈fp,vG X pins H b)(k:∀b u,b∉fp->s.heap.get? b=some u->h'.get? b=some u):Inv X pins σ H { s with heap:=h',toks:=t' }:=by
 have nf:∀b u,H b=some u->b∉fp:=fun b u e z=>by rw[(hf b z).1]at e;cases e
 refine I.step (g':=s.gens) (d':=s.drawn) (ch:=fp) (fun b hb=>?_) (fun b o _ _ hc e _=>k b o hc e) (fun b o _ _ hc e _=>⟨o.slots,k b o hc e⟩) (fun _ _ _ _ n=>n) (fun b o hc e=>⟨o,k b o hc e⟩)
  (fun _ _ e=>e) (fun _ _ _ e=>e) (fun b ps e=>⟨#[],by simpa using e⟩) (fun m hm=>?_) (fun b u e=>?_) I.bare
 .obtain⟨_,f1,_,f3,f4,f5⟩:=hf b hb;exact⟨f3,f1,f4,f5⟩
 .obtain⟨o,es,ep,ho,r⟩:=hm;exact⟨o,es,ep,k _ o (fun z=>(hf _ z).2.1 rfl) ho,r⟩
 .refine(I.hok b u e).stay (fun c v hc q=>k c v ?_ q) (fun _ q=>q) fun _ _ q=>q;rcases hc with z|z
  .rw[z];exact nf b _ e
  .exact nf c _ z
end
noncomputable def Ite(Sq:Hp->List V->Prop):It:=
 ⟨fun i H=>∃xs x,Sq H xs/\xs[i]?=some x,fun i H v H'=>∃p x,H p=none/\v=.ref p/\H'=upd H p (.tup [.int i,x])/\∀xs,Sq H xs->xs[i]?=some x,fun i H=>∃xs,Sq H xs/\xs.length=i⟩
noncomputable def tnE(e it:Addr)(It:Heap->Nat->Prop)(i:Nat)(h:Heap):Prop:=(∃old,IsEnum h e it i old)/\It h i
section
variable{P:Program}{w:World}{K:Fg}{elts:List Expr}{x1:Nat}{tpos:Pos}
theorem CV{e it a:Addr}{Sq:Hp->List V->Prop}{It:Heap->Nat->Prop}(hei:e≠it)
 (hobj:∀h i,It h i->∃o vs,h.get? it=some o/\o.data=.fields vs) (hkeep:∀h h' i,It h i->(∀o,h.get? it=some o->h'.get? it=some o)->It h' i)
 (hinj:∀(X:Cx),X.K=K->∀pins σ H s,Inv X pins σ H s->∀xs ys,Sq H xs->Sq H ys->xs=ys)
 (draw:∀(X:Cx),X.prog=P->X.w=w->X.K=K->X.calm=true->∀pins σ H s,Inv X pins σ H s->∀xs,Sq H xs->(∃o vs,s.heap.get? it=some o/\o.data=.fields vs)->(∃o vs,s.heap.get? e=some o/\o.data=.fields vs)->∃(its:List Value)(fp:List Addr)(S:Nat->Heap->Prop),bQ xs its/\e∉fp /\
  Draws P w X.A.in1 it fp its.length (fun i v=>its[i]?=some v) S/\(∀i,It s.heap i->S i s.heap)/\∀i h,S i h->It h i):
 Turn P w K (.Tuple elts x1 tpos) (Ite Sq) [e,it] e (tnE e it It) where
 mem:=by simp
 obj:=fun i h st b hb=>by
  obtain⟨⟨old,h1⟩,h2⟩:=st;rcases List.mem_cons.mp hb with rfl|hb
  .exact⟨_,h1,fun v z=>by cases z⟩
  .obtain⟨o,vs,q1,q2⟩:=hobj _ _ h2;rw[List.mem_singleton.mp hb];exact⟨o,q1,fun v z=>by rw[q2]at z;cases z⟩
 keep:=fun i h h' st k=>by
  obtain⟨⟨old,h1⟩,h2⟩:=st;exact⟨⟨old,k e (by simp) _ h1⟩,hkeep _ _ _ h2 fun o q=>k it (by simp) o q⟩
 item:=by
  intro X hP hw hK hc i pins s σ H E I hf st hg;obtain⟨xs,x,hq,hx⟩:=hg;obtain⟨⟨old,he⟩,hit⟩:=st;obtain⟨its,fp,S,rv,hef,D,s1,s2⟩:=draw X hP hw hK hc pins σ H s I xs hq (hobj _ _ hit) ⟨_,_,he,rfl⟩;subst hP hw hK;obtain⟨u,hu,ru⟩:=rv.get hx;have hlt:i<its.length:=(List.getElem?_eq_some_iff.mp hu).1;refine wpAny_pyNext_enum_itemD D he (s1 _ hit) hlt hei hef fun v h1 tk hv ho st1 ht hsz hk=>⟨_,rfl,?_⟩;rw[hu]at hv;cases hv;refine wpAny_letOwnedTupleGo_enum ho fun h2 he2 sb=>?_;have ne:s.heap.objs.size≠e:=A0p (B7 he);have ht2:h2.get? s.heap.objs.size=some { cls:=.type "tuple",data:=.seq #[.int i tk,u] }:=(sb.2 _ ne).trans ht
  have I2:Inv X pins σ (upd H s.heap.objs.size (.tup [.int i,x])) { s with heap:=h2,toks:=tk+1 }:=by
   refine I.turnLay hf (fun b o hb q=>(sb.2 b fun z=>hb (by simp[z])).trans (hk b o (fun z=>hb (by simp[z])) (fun z=>hb (by simp[z])) q)) (B3 _) ⟨by show 2<=sizeLine;rw[J9];decide,[.int i tk,u],.cons ⟨tk,rfl⟩ (.cons ru .nil),⟨_,ht2,rfl,_,rfl⟩⟩
  refine⟨.ref s.heap.objs.size,_,I2,rfl,⟨_,x,I.hok.fresh (B3 _),rfl,rfl,fun ys hy=>by rw[hinj X rfl _ _ _ _ I ys xs hy hq];exact hx⟩,⟨⟨_,by have:=he2;push_cast;exact this⟩,?_⟩,fun b hb=>?_⟩
  .exact hkeep _ _ _ (s2 _ _ st1) fun o q=>(sb.2 it (Z9 hei)).trans q
  .have hb0:=(hf b hb).1;rw[bB (fun z=>?_)]
   .exact hb0
   .subst z;rcases List.mem_cons.mp hb with q|q
    .exact ne q
    .obtain⟨o,vs,q1,_⟩:=hobj _ _ hit;rw[<- List.mem_singleton.mp q]at q1;exact absurd (B7 q1) (I0 _)
 done:=by
  intro X hP hw hK hc i pins s σ H E I hf st hg;obtain⟨xs,hq,hx⟩:=hg;obtain⟨⟨old,he⟩,hit⟩:=st;obtain⟨its,fp,S,rv,hef,D,s1,s2⟩:=draw X hP hw hK hc pins σ H s I xs hq (hobj _ _ hit) ⟨_,_,he,rfl⟩;subst hP hw hK;have hl:=rv.length;rw[hl]at hx;subst hx;exact wpAny_pyNext_enum_endD D he (s1 _ hit) fun h1 hx=>⟨rfl,I.turnF (t':=s.toks) hf fun b o hb q=>hx b o (fun z=>hb (by simp[z])) q⟩
 self:=fun A i s Q E st h=>by
  obtain⟨⟨old,he⟩,_⟩:=st;exact wpAny_pyIter_enum he h
theorem JL{e it a:Addr}(hei:e≠it):Turn P w K (.Tuple elts x1 tpos) (Ite fun H xs=>SqL K H a xs) [e,it] e (tnE e it fun h i=>h.IsListIter it a i):=by
 refine CV (a:=a) hei (fun h i st=>?_) (fun h h' i st k=>st.at k) (fun X hK pins σ H s I xs ys h1 h2=>?_) fun X hP hw hK hc pins σ H s I xs hq hi he=>?_
 .obtain⟨o,q,_,d⟩:=st;exact⟨o,_,q,d⟩
 .subst hK;exact I.list_inj h1 h2
 .subst hP hw hK;obtain⟨its,rv,p,hz⟩:=I.list hq
  have ne:∀b,(∃o vs,s.heap.get? b=some o/\o.data=.fields vs)->a≠b:=fun b ⟨o,vs,q,d⟩ z=>by
   subst z;obtain⟨o',q',_,n,d'⟩:=p.isList;rw[q]at q';cases q';rw[d]at d';cases d'
  refine⟨its,[it,a],fun i h=>h.IsListIter it a i/\h.IsList a its.toArray,rv,?_,?_,fun i st=>⟨st,p.isList⟩,fun i h st=>st.1⟩
  .intro z;rcases List.mem_cons.mp z with z|z
   .exact hei z
   .exact ne e he (List.mem_singleton.mp z).symm
  .have:=Draws.list (prog:=X.prog) (w:=X.w) (A:=X.A.in1) (I.ok.hd hc) it a (ne it hi) its.toArray;simpa using this
theorem KO{e it a:Addr}(hei:e≠it):Turn P w K (.Tuple elts x1 tpos) (Ite fun H xs=>SqT K H a xs) [e,it] e (tnE e it fun h i=>h.IsTupleIter it a i):=by
 refine CV (a:=a) hei (fun h i st=>?_) (fun h h' i st k=>st.at k) (fun X hK pins σ H s I xs ys h1 h2=>?_) fun X hP hw hK hc pins σ H s I xs hq hi he=>?_
 .obtain⟨o,q,_,d⟩:=st;exact⟨o,_,q,d⟩
 .subst hK;exact I.tuple_inj h1 h2
 .subst hP hw hK;obtain⟨its,rv,p,hz⟩:=I.tuple hq;have pt:s.heap.IsTuple a its.toArray:=p
  have ne:∀b,(∃o vs,s.heap.get? b=some o/\o.data=.fields vs)->a≠b:=fun b ⟨o,vs,q,d⟩ z=>by
   subst z;obtain⟨o',q',_,n,d'⟩:=pt;rw[q]at q';cases q';rw[d]at d';cases d'
  refine⟨its,[it,a],fun i h=>h.IsTupleIter it a i/\h.IsTuple a its.toArray,rv,?_,?_,fun i st=>⟨st,pt⟩,fun i h st=>st.1⟩
  .intro z;rcases List.mem_cons.mp z with z|z
   .exact hei z
   .exact ne e he (List.mem_singleton.mp z).symm
  .have:=oE (prog:=X.prog) (w:=X.w) (A:=X.A.in1) (I.ok.hd hc) it a (ne it hi) its.toArray;simpa using this
end
section
variable{X:Cx}{elts:List Expr}{x1:Nat}{tpos:Pos}
noncomputable def aAV(K:Fg)(ta:TA):TI:=fun σ H R=>ta σ H fun vs H1=>∃a,vs=[.ref a]/\((∃xs,SqL K H1 a xs/\R (Ite fun H xs=>SqL K H a xs) H1)\/(∃xs,SqT K H1 a xs/\R (Ite fun H xs=>SqT K H a xs) H1))
theorem aAq{a:Expr}{ta:TA}{p pos:Pos}(hg:Gl X "enumerate")(hm:X.mg "enumerate"=none)(ha:PA X [a] ta)(hs:starEach [a] X.env=[(false,eval a X.env)]:=by rfl):PI X (.Tuple elts x1 tpos) (.Call (.Name "enumerate" p) [a] [] pos) (aAV X.K ta):=by
 intro pins s σ H R I h;refine Call_ (mM I hg hm boot_enumerate (J2 (thn (ha pos pins s σ H _ I h) fun us s1 ⟨vs,H1,I1,r1,q1⟩=>?_) hs rfl));obtain⟨l,e,q⟩:=q1;subst e;cases r1 with
 |cons r rr=>
  cases rr;cases (show _=Value.ref l from r)
  have fp:∀b∈[s1.heap.objs.size+1,s1.heap.objs.size],vG X pins H1 b:=fun b hb=>by
   rcases List.mem_cons.mp hb with rfl|hb
   .exact I1.fpOk (Nat.le_succ _) (I1.hok.fresh (Nat.le_succ _))
   .rw[List.mem_singleton.mp hb];exact I1.fpOk (B3 _) (I1.hok.fresh (B3 _))
  rcases q with⟨xs,hq,q⟩|⟨xs,hq,q⟩
  .obtain⟨its,rv,p,hz⟩:=I1.list hq;refine call_enumerate_list p.isList fun h' he hit hsz hk=>?_;refine wpAny_pyIter_enum he ?_;exact⟨_,_,_,_,H1,rfl,I1.kept (t':=s1.toks) hk,JL (a:=l) (Nat.succ_ne_self _),⟨⟨_,he⟩,hit⟩,fp,q⟩
  .obtain⟨its,rv,p,hz⟩:=I1.tuple hq;refine BE (show s1.heap.IsTuple l its.toArray from p) fun h' he hit hsz hk=>?_;refine wpAny_pyIter_enum he ?_;exact⟨_,_,_,_,H1,rfl,I1.kept (t':=s1.toks) hk,KO (a:=l) (Nat.succ_ne_self _),⟨⟨_,he⟩,hit⟩,fp,q⟩
end
noncomputable def sR(ds:List PyData):List CD:=ds.zipIdx.map fun p=>.d (.tuple [.int (p.2:Nat),p.1])
noncomputable def wK(f:AF):AF:=fun γ M=>(f γ M).bind fun r=>match r.1 with
 |[.d x]=>(aM x).bind fun ds=>some (sR ds,r.2)
 |_=>none
theorem OH{ds:List PyData}{i:Nat}{x:CD}(h:(sR ds)[i]?=some x):∃d,ds[i]?=some d/\x=.d (.tuple [.int (i:Nat),d]):=by
 unfold sR at h;rw[C4,List.getElem?_zipIdx]at h;cases e:ds[i]? with
 |none=>rw[e]at h;cases h
 |some d=>
  rw[e]at h;exact⟨d,rfl,by simpa using h.symm⟩
theorem ZN{K:Fg}{tA:TA}{fa:AF}(b:SA K tA fa):SI K (aAV K tA) (wK fa):=by
 intro γ M xs M' hh W H σ R G Rs k;obtain⟨⟨ys,M1⟩,h1,hh⟩:=aP hh;refine b _ _ _ _ h1 W H σ _ G Rs fun vs W1 H1 e1 G1 r1=>?_;revert hh;dsimp only;split
 .rename_i y;intro hh;obtain⟨ds,h2,hh⟩:=aP hh;cases hh;cases r1 with
  |cons r r'=>
   cases r';obtain⟨p,us,rfl,hs,hr⟩:=kJ (show Rep K W1.F y _ from r) h2
   have gv:∀Sq:Hp->List V->Prop,(∀W2 M2 H2,W1.Ext W2->Good K W2 M2 H2->Sq H2 us)->JN K (Ite Sq) (sR ds) W1:=fun Sq hS W2 M2 H2 e2 G2=>by
    have hq:=hS W2 M2 H2 e2 G2;refine⟨fun i x hx=>?_,us,hq,by rw[show(sR ds).length=ds.length by simp[sR],hr.length]⟩;obtain⟨d,hd,rfl⟩:=OH hx;obtain⟨u,hu,ru⟩:=Paired.get (fK hr) (show(ds.map CD.d)[i]?=some (.d d)by rw[C4,hd];rfl);refine⟨⟨us,u,hq,hu⟩,fun v H3 hy=>?_⟩;obtain⟨p',x',hn,rfl,rfl,hx'⟩:=hy;have:=hx' us hq;rw[hu]at this;cases this;obtain⟨e3,G3⟩:=G2.lay (o:=.tup [.int i,u]) hn;refine⟨_,e3,G3,⟨p',_,rfl,SqT.of bA,?_⟩⟩;exact⟨_,_,rfl,rfl,_,_,rfl,Rep.same e3.ff _ _ (show Rep K W2.F d u from(ru.up e2)),rfl⟩
   refine⟨p,rfl,?_⟩;rcases hs with hs|hs
   .exact .inl ⟨us,G1.fh.seq hs,k _ W1 H1 e1 G1 (gv _ fun W2 M2 H2 e2 G2=>G2.fh.seq (e2.ff.seq hs))⟩
   .exact .inr ⟨us,G1.fh.seqT hs,k _ W1 H1 e1 G1 (gv _ fun W2 M2 H2 e2 G2=>G2.fh.seqT (e2.ff.seqT hs))⟩
 .intro hh;cases hh
theorem FT{ι:Type}{K:Fg}{X:ι->Cx}{a:Expr}{fa:AF}{pos:Pos}{elts:List Expr}{x1:Nat}{tpos p:Pos}(hK:∀i,(X i).K=K)(hm:∀i,(X i).mg "enumerate"=none)(x:MA K X [a] fa)(hg:∀i,Gl (X i) "enumerate":=by intro _;rfl):MI K X (.Tuple elts x1 tpos) (.Call (.Name "enumerate" p) [a] [] pos) (wK fa):=by
 obtain⟨t,x1',x2⟩:=x.ex;exact⟨_,fun i=>by have:=aAq (elts:=elts) (x1:=x1) (tpos:=tpos) (p:=p) (pos:=pos) (hg i) (hm i) (x1' i) (x.st.1 _);rw[hK i]at this;exact this,ZN x2⟩
end L2
namespace PySem
open PySem.Calls PyProof.Rows
end PySem
namespace PySem
open PySem.Calls PyProof.Rows
end PySem
namespace PySem.W
open PySem PySem.Calls PyProof.Rows PyProof.V PySem.Spec
section
variable{prog:Program}{w:World}{A:Around}{E:Value->Shared->Prop}{s:Shared}{h₀:Heap}{L:Addr}{m:Str->Option Value}{news:List (Addr×Obj)}{vs:List Value}
theorem l2_tail{Q:Value->Shared->Prop}(F:Fr h₀ L s.heap m)(N:News h₀ L s.heap news)(h2:2<=vs.length)(h64:vs.length<64)
 (h:∀D e1 h',Fr h₀ L h' m->News h₀ L h' ((D,seqObj "list" #[] e1)::news)->(∀q∈news,q.1<D)->
  wpAny (model prog w) A.in1 (keyKind' vs.toArray) (fun κ s'=>(kas_sort vs.length).kasWp (kas_ask prog w A.in1 κ vs) (fun p s''=>KasFin h₀ L m D e1 (p.toList.map fun i=>vs.getD i Value.none) (fun s3=>Q (.ref D) s3) s'') s') (fun _ _=>False) { s with heap:=h' }):
 wpAny (model prog w) A (do let l <- newList vs;let _ <- holding [l] (call (.builtin "list.sort") [l]);ret l) (fun fin s'=>∃v,fin=.done (.ret v)/\Q v s') E s:=by
 refine A2 (wpAny_newList ?_ (by rw[J9];omega));have hoL:(s.heap.push (seqObj "list" vs.toArray 0)).get? s.heap.objs.size=some (seqObj "list" vs.toArray 0):=B9 _ rfl;have keep:∀b o,s.heap.get? b=some o->(s.heap.push (seqObj "list" vs.toArray 0)).get? b=some o:=fun b o q=>A1 _ q;have hL:L<s.heap.objs.size:=F.ns.lt;show wpAny _ _ _ _ _ { s with heap:=s.heap.push (seqObj "list" vs.toArray 0) };refine A2 (S5 (O6 slot_list_sort ⟨_,hoL,rfl⟩ entry_list_sort ?body (args_list_sort _)))
 case body=>
  refine kat_list_sort (s:={ s with heap:=s.heap.push (seqObj "list" vs.toArray 0) }) (F.kept keep) (N.grown keep) hoL (A0p hL) (Heap.get?_none_of_le (J4 F.above (A0c hL)))
   (fun p hp=>C9 (B7 (N p hp).1)) h2 h64 fun e1 h' F' N'=>?_
  refine Z7 (h _ e1 h' F' N' fun q hq=>B7 (N q hq).1) (fun κ s' hk=>?_) fun _ _ x=>x;rw[kat_ask_eq rfl]at hk ⊢;exact kas_wp_mono hk fun p s'' hk'=>hk'.mono fun s3 hq=>⟨_,rfl,B4 ⟨_,rfl,hq⟩⟩
end
end PySem.W
namespace L2
variable{H:Hp}{W:Wd}
open PySem PySem.Spec PyProof.Rows
section
variable{X:Cx}{pins:List (Addr×Obj)}{σ:St}{H:Hp}{s:Shared}{E:Value->Shared->Prop}
noncomputable def lX(its:List Value):Sem PySem.Fin:=do let l <- newList its;let _ <- holding [l] (call (.builtin "list.sort") [l]);ret l
noncomputable def VZ(K:Fg)(vs:List V)(H:Hp)(Q:VK):Prop:=
 (∃rows:List (List PyData),aK K H (rows.map .tuple) vs/\2<=rows.length/\rows.length<64/\(∀r∈rows,r.all SeqAt.shaped=true/\cG r=true)/\(kL rows=true\/qT rows=true)/\(∀i j,i<rows.length->j<rows.length->(cU (rows.getD i []) (rows.getD j [])).isSome=true) /\
  ∀l,H l=none->Q (.ref l) (upd H l (.lst ((dY (dZ rows) rows.length).map fun i=>vs.getD i .non))))\/(vs.length<2/\∀l,H l=none->Q (.ref l) (upd H l (.lst vs)))
theorem aEs{A:Around}{rows:List (List PyData)}{vs:List V}{its:List Value}{Q:VK}(hu:A.in1.units+64<cLine)(I:Inv X pins σ H s)(rv:bQ vs its)(hrep:aK X.K H (rows.map .tuple) vs)(h2:2<=rows.length)(h64:rows.length<64)
 (hsh:∀r∈rows,r.all SeqAt.shaped=true/\cG r=true) (hknd:kL rows=true\/qT rows=true) (hlt:∀i j,i<rows.length->j<rows.length->(cU (rows.getD i []) (rows.getD j [])).isSome=true)
 (q:∀l,H l=none->Q (.ref l) (upd H l (.lst ((dY (dZ rows) rows.length).map fun i=>vs.getD i .non)))):
 wpAny (model X.prog X.w) A (lX its) (fun fin s'=>∃v,fin=.done (.ret v)/\∃x H',Inv X pins σ H' s'/\RelV x v/\Q x H') E s:=by
 obtain⟨as,hr⟩:=aK.reads I _ vs its hrep rv;have hlen:its.length=rows.length:=by rw[ReadsAll.len hr,A0]
 obtain⟨m,F⟩:=I.fr;have N:News X.base X.env.locals s.heap (gE X.base s.heap X.env.locals):=vI;unfold lX;refine PySem.W.l2_tail (Q:=fun v s'=>∃x H',Inv X pins σ H' s'/\RelV x v/\Q x H') F N (by omega) (by omega) fun D e1 h' F' N' hD=>?_
 have kp:∀(h1:Heap),Fr X.base X.env.locals h1 m->(∀q∈gE X.base s.heap X.env.locals,h1.get? q.1=some q.2)->∀b o,b≠X.env.locals->s.heap.get? b=some o->h1.get? b=some o:=fun h1 G1 M1 b o hb e=>by
  cases z:X.base.get? b with
  |some v=>
   have:=I.bk b v z;rw[e]at this;cases this;exact G1.keep b _ z
  |none=>exact M1 (b,o) (gL hb z e)
 have k':=kp h' F' (fun q hq=>(N' q (B1 _ hq)).1)
 have hsz:s.heap.get? D=none:=by
  have hN:=N' _ B2;cases e:s.heap.get? D with
  |none=>rfl
  |some o=>exact absurd (hD (D,o) (gL hN.2.1 hN.2.2 e)) (I0 _)
 have seqL:∀b o vs n,s.heap.get? b=some o->o.data=.seq vs n->b≠X.env.locals:=fun b o vs n e d z=>by
  obtain⟨o',es,ep,x1,x2,_⟩:=F.ns;subst z;rw[e]at x1;cases x1;rw[d]at x2;cases x2
 have onl:cG (rows.map .tuple)=true:=by
  clear hrep hr hlen q hknd hlt h2 h64
  induction rows with
  |nil=>rfl
  |cons x r ih=>
   show(cG x&&cG (r.map .tuple))=true;rw[(hsh x B2).2,ih fun y hy=>hsh y (B1 _ hy)];rfl
 have hr':ReadsAll h' its (rows.map .tuple) as:=GS (fun b o vs n e d=>k' b o (seqL b o vs n e d) e) _ _ _ onl hr;refine CT (s:={ s with heap:=h' }) hr' (by omega) hknd ?_;rw[hlen];refine KS.wp (lt:=dZ rows) (n:=rows.length) (fun i j C hi hj c=>?_) (fun p hp'=>?_) ((xT (by omega)).ks (lt:=dZ rows))
 .have at_:∀i,i<rows.length->∃bs,Reads h' (its.getD i .none) (.tuple (rows.getD i [])) bs:=fun i hi=>by
   obtain⟨bs,x⟩:=ReadsAll.at i hr' (by simpa using hi)
   have:(rows.map PyData.tuple).getD i .none=.tuple (rows.getD i []):=by
    rw[A6,C4,A6,A8 hi];rfl
   rw[this]at x;exact⟨bs,x⟩
  obtain⟨b1,r1⟩:=at_ i hi;obtain⟨b2,r2⟩:=at_ j hj
  have mem:∀i,i<rows.length->rows.getD i []∈rows:=fun i hi=>by
   rw[A6,A8 hi];exact S9 hi
  have hd:kL rows=true->∀r∈rows,r.head?.all isI=true:=fun z r hr=>by
   unfold kL at z;have:=List.all_eq_true.mp z r hr;cases r with
   |nil=>rfl
   |cons d ds=>cases d<;>first|rfl|exact absurd this (by intro z;cases z)
  obtain⟨c0,hc0⟩:=Option.isSome_iff_exists.mp (hlt i j hi hj);have hc:dZ rows i j=c0:=by unfold dZ;rw[hc0];rfl
  rw[hc]at c;exact UR (s:={ s with heap:=h' }) hu r1 r2 (hsh _ (mem i hi)).1 (hsh _ (mem j hj)).1 hc0 (fun z=>⟨hd z _ (mem i hi),hd z _ (mem j hj)⟩) c
 .obtain⟨e,_⟩:=hp';subst e;refine PySem.W.KasFin.intro F' N' (.head fun q hq=>C9 (hD q hq)) fun h'' c F'' N''=>?_;have k'':=kp h'' F'' (fun q hq=>(N'' q (B1 _ hq)).1);refine⟨.ref D,upd H D (.lst ((dY (dZ rows) rows.length).map fun i=>vs.getD i .non)),?_,rfl,q D (I.hok.none hsz)⟩;refine I.laidL k'' (fun m' hm'=>?_) hsz ⟨?_,_,c,rR rv _,(N'' _ B2).1⟩
  .rw[<- yG F.ns hm'];exact F''.ns
  .rw[A0,(iR (dZ rows) (by omega)).length_eq,E9];have:64<=sizeLine:=by decide
   omega
theorem aDR{A:Around}{vs:List V}{its:List Value}{Q:VK}(I:Inv X pins σ H s)(rv:bQ vs its)(h2:vs.length<2)(q:∀l,H l=none->Q (.ref l) (upd H l (.lst vs))):
 wpAny (model X.prog X.w) A (lX its) (fun fin s'=>∃v,fin=.done (.ret v)/\∃x H',Inv X pins σ H' s'/\RelV x v/\Q x H') E s:=by
 have hl:=rv.length;have hz:its.length<=sizeLine:=by rw[J9];omega
 unfold lX;refine A2 (wpAny_newList ?_ hz);refine A2 (S5 ?_);have gD:(s.heap.push { cls:=.type "list",data:=.seq its.toArray }).get? s.heap.objs.size=some (seqObj "list" its.toArray 0):=B9 _ rfl;refine O6 slot_list_sort ⟨_,gD,rfl⟩ entry_list_sort (pT gD (by omega) ⟨_,rfl,?_⟩) (args_list_sort _)
 obtain⟨c,gg⟩:∃c,(sortedHeap (s.heap.push { cls:=.type "list",data:=.seq its.toArray }) s.heap.objs.size its its.toArray).get? s.heap.objs.size=some (seqObj "list" its.toArray c):=by
  unfold sortedHeap;have g1:=U1 gD (fun _=>#[]);have g2:=A1 (seqObj "tuple" its.toArray 0) g1;have g3:=A1 (seqObj "list" #[] 0) g2;exact⟨_,U1 g3 (fun _=>its.toArray)⟩
 refine B4 ⟨_,rfl,.ref s.heap.objs.size,upd H s.heap.objs.size (.lst vs),I.laid (t':=s.toks) (fun b o e=>?_) (B3 _) ⟨by omega,its,c,rv,gg⟩,rfl,q _ (I.hok.fresh (B3 _))⟩
 .have hb:b≠s.heap.objs.size:=C9 (B7 e);unfold sortedHeap;rw[L5 _ _ _ _ hb];refine A1 _ (A1 _ ?_);rw[L5 _ _ _ _ hb];exact A1 _ e
theorem aDZ{A:Around}{vs:List V}{its:List Value}{Q:VK}(hu:A.in1.units+64<cLine)(I:Inv X pins σ H s)(rv:bQ vs its)(h:VZ X.K vs H Q):
 wpAny (model X.prog X.w) A (lX its) (fun fin s'=>∃v,fin=.done (.ret v)/\∃x H',Inv X pins σ H' s'/\RelV x v/\Q x H') E s:=by
 rcases h with⟨rows,a,b,c,d,e,f,g⟩|⟨a,b⟩
 .exact aEs hu I rv a b c d e f g
 .exact aDR I rv a b
end
section
variable{K:Fg}{td:TE}{fo:EF}
noncomputable def jJ(rows:List (List PyData)):Option (List PyData):=if sortable rows=true then some (zC rows)else if rows.length<2 then some (rows.map .tuple)else none
end
section
variable{K:Fg}
theorem Good.freezeL{M:Sto}{i:Nat}{xs:List CD}{ds:List PyData}(G:Good K W M H)(hi:M[i]?=some (.lst xs))(hd:kO xs=some ds):
 ∃W',W.Ext W'/\Good K W' (M.set i .dead) H/\W'.α i=W.α i/\dS K W' (.d (.list ds)) (.ref (W.α i)):=by
 obtain⟨vs,hv,rv⟩:=G.lstAt hi;obtain⟨hn,_⟩:=G.cs i _ hi (by intro q;cases q);have lt:i<M.length:=(List.getElem?_eq_some_iff.mp hi).1;have e:W.Ext { W with F:=upd W.F (W.α i) (.lst vs) }:=⟨lM.upd hn,B3 _,fun _ _=>rfl⟩
 have at_:∀j d,(M.set i .dead)[j]?=some d->d≠.dead->j≠i/\M[j]?=some d:=fun j d h hd=>by
  by_cases q:i=j
  .subst q;rw[E6 lt]at h;exact absurd (D5 h).symm hd
  .rw[D6 q]at h;exact⟨fun z=>q z.symm,h⟩
 refine⟨_,e,⟨fun c o hc=>?_,by show W.n=_;rw[G.n,S3],fun j d hj hd=>?_,fun j k d1 d2 hj hk e1 e2 he=>?_,G.tb.updF fun ps z=>by rw[hv]at z;cases z⟩,rfl,⟨_,vs,rfl,SqL.of bA,aK.same e.ff _ _ (fF hd rv)⟩⟩
 .have hc:upd W.F (W.α i) (.lst vs) c=some o:=hc;by_cases q:c=W.α i
  .subst q;rw[bA]at hc;cases hc;exact hv
  .rw[bB q]at hc;exact G.fh c o hc
 .obtain⟨q,h⟩:=at_ j d hj hd;obtain⟨k1,u,k2,k3⟩:=G.cs j d h hd;have ne:W.α j≠W.α i:=fun z=>q (G.inj j i d _ h hi hd (by intro z;cases z) z);exact⟨by show upd W.F (W.α i) (.lst vs) (W.α j)=none;rw[bB ne];exact k1,u,k2,k3.up e⟩
 .exact G.inj j k d1 d2 (at_ j d1 hj e1).2 (at_ k d2 hk e2).2 e1 e2 he
noncomputable def eH(f:EF):EF:=fun γ M=>(f γ M).bind fun r=>match r.1 with
 |.c i=>match r.2[i]? with
  |some (.lst xs)=>(kO xs).bind fun ds=>some (.d (.list ds),r.2.set i .dead)
  |_=>none
 |.d x=>some (.d x,r.2)
 |_=>none
theorem PK{t:TE}{f:EF}(a:SE K t f):SE K t (eH f):=by
 intro γ M x M' hh W H σ Q G R k;obtain⟨⟨o,M1⟩,h1,hh⟩:=aP hh;revert hh;dsimp only;split
 .rename_i i;split
  .rename_i xs hx;intro hh;obtain⟨ds,h2,hh⟩:=aP hh;cases hh;refine a _ _ _ _ h1 W H σ _ G R fun v W1 H1 e1 G1 r1=>?_;obtain⟨W2,e2,G2,_,r2⟩:=G1.freezeL hx h2;rw[r1.2];exact k _ W2 H1 (e1.trans e2) G2 r2
  .intro hh;cases hh
 .intro hh;cases hh;exact a _ _ _ _ h1 W H σ _ G R k
 .intro hh;cases hh
theorem rQ{ι:Type}{X:ι->Cx}{e:Expr}{f:EF}(x:ME K X e f):ME K X e (eH f):=by
 obtain⟨t,x1,x2⟩:=x.ex;exact⟨t,x1,PK x2⟩
noncomputable def BO:FN:=fun xs M=>match xs with
 |[.d a]=>(aM a).bind fun ds=>some (.c M.length,M++[.lst (ds.map .d)])
 |[.c i]=>match M[i]? with
  |some (.lst ys)=>some (.c M.length,M++[.lst ys])
  |_=>none
 |_=>none
theorem RX:PN K (KI K) BO:=by
 intro xs M z M' h W H vs Q G r k;unfold BO at h;split at h
 .rename_i a;obtain⟨ds,h1,h⟩:=aP h;cases h;rcases r with _|⟨r1,_|_⟩;obtain⟨p,us,rfl,hs,hr⟩:=kJ (show Rep K W.F a _ from r1) h1;refine⟨p,us,rfl,hs.elim (fun q=>.inl (G.fh.seq q)) (fun q=>.inr (G.fh.seqT q)),fun l hl=>?_⟩;exact k _ (W.more l) _ (W.ext_more l) (G.new hl (c:=.lst (ds.map .d)) (o:=.lst us) (fK hr)) G.newV
 .rename_i i;split at h
  .rename_i ys hy;cases h;rcases r with _|⟨r1,_|_⟩;obtain⟨us,hv,hr⟩:=G.lstAt hy;refine⟨_,us,by rw[r1.2],.inl (SqL.of hv),fun l hl=>?_⟩;exact k _ (W.more l) _ (W.ext_more l) (G.new hl (c:=.lst ys) (o:=.lst us) hr) G.newV
  .cases h
 .cases h
theorem ZT{ι:Type}{X:ι->Cx}(hK:∀i,(X i).K=K):QN K X (.type "list") BO:=⟨_,fun i=>aBo (hK i),RX⟩
noncomputable def eqC(neg:Bool):F2:=fun x y M=>(snap 5 M x).bind fun a=>(snap 5 M y).bind fun b=>if (SeqAt.shaped a&&SeqAt.shaped b)=true then some (.d (.bool (if neg then !PyData.eqv a b else PyData.eqv a b)),M)else none
theorem QP{neg:Bool}:P2 K (HS K neg) (eqC neg):=by
 intro x y M z M' h W H v u Q G rx ry k;obtain⟨a,h1,h⟩:=aP h;obtain⟨b,h2,h⟩:=aP h;by_cases hs:(SeqAt.shaped a&&SeqAt.shaped b)=true
 .rw[A4 hs]at h;cases h;rw[B5]at hs;exact⟨a,b,rA G 5 x a v h1 rx,rA G 5 y b u h2 ry,hs.1,hs.2,k _ W H (.refl _) G rfl⟩
 .rw[B0 hs]at h;cases h
noncomputable def eqY(neg:Bool):F2:=DH (eqX neg) (eqC neg)
theorem aEx{ι:Type}{X:ι->Cx}(hK:∀i,(X i).K=K)(hu:∀i,(X i).A.units+64<cLine):Q2 K X (compareOp .Eq) (eqY false):=⟨_,fun i=>(kEq (hK i) (hu i)).or (show OpR (X i) (compareOp .Eq) (HS K false)by have:=UP (X:=X i) (hu i);rw[hK i]at this;exact this),P2.or TX QP⟩
theorem VO{ι:Type}{X:ι->Cx}(hK:∀i,(X i).K=K)(hu:∀i,(X i).A.units+64<cLine):Q2 K X (compareOp .NotEq) (eqY true):=⟨_,fun i=>(kNe (hK i) (hu i)).or (show OpR (X i) (compareOp .NotEq) (HS K true)by have:=UO (X:=X i) (hu i);rw[hK i]at this;exact this),P2.or QY QP⟩
end
noncomputable abbrev IPF:=Ga->Sto->Option ((List CD×(Sto->Prop))×Sto)
noncomputable def aDX(K:Fg)(J:It)(P:Sto->Prop)(xs:List CD)(W:Wd):Prop:=∀W' M' H',W.Ext W'->Good K W' M' H'->P M'->
 (∀i x,xs[i]?=some x->J.go i H'/\∀y H'',J.yld i H' y H''->∃W'',W'.Ext W''/\Good K W'' M' H''/\dS K W'' x y)/\J.stop xs.length H'
noncomputable def SIP(K:Fg)(wi:TI)(f:IPF):Prop:=∀γ M xs P M',f γ M=some ((xs,P),M')->∀(W:Wd)(H:Hp)(σ:St)(R:It->Hp->Prop),Good K W M H->gG K W γ σ->(∀J W' H',W.Ext W'->Good K W' M' H'->aDX K J P xs W'->R J H')->wi σ H R
noncomputable def walked(M:Sto):CD->Option (List CD×(Sto->Prop))
 |.d x=>(aM x).bind fun ds=>some (ds.map .d,fun _=>True)
 |.c i=>match M[i]? with
  |some (.lst xs)=>some (xs,fun M'=>M'[i]?=some (.lst xs))
  |_=>none
 |_=>none
noncomputable def uL(f:EF):IPF:=fun γ M=>(f γ M).bind fun r=>(walked r.2 r.1).bind fun p=>some (p,r.2)
section
variable{K:Fg}{ta:TE}{f:EF}{fp:IPF}{tg:TG}{hg:GF}{t:TS}{p:SF}
theorem JT{M:Sto}{x:CD}{v:V}{xs:List CD}{P:Sto->Prop}(h:walked M x=some (xs,P))(G:Good K W M H)(r:dS K W x v):
 ∃a,v=.ref a/\((∃vs,SqL K H a vs)/\(∀W' M' H',W.Ext W'->Good K W' M' H'->P M'->∃vs,SqL K H' a vs/\cJ K W' xs vs)\/(∃vs,SqT K H a vs)/\∀W' M' H',W.Ext W'->Good K W' M' H'->P M'->∃vs,SqT K H' a vs/\cJ K W' xs vs):=by
 unfold walked at h;split at h
 .rename_i y;obtain⟨ds,h2,h⟩:=aP h;cases h;obtain⟨a,vs,rfl,hs,hr⟩:=kJ (show Rep K W.F y v from r) h2;refine⟨a,rfl,?_⟩;rcases hs with hs|hs
  .exact .inl ⟨⟨vs,G.fh.seq hs⟩,fun W' M' H' e G' _=>⟨vs,G'.fh.seq (e.ff.seq hs),cJ.up (fK hr) e⟩⟩
  .exact .inr ⟨⟨vs,G.fh.seqT hs⟩,fun W' M' H' e G' _=>⟨vs,G'.fh.seqT (e.ff.seqT hs),cJ.up (fK hr) e⟩⟩
 .rename_i i;split at h
  .rename_i ys hy;cases h;obtain⟨vs,hv,hr⟩:=G.lstAt hy;refine⟨_,r.2,.inl ⟨⟨vs,SqL.of hv⟩,fun W' M' H' e G' hP=>?_⟩⟩;obtain⟨us,hu,hr'⟩:=G'.lstAt hP;rw[e.al i r.1]at hu;exact⟨us,SqL.of hu,hr'⟩
  .cases h
 .cases h
theorem aAn(a:SE K ta f):SIP K (aAs K ta) (uL f):=by
 intro γ M xs P M' hh W H σ R G Rs k;obtain⟨⟨y,M1⟩,h1,hh⟩:=aP hh;obtain⟨q,h2,hh⟩:=aP hh;cases hh;refine a _ _ _ _ h1 W H σ _ G Rs fun v W1 H1 e1 G1 r1=>?_;obtain⟨l,rfl,hw⟩:=JT h2 G1 r1;refine⟨l,rfl,?_⟩;rcases hw with⟨⟨vs,hv⟩,hw⟩|⟨⟨vs,hv⟩,hw⟩
 .refine .inl ⟨vs,hv,k _ W1 H1 e1 G1 fun W2 M2 H2 e2 G2 hP=>?_⟩;obtain⟨us,hu,hr⟩:=hw W2 M2 H2 e2 G2 hP;refine⟨fun i x hx=>?_,us,hu,by rw[Paired.len hr];exact B3 _⟩;obtain⟨u,hu',ru⟩:=Paired.get hr hx;refine⟨⟨us,u,hu,hu'⟩,fun y H3 hy=>⟨W2,.refl _,by rw[hy.1];exact G2,?_⟩⟩;have:=hy.2 us hu;rw[hu']at this;cases this;exact ru
 .refine .inr ⟨vs,hv,k _ W1 H1 e1 G1 fun W2 M2 H2 e2 G2 hP=>?_⟩;obtain⟨us,hu,hr⟩:=hw W2 M2 H2 e2 G2 hP;refine⟨fun i x hx=>?_,us,hu,by rw[Paired.len hr];exact B3 _⟩;obtain⟨u,hu',ru⟩:=Paired.get hr hx;refine⟨⟨us,u,hu,hu'⟩,fun y H3 hy=>⟨W2,.refl _,by rw[hy.1];exact G2,?_⟩⟩;have:=hy.2 us hu;rw[hu']at this;cases this;exact ru
end
section
variable{X:Cx}{a b:Expr}{ta:TA}{p p' pos pos':Pos}
noncomputable def qB(lo:Int)(n:Nat):List V:=(List.range n).map fun(i:Nat)=>V.int (lo+(i:Nat))
theorem BY{lo:Int}{n:Nat}{acc:Array Value}(h:ItemsOf (fun i v=>∃t,v=.int (lo+i*1) t) acc n):bQ (qB lo n) acc.toList:=by
 have key:∀(k:Nat)(l:List Value)(m:Nat),l.length=k->(∀j v,l[j]?=some v->∃t,v=Value.int (lo+((m+j:Nat):Int)*1) t)->bQ ((List.range' m k).map fun(i:Nat)=>V.int (lo+(i:Nat))) l:=by
  intro k
  induction k with
  |zero=>intro l m hl _;rw[List.eq_nil_of_length_eq_zero hl];exact .nil
  |succ k ih=>
   intro l m hl hv
   match l,hl,hv with
   |v::l,hl,hv=>
    obtain⟨t,rfl⟩:=hv 0 v rfl;rw[List.range'_succ,B6];refine .cons ⟨t,by simp⟩ (ih l (m+1) (Nat.succ.inj hl) fun j v e=>?_);obtain⟨t',e'⟩:=hv (j+1) v e;exact⟨t',by rw[e'];congr 2;omega⟩
 have:=key n acc.toList 0 (by rw[Z3];exact h.1) fun j v e=>by
  obtain⟨t,e'⟩:=h.2 j v (by rw[<- Y5];exact e);exact⟨t,by rw[e',Nat.zero_add]⟩
 unfold qB;rw[List.range_eq_range'];exact this
theorem VM{pins:List (Addr×Obj)}{σ:St}{s:Shared}{Q:VK}{lo hi:Int}{t u v:Tok}{tk:Nat}(hc:X.calm=true)(I:Inv X pins σ H s)(h1:-(2 ^ 62)<=lo)(h2:lo<2 ^ 62)(h3:-(2 ^ 62)<=hi)(h4:hi<2 ^ 62)(hz:(hi-lo).toNat<=sizeLine)
 (q:∀l,H l=none->Q (.ref l) (upd H l (.lst (qB lo (hi-lo).toNat)))):
 wpAny (model X.prog X.w) X.A (call (.type "list") [.ref s.heap.objs.size]) (fun v s'=>∃x H',Inv X pins σ H' s'/\RelV x v/\Q x H') X.xe { s with heap:=s.heap.push { cls:=.type "range",data:=.fields #[.int lo t,.int hi u,.int 1 v] },toks:=tk }:=by
 have hsz:(hi-lo).toNat<=2 ^ 24:=by rw[J9]at hz;exact hz
 refine call_list_range (n:=(hi-lo).toNat) (I.ok.hd hc) (IsRange.new ..) (small_one h1 h2 h3 h4) (by rw[rangeSize_one];split<;>omega) hsz fun h' tk' acc c hk hS hacc=>?_;have I1:Inv X pins σ H { s with heap:=s.heap.push { cls:=.type "range",data:=.fields #[.int lo t,.int hi u,.int 1 v] },toks:=tk }:=I.kept fun b o e=>A1 _ e;refine⟨.ref _,upd H _ (.lst (qB lo (hi-lo).toNat)),I1.laid (t':=tk') hk (B3 _) ⟨by rw[qB,A0,E9];exact hz,acc.toList,c,BY hacc,by simpa using hS⟩,rfl,q _ (I1.hok.fresh (B3 _))⟩
end
section
variable{K:Fg}{tA:TA}{fa:AF}
noncomputable def DM(lo:Int)(n:Nat):List PyData:=(List.range n).map fun(i:Nat)=>.int (lo+(i:Nat))
theorem MP{lo:Int}{n:Nat}:aK K H (DM lo n) (qB lo n):=by
 unfold DM qB;generalize List.range n=l
 induction l with
 |nil=>rfl
 |cons i l ih=>exact⟨_,_,rfl,rfl,ih⟩
theorem OX{lo:Int}{n:Nat}:cJ K W (kP lo n) (qB lo n):=by
 unfold kP qB;generalize List.range n=l
 induction l with
 |nil=>exact .nil
 |cons i l ih=>exact .cons rfl ih
end
noncomputable def Itz(K:Fg)(l1 l2:Addr):It:=
 ⟨fun i H=>∃xs ys x y,SqL K H l1 xs/\SqL K H l2 ys/\xs[i]?=some x/\ys[i]?=some y,
  fun i H v H'=>∃p x y,H p=none/\v=.ref p/\H'=upd H p (.tup [x,y])/\(∀xs,SqL K H l1 xs->xs[i]?=some x)/\∀ys,SqL K H l2 ys->ys[i]?=some y,
  fun i H=>∃xs ys,SqL K H l1 xs/\SqL K H l2 ys/\(xs[i]?=none\/ys[i]?=none)⟩
noncomputable def tnZ(z TI TO i1 i2 l1 l2:Addr)(i:Nat)(h:Heap):Prop:=IsZip h z TI TO .none/\IsPair h TI (.ref i1) (.ref i2)/\(∃a b,IsPair h TO a b)/\h.IsListIter i1 l1 i/\h.IsListIter i2 l2 i
structure Apart5(z TI TO i1 i2:Addr):Prop where
 TIz:TI≠z
 TOz:TO≠z
 i1z:i1≠z
 i2z:i2≠z
 TITO:TI≠TO
 TIi1:TI≠i1
 TIi2:TI≠i2
 TOi1:TO≠i1
 TOi2:TO≠i2
 i12:i1≠i2
theorem CQ(n:Nat):Apart5 (n+4) (n+2) (n+3) n (n+1):=by
 have key:∀a b:Nat,¬a=b->(a:Addr)≠b:=fun _ _ h=>h;exact⟨key _ _ (by omega),key _ _ (by omega),key _ _ (by omega),key _ _ (by omega),key _ _ (by omega),key _ _ (by omega),key _ _ (by omega),key _ _ (by omega),key _ _ (by omega),key _ _ (by omega)⟩
section
variable{P:Program}{w:World}{K:Fg}{elts:List Expr}{x1:Nat}{tpos:Pos}{z TI TO i1 i2 l1 l2:Addr}
theorem CH{h:Heap}{i:Nat}{xs ys:Array Value}(A5:Apart5 z TI TO i1 i2)(st:tnZ z TI TO i1 i2 l1 l2 i h)(h1:h.IsList l1 xs)(h2:h.IsList l2 ys):ZipApart z TI TO i1 i2 l1 l2:=by
 obtain⟨hz,hTI,⟨a,b,hTO⟩,⟨o1,e1,c1,d1⟩,⟨o2,e2,c2,d2⟩⟩:=st
 have nl:∀(l:Addr)(ws:Array Value),h.IsList l ws->∀(b:Addr)(o:Obj),h.get? b=some o->o.cls≠.type "list"->l≠b:=fun l ws hl b o e n q=>by
  subst q;obtain⟨o',e',c',_⟩:=hl;rw[e]at e';cases e';exact n c'
 have nz:(Value.type "zip")≠.type "list":=by intro q;injection q with q;exact absurd q (by decide)
 have nt:(Value.type "tuple")≠.type "list":=by intro q;injection q with q;exact absurd q (by decide)
 have ni:(Value.type "list_iterator")≠.type "list":=by intro q;injection q with q;exact absurd q (by decide)
 exact⟨A5.TIz,A5.TOz,A5.i1z,A5.i2z,A5.TITO,A5.TIi1,A5.TIi2,A5.TOi1,A5.TOi2,A5.i12,
  nl l1 xs h1 z _ hz nz,nl l1 xs h1 TO _ hTO nt,nl l1 xs h1 i1 _ e1 (by rw[c1];exact ni),nl l1 xs h1 i2 _ e2 (by rw[c2];exact ni),
  nl l2 ys h2 z _ hz nz,nl l2 ys h2 TO _ hTO nt,nl l2 ys h2 i1 _ e1 (by rw[c1];exact ni),nl l2 ys h2 i2 _ e2 (by rw[c2];exact ni)⟩
theorem WZ(A5:Apart5 z TI TO i1 i2):Turn P w K (.Tuple elts x1 tpos) (Itz K l1 l2) [z,TI,TO,i1,i2] z (tnZ z TI TO i1 i2 l1 l2) where
 mem:=by simp
 obj:=fun i h st b hb=>by
  obtain⟨hz,hTI,⟨a,c,hTO⟩,⟨o1,e1,_,d1⟩,⟨o2,e2,_,d2⟩⟩:=st;simp only[List.mem_cons,List.not_mem_nil,or_false]at hb;rcases hb with rfl|rfl|rfl|rfl|rfl
  .exact⟨_,hz,fun v q=>by cases q⟩
  .exact⟨_,hTI,fun v q=>by cases q⟩
  .exact⟨_,hTO,fun v q=>by cases q⟩
  .exact⟨_,e1,fun v q=>by rw[d1]at q;cases q⟩
  .exact⟨_,e2,fun v q=>by rw[d2]at q;cases q⟩
 keep:=fun i h h' st k=>by
  obtain⟨hz,hTI,⟨a,c,hTO⟩,h1,h2⟩:=st;exact⟨k z (by simp) _ hz,k TI (by simp) _ hTI,⟨a,c,k TO (by simp) _ hTO⟩,h1.at fun o e=>k i1 (by simp) o e,h2.at fun o e=>k i2 (by simp) o e⟩
 item:=by
  intro X hP hw hK hc i pins s σ H E I hf st hg;subst hP hw hK;obtain⟨xs,ys,x,y,hq1,hq2,hx,hy⟩:=hg;obtain⟨its,rv,p,_⟩:=I.list hq1;obtain⟨jts,rw',p',_⟩:=I.list hq2;obtain⟨u,hu,ru⟩:=rv.get hx;obtain⟨v,hv,rv'⟩:=rw'.get hy;have D:=CH A5 st p.isList p'.isList;obtain⟨hz,hTI,⟨a,c,hTO⟩,h1,h2⟩:=id st;refine wpAny_pyNext_zip_item D hz hTI hTO h1 h2 p.isList p'.isList (x:=u) (y:=v) (by simpa using hu) (by simpa using hv) fun h' a1 a2 a3 a4 a5 a6 hk=>⟨_,rfl,?_⟩;refine wpAny_letOwnedTupleGo_zip a1 fun h2' hz2 sb=>?_
  have lt:∀b∈[z,TI,TO,i1,i2],s.heap.objs.size≠b:=fun b hb q=>by
   obtain⟨o1,e1,_⟩:=id h1;obtain⟨o2,e2,_⟩:=id h2;simp only[List.mem_cons,List.not_mem_nil,or_false]at hb
   have:∃o,s.heap.get? b=some o:=by
    rcases hb with rfl|rfl|rfl|rfl|rfl
    .exact⟨_,hz⟩
    .exact⟨_,hTI⟩
    .exact⟨_,hTO⟩
    .exact⟨_,e1⟩
    .exact⟨_,e2⟩
   obtain⟨o,e⟩:=this;rw[<- q]at e;exact absurd (B7 e) (I0 _)
  have kk:∀b o,b∉[z,TI,TO,i1,i2]->s.heap.get? b=some o->h2'.get? b=some o:=fun b o hb q=>by
   simp only[List.mem_cons,List.not_mem_nil,or_false,not_or]at hb;exact(sb.2 b hb.1).trans (hk b o hb.1 hb.2.2.1 hb.2.2.2.1 hb.2.2.2.2 q)
  have ht2:h2'.get? s.heap.objs.size=some { cls:=.type "tuple",data:=.seq #[u,v] }:=(sb.2 _ (lt z (by simp))).trans a5
  have I2:Inv X pins σ (upd H s.heap.objs.size (.tup [x,y])) { s with heap:=h2',toks:=s.toks }:=
   I.turnLay hf kk (B3 _) ⟨by show 2<=sizeLine;rw[J9];decide,[u,v],.cons ru (.cons rv' .nil),⟨_,ht2,rfl,_,rfl⟩⟩
  refine⟨.ref s.heap.objs.size,_,I2,rfl,⟨_,x,y,I.hok.fresh (B3 _),rfl,rfl,fun ws hw=>by rw[I.list_inj hw hq1];exact hx,fun ws hw=>by rw[I.list_inj hw hq2];exact hy⟩,⟨hz2,?_,⟨_,_,(sb.2 TO A5.TOz).trans a2⟩,a3.at fun o e=>(sb.2 i1 A5.i1z).trans e,a4.at fun o e=>(sb.2 i2 A5.i2z).trans e⟩,fun b hb=>?_⟩
  .exact(sb.2 TI A5.TIz).trans (hk TI _ A5.TIz A5.TITO A5.TIi1 A5.TIi2 hTI)
  .rw[bB (fun q=>lt b hb q.symm)];exact(hf b hb).1
 done:=by
  intro X hP hw hK hc i pins s σ H E I hf st hg;subst hP hw hK;obtain⟨xs,ys,hq1,hq2,hend⟩:=hg;obtain⟨its,rv,p,_⟩:=I.list hq1;obtain⟨jts,rw',p',_⟩:=I.list hq2;have D:=CH A5 st p.isList p'.isList;obtain⟨hz,hTI,⟨a,c,hTO⟩,h1,h2⟩:=id st;have l1':=rv.length;have l2':=rw'.length;refine wpAny_pyNext_zip_end (I.ok.hd hc) D hz hTI hTO h1 h2 p.isList p'.isList ?_ fun h' hk=>⟨rfl,I.turnF (t':=s.toks) hf fun b o hb q=>?_⟩
  .rcases hend with e|e
   .refine .inl ?_;have:=List.getElem?_eq_none_iff.mp e;exact Array.getElem?_eq_none (by rw[C6];omega)
   .refine .inr ?_;have:=List.getElem?_eq_none_iff.mp e;exact Array.getElem?_eq_none (by rw[C6];omega)
  .simp only[List.mem_cons,List.not_mem_nil,or_false,not_or]at hb;exact hk b o hb.1 hb.2.2.1 hb.2.2.2.1 hb.2.2.2.2 q
 self:=fun A i s Q E st h=>wpAny_pyIter_zip st.1 h
end
section
variable{X:Cx}{elts:List Expr}{x1:Nat}{tpos:Pos}
theorem boot_zip:bootBuiltins "zip"=some (.type "zip"):=by decide +kernel
end
noncomputable def nR:List PyData->List PyData->List CD
 |x::xs,y::ys=>.d (.tuple [x,y])::nR xs ys
 |_,_=>[]
theorem zD:∀{xs ys:List PyData}{i:Nat}{x:CD},(nR xs ys)[i]?=some x->∃a b,xs[i]?=some a/\ys[i]?=some b/\x=.d (.tuple [a,b])
 |[],_,i,x=>fun h=>by unfold nR at h;cases i<;>cases h
 |_::_,[],i,x=>fun h=>by unfold nR at h;cases i<;>cases h
 |a::xs,b::ys,0,x=>fun h=>⟨a,b,rfl,rfl,by unfold nR at h;exact(D5 h).symm⟩
 |a::xs,b::ys,i+1,x=>fun h=>by
  obtain⟨c,d,h1,h2,h3⟩:=zD (xs:=xs) (ys:=ys) (i:=i) (by unfold nR at h;exact h);exact⟨c,d,h1,h2,h3⟩
theorem GY:∀{xs ys:List PyData},xs[(nR xs ys).length]?=none\/ys[(nR xs ys).length]?=none
 |[],_=>.inl rfl
 |_::_,[]=>.inr rfl
 |a::xs,b::ys=>by
  show(a::xs)[(nR xs ys).length+1]?=none\/(b::ys)[(nR xs ys).length+1]?=none;exact GY (xs:=xs) (ys:=ys)
end L2
namespace PySem
open Sem (wp)
namespace F
end F
end PySem
namespace L2
open PySem PySem.Spec PyProof.Rows
theorem fX.le{ι:Type}{j k:Nat}{A:Around}{q:Bool}(r:fX k A q)(h:j<=k:=by decide):ι->fX j A q:=fun _=>r.mono h
section
variable{K:Fg}
noncomputable def inC(neg:Bool):F2:=fun x y M=>(snap 5 M x).bind fun a=>(snap 5 M y).bind fun b=>(aM b).bind fun ds=>if (SeqAt.shaped a&&ds.all SeqAt.shaped)=true then some (.d (.bool (if neg then !ds.any fun d=>PyData.eqv d a else ds.any fun d=>PyData.eqv d a)),M)else none
theorem aDj{neg:Bool}:P2 K (OJ K neg) (inC neg):=by
 intro x y M z M' h W H v u Q G rx ry k;obtain⟨a,h1,h⟩:=aP h;obtain⟨b,h2,h⟩:=aP h;obtain⟨ds,h3,h⟩:=aP h;by_cases hs:(SeqAt.shaped a&&ds.all SeqAt.shaped)=true
 .rw[A4 hs]at h;cases h;rw[B5]at hs;obtain⟨p,vs,rfl,hq,hr⟩:=kJ (rA G 5 y b u h2 ry) h3;exact⟨a,ds,p,vs,rA G 5 x a v h1 rx,rfl,hq,hr,hs.1,hs.2,k _ W H (.refl _) G rfl⟩
 .rw[B0 hs]at h;cases h
theorem WI{ι:Type}{X:ι->Cx}(hK:∀i,(X i).K=K)(hu:∀i,(X i).A.in1.units+64<cLine):Q2 K X (compareOp .NotIn) (inC true):=⟨_,fun i=>UB (hK i) (hu i),aDj⟩
end
theorem oH:∀{xs ys:List Int},xs.Pairwise (·<=·)->ys.Pairwise (·<=·)->xs.Perm ys->xs=ys
 |[],ys=>fun _ _ p=>(List.nil_perm.mp p).symm
 |x::xs,[]=>fun _ _ p=>by have:=p.length_eq;simp at this
 |x::xs,y::ys=>fun hx hy p=>by
  have h1:=List.pairwise_cons.mp hx;have h2:=List.pairwise_cons.mp hy
  have e:x=y:=by
   have a:y<=x:=by
    rcases List.mem_cons.mp (p.mem_iff.mp B2)with q|q
    .exact Int.le_of_eq q.symm
    .exact h2.1 x q
   have b:x<=y:=by
    rcases List.mem_cons.mp (p.mem_iff.mpr B2)with q|q
    .exact Int.le_of_eq q.symm
    .exact h1.1 y q
   omega
  subst e;rw[oH h1.2 h2.2 (List.perm_cons x |>.mp p)]
noncomputable def dW(ns:List Int):List Int:=ns.mergeSort fun a b=>decide (a<=b)
theorem eQ(ns:List Int):(dW ns).Perm ns:=List.mergeSort_perm _ _
theorem lK(ns:List Int):(dW ns).Pairwise (·<=·):=by
 have:=List.pairwise_mergeSort (le:=fun a b:Int=>decide (a<=b)) (fun a b c h1 h2=>C5 (Int.le_trans (D7 h1) (D7 h2))) (fun a b=>by simp;omega) ns;exact this.imp fun h=>D7 h
section
variable{K:Fg}
noncomputable def UJ(k:Nat)(γ:Ga)(M:Sto):Option (Ga×Sto):=match γ[k]? with
 |some (some (.c i))=>match M[i]? with
  |some (.lst xs)=>(kO xs).bind fun ds=>some (γ.set k (some (.d (.list ds))),M.set i .dead)
  |_=>none
 |_=>none
noncomputable def SJ(k:Nat)(f:SF):SF:=fun γ M=>(f γ M).bind fun r=>match r.1 with
 |.nx γ'=>(UJ k γ' r.2).bind fun q=>some (.nx q.1,q.2)
 |o=>some (o,r.2)
theorem zV{α β:Type}{R:α->β->Prop}:∀{xs:List α}{ys:List β}{k:Nat}{x:α}{y:β},Paired R xs ys->ys[k]?=some y->R x y->Paired R (xs.set k x) ys
 |_,_,0,x,y,.cons r t=>fun e h=>by cases e;exact .cons h t
 |_,_,k+1,x,y,.cons r t=>fun e h=>.cons r (zV t (by simpa using e) h)
 |_,_,0,x,y,.nil=>fun e h=>by cases e
 |_,_,k+1,x,y,.nil=>fun e h=>by cases e
theorem aDH{t:TS}{f:SF}{k:Nat}(a:SS K t f):SS K t (SJ k f):=by
 intro γ M o M' hh W H σ D G R c;obtain⟨⟨o1,M1⟩,h1,hh⟩:=aP hh;refine a _ _ _ _ h1 W H σ D G R fun W1 H1 e1 G1=>?_;cases o1 with
 |nx γ1=>
  obtain⟨⟨γ2,M2⟩,h2,hh⟩:=aP (show(UJ k γ1 M1).bind _=_ from hh);cases hh;unfold UJ at h2;split at h2
  .rename_i i hi;split at h2
   .rename_i xs hx;obtain⟨ds,h3,h2⟩:=aP h2;cases h2;intro σ1 R1;obtain⟨W2,e2,G2,_,r2⟩:=G1.freezeL hx h3;obtain⟨y,hy,ry⟩:=Paired.get R1 hi;refine c W2 H1 (e1.trans e2) G2 σ1 ?_;cases y with
    |none=>exact False.elim ry
    |some v=>
     refine zV (R1.up e2) hy ?_;rw[show v=.ref (W1.α i)from ry.2];exact r2
   .cases h2
  .cases h2
 |bk γ1=>cases hh;exact c W1 H1 e1 G1
 |ct γ1=>cases hh;exact c W1 H1 e1 G1
 |rt x=>cases hh;exact c W1 H1 e1 G1
end
section
variable{ι:Type}{K:Fg}{X:ι->Cx}{e a:Expr}{es:List Expr}{f:EF}{fa:AF}{sf:SF}{st:Stmt}{pos:Pos}
theorem aEp(k:Nat)(x:MS K X st sf):MS K X st (SJ k sf):=by
 obtain⟨t,x1,x2⟩:=x.ex;exact⟨_,x1,aDH x2⟩
end
open Classical in
noncomputable def lcP(P:Sto->Prop)(g:GF)(c:TF)(e:EF):List CD->Ga->Sto->Option (List CD×Sto)
 |[],γ,M=>if P M then some ([],M)else none
 |x::xs,γ,M=>if P M then(g x γ M).bind fun a=>(c a.1 a.2).bind fun b=>if b.1=true then(e a.1 b.2).bind fun r=>(lcP P g c e xs a.1 r.2).bind fun q=>some (r.1::q.1,q.2)else lcP P g c e xs a.1 b.2 else none
noncomputable def VD(cap:List (Option Nat))(f:IPF)(g:GF)(c:TF)(e:EF):AF:=fun γ M=>(f γ M).bind fun r=>if r.1.1.length<=sizeLine then lcP r.1.2 g c e r.1.1 (mL cap γ) r.2 else none
noncomputable def aDL(cap:List (Option Nat))(f:IPF)(g:GF)(c:TF)(e:EF):EF:=dU (VD cap f g c e)
section
variable{K:Fg}{tg:TG}{tt:TT}{hg:GF}{ft:TF}{fa:IPF}{te:TE}{fe:EF}
theorem QK{P:Sto->Prop}{xs:List CD}{γ:Ga}{M:Sto}{r:List CD×Sto}(h:lcP P hg ft fe xs γ M=some r):P M:=by
 by_cases hP:P M
 .exact hP
 .cases xs<;>unfold lcP at h<;>rw[B0 hP]at h<;>cases h
theorem DA{P:Sto->Prop}:∀{xs:List CD}{γ:Ga}{M:Sto}{ys:List CD}{M':Sto},lcP P hg ft fe xs γ M=some (ys,M')->ys.length<=xs.length
 |[],γ,M,ys,M'=>fun h=>by
  have hP:=QK h;unfold lcP at h;rw[A4 hP]at h;cases h;exact B3 _
 |x::xs,γ,M,ys,M'=>fun h=>by
  have hP:=QK h;unfold lcP at h;rw[A4 hP]at h;obtain⟨⟨γ1,M1⟩,_,h⟩:=aP h;obtain⟨⟨b,M2⟩,_,h⟩:=aP h;cases b with
  |true=>
   rw[A4 rfl]at h;obtain⟨⟨z,M3⟩,_,h⟩:=aP h;obtain⟨⟨zs,M4⟩,h4,h⟩:=aP h;cases h;have:=DA h4;simp only[List.length_cons];omega
  |false=>
   rw[B0 A9]at h;have:=DA h;simp only[List.length_cons];omega
theorem aDQ{wi:TI}{cap:List (Option Nat)}(i:SIP K wi fa)(a:SG K tg hg)(c:STt K tt ft)(b:SE K te fe):SE K (tLc cap wi tg tt te) (aDL cap fa hg ft fe):=by
 intro γ M x M' hh W H σ Q G R k;obtain⟨⟨xs,M8⟩,h8,hh⟩:=aP hh;have hh:(if xs.length<=sizeLine then some (CD.c M8.length,M8++[Cell.lst xs])else none)=some (x,M'):=hh;obtain⟨⟨⟨ys,P⟩,M1⟩,h1,h9⟩:=aP h8;have h9:(if ys.length<=sizeLine then lcP P hg ft fe ys (mL cap γ) M1 else none)=some (xs,M8):=h9;by_cases hl:ys.length<=sizeLine
 .rw[A4 hl]at h9;rw[A4 (J4 (DA h9) hl)]at hh;cases hh;refine i _ _ _ _ _ h1 W H σ _ G R fun J W1 H1 e1 G1 gv=>?_
  refine⟨fun j m acc σ' H'=>∃γ' M2 W2 pre suf,j<=ys.length/\m=ys.length-j/\acc.length<=j/\W1.Ext W2/\Good K W2 M2 H'/\gG K W2 γ' σ'/\cJ K W2 pre acc/\pre++suf=xs/\lcP P hg ft fe (ys.drop j) γ' M2=some (suf,M8),
   ⟨_,mL cap γ,M1,W1,[],xs,F9 _,rfl,F9 _,.refl _,G1,EM (R.up e1) cap,.nil,rfl,h9⟩,?_⟩
  rintro j m acc σ' H' ⟨γ',M2,W2,pre,suf,hj,rfl,hacc,e2,G2,R2,rp,hx,h2⟩;have hP:=QK h2;obtain⟨gv1,gv2⟩:=gv W2 M2 H' e2 G2 hP;by_cases hlt:j<ys.length
  .obtain⟨go,yl⟩:=gv1 j ys[j] (A8 hlt);rw[List.drop_eq_getElem_cons hlt]at h2;unfold lcP at h2;rw[A4 hP]at h2;refine .inr ⟨go,by omega,fun acc3 σ3 H3=>∃γ3 M3 W3 pre3 suf3,acc3.length<=j+1/\W2.Ext W3/\Good K W3 M3 H3/\gG K W3 γ3 σ3/\cJ K W3 pre3 acc3/\pre3++suf3=xs/\lcP P hg ft fe (ys.drop (j+1)) γ3 M3=some (suf3,M8),?_,fun y H3 hy=>?_⟩
   .rintro acc3 σ3 H3 ⟨γ3,M3,W3,pre3,suf3,hl3,e3,G3,R3,rp3,hx3,h3⟩;exact⟨_,by omega,γ3,M3,W3,pre3,suf3,hlt,rfl,hl3,e2.trans e3,G3,R3,rp3,hx3,h3⟩
   .obtain⟨W8,e8,G8,ry⟩:=yl y H3 hy;obtain⟨⟨γ4,M4⟩,h4,h2⟩:=aP h2;obtain⟨⟨b5,M5⟩,h5,h2⟩:=aP h2;refine a _ _ _ _ _ h4 W8 _ σ' y _ G8 (R2.up e8) ry fun σ4 W4 H4 e4 G4 R4=>?_;refine c _ _ _ _ h5 W4 H4 σ4 _ G4 R4 fun W5 H5 e5 G5=>?_;have e25:=(e8.trans e4).trans e5;cases b5 with
    |true=>
     rw[A4 rfl]at h2;obtain⟨⟨z,M6⟩,h6,h2⟩:=aP h2;obtain⟨⟨zs,M7⟩,h7,h2⟩:=aP h2;cases h2;refine .inl ⟨rfl,b _ _ _ _ h6 W5 H5 σ4 _ G5 (R4.up e5) fun v W6 H6 e6 G6 r6=>?_⟩;exact⟨γ4,M6,W6,pre++[z],zs,by rw[A7];simp only[List.length_singleton];omega,e25.trans e6,G6,R4.up (e5.trans e6),Paired.app (cJ.up rp (e25.trans e6)) (.cons r6 .nil),by rw[<- hx,F7];rfl,h7⟩
    |false=>
     rw[B0 A9]at h2;exact .inr ⟨rfl,γ4,M5,W5,pre,suf,by omega,e25,G5,R4.up e5,cJ.up rp e25,hx,h2⟩
  .have e:j=ys.length:=by omega
   subst e;rw[List.drop_length]at h2;unfold lcP at h2;rw[A4 hP]at h2;cases h2;rw[E7]at hx;subst hx;exact .inl ⟨gv2,fun p hp=>k _ _ _ ((e1.trans e2).trans (W2.ext_more p)) (G2.new hp (c:=.lst pre) (o:=.lst acc) rp) G2.newV⟩
 .rw[B0 hl]at h9;cases h9
end
section
variable{ι:Type}{K:Fg}{X:ι->Cx}{N':List Str}{cap:List (Option Nat)}{scope:Scope}{tg iter elt:Expr}{ifs:List Expr}{f fi:EF}{gf:GF}{ft:TF}{pos:Pos}
theorem aBR(hc:∀i,(X i).calm=true)(hK:∀i,(X i).K=K)(S:∀i,tI (X i) N' cap scope)(x:ME K X iter fi)(y:MG K (qA X N' scope) tg gf)(z:MF K (qA X N' scope) ifs ft)(w:ME K (qA X N' scope) elt f)(hs:∀(env:Env)(x:Value),foldedSetIterable iter env x=pure x:=by intro _ _;rfl):
 ME K X (.ListComp elt [⟨tg,iter,ifs,0⟩] scope pos) (aDL cap (uL fi) gf ft f):=by
 obtain⟨t,x1,x2⟩:=x.ex;obtain⟨u,y1,y2⟩:=y.ex;obtain⟨v,z1,z2⟩:=z.ex;obtain⟨o,w1,w2⟩:=w.ex;exact⟨_,fun i=>aBv (hc i) (S i) (LR (hK i) (x1 i)) (fun C s H fp pn=>y1 (i,C,s,H,fp,pn)) (fun C s H fp pn=>z1 (i,C,s,H,fp,pn)) (fun C s H fp pn=>w1 (i,C,s,H,fp,pn)) (hs _),aDQ (aAn x2) y2 z2 w2⟩
theorem TY(hK:∀i,(X i).K=K):Q2 K X (binaryOp .Add) FI:=⟨_,fun i=>(show OpR (X i) (binaryOp .Add) (HY K)by have:=op_catS (X:=X i);rw[hK i]at this;exact this),aAQ⟩
end
end L2
namespace HT
open PySem  PySem.Spec PyProof.Rows
theorem fm_congr{α β:Type}{f g:α->Option β}:∀{l:List α},(∀x∈l,f x=g x)->l.filterMap f=l.filterMap g
 |[]=>fun _=>rfl
 |x::l=>fun h=>by
  rw[U6,U6,h x B2,fm_congr fun y hy=>h y (B1 _ hy)]
theorem rev_pick{α:Type}(xs:List α):(List.range xs.length).filterMap (fun m=>xs[xs.length-1-m]?)=xs.reverse:=by
 have e:∀m∈List.range xs.length,xs[xs.length-1-m]?=xs.reverse[m]?:=fun m hm=>by
  rw[List.getElem?_reverse (List.mem_range.mp hm)]
 rw[fm_congr e];refine A0d fun i=>?_;have l:xs.length=xs.reverse.length:=List.length_reverse.symm;rw[l];generalize xs.reverse=ys;clear e l xs
 have:(List.range ys.length).filterMap (fun m=>ys[m]?)=ys:=by
  induction ys with
  |nil=>rfl
  |cons y ys ih=>
   rw[J5,List.range_succ_eq_map,U6];show y::_=_;rw[List.filterMap_map];congr 1
 rw[this]
section
variable{prog:Program}{w:World}{A:Around}{E:Value->Shared->Prop}{s:Shared}
theorem JC(n:Nat):Builtin.Slice.slicePlaces ((n:Int)-1) (-1) (-1)=n:=by
 unfold Builtin.Slice.slicePlaces;rw[B0 (by decide)];by_cases h:(n:Int)-1 > -1
 .rw[A4 h,show(-(-1:Int))=1 from rfl,Int.ediv_one];omega
 .rw[B0 h];omega
theorem wA{sl:Addr}{vs:Value}{n:Nat}{Q:Int×Int×Nat->Shared->Prop}(hs:s.heap.IsSliceOf sl .none .none vs)(ps:IsPart vs (some (-1)))
 (h:Q ((n:Int)-1,-1,n) s):wpAny (model prog w) A (Builtin.Slice.sliceApplied (.ref sl) (pure (n:Int))) Q E s:=by
 obtain⟨os,hos,hcs,hds⟩:=id hs;unfold Builtin.Slice.sliceApplied Builtin.Slice.sliceFields;refine A2 (A2 (L0 hos hds (x:=.none) rfl (A2 (L0 hos hds (x:=.none) rfl (A2 (L0 hos hds (x:=vs) rfl (B4 ?_)))))));refine A2 (sU ps ?_);show wpAny _ _ (if ((-1:Int)==0)=true then _ else _) _ _ s;rw[B0 (by decide)];refine A2 (slicePart_none (A2 (slicePart_none (A2 (B4 ?_)))));show wpAny _ _ (pure ((n:Int)-1,(-1:Int),Builtin.Slice.slicePlaces ((n:Int)-1) (-1) (-1))) _ _ s;rw[JC];exact B4 h
theorem QT(xs:Array Value):((List.range xs.size).filterMap fun(m:Nat)=>xs[((xs.size:Int)-1+(m:Int)*(-1)).toNat]?).toArray=xs.toList.reverse.toArray:=by
 have l:xs.size=xs.toList.length:=Array.length_toList.symm;rw[<- rev_pick xs.toList,l];congr 1;refine fm_congr fun m hm=>?_;have:=List.mem_range.mp hm;rw[show((xs.toList.length:Int)-1+(m:Int)*(-1)).toNat=xs.toList.length-1-m by omega,Y5]
theorem getItem_tuple_rev{t sl:Addr}{items:Array Value}{vs:Value}{Q:Value->Shared->Prop}(ht:IsTup s.heap t items)(hs:s.heap.IsSliceOf sl .none .none vs)(ps:IsPart vs (some (-1)))
 (h:Q (.ref s.heap.objs.size) { s with heap:=s.heap.push { cls:=.type "tuple",data:=.seq items.toList.reverse.toArray } })
 (hsz:items.size<=sizeLine):wpAny (model prog w) A (getItem (.ref t) (.ref sl)) Q E s:=by
 have htake:sizeOk (.seq items.toList.reverse.toArray):=by
  show items.toList.reverse.toArray.size<=sizeLine;rw[C6,S0,Z3];exact hsz
 obtain⟨os,hos,hcs,hds⟩:=id hs;have hTs:s.TypeIs (.ref sl) "slice":=⟨os,hos,hcs⟩;unfold getItem
 try with_reducible refine S5 ?_
 first|refine A2 (B4 ?_)|skip
 refine A2 (wpAny_sequenceKey ht.typeIs (by decide) ?_)
 refine A2 (O9 (name:=Str.ofString "__getitem__") ht.typeIs L7
  (O6 L7 ht.typeIs entry_tuple_getitem ?_ (args_tuple_getitem _ _)))
 show wpAny _ _ (Builtin.Tuple.tupleItemsOf (.ref t) >>= _) _ _ s;refine A2 (tupleItemsOf_ ht ?_);refine A2 (A0v hTs ?_);rw[A4 (by decide)];refine A2 (wA hs ps ?_);show wpAny _ _ (if (((items.size:Int)-1)==0&&(-1:Int)==1&&items.size==items.size)=true then _ else _) _ _ s;rw[B0 (by rw[show((-1:Int)==1)=false from rfl,Bool.and_false,Bool.false_and];exact A9),QT]
 first
  |exact A2 (m:=Builtin.Tuple.tupleExact _) (J3 (B4 ⟨_,rfl,B4 h⟩) htake)
  |exact A2 (m:=Builtin.Tuple.tupleExact _) (J3 (A2 (B4 (B4 ⟨_,rfl,B4 h⟩))) htake)
  |exact A2 (A2 (m:=Builtin.Tuple.tupleExact _) (J3 (B4 (B4 ⟨_,rfl,B4 h⟩)) htake))
  |exact A2 (A2 (m:=Builtin.Tuple.tupleExact _) (J3 (B4 ⟨_,rfl,B4 h⟩) htake))
end
end HT
namespace L2
variable{K:Fg}{s:Shared}{H:Hp}
open PySem PySem.Spec PyProof.Rows
theorem bQ.rev:∀{xs:List V}{us:List Value},bQ xs us->bQ xs.reverse us.reverse
 |_,_,.nil=>.nil
 |_,_,.cons r t=>by
  rw[U0,U0];exact(bQ.rev t).append (.cons r .nil)
noncomputable def aDB(K:Fg):V->Hp->VK->Prop:=fun x H Q=>(∃a xs,x=.ref a/\SqL K H a xs/\∀p,H p=none->Q (.ref p) (upd H p (.lst xs.reverse)))\/∃a xs,x=.ref a/\SqT K H a xs/\∀p,H p=none->Q (.ref p) (upd H p (.tup xs.reverse))
theorem AZ(its:List Value):slicePick its.toArray none none (some (-1))=its.reverse.toArray:=by
 have b:sliceBounds none none (some (-1)) its.toArray.size=((its.length:Int)-1,-1,-1):=by
  unfold sliceBounds;rfl
 unfold slicePick;rw[b];congr 1;rw[<- HT.rev_pick its];unfold sliceRange;dsimp only;rw[B0 (by decide)]
 have c:(if (its.length:Int)-1 > -1 then((its.length:Int)-1 - -1 - -1-1) / -(-1)else 0).toNat=its.length:=by
  by_cases h:(its.length:Int)-1 > -1
  .rw[A4 h,show(-(-1:Int))=1 from rfl,Int.ediv_one];omega
  .rw[B0 h];omega
 rw[c,List.filterMap_map];refine HT.fm_congr fun m hm=>?_;have:=List.mem_range.mp hm;show its.toArray[((its.length:Int)-1+-1*(m:Int)).toNat]?=_;rw[show((its.length:Int)-1+-1*(m:Int)).toNat=its.length-1-m by omega,A0f]
section
variable{X:Cx}{e st:Expr}{te:TE}{th:TO}{pos p2:Pos}
theorem YE{pins:List (Addr×Obj)}{σ:St}{x:V}{v vs:Value}{sl:Addr}{Q:VK}(I:Inv X pins σ H s)(rx:RelV x v)(hs:s.heap.IsSliceOf sl .none .none vs)(ps:IsPart vs (some (-1)))(h:aDB X.K x H Q):
 ∃T id,typeLookup (.type T) "__getitem__"=pure (some (.builtin id))/\s.TypeIs v T/\wpAny (model X.prog X.w) X.A (getItem v (.ref sl)) (EP X pins σ Q) X.xe s:=by
 rcases h with⟨a,xs,rfl,hx,q⟩|⟨a,xs,rfl,hx,q⟩
 .cases rx;obtain⟨its,r,ht,hz⟩:=I.list hx;have hlen:=r.length;refine⟨"list",_,slot_list_getitem.lookup,ht.isList.typeIs,?_⟩;refine wpAny_getItem_list_slice ht.isList hs .none .none ps (by decide) ?_ (by rw[C6]<;>omega);rw[AZ];refine⟨.ref s.heap.objs.size,_,I.laid (t':=s.toks) (o:=.lst xs.reverse) (fun b ob q=>A1 _ q) (B3 _) ?_,rfl,q _ (I.hok.fresh (B3 _))⟩;exact⟨by rw[S0];exact hz,_,0,r.rev,B9 _ rfl⟩
 .cases rx;obtain⟨its,r,ht,hz⟩:=I.tuple hx;have hlen:its.toArray.size=xs.length:=by rw[C6];exact r.length.symm
  refine⟨"tuple",_,PyProof.Rows.slot_tuple_getitem.lookup,ht.typeIs,?_⟩;refine HT.getItem_tuple_rev ht hs ps ?_ (by rw[hlen];exact hz);refine⟨.ref s.heap.objs.size,_,I.laid (t':=s.toks) (o:=.tup xs.reverse) (fun b ob q=>A1 _ q) (B3 _) ?_,rfl,q _ (I.hok.fresh (B3 _))⟩;exact⟨by rw[S0];exact hz,_,r.rev,IsTup.new _ _⟩
noncomputable def aFn(K:Fg)(te:TE)(th:TO):TE:=fun σ H Q=>te σ H fun x H1=>th σ H1 fun u H2=>u=some (-1)/\aDB K x H2 Q
theorem aEi(he:PE X e te)(hu:PO X (some st) th):PE X (.Subscript e (.Slice none none (some st) p2) pos) (aFn X.K te th):=by
 intro pins s σ H Q I h;refine Subscript_ (thn (he pins s σ H _ I h) fun v s1 ⟨x,H1,I1,r1,q1⟩=>?_);refine wpAny_Slice ?_;rw[evalPart_none];refine B4 (B4 ?_);refine thn (hu pins s1 σ H1 _ I1 q1) fun vu s3 ⟨u,H3,I3,pu,q3⟩=>?_;obtain⟨rfl,q⟩:=q3;have I4:Inv X pins σ H3 { s3 with heap:=s3.heap.push { cls:=.type "slice",data:=.fields #[.none,.none,vu] } }:=I3.kept (t':=s3.toks) fun b ob q=>A1 _ q;obtain⟨T,id,hT,ht,hg⟩:=YE I4 r1 (Heap.IsSliceOf.new ..) pu q;show wpAny (model X.prog X.w) X.A (subscriptTail e (.Slice none none (some st) p2) v (.ref s3.heap.objs.size)) (EP X pins σ Q) X.xe { s3 with heap:=s3.heap.push { cls:=.type "slice",data:=.fields #[.none,.none,vu] } };exact tail_any (ops:=[v,.ref s3.heap.objs.size]) ht hT hg (by with_unfolding_all rfl)
end
noncomputable def ZC:CD->Sto->Option (CD×Sto)
 |.d (.list ds),M=>some (.d (.list ds.reverse),M)
 |.d (.tuple ds),M=>some (.d (.tuple ds.reverse),M)
 |_,_=>none
noncomputable def QF(f:EF)(u:OF):EF:=fun γ M=>(f γ M).bind fun r=>(u γ r.2).bind fun q=>if q.1=some (-1)then ZC r.1 q.2 else none
section
variable{K:Fg}
theorem aK.rev{H:Hp}:∀{ds:List PyData}{vs:List V},aK K H ds vs->aK K H ds.reverse vs.reverse
 |[],vs=>fun h=>by rw[show vs=[]from h];rfl
 |d::ds,vs=>fun h=>by
  obtain⟨v,r,rfl,h2,h3⟩:=h;rw[U0,U0];exact aK.app (aK.rev h3) ⟨v,[],rfl,h2,rfl⟩
theorem OD{x:CD}{M:Sto}{z:CD}{M':Sto}(h:ZC x M=some (z,M')){W:Wd}{v:V}{Q:VK}(G:Good K W M H)(rx:dS K W x v)(k:∀w W' H',W.Ext W'->Good K W' M' H'->dS K W' z w->Q w H'):aDB K v H Q:=by
 unfold ZC at h;split at h
 .rename_i ds;cases h;obtain⟨p,us,rfl,hq,hr⟩:=(show ∃a us,_=V.ref a/\SqL K W.F a us/\aK K W.F ds us from rx);refine .inl ⟨p,us,rfl,G.fh.seq hq,fun l hl=>?_⟩;obtain⟨e2,G2⟩:=G.lay (o:=.lst us.reverse) hl;exact k _ _ _ e2 G2 ⟨l,_,rfl,SqL.of bA,aK.same e2.ff _ _ hr.rev⟩
 .rename_i ds;cases h;obtain⟨p,us,rfl,hq,hr⟩:=(show ∃a us,_=V.ref a/\SqT K W.F a us/\aK K W.F ds us from rx);refine .inr ⟨p,us,rfl,G.fh.seqT hq,fun l hl=>?_⟩;obtain⟨e2,G2⟩:=G.lay (o:=.tup us.reverse) hl;exact k _ _ _ e2 G2 ⟨l,_,rfl,SqT.of bA,aK.same e2.ff _ _ hr.rev⟩
 .cases h
theorem aCk{ta:TE}{f:EF}{th:TO}{u:OF}(a:SE K ta f)(c:SO K th u):SE K (aFn K ta th) (QF f u):=by
 intro γ M x M' hh W H σ Q G R k;obtain⟨⟨y,M1⟩,h1,hh⟩:=aP hh;obtain⟨⟨q,M3⟩,h3,hh⟩:=aP hh;refine a _ _ _ _ h1 W H σ _ G R fun v W1 H1 e1 G1 r1=>?_;refine c _ _ _ _ h3 W1 H1 σ _ G1 (R.up e1) fun W3 H3 e3 G3=>?_;have hh:(if q=some (-1)then ZC y M3 else none)=some (x,M'):=hh;by_cases hq:q=some (-1)
 .rw[A4 hq]at hh;exact⟨hq,OD hh G3 (r1.up e3) fun w W4 H4 e4 G4 r4=>k w W4 H4 ((e1.trans e3).trans e4) G4 r4⟩
 .rw[B0 hq]at hh;cases hh
end
section
variable{ι:Type}{K:Fg}{X:ι->Cx}{a st:Expr}{f:EF}{u:OF}{pos p2:Pos}
theorem TB(hK:∀i,(X i).K=K)(x:ME K X a f)(z:MO K X (some st) u):ME K X (.Subscript a (.Slice none none (some st) p2) pos) (QF f u):=by
 obtain⟨t,x1,x2⟩:=x.ex;obtain⟨t',z1,z2⟩:=z.ex;exact⟨_,fun i=>by have:=aEi (p2:=p2) (pos:=pos) (x1 i) (z1 i);rw[hK i]at this;exact this,aCk x2 z2⟩
end
section
open PySem.SeqAt
open PySem.AutoSeq1 (wpAny_loadPart')
open PySem.MeetsSeq PySem.MeetsSeq2 PySem.MeetsSeq3
theorem aAv{prog:Program}{w:World}{A:Around}{E:Value->Shared->Prop}{p q:Value}{x y:PyData}{as bs:List Addr}{c:Bool}(hu:A.units<cLine)(r1:Reads s.heap p x as)(r2:Reads s.heap q y bs)(h:fR x y=some c):
 ∀Q:Value->Shared->Prop,Q (.bool c) s->wpAny (model prog w) A (richCompare .Lt p q) Q E s:=by
 intro Q k;unfold fR at h;split at h
 .rename_i a b;cases r1;cases r2;cases h;exact HT.rcLt_int _ _ _ _ _ _ _ _ _ _ k
 .rename_i xs ys;obtain⟨ns,h1,h⟩:=Option.bind_eq_some_iff.mp h;obtain⟨ms,h2,h⟩:=Option.bind_eq_some_iff.mp h;cases h;cases r1 with
  |tuple g1 g2 g3 g4=>
   cases r2 with
   |tuple k1 k2 k3 k4=>exact HT.lt_tupInts ⟨_,g1,g2,_,g3⟩ ⟨_,k1,k2,_,k3⟩ (oC g4 h1) (oC k4 h2) hu k
 .cases h
theorem sL(l b:Addr)(us us2:Array Value)(n n2:Nat)(dd dd2:Option Addr)(sl sl2:Array (Option Value))(xs ys:List PyData)(c:Bool):
 Meets (Builtin.«tuple.__lt__» ⟨[.ref l,.ref b],[]⟩)
  (fun A R s=>(A.in1.units+64<cLine/\(∃as,ReadsAll s.heap us.toList xs as)/\(∃bs,ReadsAll s.heap us2.toList ys bs)/\xs.all SeqAt.shaped=true/\ys.all SeqAt.shaped=true/\cU xs ys=some c) /\
   s.heap.get? l=some { cls:=.type "tuple",dict:=dd,data:=.seq us n,slots:=sl }/\s.heap.get? b=some { cls:=.type "tuple",dict:=dd2,data:=.seq us2 n2,slots:=sl2 } /\
   R (.ok (.ret (.bool c))) s):=
 .of_wp fun prog w A R s h=>by
  obtain⟨hp,g,d,tk,os⟩:=s;obtain⟨⟨hu,⟨as,hi⟩,⟨bs,hj⟩,s1,s2,hc⟩,hl,hb,h⟩:=h;have f2:=AutoSeq1.sub_tuple_tuple;have z1:us.size=xs.length:=by rw[<- ReadsAll.len hi];simp
  have z2:us2.size=ys.length:=by rw[<- ReadsAll.len hj];simp
  wp_walk using U7 hl,U7 hb,wpAny_forIn_list _ (fun rest b s'=>b.1=none/\s'=⟨hp,g,d,tk,os⟩/\∃(vs ws:List Value)(xs' ys':List PyData),rest=vs.zip ws /\
   (∃as,ReadsAll hp vs xs' as)/\(∃bs,ReadsAll hp ws ys' bs)/\xs'.all SeqAt.shaped=true/\ys'.all SeqAt.shaped=true/\xs'.length+us2.size=ys'.length+us.size/\cU xs' ys'=some c) _
  case turn=>
   rintro⟨y,x⟩ rest b s' ⟨hb',rfl,vs,ws,xs',ys',hz,⟨as',ha⟩,⟨bs',hb2⟩,t1,t2,hlen,hR⟩;cases ha with
   |nil=>rw[List.zip_nil_left]at hz;cases hz
   |cons a1 a2=>
    cases hb2 with
    |nil=>rw[List.zip_nil_right]at hz;cases hz
    |cons b1 b2=>
     rename_i dx dxs _ dy dys _;rw[A0a]at hz;injection hz with hyx hrest
     injection hyx with hy hx
     subst hy hx;rw[A0i,B5]at t1 t2;simp only[List.length_cons]at hlen;refine A2 (SeqAt.eqAt_reads _ _ A.in1 ⟨hp,g,d,tk,os⟩ _ _ _ _ a1 b1 (S7 t1.1) (S7 t2.1) (SeqAt.room_of_shaped t1.1 hu) prog w _ _ ?_);have hR:(if PyData.eqv _ _=true then cU _ _ else fR _ _)=some c:=hR;revert hR;split
     .rename_i e;intro hR;rw[e]
      wp_walk
      exact⟨rfl,rfl,_,_,_,_,hrest,⟨_,a2⟩,⟨_,b2⟩,t1.2,t2.2,by omega,hR⟩
     .rename_i e;intro hR;rw[Bool.eq_false_iff.mpr e];have hri:=fun E=>aAv (prog:=prog) (w:=w) (A:=A.in1) (E:=E) (s:=⟨hp,g,d,tk,os⟩) (Nat.lt_of_le_of_lt (Nat.le_add_right _ 64) hu) a1 b1 hR
      wp_walk using hri
      exact⟨_,rfl,by simpa using h⟩
  case fin=>
   rintro⟨b1,b2⟩ s' ⟨hb',rfl,vs,ws,xs',ys',hz,⟨as',ha⟩,⟨bs',hb2⟩,t1,t2,hlen,hR⟩;simp only at hb';subst hb'
   have hv:c=decide (us.size<us2.size):=by
    cases ha with
    |nil=>
     have hR:some (decide (0<ys'.length))=some c:=hR;cases hR;simp only[List.length_nil]at hlen;exact decide_eq_decide.mpr (by omega)
    |cons a1 a2=>
     cases hb2 with
     |nil=>
      cases hR;simp only[List.length_nil,List.length_cons]at hlen;exact(E1 (by omega)).symm
     |cons b1 b2=>
      rw[A0a]at hz;cases hz
   rw[hv]at h
   wp_walk
   exact⟨_,rfl,by simpa[Builtin.Tuple.tupleCompareSizes]using h⟩
  case h=>
   exact⟨rfl,rfl,us.toList,us2.toList,xs,ys,rfl,⟨_,hi⟩,⟨_,hj⟩,s1,s2,by omega,hc⟩
end
section
variable{prog:Program}{w:World}{A:Around}{E:Value->Shared->Prop}{s:Shared}
theorem LX{p q:Value}{xs ys:List PyData}{as bs:List Addr}{c:Bool}{Q:Value->Shared->Prop}(r1:Reads s.heap p (.tuple xs) as)(r2:Reads s.heap q (.tuple ys) bs)(s1:xs.all SeqAt.shaped=true)(s2:ys.all SeqAt.shaped=true)(hc:cU xs ys=some c)
 (hu:A.in1.units+64<cLine) (h:Q (.bool c) s):wpAny (model prog w) A (compareOp .Lt p q) Q E s:=by
 cases r1 with
 |tuple a1 a2 a3 a4=>
  cases r2 with
  |tuple b1 b2 b3 b4=>
   rename_i o1 _ _ _ o2 _ _;obtain⟨cls,dd,data,sl⟩:=o1;obtain⟨cls2,dd2,data2,sl2⟩:=o2;simp only at a2 a3 b2 b3;subst a2 a3 b2 b3
   exact richCompare_meets_room (op:=.Lt) ⟨_,a1,rfl⟩ ⟨_,b1,rfl⟩ A0e PySem.F.entry_tuple_lt (PySem.F.args_tuple_lt_2 _ _) (sL _ _ _ _ _ _ dd dd2 sl sl2 xs ys c)
    ⟨⟨hu,⟨_,a4⟩,⟨_,b4⟩,s1,s2,hc⟩,a1,b1,show Value.bool c≠Value.notImplemented/\Q (.bool c) s from⟨(fun x=>nomatch x),h⟩⟩ (Nat.lt_of_le_of_lt (A0c (C7 (Nat.lt_succ_self _) (Nat.le_add_right _ 64))) hu)
end
section
variable{X:Cx}
noncomputable def aDz(K:Fg):R2:=fun x y H Q=>∃xs ys c,Rep K H (.tuple xs) x/\Rep K H (.tuple ys) y/\xs.all SeqAt.shaped=true/\ys.all SeqAt.shaped=true/\cU xs ys=some c/\Q (.bl c) H
theorem aDl(hu:X.A.in1.units+64<cLine):OpR X (compareOp .Lt) (aDz X.K):=by
 intro pins s σ H x y v u Q I rx ry h;obtain⟨xs,ys,c,hx,hy,s1,s2,hc,q⟩:=h;obtain⟨as,ha⟩:=Rep.reads I _ x v hx rx;obtain⟨bs,hb⟩:=Rep.reads I _ y u hy ry;exact LX ha hb s1 s2 hc hu ⟨.bl _,H,I,rfl,q⟩
end
noncomputable def ltD:F2:=fun x y M=>match x,y with
 |.d (.tuple xs),.d (.tuple ys)=>if (xs.all SeqAt.shaped&&ys.all SeqAt.shaped)=true then(cU xs ys).bind fun c=>some (.d (.bool c),M)else none
 |_,_=>none
noncomputable def ltX:F2:=DH ltI ltD
section
variable{K:Fg}
theorem aDK:P2 K (aDz K) ltD:=by
 intro x y M z M' h W H v u Q G rx ry k;unfold ltD at h;split at h
 .rename_i xs ys;by_cases hs:(xs.all SeqAt.shaped&&ys.all SeqAt.shaped)=true
  .rw[A4 hs]at h;obtain⟨c,h1,h⟩:=aP h;cases h;rw[B5]at hs;exact⟨xs,ys,c,Rep.same G.fh _ _ rx,Rep.same G.fh _ _ ry,hs.1,hs.2,h1,k _ W H (.refl _) G rfl⟩
  .rw[B0 hs]at h;cases h
 .cases h
end
section
variable{ι:Type}{K:Fg}{X:ι->Cx}
theorem XR{X:Cx}(e:X.K=K)(hu:X.A.in1.units+64<cLine):OpR X (compareOp .Lt) (aDz K):=by subst e;exact aDl hu
theorem aBL(hK:∀i,(X i).K=K)(hu:∀i,(X i).A.in1.units+64<cLine):Q2 K X (compareOp .Lt) ltX:=⟨_,fun i=>op_lt.or (XR (hK i) (hu i)),P2.or aBk aDK⟩
end
noncomputable def UI:List (CD×CD)->Option (List (Key×CD))
 |[]=>some []
 |(k,x)::r=>(keyOf k).bind fun k'=>(UI r).bind fun q=>some ((k',x)::q)
noncomputable def fDictC(fs:List (EF×EF)):EF:=fun γ M=>(UD fs γ (M++[.dk []])).bind fun r=>match r.2[M.length]? with
 |some (.dk [])=>(UI r.1).bind fun kvs=>if kvs.length<=15/\(kvs.map (·.1)).Nodup then some (.c M.length,r.2.set M.length (.dk kvs))else none
 |_=>none
noncomputable def EH(K:Fg):List V->Hp->VK->Prop:=fun xs H Q=>∃(p:Addr)(vs:List V),xs=[.ref p]/\SqT K H p vs/\VZ K vs H Q
theorem EV{X:Cx}(hu:X.A.in1.in1.units+64<cLine):dC X (.builtin "sorted") (EH X.K):=by
 intro pins s σ H xs us Q I r h;obtain⟨p,vs,rfl,hp,q⟩:=h;obtain⟨u,rfl,ru⟩:=vals1 r;cases ru;obtain⟨its,rv,⟨o,ho,hc,n,hd⟩,hz⟩:=I.tuple hp;have hl:=rv.length;refine A0b kind_sorted plain_sorted entry_sorted (args_sorted1 _) ?_;unfold Builtin.«sorted»;refine A2 (m:=checkCount "sorted" 1 1 _) (B4 ?_);refine A2 (wpAny_collect_seq _ (.inr rfl) ho hc hd (fun h' hk=>?_) (by simp;omega));exact aDZ (A:=X.A.in1) hu (I.kept (t':=s.toks) hk) (its:=its.toArray.toList) rv q
theorem aCR{X:Cx}(h:X.K=K)(hu:X.A.in1.in1.units+64<cLine):dC X (.builtin "sorted") (EH K):=by subst h;exact EV hu
noncomputable def FC:FN:=fun xs M=>match xs with
 |[.d (.tuple ds)]=>(rowsOf ds).bind fun rows=>(jJ rows).bind fun r=>some (.d (.list r),M)
 |_=>none
theorem UL:PN K (EH K) FC:=by
 intro xs M z M' h W H vs Q G r k;unfold FC at h;split at h
 .rename_i ds;obtain⟨rows,h1,h⟩:=aP h;obtain⟨y,h3,h⟩:=aP h;cases h;rcases r with _|⟨r1,_|_⟩;obtain⟨p,us,rfl,hq,hr⟩:=(show ∃a us,_=V.ref a/\SqT K W.F a us/\aK K W.F ds us from r1);rw[oK h1]at hr;refine⟨p,us,rfl,G.fh.seqT hq,?_⟩;unfold jJ at h3;by_cases hs:sortable rows=true
  .rw[A4 hs]at h3;cases h3;obtain⟨s1,s2,s3,s4,s5⟩:=kK hs;refine .inl ⟨rows,aK.same G.fh _ _ hr,s1,s2,s3,s4,s5,fun l hl=>?_⟩;obtain⟨e4,G4⟩:=G.lay (o:=.lst ((dY (dZ rows) rows.length).map fun i=>us.getD i .non)) hl;exact k _ _ _ e4 G4 ⟨l,_,rfl,SqL.of bA,aK.same e4.ff _ _ (qH hr _ (NG (by omega)))⟩
  .rw[B0 hs]at h3;by_cases hl2:rows.length<2
   .rw[A4 hl2]at h3;cases h3;refine .inr ⟨by rw[<- hr.length,A0];exact hl2,fun l hl=>?_⟩;obtain⟨e4,G4⟩:=G.lay (o:=.lst us) hl;exact k _ _ _ e4 G4 ⟨l,_,rfl,SqL.of bA,aK.same e4.ff _ _ hr⟩
   .rw[B0 hl2]at h3;cases h3
 .cases h
section
variable{prog:Program}{w:World}{A:Around}{E:Value->Shared->Prop}{s:Shared}
theorem II{r:Addr}{a b c:Int}{t u v:Tok}{n:Nat}{Q:List Value->Shared->Prop}(hh:A.handled=none)(hr:IsRange s.heap r a b c t u v)(hs:Builtin.Range.small a b c=true)(hn:Builtin.Range.rangeSize a b c=(n:Nat))(h24:n<=2 ^ 24)
 (hQ:∀(h':Heap)(tk:Nat)(acc:Array Value),(∀b o,s.heap.get? b=some o->h'.get? b=some o)->ItemsOf (fun i v=>∃t,v=Value.int (a+(i:Nat)*c) t) acc n->Q acc.toList { s with heap:=h',toks:=tk }):wpAny (model prog w) A (collect (.ref r)) Q E s:=by
 obtain⟨H,g,dr,tk,os⟩:=s;refine A2 (wpAny_runValue (codeAny_builtin entry_proto_collect' ?_));rw[Around.under_plainId PySem.F.plain_proto_collect _];refine A2 (m:=newList []) (J3 (B4 ⟨plainId_quiet PySem.F.plain_list_iadd _,codeAny_builtin entry_list_iadd' ?_⟩));rw[Around.under_plainId PySem.F.plain_list_iadd _];have p0:∀b o,H.get? b=some o->(H.push { cls:=.type "list",data:=.seq #[] }).get? b=some o:=fun b o e=>A1 _ e;have r0:=(B9 H (o:={ cls:=.type "list",data:=.seq #[] }) rfl);show wpAny _ A.in1 (Builtin.List.listExtendWith (.ref H.objs.size) (.ref r) (.ref H.objs.size)) _ _ ⟨H.push { cls:=.type "list",data:=.seq #[] },g,dr,tk,os⟩;refine wpAny_extend_range (R:=fun r s'=>match r with|.ok (.ret v)=>wpAny (model prog w) A (match v with|.ref a=>load a >>= fun o=>(match o.data with|.seq xs _=>pure xs.toList|_=>unsupported "internal:collect")|_=>unsupported "internal:collect") Q E s'|.ok _=>False|.error e=>E e s') (s:=⟨H.push { cls:=.type "list",data:=.seq #[] },g,dr,tk,os⟩) hh (p0 _ _ hr) hs hn h24 H.objs.size (.ref H.objs.size) 0 r0 fun h' tk' acc c' hk hS hacc=>?_;exact A2 (wpAny_load hS (B4 (hQ h' tk' acc (fun b o e=>hk b o (C9 (B7 e)) (p0 b o e)) hacc)))
end
theorem xQ(r:Addr)(a b c:Int)(t u v:Tok)(n:Nat)(hs:Builtin.Range.small a b c=true)(hn:Builtin.Range.rangeSize a b c=(n:Nat))(h24:n<=2 ^ 24):
 Meets (Builtin.«tuple.__new__» ⟨[.type "tuple",.ref r],[]⟩) (fun A R s=>A.in1.handled=none/\IsRange s.heap r a b c t u v /\
  ∀(h':Heap)(tk:Nat)(acc:Array Value),(∀b o,s.heap.get? b=some o->h'.get? b=some o)->ItemsOf (fun i v=>∃t,v=Value.int (a+(i:Nat)*c) t) acc n->R (.ok (.ret (.ref h'.objs.size))) { s with heap:=h'.push { cls:=.type "tuple",data:=.seq acc },toks:=tk }):=
 .of_wp fun prog w A R s h=>by
  obtain⟨hp,g,d,tk,os⟩:=s;obtain⟨hh,hr,h⟩:=h;have f1:=sub_tuple_self;have f2:=init_tuple_lookup;have f3:=madeHere_tuple;have ht:Shared.TypeIs ⟨hp,g,d,tk,os⟩ (.ref r) "range":=⟨_,hr,rfl⟩
  wp_walk using A0v ht,II hh hr hs hn h24
  intro h' tk' acc hk hacc
  have hz:acc.toList.toArray.size<=sizeLine:=by
   have:=hacc.1;rw[J9];simp only[Array.toArray_toList];omega
  refine A2 (B4 ?_);refine A2 (m:=Builtin.Tuple.tupleExact _) (J3 ?_ hz);refine B4 ⟨_,rfl,?_⟩;simpa using h h' tk' acc hk hacc
section
variable{X:Cx}{a b:Expr}{ta:TA}{p p' pos pos':Pos}
theorem OK{pins:List (Addr×Obj)}{σ:St}{Q:VK}{lo hi:Int}{t u v:Tok}{tk:Nat}(hc:X.calm=true)(I:Inv X pins σ H s)(h1:-(2 ^ 62)<=lo)(h2:lo<2 ^ 62)(h3:-(2 ^ 62)<=hi)(h4:hi<2 ^ 62)(hz:(hi-lo).toNat<=sizeLine)
 (q:∀l,H l=none->Q (.ref l) (upd H l (.tup (qB lo (hi-lo).toNat)))):
 wpAny (model X.prog X.w) X.A (call (.type "tuple") [.ref s.heap.objs.size]) (fun v s'=>∃x H',Inv X pins σ H' s'/\RelV x v/\Q x H') X.xe { s with heap:=s.heap.push { cls:=.type "range",data:=.fields #[.int lo t,.int hi u,.int 1 v] },toks:=tk }:=by
 have hsz:(hi-lo).toNat<=2 ^ 24:=by rw[J9]at hz;exact hz
 have I1:Inv X pins σ H { s with heap:=s.heap.push { cls:=.type "range",data:=.fields #[.int lo t,.int hi u,.int 1 v] },toks:=tk }:=I.kept fun b o e=>A1 _ e;have hr:IsRange (s.heap.push { cls:=.type "range",data:=.fields #[.int lo t,.int hi u,.int 1 v] }) s.heap.objs.size lo hi 1 t u v:=IsRange.new ..;refine callType_new PySem.F.called_tuple (by decide) (PySem.F.typeCall_tuple_1 _) (PySem.F.newCall_tuple_1 _) (fun obj=>PySem.F.args_object_init_2 _ _) PySem.F.entry_tuple_new (xQ _ lo hi 1 t u v (hi-lo).toNat (small_one h1 h2 h3 h4) (by rw[rangeSize_one];split<;>omega) hsz) ⟨I.ok.hd hc,hr,fun h' tk' acc hk hacc=>?_⟩
 have sz:(s.heap.push { cls:=.type "range",data:=.fields #[.int lo t,.int hi u,.int 1 v] }).objs.size<=h'.objs.size:=by
  rw[A0k];exact B7 (hk _ _ hr)
 refine⟨⟨_,B9 _ rfl,rfl⟩,.ref h'.objs.size,upd H h'.objs.size (.tup (qB lo (hi-lo).toNat)),I1.laid (t':=tk') (o:=.tup (qB lo (hi-lo).toNat)) (fun b o e=>A1 _ (hk b o e)) sz ?_,rfl,q _ (I1.hok.fresh sz)⟩;exact⟨by rw[qB,A0,E9];exact hz,acc.toList,BY hacc,IsTup.new _ _⟩
end
section
variable{K:Fg}{tA:TA}{fa:AF}
noncomputable def fTRng1(f:AF):EF:=fun γ M=>(f γ M).bind fun r=>match r.1 with
 |[.d (.int j)]=>if cY j=true/\j.toNat<=sizeLine then some (.d (.tuple (DM 0 j.toNat)),r.2)else none
 |_=>none
end
theorem DK(h:Heap)(vs:List Value)(out:Array Value):(∀b o,h.get? b=some o->(sortedAll h vs out).get? b=some o)/\∃c,(sortedAll h vs out).get? (h.objs.size+1)=some (seqObj "list" out c):=by
 unfold sortedAll
 have z1:((h.push (seqObj "list" #[] 0)).update h.objs.size (Obj.mapSeq fun x=>x++vs.toArray)).objs.size=h.objs.size+1:=by
  rw[Heap.size_update,A0k]
 have k1:∀b o,h.get? b=some o->((h.push (seqObj "list" #[] 0)).update h.objs.size (Obj.mapSeq fun x=>x++vs.toArray)).get? b=some o:=fun b o e=>by
  rw[L5 _ _ _ _ (C9 (B7 e))];exact A1 _ e
 generalize (h.push (seqObj "list" #[] 0)).update h.objs.size (Obj.mapSeq fun x=>x++vs.toArray)=h1 at z1 k1;rw[<- z1];have gD:(h1.push (seqObj "list" vs.toArray 0)).get? h1.objs.size=some (seqObj "list" vs.toArray 0):=B9 _ rfl;constructor
 .intro b o e;have hb:b≠h1.objs.size:=C9 (B7 (k1 b o e));unfold sortedHeap;rw[L5 _ _ _ _ hb];refine A1 _ (A1 _ ?_);rw[L5 _ _ _ _ hb];exact A1 _ (k1 b o e)
 .unfold sortedHeap;have g1:=U1 gD (fun _=>#[]);have g2:=A1 (seqObj "tuple" vs.toArray 0) g1;have g3:=A1 (seqObj "list" #[] 0) g2;exact⟨_,U1 g3 (fun _=>out)⟩
theorem tS:∀{ns:List Int}{us:List Value},IntsAre us ns->bQ (ns.map .int) us
 |[],_,.nil=>.nil
 |_::_,_,.cons _ t h=>.cons ⟨t,rfl⟩ (tS h)
noncomputable def IU(K:Fg):List V->Hp->VK->Prop:=fun xs H Q=>∃(p:Addr)(ns:List Int),xs=[.ref p]/\SqL K H p (ns.map .int)/\ns.length<64/\∀l,H l=none->Q (.ref l) (upd H l (.lst ((dW ns).map .int)))
theorem JA{X:Cx}:dC X (.builtin "sorted") (IU X.K):=by
 intro pins s σ H xs us Q I r h;obtain⟨p,ns,rfl,hp,h64,q⟩:=h;obtain⟨u,rfl,ru⟩:=vals1 r;cases ru;obtain⟨its,rv,pl,hz⟩:=I.list hp;have hl:=rv.length;rw[A0]at hl hz;refine sorted_ints pl.isList (intsAre_of rv) (by omega) fun out ns' hi pm pw=>?_;have e:ns'=dW ns:=oH pw (lK ns) (pm.trans (eQ ns).symm);subst e;obtain⟨kp,c,gg⟩:=DK s.heap its out;have hz':((dW ns).map V.int).length<=sizeLine:=by rw[A0,pm.length_eq];exact hz
 exact⟨.ref (s.heap.objs.size+1),upd H (s.heap.objs.size+1) (.lst ((dW ns).map .int)),I.laid (t':=s.toks) kp (Nat.le_succ _) ⟨hz',out.toList,c,tS hi,by simpa using gg⟩,rfl,q _ (I.hok.fresh (Nat.le_succ _))⟩
theorem aDi{X:Cx}(h:X.K=K):dC X (.builtin "sorted") (IU K):=by subst h;exact JA
noncomputable def sortIF:FN:=fun xs M=>match xs with
 |[.d (.list ds)]=>(cR ds).bind fun ns=>if ns.length<64 then some (.d (.list ((dW ns).map .int)),M)else none
 |_=>none
theorem oG:∀{ds:List PyData}{ns:List Int},cR ds=some ns->ds=ns.map .int
 |[],_=>fun h=>by cases h;rfl
 |d::ds,ns=>fun h=>by
  cases d with
  |int n=>
   obtain⟨ms,h1,h2⟩:=Option.bind_eq_some_iff.mp (show(cR ds).bind (fun ns=>some (n::ns))=some ns from h);cases h2;rw[oG h1];rfl
  |_=>cases h
theorem iO{K:Fg}{H:Hp}:∀{ns:List Int}{us:List V},aK K H (ns.map .int) us->us=ns.map .int
 |[],_=>fun h=>h
 |n::ns,_=>fun h=>by
  obtain⟨v,r,rfl,h1,h2⟩:=(show ∃v r,_=v::r/\Rep K H (.int n) v/\aK K H (ns.map .int) r from h);rw[iO h2,show v=V.int n from h1];rfl
section
variable{X:Cx}{pos:Pos}
noncomputable def NJ(K:Fg)(n:Nat)(t:TGs):TG:=fun v σ H Q=>∃a xs,v=.ref a/\SqL K H a xs/\xs.length=n/\t xs σ H Q
theorem ZA{es:List Expr}{k:Nat}{t:TGs}{n:Nat}(hc:X.calm=true)(h:PGs X es t)
 (hn:(assignEach es X.env).length=n) (hst:(assignEach es X.env).findIdx? (·.1)=none):PG X (.Tuple es k pos) (NJ X.K n t):=by
 intro pins s σ H v u Q I r hw;obtain⟨a,xs,e1,hq,hl,hw⟩:=hw;subst e1;cases r;obtain⟨its,rv,pl,hz⟩:=I.list hq;have e:(assignEach es X.env).length=its.toArray.size:=by simp[hn,<- hl,rv.length]
 rw[assign_Tuple];refine A2 (wpAny_standAt ?_);refine A2 (S5 ?_);rw[hst,e];refine PySem.W.kun_itemsOf (I.ok.hd hc) pl.isList fun h' hx=>?_;have I1:Inv X pins σ H { s with heap:=h' }:=I.kept (t':=s.toks) fun b o e=>hx b o (C9 (B7 e)) e;exact h pins _ σ H xs _ Q I1 (by simpa using rv) hw
theorem RU{es:List Expr}{k:Nat}{t:TGs}{n:Nat}(e:X.K=K)(hc:X.calm=true)(h:PGs X es t)
 (hn:(assignEach es X.env).length=n) (hst:(assignEach es X.env).findIdx? (·.1)=none):PG X (.Tuple es k pos) (NJ K n t):=by subst e;exact ZA hc h hn hst
end
noncomputable def RZ(n:Nat)(g:GsF):GF:=fun x γ M=>match x with
 |.d (.list ds)=>if ds.length=n then g (ds.map .d) γ M else none
 |_=>none
theorem aAH{tgs:TGs}{hgs:GsF}{n:Nat}(b:SGs K tgs hgs):SG K (NJ K n tgs) (RZ n hgs):=by
 intro x γ M γ' M' hh W H σ v Q G R r k;unfold RZ at hh;split at hh
 .rename_i ds;by_cases hl:ds.length=n
  .rw[A4 hl]at hh;obtain⟨a,vs,rfl,h2,h3⟩:=(show ∃a vs,v=.ref a/\SqL K W.F a vs/\aK K W.F ds vs from r);exact⟨a,vs,rfl,G.fh.seq h2,by rw[<- h3.length];exact hl,b _ _ _ _ _ hh W H σ vs Q G R (fK h3) k⟩
  .rw[B0 hl]at hh;cases hh
 .cases hh
noncomputable def VV(K:Fg):List V->Hp->VK->Prop:=fun xs H Q=>∃(p:Addr)(ns:List Int),xs=[.ref p]/\SqL K H p (ns.map .int)/\Q (.int ns.sum) H
theorem ON{X:Cx}(hc:X.calm=true):dC X (.builtin "sum") (VV X.K):=by
 intro pins s σ H xs us Q I r h;obtain⟨p,ns,rfl,hp,q⟩:=h;obtain⟨u,rfl,ru⟩:=vals1 r;cases ru;obtain⟨its,rv,pl,hz⟩:=I.list hp;have hi:=intsAre_of rv;obtain⟨zs,e⟩:=hi.allInts.items;have pl':=pl.isList;have e1:=hi.numsOf;rw[show its=its.toArray.toList from rfl,e,nums_intItems]at e1;rw[e]at pl';refine sum_intListG (I.ok.hd hc) pl' fun h' tk t' hk=>?_;refine⟨.int _,H,I.kept (h':=h') (t':=tk) hk,⟨t',rfl⟩,?_⟩;rw[preSum_eq,List.take_of_length_le (by simp),e1];exact q
theorem aFb{X:Cx}(h:X.K=K)(hc:X.calm=true):dC X (.builtin "sum") (VV K):=by subst h;exact ON hc
noncomputable def sumF:FN:=fun xs M=>match xs with
 |[.d (.list ds)]=>(cR ds).bind fun ns=>some (.d (.int ns.sum),M)
 |_=>none
theorem aAh:PN K (VV K) sumF:=by
 intro xs M z M' h W H vs Q G r k;unfold sumF at h;split at h
 .rename_i ds;obtain⟨ns,h1,h⟩:=aP h;cases h;rcases r with _|⟨r1,_|_⟩;obtain⟨p,us,rfl,hq,hr⟩:=(show ∃a us,_=V.ref a/\SqL K W.F a us/\aK K W.F ds us from r1);rw[oG h1]at hr;have e:=iO hr;subst e;exact⟨p,ns,rfl,G.fh.seq hq,k _ W H (.refl _) G rfl⟩
 .cases h
theorem JF{ι:Type}{X:ι->Cx}(hK:∀i,(X i).K=K)(hc:∀i,(X i).calm=true):QN K X (.builtin "sum") sumF:=⟨_,fun i=>aFb (hK i) (hc i),aAh⟩
section
variable{K:Fg}{ι:Type}{X:ι->Cx}
noncomputable def aDg:F2:=pI fun i j=>ifS (zH i j) (.int (i*2 ^ j.toNat))
noncomputable def zM:F2:=pI fun i j=>some (.int (Builtin.bitAnd i j))
theorem RR{i j:Int}(h:zH i j=true):aEu i j:=by
 unfold zH at h;simp only[Bool.and_eq_true,decide_eq_true_eq]at h;exact⟨h.1.1,h.1.2,h.2⟩
theorem aFa:Q2 K X (binaryOp .LShift) aDg:=⟨_,fun _=>aCs,XO fun _ _ h=>RR h⟩
theorem TZ:Q2 K X (binaryOp .BitAnd) zM:=⟨_,fun _=>aCF,RK⟩
end
noncomputable abbrev t7(b:Bool)(p:Array Nat):SetTable:=⟨7,p,#[],0,b,0,true⟩
theorem EA{h:Int}(h0:0<=h)(h9:h<9):SetTable.bits h=h.toNat:=by
 unfold SetTable.bits;rw[Int.emod_eq_of_lt h0 (by omega)]
section
variable{prog:Program}{w:World}{A:Around}{E:Value->Shared->Prop}{s:Shared}
end
end L2
namespace PySem
section
variable{prog:Program}{w:World}{A:Around}{E:Value->Shared->Prop}{s:Shared}
structure FR(z TO i1 i2 l:Addr):Prop where
 z:l≠z
 o:l≠TO
 a:l≠i1
 b:l≠i2
section
variable{z TI TO i1 i2 l1 l2:Addr}{k n1 n2:Nat}{P1 P2:Nat->Value->Prop}{S1 S2:Nat->Heap->Prop}{a b:Value}
theorem aAN{Q:Value->Shared->Prop}(D:L2.Apart5 z TI TO i1 i2)(f1:FR z TO i1 i2 l1)(f2:FR z TO i1 i2 l2)(D1:Draws prog w A i1 [i1,l1] n1 P1 S1)(D2:Draws prog w A i2 [i2,l2] n2 P2 S2)
 (hz:IsZip s.heap z TI TO .none) (hI:IsPair s.heap TI (.ref i1) (.ref i2)) (hO:IsPair s.heap TO a b) (t1:S1 k s.heap) (t2:S2 k s.heap) (k1:k<n1) (k2:k<n2)
 (hQ:∀h' tk x y,P1 k x->P2 k y->IsZip h' z TI TO (rawInt s.heap.objs.size)->IsPair h' TO x y->S1 (k+1) h'->S2 (k+1) h'->IsPair h' s.heap.objs.size x y->
  (∀c o,c≠z->c≠TO->c≠i1->c≠i2->s.heap.get? c=some o->h'.get? c=some o)->Q (.ref s.heap.objs.size) { s with heap:=h',toks:=tk }):
 wpAny (model prog w) A (Builtin.«zip.__next__» ⟨[.ref z],[]⟩) (fun r s'=>∃v,r=.done (.ret v)/\Q v s') E s:=by
 have y1:∀{h h':Heap}{c:Addr}{j:Nat},Heap.SameBut c h h'->i1≠c->l1≠c->S1 j h->S1 j h':=fun sb q r st=>D1.frame _ _ _ st fun b hb o e=>sb.extBut b o (by
  rcases List.mem_cons.mp hb with rfl|hb
  .exact q
  .rw[List.mem_singleton.mp hb];exact r) e
 have y2:∀{h h':Heap}{c:Addr}{j:Nat},Heap.SameBut c h h'->i2≠c->l2≠c->S2 j h->S2 j h':=fun sb q r st=>D2.frame _ _ _ st fun b hb o e=>sb.extBut b o (by
  rcases List.mem_cons.mp hb with rfl|hb
  .exact q
  .rw[List.mem_singleton.mp hb];exact r) e
 refine(?_:wpAny _ _ (field (.ref z) 2 >>= fun v=>_) _ _ _);refine A2 (L0 hz rfl (x:=Value.bool false) rfl (?_:wpAny _ _ (field (.ref z) 3 >>= fun v=>_) _ _ _));refine A2 (L0 hz rfl (x:=Value.ref TI) rfl (A2 (Y4 hI rfl (?_:wpAny _ _ (Builtin.SmallTypes.ownedTupleIsFree (.ref z) >>= fun v=>_) _ _ _))));refine A2 (A2 (m:=field (.ref z) 0) (L0 hz rfl (x:=Value.none) rfl (B4 ?_)));rw[A4 rfl];refine A2 (wpAny_rule (A2 (L0 hz rfl (x:=Value.ref TO) rfl (A2 (Z1 hz (by simp) fun g1 z1 b1=>A2 ?_)))));have z1:IsZip g1 z TI TO .ellipsis:=z1;simp only[List.zipIdx_cons,List.zipIdx_nil,List.forIn_cons,List.forIn_nil];refine A2 (A2 (wpAny_onRaise (?_:wpAny _ _ (Builtin.SmallTypes.nextOf (.ref i1) >>= fun v=>_) _ _ _)));refine A2 (D1.item k { s with heap:=g1 } _ _ k1 (y1 b1 D.i1z f1.z t1) fun x g2 tk2 p1 u1 b2=>B4 ?_);have O2:IsPair g2 TO a b:=b2.extBut _ _ D.TOi1 (b1.extBut _ _ D.TOz hO);refine A2 (Y4 O2 rfl (A2 (wpAny_updateSeq_pair O2 fun g3 O3 b3=>A2 (wpAny_letGo (B4 ?_)))));have O3:IsPair g3 TO x b:=O3;refine A2 (A2 (wpAny_onRaise (?_:wpAny _ _ (Builtin.SmallTypes.nextOf (.ref i2) >>= fun v=>_) _ _ _)));refine A2 (D2.item k { s with heap:=g3,toks:=tk2 } _ _ k2 (y2 b3 D.TOi2.symm f2.o (y2 b2 D.i12.symm f2.a (y2 b1 D.i2z f2.z t2))) fun y g4 tk4 p2 u2 b4=>B4 ?_);have O4:IsPair g4 TO x b:=b4.extBut _ _ D.TOi2 O3;refine A2 (Y4 O4 rfl (A2 (wpAny_updateSeq_pair O4 fun g5 O5 b5=>A2 (wpAny_letGo (B4 (B4 ?_))))));have O5:IsPair g5 TO x y:=O5;have sz:g5.objs.size=s.heap.objs.size:=by rw[b5.1,b4.1,b3.1,b2.1,b1.1]
 have z5:IsZip g5 z TI TO .ellipsis:=b5.extBut _ _ D.TOz.symm (b4.extBut _ _ D.i2z.symm (b3.extBut _ _ D.TOz.symm (b2.extBut _ _ D.i1z.symm z1)));have s1:S1 (k+1) g5:=y1 b5 D.TOi1.symm f1.o (y1 b4 D.i12 f1.b (y1 b3 D.TOi1.symm f1.o u1));have s2:S2 (k+1) g5:=y2 b5 D.TOi2.symm f2.o u2;have zl:z<g5.objs.size:=B7 z5;refine A2 (Y4 O5 rfl (A2 (wpAny_newTuple (?_:wpAny _ _ (Builtin.SmallTypes.ownedTupleHandOut (.ref z) (.ref g5.objs.size) >>= fun v=>_) _ _ _))));have z6:IsZip (g5.push { cls:=.type "tuple",data:=.seq #[x,y] }) z TI TO .ellipsis:=A1 _ z5;refine A2 (A2 (m:=setField (.ref z) 0 _) (Z1 z6 (by simp) fun g7 z7 b7=>Z1 z7 (by simp) fun g8 z8 b8=>B4 ⟨_,rfl,?_⟩));have up:∀c o,c≠z->g5.get? c=some o->g8.get? c=some o:=fun c o q e=>b8.extBut _ _ q (b7.extBut _ _ q (A1 _ e));have nw:IsPair g8 g5.objs.size x y:=b8.extBut _ _ (A0p zl) (b7.extBut _ _ (A0p zl) (B9 _ rfl));have z8:IsZip g8 z TI TO (rawInt g5.objs.size):=z8;rw[sz]at nw z8;show Q (.ref g5.objs.size) _;rw[sz];refine hQ g8 tk4 x y p1 p2 z8 (up _ _ D.TOz O5) (D1.frame _ _ _ s1 fun c hc o e=>up c o ?_ e) (D2.frame _ _ _ s2 fun c hc o e=>up c o ?_ e) nw fun c o c1 c2 c3 c4 e=>up c o c1 (b5.extBut _ _ c2 (b4.extBut _ _ c4 (b3.extBut _ _ c2 (b2.extBut _ _ c3 (b1.extBut _ _ c1 e)))))
 .rcases List.mem_cons.mp hc with rfl|hc
  .exact D.i1z
  .rw[List.mem_singleton.mp hc];exact f1.z
 .rcases List.mem_cons.mp hc with rfl|hc
  .exact D.i2z
  .rw[List.mem_singleton.mp hc];exact f2.z
theorem aEd{Q:Fin->Shared->Prop}(D:L2.Apart5 z TI TO i1 i2)(f1:FR z TO i1 i2 l1)(f2:FR z TO i1 i2 l2)(D1:Draws prog w A i1 [i1,l1] n1 P1 S1)(D2:Draws prog w A i2 [i2,l2] n2 P2 S2)
 (hz:IsZip s.heap z TI TO .none) (hI:IsPair s.heap TI (.ref i1) (.ref i2)) (hO:IsPair s.heap TO a b) (t1:S1 k s.heap) (t2:S2 k s.heap) (ke:k=n1\/(k<n1/\k=n2))
 (hE:∀h' tk e,(∀c o,c≠z->c≠TO->c≠i1->c≠i2->s.heap.get? c=some o->h'.get? c=some o)->(∃o,h'.get? e=some o/\o.cls=.type "StopIteration")->E (.ref e) { s with heap:=h',toks:=tk }):
 wpAny (model prog w) A (Builtin.«zip.__next__» ⟨[.ref z],[]⟩) Q E s:=by
 have y1:∀{h h':Heap}{c:Addr}{j:Nat},Heap.SameBut c h h'->i1≠c->l1≠c->S1 j h->S1 j h':=fun sb q r st=>D1.frame _ _ _ st fun b hb o e=>sb.extBut b o (by
  rcases List.mem_cons.mp hb with rfl|hb
  .exact q
  .rw[List.mem_singleton.mp hb];exact r) e
 have y2:∀{h h':Heap}{c:Addr}{j:Nat},Heap.SameBut c h h'->i2≠c->l2≠c->S2 j h->S2 j h':=fun sb q r st=>D2.frame _ _ _ st fun b hb o e=>sb.extBut b o (by
  rcases List.mem_cons.mp hb with rfl|hb
  .exact q
  .rw[List.mem_singleton.mp hb];exact r) e
 have apz:∀{g:Heap}{v:Value}{e:Addr}{o:Obj},IsZip g z TI TO v->g.get? e=some o->o.cls=.type "StopIteration"->e≠z:=fun hz he hc q=>by
  subst q;rw[hz]at he;cases he;simp at hc
 refine(?_:wpAny _ _ (field (.ref z) 2 >>= fun v=>_) _ _ _);refine A2 (L0 hz rfl (x:=Value.bool false) rfl (?_:wpAny _ _ (field (.ref z) 3 >>= fun v=>_) _ _ _));refine A2 (L0 hz rfl (x:=Value.ref TI) rfl (A2 (Y4 hI rfl (?_:wpAny _ _ (Builtin.SmallTypes.ownedTupleIsFree (.ref z) >>= fun v=>_) _ _ _))));refine A2 (A2 (m:=field (.ref z) 0) (L0 hz rfl (x:=Value.none) rfl (B4 ?_)));rw[A4 rfl];refine A2 (wpAny_rule (A2 (L0 hz rfl (x:=Value.ref TO) rfl (A2 (Z1 hz (by simp) fun g1 z1 b1=>A2 ?_)))));have z1:IsZip g1 z TI TO .ellipsis:=z1;simp only[List.zipIdx_cons,List.zipIdx_nil,List.forIn_cons,List.forIn_nil];refine A2 (A2 (wpAny_onRaise (?_:wpAny _ _ (Builtin.SmallTypes.nextOf (.ref i1) >>= fun v=>_) _ _ _)));rcases ke with rfl|⟨k1,rfl⟩
 .refine A2 (D1.done { s with heap:=g1 } _ _ (y1 b1 D.i1z f1.z t1) fun g2 e b2 ⟨oe,he,hc⟩=>?_);have z2:IsZip g2 z TI TO .ellipsis:=b2 _ _ D.i1z.symm z1;exact Z1 z2 (by simp) fun g3 _ b3=>hE g3 s.toks e (fun c o c1 _ c3 _ q=>b3.extBut _ _ c1 (b2 _ _ c3 (b1.extBut _ _ c1 q))) ⟨oe,b3.extBut _ _ (apz z2 he hc) he,hc⟩
 .refine A2 (D1.item k { s with heap:=g1 } _ _ k1 (y1 b1 D.i1z f1.z t1) fun x g2 tk2 p1 u1 b2=>B4 ?_);have O2:IsPair g2 TO a b:=b2.extBut _ _ D.TOi1 (b1.extBut _ _ D.TOz hO);refine A2 (Y4 O2 rfl (A2 (wpAny_updateSeq_pair O2 fun g3 O3 b3=>A2 (wpAny_letGo (B4 ?_)))));refine A2 (A2 (wpAny_onRaise (?_:wpAny _ _ (Builtin.SmallTypes.nextOf (.ref i2) >>= fun v=>_) _ _ _)));refine A2 (D2.done { s with heap:=g3,toks:=tk2 } _ _ (y2 b3 D.TOi2.symm f2.o (y2 b2 D.i12.symm f2.a (y2 b1 D.i2z f2.z t2))) fun g4 e b4 ⟨oe,he,hc⟩=>?_);have z4:IsZip g4 z TI TO .ellipsis:=b4 _ _ D.i2z.symm (b3.extBut _ _ D.TOz.symm (b2.extBut _ _ D.i1z.symm z1));exact Z1 z4 (by simp) fun g5 _ b5=>hE g5 tk2 e (fun c o c1 c2 c3 c4 q=>b5.extBut _ _ c1 (b4 _ _ c4 (b3.extBut _ _ c2 (b2.extBut _ _ c3 (b1.extBut _ _ c1 q))))) ⟨oe,b5.extBut _ _ (apz z4 he hc) he,hc⟩
end
theorem xV{h:Heap}{o:Obj}{n:Nat}(e:h.objs.size=n)(f:o.isFreed=false:=by rfl):(h.push o).get? n=some o:=by subst e;exact B9 _ f
theorem aEg{l1 l2:Addr}{xs ys:Array Value}:Meets (Builtin.«zip.__new__» ⟨[.type "zip",.ref l1,.ref l2],[]⟩) (fun _ R s=>s.heap.IsTuple l1 xs/\s.heap.IsTuple l2 ys /\
 ∀h',(∀c o,s.heap.get? c=some o->h'.get? c=some o)->h'.get? s.heap.objs.size=some { cls:=.type "tuple_iterator",data:=.fields #[.ref l1,.int 0 0] }->h'.get? (s.heap.objs.size+1)=some { cls:=.type "tuple_iterator",data:=.fields #[.ref l2,.int 0 0] }->
  IsPair h' (s.heap.objs.size+2) (.ref s.heap.objs.size) (.ref (s.heap.objs.size+1))->IsPair h' (s.heap.objs.size+3) .none .none->IsZip h' (s.heap.objs.size+4) (s.heap.objs.size+2) (s.heap.objs.size+3) .none->R (.ok (.ret (.ref (s.heap.objs.size+4)))) { s with heap:=h' }):=
 .of_wp fun prog w A R s h=>by
  obtain⟨hp,g,d,tk,os⟩:=s;obtain⟨q1,q2,h⟩:=h;have sub:=sub_zip;have L1:Heap.IsTuple (Shared.heap ⟨hp,g,d,tk,os⟩) l1 xs:=q1;have L2:Heap.IsTuple (Shared.heap ⟨hp.push { cls:=.type "tuple_iterator",data:=.fields #[.ref l1,.int 0 0] },g,d,tk,os⟩) l2 ys:=Heap.IsTuple.at q2 fun o e=>A1 _ e
  wp_walk using Z0 L1,Z0 L2
  refine⟨_,rfl,?_⟩;simp only[Heap.size_push]at h ⊢;refine h _ (fun c o e=>?_) ?_ ?_ ?_ ?_ ?_
  .exact A1 _ (A1 _ (A1 _ (A1 _ (A1 _ e))))
  .exact A1 _ (A1 _ (A1 _ (A1 _ (B9 _ rfl))))
  .exact A1 _ (A1 _ (A1 _ (xV (A0k ..))))
  .exact A1 _ (A1 _ (xV (by simp only[Heap.size_push])))
  .exact A1 _ (xV (by simp only[Heap.size_push]))
  .exact xV (by simp only[Heap.size_push])
end
end PySem
namespace L2
variable{K:Fg}{pos:Pos}{H:Hp}
open PySem PySem.Spec PyProof.Rows
noncomputable def aFT(K:Fg)(l1 l2:Addr):It:=
 ⟨fun i H=>∃xs ys x y,SqT K H l1 xs/\SqT K H l2 ys/\xs[i]?=some x/\ys[i]?=some y,
  fun i H v H'=>∃p x y,H p=none/\v=.ref p/\H'=upd H p (.tup [x,y])/\(∀xs,SqT K H l1 xs->xs[i]?=some x)/\∀ys,SqT K H l2 ys->ys[i]?=some y,
  fun i H=>∃xs ys,SqT K H l1 xs/\SqT K H l2 ys/\((i=xs.length)\/(i<xs.length/\i=ys.length))⟩
noncomputable def aGf(z TI TO i1 i2 l1 l2:Addr)(i:Nat)(h:Heap):Prop:=IsZip h z TI TO .none/\IsPair h TI (.ref i1) (.ref i2)/\(∃a b,IsPair h TO a b)/\h.IsTupleIter i1 l1 i/\h.IsTupleIter i2 l2 i
section
variable{prog:Program}{w:World}{A:Around}{E:Value->Shared->Prop}{s:Shared}
variable{z TI TO i1 i2 l1 l2:Addr}{k n1 n2:Nat}{P1 P2:Nat->Value->Prop}{S1 S2:Nat->Heap->Prop}{a b:Value}
theorem YO{Q:Option Value->Shared->Prop}(D:Apart5 z TI TO i1 i2)(f1:FR z TO i1 i2 l1)(f2:FR z TO i1 i2 l2)(D1:Draws prog w A.in1 i1 [i1,l1] n1 P1 S1)(D2:Draws prog w A.in1 i2 [i2,l2] n2 P2 S2)
 (hz:IsZip s.heap z TI TO .none) (hI:IsPair s.heap TI (.ref i1) (.ref i2)) (hO:IsPair s.heap TO a b) (t1:S1 k s.heap) (t2:S2 k s.heap) (k1:k<n1) (k2:k<n2)
 (hQ:∀h' tk x y,P1 k x->P2 k y->IsZip h' z TI TO (rawInt s.heap.objs.size)->IsPair h' TO x y->S1 (k+1) h'->S2 (k+1) h'->IsPair h' s.heap.objs.size x y->
  (∀c o,c≠z->c≠TO->c≠i1->c≠i2->s.heap.get? c=some o->h'.get? c=some o)->Q (some (.ref s.heap.objs.size)) { s with heap:=h',toks:=tk }):
 wpAny (model prog w) A (pyNext (.ref z)) Q E s:=by
 have ty:s.TypeIs (.ref z) "zip":=⟨_,hz,rfl⟩;unfold pyNext;exact A2 (wpAny_attempt (O9 ty A0g (O6 A0g ty PySem.F.entry_zip_next (aAN D f1 f2 D1 D2 hz hI hO t1 t2 k1 k2 fun h' tk x y p1 p2 q1 q2 q3 q4 q5 q6=>B4 (hQ h' tk x y p1 p2 q1 q2 q3 q4 q5 q6)) (PySem.F.args_zip_next_1 _))))
theorem YD{Q:Option Value->Shared->Prop}(D:Apart5 z TI TO i1 i2)(f1:FR z TO i1 i2 l1)(f2:FR z TO i1 i2 l2)(D1:Draws prog w A.in1 i1 [i1,l1] n1 P1 S1)(D2:Draws prog w A.in1 i2 [i2,l2] n2 P2 S2)
 (hz:IsZip s.heap z TI TO .none) (hI:IsPair s.heap TI (.ref i1) (.ref i2)) (hO:IsPair s.heap TO a b) (t1:S1 k s.heap) (t2:S2 k s.heap) (ke:k=n1\/(k<n1/\k=n2))
 (hQ:∀h' tk,(∀c o,c≠z->c≠TO->c≠i1->c≠i2->s.heap.get? c=some o->h'.get? c=some o)->Q none { s with heap:=h',toks:=tk }):wpAny (model prog w) A (pyNext (.ref z)) Q E s:=by
 have ty:s.TypeIs (.ref z) "zip":=⟨_,hz,rfl⟩;unfold pyNext;exact A2 (wpAny_attempt (O9 ty A0g (O6 A0g ty PySem.F.entry_zip_next (aEd D f1 f2 D1 D2 hz hI hO t1 t2 ke fun h' tk e hk he=>A2 (let⟨o,ho,hc⟩:=he;wpAny_isInstance (T:="StopIteration") (b:=true) ⟨o,ho,hc⟩ isSubtype_stop (B4 (hQ h' tk hk)))) (PySem.F.args_zip_next_1 _))))
end
section
variable{P:Program}{w:World}{K:Fg}{elts:List Expr}{x1:Nat}{tpos:Pos}{z TI TO i1 i2 l1 l2:Addr}
theorem FJ{h:Heap}{l:Addr}{xs:Array Value}{i j:Nat}(T:h.IsTuple l xs)(hz:IsZip h z TI TO .none)(a1:h.IsTupleIter i1 l1 i)(a2:h.IsTupleIter i2 l2 j)(no:l≠TO):FR z TO i1 i2 l:=by
 obtain⟨o,e,c,_⟩:=T;obtain⟨o1,e1,c1,_⟩:=a1;obtain⟨o2,e2,c2,_⟩:=a2
 have dif:∀(b:Addr)(u:Obj),h.get? b=some u->u.cls≠.type "tuple"->l≠b:=fun b u q n r=>by
  subst r;rw[e]at q;cases q;exact n c
 have ni:(Value.type "tuple_iterator")≠.type "tuple":=by intro q;injection q with q;exact absurd q (by decide)
 exact⟨dif z _ hz (by intro q;injection q with q;exact absurd q (by decide)),no,dif i1 _ e1 (by rw[c1];exact ni),dif i2 _ e2 (by rw[c2];exact ni)⟩
theorem PH(A5:Apart5 z TI TO i1 i2)(n1:l1≠TO)(n2:l2≠TO):Turn P w K (.Tuple elts x1 tpos) (aFT K l1 l2) [z,TI,TO,i1,i2] z (aGf z TI TO i1 i2 l1 l2) where
 mem:=by simp
 obj:=fun i h st b hb=>by
  obtain⟨hz,hTI,⟨a,c,hTO⟩,⟨o1,e1,_,d1⟩,⟨o2,e2,_,d2⟩⟩:=st;simp only[List.mem_cons,List.not_mem_nil,or_false]at hb;rcases hb with rfl|rfl|rfl|rfl|rfl
  .exact⟨_,hz,fun v q=>by cases q⟩
  .exact⟨_,hTI,fun v q=>by cases q⟩
  .exact⟨_,hTO,fun v q=>by cases q⟩
  .exact⟨_,e1,fun v q=>by rw[d1]at q;cases q⟩
  .exact⟨_,e2,fun v q=>by rw[d2]at q;cases q⟩
 keep:=fun i h h' st k=>by
  obtain⟨hz,hTI,⟨a,c,hTO⟩,h1,h2⟩:=st;exact⟨k z (by simp) _ hz,k TI (by simp) _ hTI,⟨a,c,k TO (by simp) _ hTO⟩,h1.at fun o e=>k i1 (by simp) o e,h2.at fun o e=>k i2 (by simp) o e⟩
 item:=by
  intro X hP hw hK hc i pins s σ H E I hf st hg;subst hP hw hK;obtain⟨xs,ys,x,y,hq1,hq2,hx,hy⟩:=hg;obtain⟨its,rv,p,_⟩:=I.tuple hq1;obtain⟨jts,rw',p',_⟩:=I.tuple hq2;obtain⟨u,hu,ru⟩:=rv.get hx;obtain⟨v,hv,rv'⟩:=rw'.get hy;obtain⟨hz,hTI,⟨a,c,hTO⟩,h1,h2⟩:=id st;have F1:=FJ p hz h1 h2 n1;have F2:=FJ p' hz h1 h2 n2;have hh:X.A.in1.handled=none:=I.ok.hd hc;have li:=(List.getElem?_eq_some_iff.mp hu).1;have lj:=(List.getElem?_eq_some_iff.mp hv).1;refine YO (k:=i) A5 F1 F2 (oE hh i1 l1 F1.a its.toArray) (oE hh i2 l2 F2.b jts.toArray) hz hTI hTO ⟨h1,p⟩ ⟨h2,p'⟩ (by simpa using li) (by simpa using lj) fun h' tk u' v' e1 e2 a1 a2 a3 a4 a5 hk=>⟨_,rfl,?_⟩
  have e1:u=u':=by
   have:its.toArray[i]?=some u:=by rw[A0f];exact hu
   rw[this]at e1;cases e1;rfl
  have e2:v=v':=by
   have:jts.toArray[i]?=some v:=by rw[A0f];exact hv
   rw[this]at e2;cases e2;rfl
  subst e1 e2;refine wpAny_letOwnedTupleGo_zip a1 fun h2' hz2 sb=>?_
  have lt:∀b∈[z,TI,TO,i1,i2],s.heap.objs.size≠b:=fun b hb q=>by
   obtain⟨o1,e1,_⟩:=id h1;obtain⟨o2,e2,_⟩:=id h2;simp only[List.mem_cons,List.not_mem_nil,or_false]at hb
   have:∃o,s.heap.get? b=some o:=by
    rcases hb with rfl|rfl|rfl|rfl|rfl
    .exact⟨_,hz⟩
    .exact⟨_,hTI⟩
    .exact⟨_,hTO⟩
    .exact⟨_,e1⟩
    .exact⟨_,e2⟩
   obtain⟨o,e⟩:=this;rw[<- q]at e;exact absurd (B7 e) (I0 _)
  have kk:∀b o,b∉[z,TI,TO,i1,i2]->s.heap.get? b=some o->h2'.get? b=some o:=fun b o hb q=>by
   simp only[List.mem_cons,List.not_mem_nil,or_false,not_or]at hb;exact(sb.2 b hb.1).trans (hk b o hb.1 hb.2.2.1 hb.2.2.2.1 hb.2.2.2.2 q)
  have ht2:h2'.get? s.heap.objs.size=some { cls:=.type "tuple",data:=.seq #[u,v] }:=(sb.2 _ (lt z (by simp))).trans a5
  have I2:Inv X pins σ (upd H s.heap.objs.size (.tup [x,y])) { s with heap:=h2',toks:=tk }:=
   I.turnLay hf kk (B3 _) ⟨by show 2<=sizeLine;rw[J9];decide,[u,v],.cons ru (.cons rv' .nil),⟨_,ht2,rfl,_,rfl⟩⟩
  refine⟨.ref s.heap.objs.size,_,I2,rfl,⟨_,x,y,I.hok.fresh (B3 _),rfl,rfl,fun ws hw=>by rw[I.tuple_inj hw hq1];exact hx,fun ws hw=>by rw[I.tuple_inj hw hq2];exact hy⟩,⟨hz2,?_,⟨_,_,(sb.2 TO A5.TOz).trans a2⟩,a3.1.at fun o e=>(sb.2 i1 A5.i1z).trans e,a4.1.at fun o e=>(sb.2 i2 A5.i2z).trans e⟩,fun b hb=>?_⟩
  .exact(sb.2 TI A5.TIz).trans (hk TI _ A5.TIz A5.TITO A5.TIi1 A5.TIi2 hTI)
  .rw[bB (fun q=>lt b hb q.symm)];exact(hf b hb).1
 done:=by
  intro X hP hw hK hc i pins s σ H E I hf st hg;subst hP hw hK;obtain⟨xs,ys,hq1,hq2,hend⟩:=hg;obtain⟨its,rv,p,_⟩:=I.tuple hq1;obtain⟨jts,rw',p',_⟩:=I.tuple hq2;obtain⟨hz,hTI,⟨a,c,hTO⟩,h1,h2⟩:=id st;have l1':=rv.length;have l2':=rw'.length;have F1:=FJ p hz h1 h2 n1;have F2:=FJ p' hz h1 h2 n2;have hh:X.A.in1.handled=none:=I.ok.hd hc;refine YD (k:=i) A5 F1 F2 (oE hh i1 l1 F1.a its.toArray) (oE hh i2 l2 F2.b jts.toArray) hz hTI hTO ⟨h1,p⟩ ⟨h2,p'⟩ (by simpa[<- l1',<- l2']using hend) fun h' tk hk=>⟨rfl,I.turnF (t':=tk) hf fun b o hb q=>?_⟩;simp only[List.mem_cons,List.not_mem_nil,or_false,not_or]at hb;exact hk b o hb.1 hb.2.2.1 hb.2.2.2.1 hb.2.2.2.2 q
 self:=fun A i s Q E st h=>wpAny_pyIter_zip st.1 h
end
section
variable{X:Cx}{elts:List Expr}{x1:Nat}{tpos:Pos}
noncomputable def aBC(K:Fg)(ta:TA):TI:=fun σ H R=>ta σ H fun vs H1=>∃a b xs ys,vs=[.ref a,.ref b]/\((SqL K H1 a xs/\SqL K H1 b ys/\R (Itz K a b) H1)\/(SqT K H1 a xs/\SqT K H1 b ys/\R (aFT K a b) H1))
theorem aAj{a b:Expr}{ta:TA}{p:Pos}(hg:Gl X "zip")(hm:X.mg "zip"=none)(ha:PA X [a,b] ta)(hs:starEach [a,b] X.env=[(false,eval a X.env),(false,eval b X.env)])(hs2:starEach [b] X.env=[(false,eval b X.env)]):PI X (.Tuple elts x1 tpos) (.Call (.Name "zip" p) [a,b] [] pos) (aBC X.K ta):=by
 intro pins s σ H R I h;refine Call_ (mM I hg hm boot_zip (J2 (thn (ha pos pins s σ H _ I h) fun us s1 ⟨vs,H1,I1,r1,q1⟩=>?_) (by rw[hs,hs2]) (by rw[hs2];rfl)));obtain⟨l,l',xs,ys,e,q1⟩:=q1;subst e;cases r1 with
 |cons r rr=>
  cases rr with
  |cons r' rr=>
   cases rr;cases (show _=Value.ref l from r);cases (show _=Value.ref l' from r')
   have fp:∀b∈[s1.heap.objs.size+4,s1.heap.objs.size+2,s1.heap.objs.size+3,s1.heap.objs.size,s1.heap.objs.size+1],vG X pins H1 b:=fun b hb=>by
    have hb':s1.heap.objs.size<=b:=by
     simp only[List.mem_cons,List.not_mem_nil,or_false]at hb;omega
    exact I1.fpOk hb' (I1.hok.fresh hb')
   rcases q1 with⟨hq1,hq2,q⟩|⟨hq1,hq2,q⟩
   .obtain⟨its,rv,p1,_⟩:=I1.list hq1;obtain⟨jts,rw',p2,_⟩:=I1.list hq2;refine call_zip_2 p1.isList p2.isList fun h' hz hTI hTO h1 h2 hsz hk=>?_;refine wpAny_pyIter_zip hz ?_;exact⟨_,_,_,_,H1,rfl,I1.kept (t':=s1.toks) hk,WZ (z:=s1.heap.objs.size+4) (TI:=s1.heap.objs.size+2) (TO:=s1.heap.objs.size+3) (i1:=s1.heap.objs.size) (i2:=s1.heap.objs.size+1) (l1:=l) (l2:=l') (CQ _),⟨hz,hTI,⟨_,_,hTO⟩,h1,h2⟩,fp,q⟩
   .obtain⟨its,rv,p1,_⟩:=I1.tuple hq1;obtain⟨jts,rw',p2,_⟩:=I1.tuple hq2;have z1:l<s1.heap.objs.size:=by obtain⟨o,e,_⟩:=p1;exact B7 e
    have z2:l'<s1.heap.objs.size:=by obtain⟨o,e,_⟩:=p2;exact B7 e
    refine callType_new PySem.F.called_zip (by decide) (PySem.F.typeCall_zip_2 _ _) (PySem.F.newCall_zip_2 _ _) (fun obj=>PySem.F.args_object_init_3 obj _ _) PySem.F.entry_zip_new aEg ⟨p1,p2,fun h' hk h1 h2 hTI hTO hz=>⟨⟨_,hz,rfl⟩,wpAny_pyIter_zip hz ?_⟩⟩;exact⟨_,_,_,_,H1,rfl,I1.kept (t':=s1.toks) hk,PH (z:=s1.heap.objs.size+4) (TI:=s1.heap.objs.size+2) (TO:=s1.heap.objs.size+3) (i1:=s1.heap.objs.size) (i2:=s1.heap.objs.size+1) (l1:=l) (l2:=l') (CQ _) (C9 (Nat.lt_add_right 3 z1)) (C9 (Nat.lt_add_right 3 z2)),⟨hz,hTI,⟨_,_,hTO⟩,⟨_,h1,rfl,rfl⟩,⟨_,h2,rfl,rfl⟩⟩,fp,q⟩
end
noncomputable def BP(f:AF):AF:=fun γ M=>(f γ M).bind fun r=>match r.1 with
 |[.d (.list xs),.d (.list ys)]=>some (nR xs ys,r.2)
 |[.d (.tuple xs),.d (.tuple ys)]=>some (nR xs ys,r.2)
 |_=>none
theorem DY:∀(xs ys:List PyData),(nR xs ys).length=xs.length\/((nR xs ys).length<xs.length/\(nR xs ys).length=ys.length)
 |[],_=>.inl rfl
 |_::_,[]=>.inr ⟨Nat.succ_pos _,rfl⟩
 |x::xs,y::ys=>by
  have:=DY xs ys;simp only[nR,List.length_cons];omega
theorem YY{tA:TA}{fa:AF}(b:SA K tA fa):SI K (aBC K tA) (BP fa):=by
 intro γ M xs M' hh W H σ R G Rs k;obtain⟨⟨ys,M1⟩,h1,hh⟩:=aP hh;refine b _ _ _ _ h1 W H σ _ G Rs fun vs W1 H1 e1 G1 r1=>?_;revert hh;dsimp only;split
 .rename_i as bs;intro hh;cases hh;cases r1 with
  |cons r r'=>
   cases r' with
   |cons r2 r''=>
    cases r'';obtain⟨p,us,rfl,hs,hr⟩:=(show ∃a us,_=V.ref a/\SqL K W1.F a us/\aK K W1.F as us from r);obtain⟨p',us',rfl,hs',hr'⟩:=(show ∃a us,_=V.ref a/\SqL K W1.F a us/\aK K W1.F bs us from r2);refine⟨p,p',us,us',rfl,.inl ⟨G1.fh.seq hs,G1.fh.seq hs',k _ W1 H1 e1 G1 fun W2 M2 H2 e2 G2=>?_⟩⟩;have q1:SqL K H2 p us:=G2.fh.seq (e2.ff.seq hs);have q2:SqL K H2 p' us':=G2.fh.seq (e2.ff.seq hs');refine⟨fun i x hx=>?_,us,us',q1,q2,?_⟩
    .obtain⟨c,d,hc,hd,rfl⟩:=zD hx;obtain⟨u,hu,ru⟩:=Paired.get (fK hr) (show(as.map CD.d)[i]?=some (.d c)by rw[C4,hc];rfl);obtain⟨v,hv,rv⟩:=Paired.get (fK hr') (show(bs.map CD.d)[i]?=some (.d d)by rw[C4,hd];rfl);refine⟨⟨us,us',u,v,q1,q2,hu,hv⟩,fun y H3 hy=>?_⟩;obtain⟨p3,x',y',hn,rfl,rfl,hx',hy'⟩:=hy;have:=hx' us q1;rw[hu]at this;cases this;have:=hy' us' q2;rw[hv]at this;cases this;obtain⟨e3,G3⟩:=G2.lay (o:=.tup [u,v]) hn;refine⟨_,e3,G3,⟨p3,_,rfl,SqT.of bA,?_⟩⟩;exact⟨_,_,rfl,Rep.same e3.ff _ _ (show Rep K W2.F c u from ru.up e2),_,_,rfl,Rep.same e3.ff _ _ (show Rep K W2.F d v from rv.up e2),rfl⟩
    .rcases GY (xs:=as) (ys:=bs)with e|e
     .exact .inl (by have:=List.getElem?_eq_none_iff.mp e;rw[hr.length]at this;exact List.getElem?_eq_none_iff.mpr this)
     .exact .inr (by have:=List.getElem?_eq_none_iff.mp e;rw[hr'.length]at this;exact List.getElem?_eq_none_iff.mpr this)
 .rename_i as bs;intro hh;cases hh;cases r1 with
  |cons r r'=>
   cases r' with
   |cons r2 r''=>
    cases r'';obtain⟨p,us,rfl,hs,hr⟩:=(show ∃a us,_=V.ref a/\SqT K W1.F a us/\aK K W1.F as us from r);obtain⟨p',us',rfl,hs',hr'⟩:=(show ∃a us,_=V.ref a/\SqT K W1.F a us/\aK K W1.F bs us from r2);refine⟨p,p',us,us',rfl,.inr ⟨G1.fh.seqT hs,G1.fh.seqT hs',k _ W1 H1 e1 G1 fun W2 M2 H2 e2 G2=>?_⟩⟩;have q1:SqT K H2 p us:=G2.fh.seqT (e2.ff.seqT hs);have q2:SqT K H2 p' us':=G2.fh.seqT (e2.ff.seqT hs');refine⟨fun i x hx=>?_,us,us',q1,q2,?_⟩
    .obtain⟨c,d,hc,hd,rfl⟩:=zD hx;obtain⟨u,hu,ru⟩:=Paired.get (fK hr) (show(as.map CD.d)[i]?=some (.d c)by rw[C4,hc];rfl);obtain⟨v,hv,rv⟩:=Paired.get (fK hr') (show(bs.map CD.d)[i]?=some (.d d)by rw[C4,hd];rfl);refine⟨⟨us,us',u,v,q1,q2,hu,hv⟩,fun y H3 hy=>?_⟩;obtain⟨p3,x',y',hn,rfl,rfl,hx',hy'⟩:=hy;have:=hx' us q1;rw[hu]at this;cases this;have:=hy' us' q2;rw[hv]at this;cases this;obtain⟨e3,G3⟩:=G2.lay (o:=.tup [u,v]) hn;refine⟨_,e3,G3,⟨p3,_,rfl,SqT.of bA,?_⟩⟩;exact⟨_,_,rfl,Rep.same e3.ff _ _ (show Rep K W2.F c u from ru.up e2),_,_,rfl,Rep.same e3.ff _ _ (show Rep K W2.F d v from rv.up e2),rfl⟩
    .have:=DY as bs;rw[<- hr.length,<- hr'.length];exact this
 .intro hh;cases hh
theorem YI{ι:Type}{X:ι->Cx}{a b:Expr}{fa:AF}{elts:List Expr}{x1:Nat}{tpos p:Pos}(hK:∀i,(X i).K=K)(hm:∀i,(X i).mg "zip"=none)(x:MA K X [a,b] fa)(hg:∀i,Gl (X i) "zip":=by intro _;rfl):MI K X (.Tuple elts x1 tpos) (.Call (.Name "zip" p) [a,b] [] pos) (BP fa):=by
 obtain⟨t,x1',x2⟩:=x.ex;exact⟨_,fun i=>by have:=aAj (elts:=elts) (x1:=x1) (tpos:=tpos) (p:=p) (pos:=pos) (hg i) (hm i) (x1' i) (by rw[x.st.1,x.st.2.1];rfl) (by rw[x.st.2.1];rfl);rw[hK i]at this;exact this,YY x2⟩
section
variable{K:Fg}
end
section
variable{K:Fg}
noncomputable def fDGetT(fo fi:EF):EF:=fun γ M=>(fo γ M).bind fun o=>(fi γ o.2).bind fun k=>match k.1 with
 |.d (.tuple ds)=>(keysOf (ds.map .d)).bind fun ks=>(atD k.2 o.1 (.inr ks)).bind fun r=>r.bind fun x=>some (x,k.2)
 |_=>none
noncomputable def aBw(K:Fg)(n:Nat)(t:TGs):TG:=fun v σ H Q=>aAF K n t v σ H Q\/NJ K n t v σ H Q
theorem ZI{X:Cx}{pos:Pos}{es:List Expr}{k:Nat}{t:TGs}{n:Nat}(e:X.K=K)(hc:X.calm=true)(h:PGs X es t)
 (hn:(assignEach es X.env).length=n) (hst:(assignEach es X.env).findIdx? (·.1)=none):PG X (.Tuple es k pos) (aBw K n t):=by
 intro pins s σ H v u Q I r hw;rcases hw with hw|hw
 .exact LL e hc h hn hst pins s σ H v u Q I r hw
 .exact RU e hc h hn hst pins s σ H v u Q I r hw
noncomputable def BW(n:Nat)(g:GsF):GF:=fun x γ M=>match x with
 |.d (.list _)=>RZ n g x γ M
 |_=>pA n g x γ M
theorem YG{tgs:TGs}{hgs:GsF}{n:Nat}(b:SGs K tgs hgs):SG K (aBw K n tgs) (BW n hgs):=by
 intro x γ M γ' M' hh W H σ v Q G R r k;unfold BW at hh;split at hh
 .exact .inr (aAH b _ _ _ _ _ hh W H σ v Q G R r k)
 .exact .inl (RJ b _ _ _ _ _ hh W H σ v Q G R r k)
theorem XN{ι:Type}{X:ι->Cx}{es:List Expr}{gs:GsF}{k n:Nat}(hK:∀i,(X i).K=K)(hc:∀i,(X i).calm=true)(x:MGs K X es gs)(hn:∀env:Env,(assignEach es env).length=n:=by intro _;rfl)(hst:∀env:Env,(assignEach es env).findIdx? (·.1)=none:=by intro _;rfl):MG K X (.Tuple es k pos) (BW n gs):=by
 obtain⟨t,x1,x2⟩:=x.ex;exact⟨_,fun i=>ZI (hK i) (hc i) (x1 i) (hn _) (hst _),YG x2⟩
end
section
variable{X:Cx}{a b:Expr}{ta:TA}{p p' pos pos':Pos}
noncomputable def WK(ta:TA):TE:=fun σ H Q=>ta σ H fun vs H1=>∃i j:Int,vs=[.int i,.int j]/\-(2 ^ 62)<=i/\i<2 ^ 62/\-(2 ^ 62)<=j/\j<2 ^ 62/\(j-i).toNat<=sizeLine/\∀l,H1 l=none->Q (.ref l) (upd H1 l (.lst (qB i (j-i).toNat)))
noncomputable def XB(ta:TA):TE:=fun σ H Q=>ta σ H fun vs H1=>∃i j:Int,vs=[.int i,.int j]/\-(2 ^ 62)<=i/\i<2 ^ 62/\-(2 ^ 62)<=j/\j<2 ^ 62/\(j-i).toNat<=sizeLine/\∀l,H1 l=none->Q (.ref l) (upd H1 l (.tup (qB i (j-i).toNat)))
theorem XC(hc:X.calm=true)(hg:Gl X "range")(hm:X.mg "range"=none)(hgl:Gl X "list")(hml:X.mg "list"=none)(ha:PA X [a,b] ta)(hs:starEach [a,b] X.env=(false,eval a X.env)::starEach [b] X.env)(hp:(backTo pos' (starEach [b] X.env)).any (·.1)=false):
 PE X (.Call (.Name "list" p) [.Call (.Name "range" p') [a,b] [] pos'] [] pos) (WK ta):=by
 intro pins s σ H Q I h;refine Y9 (mM I hgl hml A0w ?_ (by decide) (by decide));refine J2 ?_ rK rfl;rw[rK];show wpAny _ _ (spliced ((false,eval (.Call (.Name "range" p') [a,b] [] pos') X.env)::[])) _ _ s;refine Calls.spliced_cons ?_;refine Call_ (mM I hg hm boot_range (J2 (thn (ha pos' pins s σ H _ I h) fun us s1 ⟨vs,H1,I1,r1,q1⟩=>?_) hs hp));obtain⟨i,j,e,q1,q2,q3,q4,q5,q⟩:=q1;subst e;cases r1 with
 |cons r rr=>
  cases rr with
  |cons r' rr=>
   cases rr;obtain⟨t,rfl⟩:=r;obtain⟨t',rfl⟩:=r';refine call_range_2 (Calls.spliced_nil ?_);exact VM hc I1 q1 q2 q3 q4 q5 q
theorem RB(hc:X.calm=true)(hg:Gl X "range")(hm:X.mg "range"=none)(hgl:Gl X "tuple")(hml:X.mg "tuple"=none)(ha:PA X [a,b] ta)(hs:starEach [a,b] X.env=(false,eval a X.env)::starEach [b] X.env)(hp:(backTo pos' (starEach [b] X.env)).any (·.1)=false):
 PE X (.Call (.Name "tuple" p) [.Call (.Name "range" p') [a,b] [] pos'] [] pos) (XB ta):=by
 intro pins s σ H Q I h;refine Y9 (mM I hgl hml U4 ?_ (by decide) (by decide));refine J2 ?_ rK rfl;rw[rK];show wpAny _ _ (spliced ((false,eval (.Call (.Name "range" p') [a,b] [] pos') X.env)::[])) _ _ s;refine Calls.spliced_cons ?_;refine Call_ (mM I hg hm boot_range (J2 (thn (ha pos' pins s σ H _ I h) fun us s1 ⟨vs,H1,I1,r1,q1⟩=>?_) hs hp));obtain⟨i,j,e,q1,q2,q3,q4,q5,q⟩:=q1;subst e;cases r1 with
 |cons r rr=>
  cases rr with
  |cons r' rr=>
   cases rr;obtain⟨t,rfl⟩:=r;obtain⟨t',rfl⟩:=r';refine call_range_2 (Calls.spliced_nil ?_);exact OK hc I1 q1 q2 q3 q4 q5 q
end
section
variable{K:Fg}{tA:TA}{fa:AF}
noncomputable def yS(cell:Bool)(f:AF):EF:=fun γ M=>(f γ M).bind fun r=>match r.1 with
 |[.d (.int i),.d (.int j)]=>if (cY i=true/\cY j=true)/\(j-i).toNat<=sizeLine then(if cell=true then some (.c r.2.length,r.2++[.lst (kP i (j-i).toNat)])else some (.d (.list (DM i (j-i).toNat)),r.2))else none
 |_=>none
noncomputable def DV(f:AF):EF:=fun γ M=>(f γ M).bind fun r=>match r.1 with
 |[.d (.int i),.d (.int j)]=>if (cY i=true/\cY j=true)/\(j-i).toNat<=sizeLine then some (.d (.tuple (DM i (j-i).toNat)),r.2)else none
 |_=>none
theorem RM{cell:Bool}(b:SA K tA fa):SE K (WK tA) (yS cell fa):=by
 intro γ M x M' hh W H σ Q G R k;obtain⟨⟨ys,M1⟩,h1,hh⟩:=aP hh;refine b _ _ _ _ h1 W H σ _ G R fun vs W1 H1 e1 G1 r1=>?_;revert hh;dsimp only;split
 .rename_i i j;intro hh;by_cases hs:(cY i=true/\cY j=true)/\(j-i).toNat<=sizeLine
  .rw[A4 hs]at hh;cases r1 with
   |cons r r'=>
    cases r' with
    |cons r2 r'=>
     cases r';refine⟨i,j,by rw[show _=V.int i from r,show _=V.int j from r2],(eO hs.1.1).1,(eO hs.1.1).2,(eO hs.1.2).1,(eO hs.1.2).2,hs.2,fun l hl=>?_⟩;cases cell with
     |true=>
      rw[A4 rfl]at hh;cases hh;exact k _ (W1.more l) _ (e1.trans (W1.ext_more l)) (G1.new hl (c:=.lst (kP i (j-i).toNat)) (o:=.lst (qB i (j-i).toNat)) OX) G1.newV
     |false=>
      rw[B0 A9]at hh;cases hh;obtain⟨e2,G2⟩:=G1.lay (o:=.lst (qB i (j-i).toNat)) hl;exact k _ _ _ (e1.trans e2) G2 ⟨l,_,rfl,SqL.of bA,MP⟩
  .rw[B0 hs]at hh;cases hh
 .intro hh;cases hh
theorem RH(b:SA K tA fa):SE K (XB tA) (DV fa):=by
 intro γ M x M' hh W H σ Q G R k;obtain⟨⟨ys,M1⟩,h1,hh⟩:=aP hh;refine b _ _ _ _ h1 W H σ _ G R fun vs W1 H1 e1 G1 r1=>?_;revert hh;dsimp only;split
 .rename_i i j;intro hh;by_cases hs:(cY i=true/\cY j=true)/\(j-i).toNat<=sizeLine
  .rw[A4 hs]at hh;cases hh;cases r1 with
   |cons r r'=>
    cases r' with
    |cons r2 r'=>
     cases r';refine⟨i,j,by rw[show _=V.int i from r,show _=V.int j from r2],(eO hs.1.1).1,(eO hs.1.1).2,(eO hs.1.2).1,(eO hs.1.2).2,hs.2,fun l hl=>?_⟩;obtain⟨e2,G2⟩:=G1.lay (o:=.tup (qB i (j-i).toNat)) hl;exact k _ _ _ (e1.trans e2) G2 ⟨l,_,rfl,SqT.of bA,MP⟩
  .rw[B0 hs]at hh;cases hh
 .intro hh;cases hh
theorem TM(cell:Bool){ι:Type}{X:ι->Cx}{a b:Expr}{p p' pos pos':Pos}(hc:∀i,(X i).calm=true)(hm:∀i,(X i).mg "range"=none)(hml:∀i,(X i).mg "list"=none)(x:MA K X [a,b] fa)(hg:∀i,Gl (X i) "range":=by intro _;rfl)(hgl:∀i,Gl (X i) "list":=by intro _;rfl):
 ME K X (.Call (.Name "list" p) [.Call (.Name "range" p') [a,b] [] pos'] [] pos) (yS cell fa):=by
 obtain⟨t,x1,x2⟩:=x.ex;exact⟨_,fun i=>XC (hc i) (hg i) (hm i) (hgl i) (hml i) (x1 i) (x.st.1 _) (x.st.2.plain _ _),RM x2⟩
theorem UM{ι:Type}{X:ι->Cx}{a b:Expr}{p p' pos pos':Pos}(hc:∀i,(X i).calm=true)(hm:∀i,(X i).mg "range"=none)(hml:∀i,(X i).mg "tuple"=none)(x:MA K X [a,b] fa)(hg:∀i,Gl (X i) "range":=by intro _;rfl)(hgl:∀i,Gl (X i) "tuple":=by intro _;rfl):
 ME K X (.Call (.Name "tuple" p) [.Call (.Name "range" p') [a,b] [] pos'] [] pos) (DV fa):=by
 obtain⟨t,x1,x2⟩:=x.ex;exact⟨_,fun i=>RB (hc i) (hg i) (hm i) (hgl i) (hml i) (x1 i) (x.st.1 _) (x.st.2.plain _ _),RH x2⟩
end
section
variable{K:Fg}
end
section
variable{K:Fg}
end
section
variable{K:Fg}
end
noncomputable def lps(m:Nat):Nat->Nat×Nat->Nat×Nat
 |0,q=>q
 |n+1,q=>lps m n (SetTable.leap m q.1 q.2)
section
variable{prog:Program}{w:World}{A:Around}{E:Value->Shared->Prop}{s:Shared}
noncomputable abbrev TK(prog:Program)(w:World):HeapKind prog w (List Key):=tupleKind (uD prog w)
end
section
variable{prog:Program}{w:World}{A:Around}{E:Value->Shared->Prop}{s:Shared}
noncomputable abbrev hT(prog:Program)(w:World)(k:List Key):Int:=(TK prog w).hash k
end
section
variable{prog:Program}{w:World}{A:Around}{E:Value->Shared->Prop}{s:Shared}
theorem HL{α:Type}(xs:List α)(p:Nat)(x:α):(xs.take p++x::xs.drop p).Perm (x::xs):=by
 refine List.perm_middle.trans ?_;rw[List.take_append_drop]
end
section
variable{X:Cx}{N':List Str}{cap:List (Option Nat)}{scope:Scope}
end
section
variable{X:Cx}{pins:List (Addr×Obj)}{σ:St}{H:Hp}{s:Shared}{h':Heap}
theorem Inv.keptL{t':Nat}(I:Inv X pins σ H s)(k:∀b u,b≠X.env.locals->s.heap.get? b=some u->h'.get? b=some u)(ns:∀m,s.heap.Ns X.env.locals m->h'.Ns X.env.locals m):
 Inv X pins σ H { s with heap:=h',toks:=t' }:=by
 have nt:∀b u,H b=some u->b≠X.env.locals:=fun b u e z=>by rw[z,I.free]at e;cases e
 refine I.step (g':=s.gens) (t':=t') (d':=s.drawn) (ch:=[]) (fun _ z=>nomatch z) (fun b o h1 _ _ e _=>k b o h1 e) (fun b o h1 _ _ e _=>⟨o.slots,k b o h1 e⟩) (fun b o _ e n=>n) (fun b o _ e=>?_) (fun b xs e=>e) (fun b o u e=>e) (fun b ps e=>⟨#[],by simpa using e⟩) ns ?_ I.bare
 .by_cases z:b=X.env.locals
  .subst z;obtain⟨m,hm,_⟩:=I.loc;obtain⟨o',_,_,q,_⟩:=ns m hm;exact⟨o',q⟩
  .exact⟨o,k b o z e⟩
 .intro b u e;refine(I.hok b u e).stay (fun c v hc q=>k c v ?_ q) (fun c q=>q) fun c xs q=>q;rcases hc with z|z
  .rw[z];exact nt b _ e
  .exact nt c _ z
theorem Inv.table{t':Nat}{T c':Addr}{ps more:Array Value}{oc:Obj}(I:Inv X pins σ H s)(hT:H T=some (.tbl ps))(hx:Heap.ExtBut T s.heap h')(hT':h'.get? T=some (PySem.W.tabObj (ps++more)))
 (hc:s.heap.objs.size<=c') (ho:h'.get? c'=some oc):Inv X pins σ (upd (upd H T (.tbl (ps++more))) c' (.frz oc (.own c'))) { s with heap:=h',toks:=t' }:=by
 have fc:H c'=none:=I.hok.fresh hc;have nT:∀b,H b=none->b≠T:=fun b e z=>by rw[z,hT]at e;cases e
 have Tc:T≠c':=fun z=>by rw[<- z,hT]at fc;cases fc
 have up:∀b u,H b=some u->(∀ps,u≠.tbl ps)->upd (upd H T (.tbl (ps++more))) c' (.frz oc (.own c')) b=some u:=fun b u e n=>by
  rw[bB (bF e fc),bB (fun z=>by rw[z,hT]at e;exact n _ (D5 e).symm)];exact e
 refine I.step (g':=s.gens) (t':=t') (d':=s.drawn) (ch:=[]) (fun _ z=>nomatch z) (fun b o _ _ _ e n=>hx b o (nT b n) e) (fun b o _ _ _ e n=>⟨o.slots,hx b o (nT b n) e⟩) (fun b o _ e n=>?_) (fun b o _ e=>?_) (fun b xs e=>up b _ e fun _ z=>by cases z) (fun b o u e=>up b _ e fun _ z=>by cases z) (fun b qs e=>?_) (fun m hm=>hm.extBut hx (nT _ I.free)) ?_ I.bare
 .rw[bB (C9 (C7 (B7 e) hc)),bB (nT b n)];exact n
 .by_cases z:b=T
  .exact⟨_,z▸hT'⟩
  .exact⟨o,hx b o z e⟩
 .by_cases z:b=T
  .subst z;rw[hT]at e;cases e;exact⟨more,by rw[bB Tc,bA]⟩
  .exact⟨#[],by rw[bB (bF e fc),bB z,e];simp⟩
 .intro b u e;by_cases z:b=c'
  .subst z;rw[bA]at e;cases e;exact⟨ho,oc,ho⟩
  .rw[bB z]at e;by_cases z2:b=T
   .subst z2;rw[bA]at e;cases e;exact hT'
   .rw[bB z2]at e;refine(I.hok b u e).stay (fun d v hd q=>hx d v ?_ q) (fun d q=>up d _ q fun _ z=>by cases z) fun d xs q=>up d _ q fun _ z=>by cases z
    rcases hd with z3|z3
    .rw[z3];exact z2
    .intro z4;rw[z4,hT]at z3;cases z3
end
theorem JE{a b:Int}{c cv:Value}(l:List Value)(h:TriplesOk l)(hn:codeAmong pos (l++[rawInt a,rawInt b,c])=some cv):codeAmong pos l=some cv\/cv=c:=by
 fun_induction TriplesOk l with
 |case1=>
  simp only[List.nil_append,codeAmong,rawInt]at hn;split at hn
  .exact .inr (D5 hn).symm
  .cases hn
 |case2 a' t b' u x rest ih=>
  simp only[List.cons_append,codeAmong]at hn ⊢;split at hn
  .rename_i hc;rw[A4 hc];exact .inl hn
  .rename_i hc;rw[B0 hc];exact ih h hn
 |case3 l h1 h2=>exact h.elim
section
variable{X:Cx}{pins:List (Addr×Obj)}{σ:St}{H:Hp}{s:Shared}
structure Lam(H H':Hp)(T:Addr)(q:Str):Prop where
 tab:TabAt H' (T,q)
 same:∀b u,b≠T->H b=some u->H' b=some u
theorem NU{E:Value->Shared->Prop}{A:Around}{params:Arguments}{body:Expr}{scope:Scope}{pos:Pos}{c T:Addr}{q:Str}{Q:Value->Shared->Prop}(I:Inv X pins σ H s)(hdef:defaultsOf params X.env=([],[]))(hq:X.env.qual++"<lambda>"=q)
 (hcode:X.env.code=.ref c) (C:PySem.W.CodeHd X.base c T) (hT:TabAt H (T,q)) (hfr:∀y∈scope.names,y.2=.free->∃c,X.env.cells.lookup y.1=some c)
 (h:∀f c' ctv pm H' s',Inv X pins σ H' s'->Lam H H' T q->s'.heap.get? f=some (PySem.W.kla_obj "<lambda>" q params body scope (eN X.env scope.names []) pm c' ctv)->s'.heap.CodeRec (.ref c') q->s.heap.objs.size<=f->H' c'≠none->
  (∀b o,s.heap.get? b=some o->b≠T->s'.heap.get? b=some o)->Q (.ref f) s'):
 wpAny (model X.prog X.w) A (eval (.Lambda params body scope pos) X.env) Q E s:=by
 obtain⟨ps,hP,tr,am⟩:=hT;have hP:H T=some (.tbl ps):=hP;have gP:s.heap.get? T=some (PySem.W.tabObj ps):=I.hok T _ hP;have nT:∀b,H b=none->b≠T:=fun b e z=>by rw[z,hP]at e;cases e
 have Cs:PySem.W.CodeHd s.heap c T:=C.keeps I.bk;have hg:s.heap.Ns mainGlobals X.mg:=I.mod.glob.keeps I.bk
 have hgT:mainGlobals≠T:=fun z=>by
  obtain⟨o,es,ep,e,d,_⟩:=hg;rw[z,gP]at e;cases e;cases d
 have hb:s.heap.BuiltinsAt X.mg T:=by
  obtain⟨bm,ob,b1,b2,b3,b4,b5,b6⟩:=I.mod.bmn;have e3:=I.bk _ _ b3;refine⟨bm,ob,b1,b2,fun z=>?_,fun z=>?_,e3,b4,b5,b6⟩
  .obtain⟨o,es,ep,e,d,_⟩:=hg;rw[<- z,e3]at e;cases e;rw[b6]at d;cases d
  .rw[z,gP]at e3;cases e3;cases b4
 have hcl:=AS (scope:=scope) (env:=X.env) hfr;refine PySem.W.kla_eval hdef ?_;rw[hq];cases ca:codeAmong pos ps.toList with
 |none=>
  refine PySem.W.kla_makeFunction (mg:=X.mg) hcl I.ok.glob hg hcode Cs gP tr ca hgT hb fun c' ctv h' tk hx hge hlt hrec htb=>?_;obtain⟨c2,oc,vs,t,e2,hoc,hd,hv⟩:=id hrec;cases e2;have I1:Inv X pins σ (upd (upd H T (.tbl (ps++#[rawInt pos.line,rawInt pos.col,.ref c']))) c' (.frz oc (.own c'))) { s with heap:=h',toks:=tk }:=I.table hP hx htb hge hoc;have k2:∀b o,h'.get? b=some o->(h'.push (PySem.W.kla_obj "<lambda>" q params body scope (eN X.env scope.names []) ((X.mg "__name__").getD .none) c' ctv)).get? b=some o:=fun b o e=>A1 _ e;have I2:=I1.kept (t':=tk) k2;have fc:H c'=none:=I.hok.fresh hge;have Tc:T≠c':=fun z=>by rw[<- z,hP]at fc;cases fc
  have up:∀b u,H b=some u->(∀ps,u≠.tbl ps)->upd (upd H T (.tbl (ps++#[rawInt pos.line,rawInt pos.col,.ref c']))) c' (.frz oc (.own c')) b=some u:=fun b u e n=>by
   rw[bB (bF e fc),bB (fun z=>by rw[z,hP]at e;exact n _ (D5 e).symm)];exact e
  refine h h'.objs.size c' ctv _ _ _ I2 ⟨⟨_,by rw[bB Tc,bA],?_,fun pos' cv e=>?_⟩,fun b u hb' e=>by rw[bB (bF e fc),bB hb'];exact e⟩ (B9 _ rfl) (hrec.keeps k2) (J4 hge (A0c hlt)) (by rw[bA];simp) fun b o e hbT=>k2 _ _ (hx b o hbT e)
  .rw[Array.toList_append];exact TriplesOk_snoc _ _ _ _ tr
  .rw[Array.toList_append]at e;rcases JE _ tr e with e|e
   .obtain⟨d,od,u,ws,t',e1,e3,e4⟩:=am pos' cv e;exact⟨d,od,u,ws,t',e1,up d _ e3 (fun _ z=>by cases z),e4⟩
   .exact⟨c',oc,.own c',vs,t,e,bA,hd,hv⟩
 |some cv=>
  obtain⟨c',oc,u,vs,t,rfl,f1,f2,f3⟩:=am pos cv ca;have go:s.heap.get? c'=some oc:=(I.hok c' _ f1).1;refine PySem.W.kla_makeFunctionHit (mg:=X.mg) hcl I.ok.glob hg hcode Cs gP tr ca hb fun ctv h' tk hk hsz=>?_;have k2:∀b o,s.heap.get? b=some o->(h'.push (PySem.W.kla_obj "<lambda>" q params body scope (eN X.env scope.names []) ((X.mg "__name__").getD .none) c' ctv)).get? b=some o:=fun b o e=>A1 _ (hk b o e);refine h h'.objs.size c' ctv _ _ _ (I.kept (t':=tk) k2) ⟨⟨ps,hP,tr,am⟩,fun b u _ e=>e⟩ (B9 _ rfl) ⟨c',oc,vs,t,rfl,k2 _ _ go,f2,f3⟩ hsz (by rw[f1];simp) fun b o e _=>k2 b o e
end
section
variable{X:Cx}{pins:List (Addr×Obj)}{σ:St}{H:Hp}{s:Shared}
theorem VN{A:Around}{ys kk:Str}{p1 p2 p3:Pos}{params:Arguments}{scope:Scope}{q:Str}{f c' cc r:Addr}{ctv pm:Value}{clos:List (Str×Addr)}{zs:List Value}{ns:List Int}{x:Int}{tx:Tok}{h:Heap}{tk:Nat}{m:Str->Option Value}{h₀:Heap}{L:Addr}{need:List (Addr×Obj)}
 (hroom:A.depth<recursionLimit) (hlim:h.NoLimit) (F:Fr h₀ L h m) (N:News h₀ L h need)
 (ho:h.get? f=some (PySem.W.kla_obj "<lambda>" q params (.Subscript (.Name ys p1) (.Name kk p2) p3) scope clos pm c' ctv)) (hcd:h.CodeRec (.ref c') q)
 (hcl:clos.lookup ys=some cc) (hcc:h.IsCell cc (some (.ref r))) (hr:h.IsList r zs.toArray) (hz:IntsAre zs ns) (h0:0<=x) (hx:x<ns.length) (hx62:x<2 ^ 62)
 (hbind:∀cl pm cdv ct v,bindArgs (PySem.W.kla_fn "<lambda>" q params (.Subscript (.Name ys p1) (.Name kk p2) p3) scope cl pm cdv ct) ⟨[v],[]⟩=pure [(kk,v)])
 (hcell:∀y∈scope.names,y.2≠.cell) (hk:scope.kind=.function) (hco:scope.isCoroutine=false) (hgen:scope.isGenerator=false) (hkk:scope.names.lookup kk=some .local) (hys:scope.names.lookup ys=some .free)
 (hn:(ys==("__classdict__":Str))=false) (hd1:(ys==("__debug__":Str))=false) (hd2:(kk==("__debug__":Str))=false):
 wpAny (model X.prog X.w) A (call (.ref f) [.int x tx]) (KskEnd h₀ L m need (ns.getD x.toNat 0) { s with heap:=h,toks:=tk }) (fun _ _=>False) { s with heap:=h,toks:=tk }:=by
 refine wpAny_call (PySem.W.kla_callFunE hroom ho rfl hco hgen rfl hcd ?_);rw[hbind];refine B4 (wpAny_newFunctionEnv hcell (fun y hy=>by rw[List.mem_singleton.mp hy];exact hkk) (fun h1 hns hsb=>⟨hlim.fresh _ hsb,?_⟩) hk);have k1:∀b o,h.get? b=some o->h1.get? b=some o:=fun b o e=>hsb.extBut b o (C9 (B7 e)) (A1 _ e);refine PySem.W.kla_codeExpr ?_;refine Subscript_ (wpAny_Name ?_ hd1)
 have hcc':h1.IsCell cc (some (.ref r)):=by
  obtain⟨o,e,d⟩:=hcc;exact⟨o,k1 _ _ e,d⟩
 have hlk:[(kk,Value.int x tx)].reverse.lookup kk=some (.int x tx):=by simp
 refine wpAny_loadName_free (v:=.ref r) hk hys hcl hcc' (wpAny_Name ?_ hd2) hn;refine wpAny_loadName_local (v:=.int x tx) hk hkk hns hlk ?_;refine item_list_intsR (ns:=ns) ?_ hz h0 hx (by omega) fun t=>?_
 .obtain⟨o,e,d⟩:=hr;exact⟨o,k1 _ _ e,d⟩
 exact⟨h1,_,t,rfl,rfl,⟨F.ns.keeps k1,fun b o e=>k1 b o (F.keep b o e),F.above⟩,N.grown k1⟩
end
noncomputable def yT:Int×Int->List (Int×Int)->Int
 |b,[]=>b.1
 |b,y::r=>yT (if y.2<b.2 then y else b) r
theorem uI:∀(r:List (Int×Int))(b:Int×Int)(i:Nat)(v:Int×Int),(b::r)[i]?=some v->(∀(j:Nat)(u:Int×Int),(b::r)[j]?=some u->v.2<=u.2/\(j<i->v.2<u.2))->yT b r=v.1
 |[]=>fun b i v hv _=>by
  cases i with
  |zero=>cases hv;rfl
  |succ i=>simp at hv
 |y::r=>fun b i v hv hb=>by
  show yT (if y.2<b.2 then y else b) r=v.1;rcases i with _|_|i
  .cases hv;have:=(hb 1 y rfl).1;rw[B0 (by omega)];refine uI r b 0 b rfl fun j u hj=>?_;cases j with
   |zero=>cases hj;exact⟨Int.le_refl _,fun h=>absurd h (I0 _)⟩
   |succ j=>exact⟨(hb (j+2) u hj).1,fun h=>absurd h (Nat.not_lt_zero _)⟩
  .cases hv;have:=(hb 0 b rfl).2 (by omega);rw[A4 this];refine uI r y 0 y rfl fun j u hj=>?_;cases j with
   |zero=>cases hj;exact⟨Int.le_refl _,fun h=>absurd h (I0 _)⟩
   |succ j=>exact⟨(hb (j+2) u hj).1,fun h=>absurd h (Nat.not_lt_zero _)⟩
  .refine uI r _ (i+1) v hv fun j u hj=>?_;cases j with
   |zero=>
    cases hj;have h0:=(hb 0 b rfl).2 (by omega);have h1:=(hb 1 y rfl).2 (by omega);split
    .exact⟨by omega,fun _=>h1⟩
    .exact⟨by omega,fun _=>h0⟩
   |succ j=>
    have:=hb (j+2) u hj;exact⟨this.1,fun h=>this.2 (by omega)⟩
noncomputable def DT(xs zs:List Int):Int:=match xs with
 |[]=>0
 |x::r=>yT (x,zs.getD x.toNat 0) (r.map fun y=>(y,zs.getD y.toNat 0))
theorem XX{xs zs:List Int}{i:Nat}{v:Int}(hv:xs[i]?=some v)(hb:∀j,j<xs.length->zs.getD (xs.getD i 0).toNat 0<=zs.getD (xs.getD j 0).toNat 0/\(j<i->zs.getD (xs.getD i 0).toNat 0<zs.getD (xs.getD j 0).toNat 0)):DT xs zs=v:=by
 cases xs with
 |nil=>simp at hv
 |cons x r=>
  have e:(x,zs.getD x.toNat 0)::r.map (fun y=>(y,zs.getD y.toNat 0))=(x::r).map fun y=>(y,zs.getD y.toNat 0):=rfl;have gv:(x::r).getD i 0=v:=by rw[A6,hv];rfl
  refine uI (r.map fun y=>(y,zs.getD y.toNat 0)) (x,zs.getD x.toNat 0) i (v,zs.getD v.toNat 0) (by rw[e,C4,hv];rfl) fun j u hj=>?_;rw[e,C4]at hj;cases c:(x::r)[j]? with
  |none=>rw[c]at hj;cases hj
  |some y=>
   rw[c]at hj;cases hj;have gy:(x::r).getD j 0=y:=by rw[A6,c];rfl
   have:=hb j (List.getElem?_eq_some_iff.mp c).1;rw[gv,gy]at this;exact this
noncomputable def RV(K:Fg)(T:Addr)(q:Str)(i:Nat)(t:TA):TE:=fun σ H Q=>t σ H fun vs H1=>∃p r xs zs,vs=[.ref p]/\SqL K H1 p (xs.map V.int)/\0<xs.length/\σ[i]?=some (some (.ref r))/\SqL K H1 r (zs.map V.int)/\(∀x∈xs,0<=x/\x<zs.length)/\TabAt H1 (T,q)/\∀H2,Lam H1 H2 T q->Q (.int (DT xs zs)) H2
theorem SqL.lam{H':Hp}{T p:Addr}{q:Str}{vs:List V}(l:Lam H H' T q)(t:TabAt H (T,q))(h:SqL K H p vs):SqL K H' p vs:=by
 obtain⟨ps,e,_⟩:=t;have e:H T=some (.tbl ps):=e;rcases h with(h|⟨o,h⟩)|h
 .exact .inl (.inl (l.same _ _ (fun z=>by rw[z,e]at h;cases h) h))
 .exact .inl (.inr ⟨o,l.same _ _ (fun z=>by rw[z,e]at h;cases h) h⟩)
 .exact .inr h
noncomputable def NM(K:Fg)(cdv:Value)(T:Addr):Prop:=∃c,cdv=.ref c/\∀h,K.In h->PySem.W.CodeHd h c T
section
variable{X:Cx}
theorem YX{i:Nat}{ys kk:Str}{a:Expr}{t:TA}{p pos p1 p2 p3 lp kp:Pos}{params:Arguments}{scope:Scope}{q:Str}{T:Addr}(hc:X.calm=true)(hroom:X.A.in1.depth<recursionLimit)(hg:Gl X "min")(hm:X.mg "min"=none)(ha:PA X [a] t)
 (hN:X.N[i]?=some ys) (hv:X.env.kindOf ys=some .cell\/X.env.kindOf ys=some .free) (hdef:defaultsOf params X.env=([],[])) (hq:X.env.qual++"<lambda>"=q) (CK:NM X.K X.env.code T) (hfr:∀y∈scope.names,y.2=.free->X.env.kindOf y.1=some .cell\/X.env.kindOf y.1=some .free)
 (hbind:∀cl pm cdv ct v,bindArgs (PySem.W.kla_fn "<lambda>" q params (.Subscript (.Name ys p1) (.Name kk p2) p3) scope cl pm cdv ct) ⟨[v],[]⟩=pure [(kk,v)])
 (hcell:∀y∈scope.names,y.2≠.cell) (hk:scope.kind=.function) (hco:scope.isCoroutine=false) (hgen:scope.isGenerator=false) (hkk:scope.names.lookup kk=some .local) (hys:scope.names.lookup ys=some .free)
 (hn:(ys==("__classdict__":Str))=false) (hd1:(ys==("__debug__":Str))=false) (hd2:(kk==("__debug__":Str))=false)
 (he:backTo pos (starEach [a] X.env)=(false,eval a X.env)::backTo pos (starEach [] X.env):=by rfl) (hpl:(backTo pos (starEach [a] X.env)).any (·.1)=false:=by rfl):
 PE X (.Call (.Name "min" p) [a] [⟨some "key",.Lambda params (.Subscript (.Name ys p1) (.Name kk p2) p3) scope lp,kp⟩] pos) (RV X.K T q i t):=by
 intro pins s σ H Q I h;obtain⟨c,hcode,C⟩:=CK;refine Y9 (mM I hg hm (u:=.builtin "min") (by decide +kernel) ?_ (by decide) (by decide));refine callWith_kw (thn (ha pos pins s σ H _ I h) fun us s1 ⟨vs,H1,I1,r1,q1⟩=>?_) he hpl;obtain⟨l,r,xs,zs,rfl,hl,hne,hr,hrz,hin,hT,fin⟩:=q1;obtain⟨u,rfl,ru⟩:=vals1 r1;cases ru;refine kws_cons (NU I1 hdef hq hcode (C _ I1.mod.kin) hT (fun y hy e=>I1.ok.has y.1 (hfr y hy e)) fun f c' ctv pm H2 s2 I2 lm gf hcd hf hc' hold=>kws_nil ?_);obtain⟨its,rv,pl,hz⟩:=I2.list (hl.lam lm hT);obtain⟨jts,rw_,pr,hzr⟩:=I2.list (hrz.lam lm hT);have hi:=intsAre_of rv;have hj:=intsAre_of rw_;obtain⟨m,F⟩:=I2.fr;have N:News X.base X.env.locals s2.heap (gE X.base s2.heap X.env.locals):=vI
 have kp:∀(h1:Heap),Fr X.base X.env.locals h1 m->News X.base X.env.locals h1 (gE X.base s2.heap X.env.locals)->∀b o,b≠X.env.locals->s2.heap.get? b=some o->h1.get? b=some o:=fun h1 G1 M1 b o hb e=>by
  cases z:X.base.get? b with
  |some v=>
   have:=I2.bk b v z;rw[e]at this;cases this;exact G1.keep b _ z
  |none=>exact(M1 (b,o) (gL hb z e)).1
 have notL:∀b o,s2.heap.get? b=some o->(∀es ep,o.data≠.dict es ep)->b≠X.env.locals:=fun b o e n z=>by
  obtain⟨o',es,ep,x1,x2,_⟩:=F.ns;subst z;rw[e]at x1;cases x1;exact n es ep x2
 have isL:∀(b:Addr)(vs:List Value),s2.heap.IsList b vs.toArray->∀h1,Fr X.base X.env.locals h1 m->News X.base X.env.locals h1 (gE X.base s2.heap X.env.locals)->h1.IsList b vs.toArray:=fun b vs hb h1 F1 N1=>by
  obtain⟨o,e,d⟩:=hb;obtain⟨n,d'⟩:=id d.2;exact⟨o,kp h1 F1 N1 b o (notL b o e fun es ep z=>by rw[d']at z;cases z) e,d⟩
 obtain⟨mm,hns,hloc⟩:=I2.loc;obtain⟨u,ru,lk⟩:=hloc i ys (.ref r) hN hr (hv.elim (fun z=>.inr (.inl z)) fun z=>.inr (.inr z));cases ru
 obtain⟨cc,hcc,icc⟩:∃cc,X.env.cells.lookup ys=some cc/\s2.heap.IsCell cc (some (.ref r)):=by
  rcases lk with⟨hk',_⟩|⟨_,c0,h1,h2⟩
  .rcases hv with z|z<;>rw[z]at hk'<;>cases hk'
  .exact⟨c0,h1,h2⟩
 have hclo:(eN X.env scope.names []).lookup ys=some cc:=by
  obtain⟨c1,e1⟩:=rO (env:=X.env) scope.names [] ys (.inl (J8 hys));have:=vO scope.names [] (fun y hy e=>I2.ok.has y.1 (hfr y hy e)) (fun x c e=>by simp at e) ys c1 e1;rw[hcc]at this;cases this;exact e1
 have lenX:its.length=xs.length:=by have:=hi.length;omega
 have lenZ:jts.length=zs.length:=by have:=hj.length;omega
 have sz62:zs.length<2 ^ 62:=by
  have:=hzr;rw[A0,J9]at this;omega
 refine kmk_min (vs:=its) (fun j=>zs.getD (xs.getD j 0).toNat 0) (I2.ok.hd hc) F N (isL l its pl.isList) (by omega) (fun j v hv' h1 tk own F1 N1=>?_) fun j v h1 tk hv' hb F1 N1=>?_
 .have N1':News X.base X.env.locals h1 (gE X.base s2.heap X.env.locals):=fun z hz=>N1 z (J6 _ hz);have hjl:j<xs.length:=by have:=(List.getElem?_eq_some_iff.mp hv').1;omega
  obtain⟨x,hx⟩:∃x,xs[j]?=some x:=⟨_,A8 hjl⟩;obtain⟨t',ht⟩:=hi.get j x hx;rw[hv']at ht;cases ht;have gx:xs.getD j 0=x:=by rw[A6,hx];rfl
  rw[gx];obtain⟨x0,x1⟩:=hin x (List.mem_of_getElem? hx)
  have icc1:h1.IsCell cc (some (.ref r)):=by
   obtain⟨o,e,d⟩:=icc;exact⟨o,kp h1 F1 N1' cc o (notL cc o e fun es ep z=>by rw[d]at z;cases z) e,d⟩
  have gf1:=kp h1 F1 N1' f _ (notL f _ gf fun es ep z=>by cases z) gf
  have cd1:h1.CodeRec (.ref c') q:=by
   obtain⟨c2,o,vs,t2,e1,e2,e3⟩:=hcd;exact⟨c2,o,vs,t2,e1,kp h1 F1 N1' c2 o (notL c2 o e2 fun es ep z=>by rw[e3.1]at z;cases z) e2,e3⟩
  have lim:h1.NoLimit:=I2.ok.mod.nolimit.keeps F1.keep;exact VN (X:=X) hroom lim F1 N1 gf1 cd1 hclo icc1 (isL r jts pr.isList h1 F1 N1') hj x0 x1 (by omega) hbind hcell hk hco hgen hkk hys hn hd1 hd2
 .have hjl:j<xs.length:=by have:=(List.getElem?_eq_some_iff.mp hv').1;omega
  obtain⟨x,hx⟩:∃x,xs[j]?=some x:=⟨_,A8 hjl⟩;obtain⟨t',ht⟩:=hi.get j x hx;rw[hv']at ht;cases ht;have mk:DT xs zs=x:=XX hx fun k hk'=>hb k (by omega);refine⟨.int x,H2,I2.keptL (t':=tk) (kp h1 F1 N1) (fun m' hm'=>?_),⟨t',rfl⟩,mk▸fin H2 lm⟩;rw[<- yG F.ns hm'];exact F1.ns
end
section
variable{K:Fg}
noncomputable def oZ(K:Fg)(T:Addr)(q:Str):Prop:=mH K=[(T,q)]
noncomputable def IH(i:Nat)(fa:AF):EF:=fun γ M=>(fa γ M).bind fun r=>match r.1,γ[i]? with
 |[.d (.list ds)],some (some (.d (.list es)))=>(cR ds).bind fun xs=>(cR es).bind fun zs=>if 0<xs.length/\xs.all (fun x=>decide (0<=x)&&decide (x<zs.length))=true then some (.d (.int (DT xs zs)),r.2)else none
 |_,_=>none
theorem Good.lam{W:Wd}{M:Sto}{H':Hp}{T:Addr}{q:Str}(g:Good K W M H)(o:oZ K T q)(l:Lam H H' T q):Good K W M H':=by
 obtain⟨f0,ps,eT,_⟩:=g.tb (T,q) (by rw[show mH K=[(T,q)]from o];exact List.mem_singleton.mpr rfl);have eT:H T=some (.tbl ps):=eT;have f0:W.F T=none:=f0;refine⟨fun b u hb=>l.same b u (fun z=>by rw[z,f0]at hb;cases hb) (g.fh b u hb),g.n,fun i c hi hc=>?_,g.inj,fun x hx=>?_⟩
 .obtain⟨h1,o',h2,h3⟩:=g.cs i c hi hc;exact⟨h1,o',l.same _ _ (fun z=>by rw[z,eT]at h2;exact h3.nt.1 ps (D5 h2).symm) h2,h3⟩
 .have hx':=hx;rw[show mH K=[(T,q)]from o]at hx';rw[List.mem_singleton.mp hx'];exact⟨f0,l.tab⟩
theorem XZ{T:Addr}{q:Str}{i:Nat}{tA:TA}{fa:AF}(o:oZ K T q)(a:SA K tA fa):SE K (RV K T q i tA) (IH i fa):=by
 intro γ M x M' hh W H σ Q G R k;obtain⟨⟨ys,M1⟩,h1,hh⟩:=aP hh;revert hh;dsimp only;split
 .rename_i ds es hes;intro hh;obtain⟨xs,e1,hh⟩:=aP hh;obtain⟨zs,e2,hh⟩:=aP hh;by_cases hc:0<xs.length/\xs.all (fun x=>decide (0<=x)&&decide (x<zs.length))=true
  .rw[A4 hc]at hh;cases hh;refine a _ _ _ _ h1 W H σ _ G R fun vs W1 H1 x1 G1 r1=>?_;rcases r1 with _|⟨r1,_|_⟩;obtain⟨p,us,rfl,hq,hr⟩:=(show ∃a us,_=V.ref a/\SqL K W1.F a us/\aK K W1.F ds us from r1);rw[oG e1]at hr;have eu:=iO hr;subst eu;obtain⟨ov,hov,rov⟩:=Paired.get R hes;cases ov with
   |none=>exact False.elim rov
   |some v2=>
    obtain⟨r,us2,rfl,hq2,hr2⟩:=(show ∃a us,v2=V.ref a/\SqL K W1.F a us/\aK K W1.F es us from dS.up (x:=.d (.list es)) (show dS K W (.d (.list es)) v2 from rov) x1);rw[oG e2]at hr2;have eu2:=iO hr2;subst eu2;refine⟨p,r,xs,zs,rfl,G1.fh.seq hq,hc.1,hov,G1.fh.seq hq2,fun x hx=>?_,(G1.tb (T,q) (by rw[show mH K=[(T,q)]from o];exact List.mem_singleton.mpr rfl)).2,fun H2 lm=>k _ W1 H2 x1 (G1.lam o lm) rfl⟩;have:=List.all_eq_true.mp hc.2 x hx;rw[B5,D9,D9]at this;exact this
  .rw[B0 hc]at hh;cases hh
 .intro hh;cases hh
end
section
variable{ι:Type}{K:Fg}{X:ι->Cx}
theorem XT(i:Nat){ys kk:Str}{a:Expr}{fa:AF}{p pos p1 p2 p3 lp kp:Pos}{params:Arguments}{scope:Scope}{q:Str}{T:Addr}(o:oZ K T q)(hK:∀j,(X j).K=K)(hc:∀j,(X j).calm=true)(hroom:∀j,(X j).A.in1.depth<recursionLimit)(hm:∀j,(X j).mg "min"=none)(ha:MA K X [a] fa)
 (hN:∀j,(X j).N[i]?=some ys) (hv:∀j,(X j).env.kindOf ys=some .cell) (hq:∀j,(X j).env.qual++"<lambda>"=q) (CK:∀j,NM K (X j).env.code T)
 (hfr:∀j,∀y∈scope.names,y.2=.free->(X j).env.kindOf y.1=some .cell\/(X j).env.kindOf y.1=some .free)
 (hbind:∀cl pm cdv ct v,bindArgs (PySem.W.kla_fn "<lambda>" q params (.Subscript (.Name ys p1) (.Name kk p2) p3) scope cl pm cdv ct) ⟨[v],[]⟩=pure [(kk,v)])
 (hst:(scope.names.all (fun y=>y.2 != .cell)&&(scope.kind==.function)&&!scope.isCoroutine&&!scope.isGenerator&&(scope.names.lookup kk==some .local)&&(scope.names.lookup ys==some .free)&&!(ys==("__classdict__":Str))&&!(ys==("__debug__":Str))&&!(kk==("__debug__":Str)))=true)
 (hg:∀j,Gl (X j) "min":=by intro _;rfl) (hdef:∀env:Env,defaultsOf params env=([],[]):=by intro _;rfl)
 (he:∀env:Env,backTo pos (starEach [a] env)=(false,eval a env)::backTo pos (starEach [] env):=by intro _;rfl) (hpl:∀env:Env,(backTo pos (starEach [a] env)).any (·.1)=false:=by intro _;rfl):
 ME K X (.Call (.Name "min" p) [a] [⟨some "key",.Lambda params (.Subscript (.Name ys p1) (.Name kk p2) p3) scope lp,kp⟩] pos) (IH i fa):=by
 obtain⟨t,x1,x2⟩:=ha.ex;simp only[Bool.and_eq_true,List.all_eq_true,bne_iff_ne,beq_iff_eq,Bool.not_eq_true']at hst;obtain⟨⟨⟨⟨⟨⟨⟨⟨s1,s2⟩,s3⟩,s4⟩,s5⟩,s6⟩,s7⟩,s8⟩,s9⟩:=hst;refine⟨RV K T q i t,fun j=>?_,XZ o x2⟩;have:=YX (X:=X j) (i:=i) (ys:=ys) (kk:=kk) (a:=a) (t:=t) (p:=p) (pos:=pos) (p1:=p1) (p2:=p2) (p3:=p3) (lp:=lp) (kp:=kp) (params:=params) (scope:=scope) (q:=q) (T:=T) (hc j) (hroom j) (hg j) (hm j) (x1 j) (hN j) (.inl (hv j)) (hdef _) (hq j) (by rw[hK j];exact CK j) (hfr j) hbind (fun y hy=>by simpa using s1 y hy) s2 s3 s4 s5 s6 s7 s8 s9 (he _) (hpl _);rw[hK j]at this;exact this
end
noncomputable def UG(o:Obj)(c:Addr):Option Addr:=match o.data with
 |.fields vs=>match (vs[11]?:Option Value),vs.getD 18 .none,vs.getD 7 .none,vs.getD 9 .none,vs.getD 10 .none with
  |some (Value.ref T),.str _ _,.int _ _,.bool _,.int _ _=>if o.cls=.type "code"/\c≠T then some T else none
  |_,_,_,_,_=>none
 |_=>none
noncomputable def vW(K:Fg)(x:Str):Bool:=K.all fun p=>match p.2.data with
 |.func fd=>if fd.name=x then(match fd.code with
  |.ref c=>(match K.lookup c with
   |some o=>(UG o c).isSome
   |none=>false)
  |_=>false)else true
 |_=>true
theorem YU{o:Obj}{c T:Addr}(h:UG o c=some T){hp:Heap}(e:hp.get? c=some o):PySem.W.CodeHd hp c T:=by
 unfold UG at h;split at h
 .rename_i vs hd;split at h
  .rename_i T' a1 a2 b1 b2 c1 d1 d2 f1 f2 f3 f4 f5;split at h
   .rename_i hc;cases h;refine⟨o,vs,a1,a2,b1,b2,c1,d1,d2,e,hc.1,hd,f1,?_,f2,f3,f4,f5,hc.2⟩;rw[F8,f1];rfl
   .cases h
  .cases h
 .cases h
theorem SY{o:Obj}{c T:Addr}(h:UG o c=some T)(l:K.lookup c=some o):tabOf K (.ref c)=some T:=by
 unfold tabOf;dsimp only;rw[l];dsimp only;unfold UG at h;split at h
 .rename_i vs hd;split at h
  .rename_i T' a1 a2 b1 b2 c1 d1 d2 f1 f2 f3 f4 f5;split at h
   .cases h
    first|rw[f1]|(rw[hd];dsimp only;rw[f1])
   .cases h
  .cases h
 .cases h
theorem KJ{a:Addr}{o:Obj}:∀{K:Fg},K.lookup a=some o->(a,o)∈K
 |[]=>fun h=>by cases h
 |(b,u)::K=>fun h=>by
  rw[F0]at h;cases e:a==b with
  |true=>rw[e]at h;cases h;rw[eq_of_beq e];exact B2
  |false=>rw[e]at h;exact B1 _ (KJ h)
theorem BR{x:Str}{f:Addr}{o:Obj}{fd:FuncData}(h:vW K x=true)(l:K.lookup f=some o)(hd:o.data=.func fd)(hn:fd.name=x):∃c T,fd.code=.ref c/\tabOf K fd.code=some T/\NM K fd.code T:=by
 have:=List.all_eq_true.mp h (f,o) (KJ l);dsimp only at this;rw[hd]at this;dsimp only at this;rw[A4 hn]at this;split at this
 .rename_i c hc;split at this
  .rename_i oc hl;obtain⟨T,hT⟩:=Option.isSome_iff_exists.mp this;exact⟨c,T,hc,by rw[hc];exact SY hT hl,c,hc,fun hp hk=>YU hT (hk _ _ hl)⟩
  .cases this
 .cases this
section
variable{P:Program}{w:World}{K:Fg}{mg:Str->Option Value}
theorem LP{x:Str}{f T:Addr}{o:Obj}{fd:FuncData}(l:K.lookup f=some o)(hd:o.data=.func fd)(hn:fd.name=x)(hl:uS.contains x=true)(ht:tabOf K fd.code=some T):(T,fd.qualname++".<locals>.<lambda>")∈mH K:=by
 unfold mH;refine List.mem_filterMap.mpr ⟨(f,o),KJ l,?_⟩;dsimp only;rw[hd];dsimp only;rw[hn,A4 hl,ht];rfl
theorem Def.okT{base:Heap}{x:Str}{st:Stmt}{N ps:List Str}{k:Nat}{b:SF}{T:Addr}{qn:Str}(D:Def K mg x st)(ct:vW K x=true)(o:oZ K T qn)(hl:uS.contains x=true)(S:bI N ps (aJ st))
 (hb:∀(kV doc pm:Value)(an:Option Addr)(cdv ct:Value)(us:List Value),us.length=ps.length->bindArgs (PySem.W.fnOf x x (iG st) (dF st) (aJ st) .none kV doc pm an cdv ct) ⟨us,[]⟩=pure (ps.zip us))
 (hbody:∀(f:Addr)(cdv:Value)(A:Around)(outer:List Env)(s:Shared)(H:Hp)(E:XK),NM K cdv T->fX k (A.deeper (envOfC x (aJ st) s.heap.objs.size f cdv)) true->
  ML K (fun _:Unit=>(vP CX0 P w K mg base N x (aJ st) f cdv A outer s H E true).nox) (dF st) b):Callee P w K mg base (k+1) x ps (spM K (fnF ps.length N.length b)) true:=by
 have len:∀vs H Q E,spM K (fnF ps.length N.length b) vs H Q E->vs.length=ps.length:=fun vs H Q E h=>by
  obtain⟨xs,M,W,y,M',G,R,hf,_⟩:=h;by_cases hl:xs.length=ps.length
  .rw[<- Paired.len R];exact hl
  .unfold fnF at hf;rw[B0 hl]at hf;cases hf
 obtain⟨f,fd,F,m⟩:=D.ex;have Fb:=F.binds hb;obtain⟨oc,od,kV,doc,pm,an,cdv,ct',osl,rfl,lk,hcd⟩:=id F.ex;obtain⟨c,T',e1,e2,ck⟩:=BR ct lk rfl rfl
 have eT:T'=T:=by
  have:=LP lk rfl rfl hl e2;rw[show mH K=[(T,qn)]from o]at this;exact D4 Prod.fst (List.mem_singleton.mp this)
 subst eT;refine⟨f,_,aBD lk hcd S len fun A outer s H vs Q E hr h=>?_,m,F.kp,Fb⟩;obtain⟨t,hP,hS⟩:=(hbody f cdv A outer s H E ck hr).ex;refine⟨t,(hP ()).nox,?_⟩;obtain⟨xs,M,W,y,M',G,R,hf,k⟩:=h;by_cases hl:xs.length=ps.length
 .unfold fnF at hf;rw[A4 hl]at hf;obtain⟨⟨o,M1⟩,h1,hf⟩:=aP hf
  have hR:gG K W (xs.map some++List.replicate (N.length-xs.length) none) (start N vs):=by
   unfold start;rw[<- Paired.len R];exact Paired.app (cJ.some R) (uP _)
  refine hS _ _ _ _ h1 W H _ _ G hR fun W1 H1 e1 G1=>?_;cases o with
  |rt x=>cases hf;exact fun v r=>k v W1 H1 e1 G1 r
  |nx γ=>cases hf;exact fun σ r=>k .non W1 H1 e1 G1 rfl
  |bk γ=>cases hf
  |ct γ=>cases hf
 .unfold fnF at hf;rw[B0 hl]at hf;cases hf
noncomputable def SN(T:Addr)(H:Hp):Prop:=H T=some (.tbl #[])/\∀b,b≠T->H b=none\/∃o xs,H b=some (.frz o (.lst xs))
theorem PB{mb:Str->Option Value}{k:Nat}{fa a T c:Addr}{fd:FuncData}{x:Str}{sp:Sp}{s₁:Shared}{vs:List Value}{ns:List Int}
 (KX:K.In s₁.heap) (hns:s₁.heap.Ns mainGlobals mg) (hb:s₁.heap.Ns builtinsNs mb) (hbb:∀x:Str,x≠"__name__"->mb x=bootBuiltins x) (hlim:s₁.heap.NoLimit) (hsm:∃mm,s₁.heap.Ns sysModules mm)
 (hbm:∃bm ob,mg "__builtins__"=some (.ref bm)/\bm≠builtinsNs/\s₁.heap.get? bm=some ob/\ob.cls=.type "module"/\ob.dict=some builtinsNs/\ob.data=.plain) (hg:s₁.gens=#[])
 (hT:s₁.heap.TableAt c T #[]) (hTK:K.lookup T=none)
 (ha:s₁.heap.get? a=some { cls:=.type "list",data:=.seq vs.toArray }) (hi:IntsAre vs ns) (hl:ns.length<=sizeLine) (hr:fX k callerA)
 (F:∀base:Heap,K.In base->base.Ns mainGlobals mg->rF P w K mg base CX0 k fa fd [x] sp) (hbind:∀(s:Shared)(u:Value),BindsTo s fd ⟨[u],[]⟩ [(x,u)])
 (hsp:∀H:Hp,SN T H->SqL K H a (ns.map V.int)->sp [.ref a] H (fun v _=>v=.bl true) fun _ _ _=>False):
 codeAny (model P w) callerA (.call (.ref fa) ⟨[.ref a],[]⟩) (fun r s'=>r=.ok (.ret (.bool true))/\OldK s₁.heap s'.heap/\s'.os=s₁.os/\AllBare s'.gens) s₁:=by
 have rv:=vX hi;have lenV:=hi.length;have gT:s₁.heap.get? T=some { cls:=.none,data:=.fields #[] }:=hT.2;have aT:a≠T:=fun z=>by rw[z,gT]at ha;cases ha
 have core:∀H:Hp,SN T H->SqL K H a (ns.map V.int)->HOk P w H s₁.heap->(∀b,H b≠none->b=a\/b=T)->(H a≠none->K.lookup a=none)->
  codeAny (model P w) callerA (.call (.ref fa) ⟨[.ref a],[]⟩) (fun r s'=>r=.ok (.ret (.bool true))/\OldK s₁.heap s'.heap/\s'.os=s₁.os/\AllBare s'.gens) s₁:=by
  intro H hO hS hok hA hK;have base_of:∀{b:Addr}{o:Obj},s₁.heap.get? b=some o->H b=none->(uQ s₁.heap H).get? b=some o:=fun e n=>HR e n
  have noH:∀{b:Addr}{o:Obj},s₁.heap.get? b=some o->(∀us n,o.data≠.seq us n)->(∀us,o.data≠.fields us)->H b=none:=fun{b o} e d1 d2=>by
   cases q:H b with
   |none=>rfl
   |some u=>
    rcases hA b (by rw[q];simp)with e'|e'
    .subst e';rw[ha]at e;cases e;exact absurd rfl (d1 _ _)
    .subst e';rw[gT]at e;cases e;exact absurd rfl (d2 _)
  have nsK:∀{b:Addr}{m:Str->Option Value},s₁.heap.Ns b m->(uQ s₁.heap H).Ns b m:=fun{b m} ⟨o,es,ep,e,d,r⟩=>⟨o,es,ep,base_of e (noH e (fun us n z=>by rw[d]at z;cases z) fun us z=>by rw[d]at z;cases z),d,r⟩
  have hKb:K.In (uQ s₁.heap H):=fun b o e=>base_of (KX b o e) (by
   cases q:H b with
   |none=>rfl
   |some u=>
    rcases hA b (by rw[q];simp)with e'|e'
    .subst e';rw[hK (by rw[q];simp)]at e;cases e
    .subst e';rw[hTK]at e;cases e)
  have hM:Mod K mg (uQ s₁.heap H):=⟨hKb,nsK hns,⟨mb,nsK hb,hbb⟩,(let⟨mc,h1,h2⟩:=hlim;⟨mc,nsK h1,h2⟩),(let⟨mm,hmm⟩:=hsm;let⟨o,es,ep,h1,h2,_⟩:=nsK hmm;⟨o,es,ep,h1,h2⟩),
   (let⟨bm,ob,b1,b2,b3,b4,b5,b6⟩:=hbm;⟨bm,ob,b1,b2,base_of b3 (noH b3 (fun us n z=>by rw[b6]at z;cases z) fun us z=>by rw[b6]at z;cases z),b4,b5,b6⟩)⟩
  have e0:XD P w K mg (uQ s₁.heap H) callerA [] s₁ H:=⟨rfl,hM,fun b o e=>LF e,Nat.le_of_eq (BV _ _),trivial,fun b hb=>absurd (show b∈([]:List Addr)from hb) (by simp),hok,.of_eq hg⟩;refine codeAny_mono ((F _ hKb (nsK hns)).run callerA [] s₁ H ⟨[.ref a],[]⟩ [.ref a] [.ref a] _ _ hr e0 (hbind s₁ (.ref a)) (.cons rfl .nil) (hsp H hO hS)) fun r s' h=>?_;cases r with
  |error e=>exact False.elim h
  |ok fl=>
   cases fl with
   |next=>exact False.elim h
   |brk=>exact False.elim h
   |cont=>exact False.elim h
   |ret u=>
    obtain⟨v,H',os,bare,un,hok',r',q⟩:=h;have q':v=.bl true:=q;subst q';obtain rfl:u=Value.bool true:=r'
    have kept:∀b o,b≠T->s₁.heap.get? b=some o->s'.heap.get? b=some o:=fun b o hbT e=>by
     cases q:H b with
     |none=>exact un.keep b o e q (by intro z;exact absurd (show b∈([]:List Addr)from z) (by simp)) (by simp)
     |some u=>
      rcases hO.2 b hbT with z|⟨ob,xs,z⟩
      .rw[q]at z;cases z
      .have z2:=un.frzs b ob _ z;obtain⟨e1,_⟩:=hok b _ z;obtain⟨e2,_⟩:=hok' b _ z2;rw[e]at e1;cases e1;exact e2
    obtain⟨more,hm⟩:=un.tbls T #[] hO.1;have gT':s'.heap.get? T=some { cls:=.none,data:=.fields (#[]++more) }:=hok' T _ hm;refine⟨rfl,⟨fun b o e=>?_,fun b o e=>?_⟩,os,bare⟩
    .by_cases hbT:b=T
     .subst hbT;rw[gT]at e;cases e;exact .inr (.inl ⟨hT.isCodeTable,rfl,#[],more,rfl,gT'⟩)
     .exact .inl (kept b o hbT e)
    .by_cases hbT:b=T
     .subst hbT;exact⟨_,gT'⟩
     .exact⟨o,kept b o hbT e⟩
 cases hk:K.lookup a with
 |some o=>
  have e:=KX a o hk;rw[ha]at e;cases e;refine core (fun b=>if b=T then some (.tbl #[])else none) ⟨A4 rfl,fun b hbT=>.inl (B0 hbT)⟩ (.inr ⟨_,vs.toArray,_,hk,rfl,rfl,rfl,by rw[C6,lenV];exact hl,by simpa using rv⟩) (fun b u z=>?_) (fun b z=>?_) fun z=>absurd (B0 aT) z
  .by_cases hbT:b=T
   .have z':=(A4 hbT).symm.trans z;cases z';subst hbT;exact gT
   .have z':=(B0 hbT).symm.trans z;cases z'
  .by_cases hbT:b=T
   .exact .inr hbT
   .exact absurd (B0 hbT) z
 |none=>
  refine core (fun b=>if b=T then some (.tbl #[])else if b=a then some (.frz { cls:=.type "list",data:=.seq vs.toArray } (.lst (ns.map V.int)))else none) ⟨A4 rfl,fun b hbT=>?_⟩ (.inl (.inr ⟨{ cls:=.type "list",data:=.seq vs.toArray },(B0 aT).trans (A4 rfl)⟩)) (fun b u z=>?_) (fun b z=>?_) fun _=>hk
  .by_cases hb:b=a
   .exact .inr ⟨_,_,(B0 hbT).trans (A4 hb)⟩
   .exact .inl ((B0 hbT).trans (B0 hb))
  .by_cases hbT:b=T
   .have z':=(A4 hbT).symm.trans z;cases z';subst hbT;exact gT
   .by_cases hb:b=a
    .have z':=((B0 hbT).trans (A4 hb)).symm.trans z;cases z';subst hb;exact⟨ha,by rw[A0];exact hl,vs,_,rv,ha⟩
    .have z':=((B0 hbT).trans (B0 hb)).symm.trans z;cases z'
  .by_cases hbT:b=T
   .exact .inr hbT
   .by_cases hb:b=a
    .exact .inl hb
    .exact absurd ((B0 hbT).trans (B0 hb)) z
end
theorem ZU{F:FN}(hF:∀ns:List Int,ns.length<=63->∃M',F [.d (.list (ns.map .int))] []=some (.d (.bool true),M')){a T:Addr}{qn:Str}{ns:List Int}(hl:ns.length<=63)(hS:SqL K H a (ns.map V.int))(o:oZ K T qn)(hO:SN T H)(E:XK):
 spM K F [.ref a] H (fun v _=>v=.bl true) E:=by
 obtain⟨M',h⟩:=hF ns hl
 have ne:∀b u,H b=some u->(∀ps,u≠.tbl ps)->(if b=T then none else H b)=some u:=fun b u e n=>by
  rw[B0 (fun z=>by rw[z,hO.1]at e;exact n _ (D5 e).symm)];exact e
 have hS':SqL K (fun b=>if b=T then none else H b) a (ns.map V.int):=by
  rcases hS with(h|⟨o,h⟩)|h
  .exact .inl (.inl (ne _ _ h fun _ z=>by cases z))
  .exact .inl (.inr ⟨o,ne _ _ h fun _ z=>by cases z⟩)
  .exact .inr h
 have tb:TabsOk K (fun b=>if b=T then none else H b) H:=fun x hx=>by
  rw[show mH K=[(T,qn)]from o]at hx;rw[List.mem_singleton.mp hx];exact⟨A4 rfl,#[],hO.1,True.intro,fun pos cv e=>by cases e⟩
 have fh:lM (fun b=>if b=T then none else H b) H:=fun b u e=>by
  have e:(if b=T then none else H b)=some u:=e;by_cases z:b=T
  .rw[A4 z]at e;cases e
  .rw[B0 z]at e;exact e
 exact⟨[.d (.list (ns.map .int))],[],⟨fun b=>if b=T then none else H b,fun _=>0,0⟩,_,M',⟨fh,rfl,fun i c h=>by simp at h,fun i j c c' h=>by simp at h,tb⟩,.cons (show ∃a' vs,V.ref a=.ref a'/\SqL K (fun b=>if b=T then none else H b) a' vs/\aK K (fun b=>if b=T then none else H b) (ns.map .int) vs from⟨a,ns.map V.int,rfl,hS',uO ns⟩) .nil,h,fun v W' H' _ _ r=>r⟩
theorem law_walk2{l:PySem.W.OpenLaw}{q:Program}{loose:List Str}{XP:(Str->Option Value)->Heap->Prop}{YP:World->Heap->Prop}{d:DefRec}{K:Params->Fg}{F:FN}{k:Nat}{p xd:Str}(hq:PyProof.Rows.importsNone q=true)(hn:l.most=some 63)(hdf:d.params.defaults=[])(hr:fX k callerA)
 (hY:∀(w:World)(h:Heap),YP w h->(K w.params).In h) (hrec:((recsOf q).any fun d=>d.name==xd)=true) (hlam:uS.contains xd=true)
 (hT:∀(w:World)(mg:Str->Option Value)(h:Heap),(K w.params).In h->h.Ns mainGlobals mg->(∃f fd,mg d.name=some (.ref f)/\(∀(s:Shared)(u:Value),BindsTo s fd ⟨[u],[]⟩ [(p,u)])/\∀base,rF l.prog w (K w.params) mg base CX0 k f fd [p] (spM (K w.params) F)) /\
  ∃T qn st,oZ (K w.params) T qn/\(K w.params).lookup T=none/\Def (K w.params) mg xd st/\vW (K w.params) xd=true)
 (hF:∀ns:List Int,ns.length<=63->∃M',F [.d (.list (ns.map .int))] []=some (.d (.bool true),M')):
 PySem.W.WalkO q loose XP YP l.row.toRowW d [] (fun f vs=>PySem.call f vs):=by
 refine Att.attach_call hn hdf fun w s₀ s₁ mg mb fa o pm cd doc a vs ns G Y ho hd hcd hmg hobj hints hlen hg=>?_;have KX:=hY w _ Y;obtain⟨⟨f,fd,m,hb,hf⟩,T,qn,st,oT,nT,D,ck⟩:=hT w mg _ KX G.T.g;have e:(some (Value.ref f))=some (.ref fa):=m.symm.trans hmg;cases e;obtain⟨d2,hd2,en⟩:=List.any_eq_true.mp hrec;have en:d2.name=xd:=eq_of_beq en;obtain⟨a2,o2,fd2,c2,P2,m2,g2,k2,e2,_,t2⟩:=G.T.tab d2 hd2;obtain⟨f3,fd3,F3,m3⟩:=D.ex;obtain⟨oc,od,kV,doc3,pm3,an,cdv,ct',osl,rfl,lk,_⟩:=F3.ex;obtain⟨c4,T4,e4,tb4,c5,e5,ck5⟩:=BR ck lk rfl rfl;rw[en,m3]at m2;cases m2;rw[KX _ _ lk]at g2;cases g2;cases k2
 have eT:T4=T:=by
  have:=LP lk rfl rfl hlam tb4;rw[show mH (K w.params)=[(T,qn)]from oT]at this;exact D4 Prod.fst (List.mem_singleton.mp this)
 subst eT
 have ecc:c5=c2:=by
  have:=e5.symm.trans e2;cases this;rfl
 subst ecc;obtain⟨ob,ws,_,_,_,_,_,_,_,h1,_,h3,h4,_⟩:=ck5 _ KX;obtain⟨⟨o6,v6,y1,y2,y3,y4⟩,y5⟩:=id t2;rw[h1]at y1;cases y1;rw[h3]at y3;cases y3;rw[h4]at y4;cases y4;exact PB KX G.T.g G.T.b G.T.builtins G.T.nolimit (let⟨mm,hmm,_⟩:=(G.T.seer hq).mods;⟨mm,hmm⟩) G.T.bmain hg t2 nT hobj hints (J4 hlen (by decide)) hr (fun base _ _=>hf base) hb fun H hO hS=>ZU hF hlen hS oT hO _
noncomputable def DL(K:Fg)(q:Str):Bool:=match mH K with
 |[(T,q')]=>q'==q&&(K.lookup T).isNone
 |_=>false
theorem QE{q:Str}(h:DL K q=true):∃T,oZ K T q/\K.lookup T=none:=by
 unfold DL at h;split at h
 .rename_i T q' e;rw[B5,Y3,Option.isNone_iff_eq_none]at h;exact⟨T,by rw[<- h.1];exact e,h.2⟩
 .cases h
theorem UA{X:Cx}{sc0 scope:Scope}(h1:X.env.scope=sc0)(h:(scope.names.all fun y=>y.2 != .free || (sc0.names.lookup y.1==some .cell || sc0.names.lookup y.1==some .free))=true):∀y∈scope.names,y.2=.free->X.env.kindOf y.1=some .cell\/X.env.kindOf y.1=some .free:=fun y hy hk=>by
 show X.env.scope.names.lookup y.1=_\/X.env.scope.names.lookup y.1=_;rw[h1];have:=List.all_eq_true.mp h y hy;rw[Bool.or_eq_true,Bool.or_eq_true,bne_iff_ne,Y3,Y3]at this;rcases this with z|z
 .exact absurd hk z
 .exact z
noncomputable def FB(K:Fg):List V->Hp->VK->Prop:=fun xs H Q=>∃(p:Addr)(ns:List Int),xs=[.ref p]/\SqT K H p (ns.map .int)/\ns.length<64/\∀l,H l=none->Q (.ref l) (upd H l (.lst ((dW ns).map .int)))
theorem BM{h:Heap}{vs:List Value}{out:Array Value}:(∀b o,h.get? b=some o->(sortedHeap (h.push (seqObj "list" vs.toArray 0)) h.objs.size vs out).get? b=some o)/\∃c,(sortedHeap (h.push (seqObj "list" vs.toArray 0)) h.objs.size vs out).get? h.objs.size=some (seqObj "list" out c):=by
 have gD:(h.push (seqObj "list" vs.toArray 0)).get? h.objs.size=some (seqObj "list" vs.toArray 0):=B9 _ rfl;constructor
 .intro b o e;have hb:b≠h.objs.size:=C9 (B7 e);unfold sortedHeap;rw[L5 _ _ _ _ hb];refine A1 _ (A1 _ ?_);rw[L5 _ _ _ _ hb];exact A1 _ e
 .unfold sortedHeap;have g1:=U1 gD (fun _=>#[]);have g2:=A1 (seqObj "tuple" vs.toArray 0) g1;have g3:=A1 (seqObj "list" #[] 0) g2;exact⟨_,U1 g3 (fun _=>out)⟩
theorem HW{X:Cx}:dC X (.builtin "sorted") (FB X.K):=by
 intro pins s σ H xs us Q I r h;obtain⟨p,ns,rfl,hp,h64,q⟩:=h;obtain⟨u,rfl,ru⟩:=vals1 r;cases ru;obtain⟨its,rv,⟨o,ho,hc,n,hd⟩,hz⟩:=I.tuple hp;have hl:=rv.length;rw[A0]at hl hz;refine A0b kind_sorted plain_sorted entry_sorted (args_sorted1 _) ?_;unfold Builtin.«sorted»;refine A2 (m:=checkCount "sorted" 1 1 _) (B4 ?_);refine A2 (wpAny_collect_seq _ (.inr rfl) ho hc hd (fun h' hk=>?_) (by simp;omega));have e0:its.toArray.toList=its:=by simp
 rw[e0];refine A2 (wpAny_newList ?_);have hoL:(h'.push (seqObj "list" its.toArray 0)).get? h'.objs.size=some (seqObj "list" its.toArray 0):=B9 _ rfl;refine A2 (S5 (O6 slot_list_sort ⟨_,hoL,rfl⟩ entry_list_sort (list_sort_tree hoL (intsAre_of rv) (by omega) fun out ns' hi pm pw=>⟨_,rfl,?_⟩) (args_list_sort _)));have e:ns'=dW ns:=oH pw (lK ns) (pm.trans (eQ ns).symm);subst e;obtain⟨kp,c,gg⟩:=BM (h:=h') (vs:=its) (out:=out);have hz':((dW ns).map V.int).length<=sizeLine:=by rw[A0,pm.length_eq];exact hz
 have I1:=I.kept (t':=s.toks) hk;refine B4 ⟨_,rfl,.ref h'.objs.size,upd H h'.objs.size (.lst ((dW ns).map .int)),I1.laid (t':=s.toks) kp (B3 _) ⟨hz',out.toList,c,tS hi,by simpa using gg⟩,rfl,q _ (I1.hok.fresh (B3 _))⟩
theorem XQ{X:Cx}(h:X.K=K):dC X (.builtin "sorted") (FB K):=by subst h;exact HW
noncomputable def jN:FN:=fun xs M=>match xs with
 |[.d (.list ds)]=>(cR ds).bind fun ns=>if ns.length<64 then some (.d (.list ((dW ns).map .int)),M)else none
 |[.d (.tuple ds)]=>(cR ds).bind fun ns=>if ns.length<64 then some (.d (.list ((dW ns).map .int)),M)else none
 |_=>none
theorem PU:PN K (fun xs H Q=>IU K xs H Q\/FB K xs H Q) jN:=by
 intro xs M z M' h W H vs Q G r k;unfold jN at h;split at h
 .rename_i ds;obtain⟨ns,h1,h⟩:=aP h;by_cases hc:ns.length<64
  .rw[A4 hc]at h;cases h;rcases r with _|⟨r1,_|_⟩;obtain⟨p,us,rfl,hq,hr⟩:=(show ∃a us,_=V.ref a/\SqL K W.F a us/\aK K W.F ds us from r1);rw[oG h1]at hr;have e:=iO hr;subst e;refine .inl ⟨p,ns,rfl,G.fh.seq hq,hc,fun l hl=>?_⟩;obtain⟨e2,G2⟩:=G.lay (o:=.lst ((dW ns).map .int)) hl;exact k _ _ _ e2 G2 ⟨l,_,rfl,SqL.of bA,uO _⟩
  .rw[B0 hc]at h;cases h
 .rename_i ds;obtain⟨ns,h1,h⟩:=aP h;by_cases hc:ns.length<64
  .rw[A4 hc]at h;cases h;rcases r with _|⟨r1,_|_⟩;obtain⟨p,us,rfl,hq,hr⟩:=(show ∃a us,_=V.ref a/\SqT K W.F a us/\aK K W.F ds us from r1);rw[oG h1]at hr;have e:=iO hr;subst e;refine .inr ⟨p,ns,rfl,G.fh.seqT hq,hc,fun l hl=>?_⟩;obtain⟨e2,G2⟩:=G.lay (o:=.lst ((dW ns).map .int)) hl;exact k _ _ _ e2 G2 ⟨l,_,rfl,SqL.of bA,uO _⟩
  .rw[B0 hc]at h;cases h
 .cases h
theorem uA{ι:Type}{X:ι->Cx}(hK:∀i,(X i).K=K):QN K X (.builtin "sorted") jN:=⟨_,fun i=>(aDi (hK i)).or (XQ (hK i)),PU⟩
section
variable{prog:Program}{w:World}{A:Around}{E:Value->Shared->Prop}{s:Shared}
theorem ZJ{c:Bool}{p q:Value}{xs ys:List PyData}{as bs:List Addr}{Q:Bool->Shared->Prop}(hu:A.in1.units+64<cLine)(r1:Reads s.heap p (.tuple xs) as)(r2:Reads s.heap q (.tuple ys) bs)
 (s1:xs.all SeqAt.shaped=true) (s2:ys.all SeqAt.shaped=true) (h:cU xs ys=some c) (k:Q c s):wpAny (model prog w) A (keyLt' general' p q) Q E s:=
 PySem.W.kat_one p q (LX r1 r2 s1 s2 h hu k)
theorem aAw{c:Bool}{p q:Value}{xs ys:List PyData}{as bs:List Addr}{Q:Bool->Shared->Prop}(hu:A.in1.units+64<cLine)(hu0:A.units<cLine)(r1:Reads s.heap p (.tuple xs) as)(r2:Reads s.heap q (.tuple ys) bs)
 (s1:xs.all SeqAt.shaped=true) (s2:ys.all SeqAt.shaped=true) (h:cU xs ys=some c) (k:Q c s):wpAny (model prog w) A (keyLt' oneType' p q) Q E s:=by
 rw[keyLt'_oneType,oneLt'_eq];simp only[if_true];refine A2 (wpAny_cRoomFor hu0 ?_);cases r1 with
 |tuple a1 a2 a3 a4=>
  cases r2 with
  |tuple b1 b2 b3 b4=>
   rename_i o1 _ _ _ o2 _ _;obtain⟨cls,dd,data,sl⟩:=o1;obtain⟨cls2,dd2,data2,sl2⟩:=o2;simp only at a2 a3 b2 b3;subst a2 a3 b2 b3;refine A2 (wpAny_callSpecialIfBound?_slot ⟨_,a1,rfl⟩ A0e (call_meets A0e ⟨_,a1,rfl⟩ PySem.F.entry_tuple_lt (PySem.F.args_tuple_lt_2 _ _) (sL _ _ _ _ _ _ dd dd2 sl sl2 xs ys c) ⟨⟨hu,⟨_,a4⟩,⟨_,b4⟩,s1,s2,h⟩,a1,b1,?_⟩));exact S6 k
end
section
variable{M:Model}{A:Around}{E:Value->Shared->Prop}{s:Shared}
theorem AV:∀(rows:List (List PyData))(vs:List Value)(as:List Addr){Q:List (Option Value)->Shared->Prop},ReadsAll s.heap vs (rows.map .tuple) as->(∀fo:List (Option Value),fo.map (·.isSome)=rows.map (fun r=>!r.isEmpty)->Q fo s)->wpAny M A (vs.mapM firstOfTuple') Q E s
 |[],_,_,Q=>fun r h=>by
  cases r;rw[List.mapM_nil];exact B4 (h [] rfl)
 |x::rows,_,_,Q=>fun r h=>by
  cases r with
  |cons a b=>
   cases a with
   |tuple g1 g2 g3 g4=>
    rename_i o us n;rw[List.mapM_cons];refine A2 ?_;rw[PySem.W.kas_first_eq];refine A2 (PySem.W.Looks.here (IY g1 g2) ?_);rw[B0 (by first|decide|simp)];refine A2 (listItems_at g1 g3 (B4 ?_));refine A2 (AV rows _ _ (Q:=fun bs s'=>wpAny M A (pure (us[0]?::bs)) Q E s') b fun fo e=>B4 (h _ ?_));rw[B6,B6,e];congr 1;have hl:=ReadsAll.len g4;cases x with
    |nil=>
     have:us.size=0:=by simpa using hl
     rw[Array.getElem?_eq_none (by omega)];rfl
    |cons d ds=>
     have:0<us.size:=by rw[<- Z3,hl];simp
     rw[Array.getElem?_eq_getElem this];rfl
theorem kind_any{rows:List (List PyData)}{vs:List Value}{as:List Addr}{Q:SortKind->Shared->Prop}(r:ReadsAll s.heap vs (rows.map .tuple) as)(he:rows.any (·.isEmpty)=true)(q1:Q general' s)(q2:Q oneType' s):wpAny M A (keyKind' vs.toArray) Q E s:=by
 rw[keyKind'_eq,List.mapM_toArray,map_eq_pure_bind];refine A2 (A2 (AV rows vs as r fun fo e=>B4 ?_))
 have hall:¬(fo.toArray.all fun x=>x.isSome)=true:=by
  intro z;rw[List.all_toArray]at z;obtain⟨x,hx,hx2⟩:=List.any_eq_true.mp he;have:fo.map (·.isSome)=rows.map (fun r=>!r.isEmpty):=e;have m:false∈fo.map (·.isSome):=by rw[this];exact List.mem_map.mpr ⟨x,hx,by rw[hx2];rfl⟩
  obtain⟨y,hy,ey⟩:=List.mem_map.mp m;have:=List.all_eq_true.mp z y hy;rw[ey]at this;cases this
 rw[B0 hall]
 have tys:∀v∈vs,PySem.W.Looks M s.heap (typeOf v) (.type "tuple"):=by
  clear he e hall
  induction rows generalizing vs as with
  |nil=>cases r;intro v hv;cases hv
  |cons x rows ih=>
   cases r with
   |cons a b=>
    cases a with
    |tuple g1 g2 g3 g4=>
     intro v hv;rcases List.mem_cons.mp hv with rfl|hv
     .exact IY g1 g2
     .exact ih b v hv
 split
 .exact B4 q1
 .rw[oneTypeOnly'_eq,List.mapM_toArray,map_eq_pure_bind];refine A2 (A2 (A2 (PySem.W.kas_mapM (r:=.type "tuple") _ (fun v hv Q' hq=>(tys v hv).here hq) (B4 ?_))))
  have hne:0<vs.length:=by
   obtain⟨x,hx,_⟩:=List.any_eq_true.mp he;have:=ReadsAll.len r;rw[A0]at this;rw[this];exact List.length_pos_of_mem hx
  have h0:(List.map (fun _=>Value.type "tuple") vs).toArray[0]?=some (.type "tuple"):=by
   cases vs with
   |nil=>cases hne
   |cons _ _=>rfl
  have hall2:((List.map (fun _=>Value.type "tuple") vs).toArray.all fun x=>x==Value.type "tuple")=true:=by
   simp only[List.all_toArray,List.all_map,List.all_eq_true];intro _ _;show(Value.type "tuple"==Value.type "tuple")=true;decide
  rw[h0];simp only[hall2,if_true];exact B4 (B4 q2)
end
section
variable{X:Cx}{pins:List (Addr×Obj)}{σ:St}{H:Hp}{s:Shared}{E:Value->Shared->Prop}
theorem aBU{A:Around}{rows:List (List PyData)}{vs:List V}{its:List Value}{Q:VK}(hu:A.in1.in1.units+64<cLine)(hu0:A.in1.units<cLine)(I:Inv X pins σ H s)(rv:bQ vs its)(hrep:aK X.K H (rows.map .tuple) vs)(h2:2<=rows.length)(h64:rows.length<64)
 (hsh:∀r∈rows,r.all SeqAt.shaped=true/\cG r=true) (hknd:rows.any (·.isEmpty)=true) (hlt:∀i j,i<rows.length->j<rows.length->(cU (rows.getD i []) (rows.getD j [])).isSome=true)
 (q:∀l,H l=none->Q (.ref l) (upd H l (.lst ((dY (dZ rows) rows.length).map fun i=>vs.getD i .non)))):
 wpAny (model X.prog X.w) A (lX its) (fun fin s'=>∃v,fin=.done (.ret v)/\∃x H',Inv X pins σ H' s'/\RelV x v/\Q x H') E s:=by
 obtain⟨as,hr⟩:=aK.reads I _ vs its hrep rv;have hlen:its.length=rows.length:=by rw[ReadsAll.len hr,A0]
 obtain⟨m,F⟩:=I.fr;have N:News X.base X.env.locals s.heap (gE X.base s.heap X.env.locals):=vI;unfold lX;refine PySem.W.l2_tail (Q:=fun v s'=>∃x H',Inv X pins σ H' s'/\RelV x v/\Q x H') F N (by omega) (by omega) fun D e1 h' F' N' hD=>?_
 have kp:∀(h1:Heap),Fr X.base X.env.locals h1 m->(∀q∈gE X.base s.heap X.env.locals,h1.get? q.1=some q.2)->∀b o,b≠X.env.locals->s.heap.get? b=some o->h1.get? b=some o:=fun h1 G1 M1 b o hb e=>by
  cases z:X.base.get? b with
  |some v=>
   have:=I.bk b v z;rw[e]at this;cases this;exact G1.keep b _ z
  |none=>exact M1 (b,o) (gL hb z e)
 have k':=kp h' F' (fun q hq=>(N' q (B1 _ hq)).1)
 have hsz:s.heap.get? D=none:=by
  have hN:=N' _ B2;cases e:s.heap.get? D with
  |none=>rfl
  |some o=>exact absurd (hD (D,o) (gL hN.2.1 hN.2.2 e)) (I0 _)
 have seqL:∀b o vs n,s.heap.get? b=some o->o.data=.seq vs n->b≠X.env.locals:=fun b o vs n e d z=>by
  obtain⟨o',es,ep,x1,x2,_⟩:=F.ns;subst z;rw[e]at x1;cases x1;rw[d]at x2;cases x2
 have onl:cG (rows.map .tuple)=true:=by
  clear hrep hr hlen q hknd hlt h2 h64
  induction rows with
  |nil=>rfl
  |cons x r ih=>
   show(cG x&&cG (r.map .tuple))=true;rw[(hsh x B2).2,ih fun y hy=>hsh y (B1 _ hy)];rfl
 have hr':ReadsAll h' its (rows.map .tuple) as:=GS (fun b o vs n e d=>k' b o (seqL b o vs n e d) e) _ _ _ onl hr;refine kind_any (s:={ s with heap:=h' }) hr' hknd ?_ ?_
 all_goals (
  rw[hlen];refine KS.wp (lt:=dZ rows) (n:=rows.length) (fun i j C hi hj c=>?_) (fun p hp'=>?_) ((xT (by omega)).ks (lt:=dZ rows))
  .have at_:∀i,i<rows.length->∃bs,Reads h' (its.getD i .none) (.tuple (rows.getD i [])) bs:=fun i hi=>by
    obtain⟨bs,x⟩:=ReadsAll.at i hr' (by simpa using hi)
    have:(rows.map PyData.tuple).getD i .none=.tuple (rows.getD i []):=by
     rw[A6,C4,A6,A8 hi];rfl
    rw[this]at x;exact⟨bs,x⟩
   obtain⟨b1,r1⟩:=at_ i hi;obtain⟨b2,r2⟩:=at_ j hj
   have mem:∀i,i<rows.length->rows.getD i []∈rows:=fun i hi=>by
    rw[A6,A8 hi];exact S9 hi
   obtain⟨c0,hc0⟩:=Option.isSome_iff_exists.mp (hlt i j hi hj);have hc:dZ rows i j=c0:=by unfold dZ;rw[hc0];rfl
   rw[hc]at c
   first|exact ZJ (s:={ s with heap:=h' }) hu r1 r2 (hsh _ (mem i hi)).1 (hsh _ (mem j hj)).1 hc0 c|exact aAw (s:={ s with heap:=h' }) hu hu0 r1 r2 (hsh _ (mem i hi)).1 (hsh _ (mem j hj)).1 hc0 c
  .obtain⟨e,_⟩:=hp';subst e;refine PySem.W.KasFin.intro F' N' (.head fun q hq=>C9 (hD q hq)) fun h'' c F'' N''=>?_;have k'':=kp h'' F'' (fun q hq=>(N'' q (B1 _ hq)).1);refine⟨.ref D,upd H D (.lst ((dY (dZ rows) rows.length).map fun i=>vs.getD i .non)),?_,rfl,q D (I.hok.none hsz)⟩;refine I.laidL k'' (fun m' hm'=>?_) hsz ⟨?_,_,c,rR rv _,(N'' _ B2).1⟩
   .rw[<- yG F.ns hm'];exact F''.ns
   .rw[A0,(iR (dZ rows) (by omega)).length_eq,E9];have:64<=sizeLine:=by decide
    omega)
end
noncomputable def xZ(K:Fg):List V->Hp->VK->Prop:=fun xs H Q=>∃(p:Addr)(vs:List V)(rows:List (List PyData)),xs=[.ref p]/\SqT K H p vs/\aK K H (rows.map .tuple) vs/\2<=rows.length/\rows.length<64/\(∀r∈rows,r.all SeqAt.shaped=true/\cG r=true)/\rows.any (·.isEmpty)=true/\(∀i j,i<rows.length->j<rows.length->(cU (rows.getD i []) (rows.getD j [])).isSome=true) /\
 ∀l,H l=none->Q (.ref l) (upd H l (.lst ((dY (dZ rows) rows.length).map fun i=>vs.getD i .non)))
theorem BA{X:Cx}(hu:X.A.in1.in1.in1.units+64<cLine)(hu0:X.A.in1.in1.units<cLine):dC X (.builtin "sorted") (xZ X.K):=by
 intro pins s σ H xs us Q I r h;obtain⟨p,vs,rows,rfl,hp,a1,a2,a3,a4,a5,a6,a7⟩:=h;obtain⟨u,rfl,ru⟩:=vals1 r;cases ru;obtain⟨its,rv,⟨o,ho,hc,n,hd⟩,hz⟩:=I.tuple hp;have hl:=rv.length;refine A0b kind_sorted plain_sorted entry_sorted (args_sorted1 _) ?_;unfold Builtin.«sorted»;refine A2 (m:=checkCount "sorted" 1 1 _) (B4 ?_);refine A2 (wpAny_collect_seq _ (.inr rfl) ho hc hd (fun h' hk=>?_) (by simp;omega));exact aBU (A:=X.A.in1) hu hu0 (I.kept (t':=s.toks) hk) (its:=its.toArray.toList) rv a1 a2 a3 a4 a5 a6 a7
theorem ZX{X:Cx}(h:X.K=K)(hu:X.A.in1.in1.in1.units+64<cLine)(hu0:X.A.in1.in1.units<cLine):dC X (.builtin "sorted") (xZ K):=by subst h;exact BA hu hu0
noncomputable def nZ(rows:List (List PyData)):Bool:=decide (2<=rows.length)&&decide (rows.length<64)&&rows.all (fun r=>r.all SeqAt.shaped&&cG r)&&rows.any (·.isEmpty)&&(List.range rows.length).all fun i=>(List.range rows.length).all fun j=>(cU (rows.getD i []) (rows.getD j [])).isSome
noncomputable def CZ:FN:=fun xs M=>match xs with
 |[.d (.tuple ds)]=>(rowsOf ds).bind fun rows=>if nZ rows=true then some (.d (.list (zC rows)),M)else none
 |_=>none
noncomputable def mG:FN:=fun xs M=>match FC xs M with
 |some r=>some r
 |none=>CZ xs M
theorem JK:PN K (xZ K) CZ:=by
 intro xs M z M' h W H vs Q G r k;unfold CZ at h;split at h
 .rename_i ds;obtain⟨rows,h1,h⟩:=aP h;by_cases hs:nZ rows=true
  .rw[A4 hs]at h;cases h;unfold nZ at hs;rw[B5,B5,B5,B5]at hs;obtain⟨⟨⟨⟨a1,a2⟩,a3⟩,a4⟩,a5⟩:=hs;have a1:=D7 a1;rcases r with _|⟨r1,_|_⟩;obtain⟨p,us,rfl,hq,hr⟩:=(show ∃a us,_=V.ref a/\SqT K W.F a us/\aK K W.F ds us from r1);rw[oK h1]at hr;refine⟨p,us,rows,rfl,G.fh.seqT hq,aK.same G.fh _ _ hr,a1,D7 a2,fun r hr=>?_,a4,fun i j hi hj=>?_,fun l hl=>?_⟩
   .have:=List.all_eq_true.mp a3 r hr
    rwa [B5]at this
   .exact List.all_eq_true.mp (List.all_eq_true.mp a5 i (List.mem_range.mpr hi)) j (List.mem_range.mpr hj)
   .obtain⟨e2,G2⟩:=G.lay (o:=.lst ((dY (dZ rows) rows.length).map fun i=>us.getD i .non)) hl;exact k _ _ _ e2 G2 ⟨l,_,rfl,SqL.of bA,qH (aK.same e2.ff _ _ hr) _ (NG (by omega))⟩
  .rw[B0 hs]at h;cases h
 .cases h
theorem OI:PN K (fun xs H Q=>EH K xs H Q\/xZ K xs H Q) mG:=by
 intro xs M z M' h W H vs Q G r k;unfold mG at h;split at h
 .rename_i q hq;cases h;exact .inl (UL xs M z M' hq W H vs Q G r k)
 .exact .inr (JK xs M z M' h W H vs Q G r k)
theorem GX{ι:Type}{X:ι->Cx}(hK:∀i,(X i).K=K)(hu:∀i,(X i).A.in1.in1.units+64<cLine)(hu2:∀i,(X i).A.in1.in1.in1.units+64<cLine):QN K X (.builtin "sorted") mG:=⟨_,fun i=>(aCR (hK i) (hu i)).or (ZX (hK i) (hu2 i) (Nat.lt_of_le_of_lt (Nat.le_add_right _ _) (hu i))),OI⟩
theorem fX.units3{k:Nat}{A:Around}(r:fX k A):A.in1.in1.in1.units+64<cLine:=by have:=r.un;show A.units+1+1+1+64<_;omega
end L2
section
noncomputable section
namespace Q43
open PySem PySem.Spec PyProof.Rows L2
noncomputable def top(i:Nat):Stmt:=PySem.Challenge.pw_cutstree_k43_charts_told.main.body.getD i (.Pass ⟨0,0,0,0⟩)
theorem ar1{α:Type}{P:List α->Prop}{us:List α}(hl:us.length=1)(h:∀a0,P [a0]):P us:=by
 rcases us with _|⟨a0,_|⟨c,r⟩⟩<;>first|exact h _|cases hl
theorem ar2{α:Type}{P:List α->Prop}{us:List α}(hl:us.length=2)(h:∀a0 a1,P [a0,a1]):P us:=by
 rcases us with _|⟨a0,_|⟨a1,_|⟨c,r⟩⟩⟩<;>first|exact h _ _|cases hl
theorem ar3{α:Type}{P:List α->Prop}{us:List α}(hl:us.length=3)(h:∀a0 a1 a2,P [a0,a1,a2]):P us:=by
 rcases us with _|⟨a0,_|⟨a1,_|⟨a2,_|⟨c,r⟩⟩⟩⟩<;>first|exact h _ _ _|cases hl
theorem ar4{α:Type}{P:List α->Prop}{us:List α}(hl:us.length=4)(h:∀a0 a1 a2 a3,P [a0,a1,a2,a3]):P us:=by
 rcases us with _|⟨a0,_|⟨a1,_|⟨a2,_|⟨a3,_|⟨c,r⟩⟩⟩⟩⟩<;>first|exact h _ _ _ _|cases hl
set_option hygiene false
local macro_rules | `(tactic| sleep 990) => `(tactic| exact ⟨rfl, rfl, rfl, by decide +kernel, rfl, by decide +kernel, by decide +kernel⟩)
local macro_rules | `(tactic| sleep 991) => `(tactic| (intro _ _ _ _ _ _ _ hl; apply ar1 hl; intros; rfl))
local macro_rules | `(tactic| sleep 992) => `(tactic| (intro _ _ _ _ _ _ _ hl; apply ar2 hl; intros; rfl))
local macro_rules | `(tactic| sleep 993) => `(tactic| (intro _ _ _ _ _ _ _ hl; apply ar3 hl; intros; rfl))
local macro_rules | `(tactic| sleep 994) => `(tactic| (intro _ _ _ _ _ _ _ hl; apply ar4 hl; intros; rfl))
set_option hygiene true
noncomputable abbrev oP:Stmt:=top 18
noncomputable abbrev xE:List Str:=["_law_script","_law_many","_law_row","_law_odd_here","_law_deck_here","_law_k","_law_at","_law_one"]
noncomputable abbrev rJ:List Str:=["_law_script","_law_many"]
theorem sc__law_deck:bI xE rJ (aJ oP):=by sleep 990
noncomputable def sJ:EF:=(eX (aA (fC (.int 48271)) (aA (fC (.int 69621)) (aA (fC (.int 39373)) (aA (fC (.int 40692)) aE)))))
theorem AM(γ:Ga)(M:Sto):sJ γ M=some (.d (.list [(.int 48271),(.int 69621),(.int 39373),(.int 40692)]),M):=rfl
noncomputable def fU:SF:=(aW (bG (fOp cH (aB 5) (aF bW (aA (aB 2) aE))) (hName 6))
 (aW (bG (fOp cH (fOp ixF (aB 2) (aB 6)) (fC (.int 1000000))) (hName 7))
 (aW (sIf (gB (fOp (eqX false) (aB 3) (fC (.int 0))))
  (aW (bG (fOp cH (fOp bO (fOp bO (fOp ixF (aB 2) (aB 6)) (fOp HG (fOp HG (aB 5) (aB 5)) (fC (.int 16807)))) (fOp HG (fC (.int 3)) (aB 5))) (fC (.int 2147483629))) (hName 7))
 (aW (bG (fOp cH (fOp bO (fOp HG (aB 7) (fOp ixF sJ (fOp cH (aB 5) (fC (.int 4))))) (fC (.int 7))) (fC (.int 2147483647))) (hName 7))
 (bG (fOp cH (fOp HG (aB 7) (aB 7)) (fC (.int 2147483629))) (hName 7))))
  (bG (fOp eW (fOp ixF (aB 2) (aB 6)) (fC (.int 1000000))) (hSub (aB 2) (aB 6) EW)))
 (gA (bM "list" cD (aB 4) (aA (aB 7) aE))))))
noncomputable def nB:SF:=(aW (bG (aF BO (aA (aB 0) aE)) (hName 2))
 (aW (sIf (gB (fOp (eqY false) (aB 2) (eX aE)))
  (bG (dU (aA (fC (.int 4)) aE)) (hName 2))
  bH)
 (aW (bG (fOp cH (fOp ixF (aB 2) (fC (.int 0))) (fC (.int 2))) (hName 3))
 (aW (bG (fOp eW (fOp ixF (aB 2) (fC (.int 0))) (fC (.int 2))) (hSub (aB 2) (fC (.int 0)) EW))
 (aW (bG (dU aE) (hName 4))
 (aW (jW (gZ (aA (aB 1) aE)) (hName 5) fU)
 (aW (gA (bM "list" fT (aB 4) aE))
 (bT (aB 4)))))))))
noncomputable def mX:FN:=fnF 2 8 nB
noncomputable abbrev qX:Stmt:=top 1
noncomputable abbrev yM:List Str:=["thing"]
noncomputable abbrev sY:List Str:=["thing"]
theorem ID:bI yM sY (aJ qX):=by sleep 990
noncomputable def yR:SF:=(bT (fN (xK "int" (aB 0)) (FE (xK "bool" (aB 0)))))
noncomputable def tU:FN:=fnF 1 1 yR
noncomputable abbrev rG:Stmt:=top 4
noncomputable abbrev AK:List Str:=["many","thing"]
noncomputable abbrev tN:List Str:=["many","thing"]
theorem HP:bI AK tN (aJ rG):=by sleep 990
noncomputable def pN:SF:=(bT (fN (aF tU (aA (aB 1) aE)) (AU leI ltI (fC (.int 0)) (aB 1) (aB 0))))
noncomputable def cS:FN:=fnF 2 2 pN
noncomputable abbrev vM:Stmt:=top 2
noncomputable abbrev GP:List Str:=["thing"]
noncomputable abbrev AI:List Str:=["thing"]
theorem NW:bI GP AI (aJ vM):=by sleep 990
noncomputable def GK:SF:=(bT (IJ "list" "tuple" (aB 0)))
noncomputable def gK:FN:=fnF 1 1 GK
noncomputable abbrev oX:Stmt:=top 3
noncomputable abbrev xF:List Str:=["thing","length"]
noncomputable abbrev qY:List Str:=["thing","length"]
theorem FW:bI xF qY (aJ oX):=by sleep 990
noncomputable def wJ:SF:=(bT (fN (aF gK (aA (aB 0) aE)) (fOp (eqX false) (aF bW (aA (aB 0) aE)) (aB 1))))
noncomputable def gH:FN:=fnF 2 2 wJ
noncomputable abbrev cV:Stmt:=top 15
noncomputable abbrev gC:List Str:=["sides","within","at","side","around"]
noncomputable abbrev iW:List Str:=["sides"]
theorem sc_straight_within:bI gC iW (aJ cV):=by sleep 990
noncomputable def hX:EF:=(QH [none] (bE (aB 0)) (hName 0) eR (dU aE))
noncomputable def hZ:EF:=(fLc [some 2,some 3,none,none] (wK (aA (aB 0) aE)) (pA 2 (cT (hName 2) (cT (hName 3) nG))) (mE (gB (fOp (eqX true) (aB 2) (aB 0))) (gB (fOp (eqX false) (fOp zM (aB 1) (aB 3)) (aB 1)))) (aB 2))
noncomputable def fB:SF:=(aW (bG hZ (hName 4))
 (sIf (KR (aB 4))
  (gA (bM "list" cD (fOp ixF (aB 1) (IH 0 (aA (aB 4) aE))) (aA (aB 2) aE)))
  bH))
noncomputable def mW:SF:=(aW (bG hX (hName 1))
 (aW (jW (wK (aA (aB 0) aE)) (pA 2 (cT (hName 2) (cT (hName 3) nG))) fB)
 (bT (aB 1))))
noncomputable def jH:FN:=fnF 1 5 mW
noncomputable abbrev xW:Stmt:=top 11
noncomputable abbrev JW:List Str:=["side"]
noncomputable abbrev KU:List Str:=["side"]
theorem ZH:bI JW KU (aJ xW):=by sleep 990
noncomputable def zP:EF:=(fLc [none] (bE (aB 0)) (hName 0) eR (fOp aDg (fC (.int 1)) (aB 0)))
noncomputable def TL:SF:=(bT (aF sumF (aA zP aE)))
noncomputable def vZ:FN:=fnF 1 1 TL
noncomputable abbrev mK:Stmt:=top 16
noncomputable abbrev rN:List Str:=["links","within","k","order"]
noncomputable abbrev vS:List Str:=["links","within","k","order"]
theorem JH:bI rN vS (aJ mK):=by sleep 990
noncomputable def qC:EF:=(fLc [some 0,none] (bE (aB 3)) (hName 1) eR (aF cS (aA (aF bW (aA (aB 0) aE)) (aA (aB 1) aE))))
noncomputable def mY:EF:=(fLc [some 0,none] (bE (aB 3)) (hName 1) eR (aF bW (aA (fOp ixF (aB 0) (aB 1)) aE)))
noncomputable def BX:SF:=(aW (sIf (gOr (cB (gB (aF gK (aA (aB 3) aE)))) (gOr (cB (gB (aF mN (aA qC aE)))) (gB (fOp (eqY true) (aF jN (aA (aB 3) aE)) (aB 1)))))
 (bT (fC (.bool false)))
 bH)
 (bT (fN (fOp geI (aF bW (aA (aB 3) aE)) (fC (.int 3))) (fN (fOp ltI (fOp ixF (aB 3) (fC (.int 0))) (fOp ixF (aB 3) (fUn kS (fC (.int 1))))) (fOp (eqX false) (aF sumF (aA mY aE)) (aF bW (aA (fOp ixF (aB 0) (aB 2)) aE)))))))
noncomputable def rS:FN:=fnF 4 4 BX
noncomputable abbrev lD:Stmt:=top 5
noncomputable abbrev rE:List Str:=["row"]
noncomputable abbrev qW:List Str:=["row"]
theorem ES:bI rE qW (aJ lD):=by sleep 990
noncomputable def nL:EF:=(fLc [none,none] (BP (aA (aB 0) (aA (fSl (aB 0) (aY (fC (.int 1))) aV) aE))) (pA 2 (cT (hName 0) (cT (hName 1) nG))) eR (fOp ltX (aB 0) (aB 1)))
noncomputable def wO:SF:=(bT (aF mN (aA nL aE)))
noncomputable def eF:FN:=fnF 1 1 wO
noncomputable abbrev fP:Stmt:=top 14
noncomputable abbrev iQ:List Str:=["links","rings","within"]
noncomputable abbrev qD:List Str:=["links","rings"]
theorem sc_are_rings:bI iQ qD (aJ fP):=by sleep 990
noncomputable def nJ:EF:=(fLc [some 0,none] (bE (aB 1)) (hName 1) eR (fN (aF gH (aA (aB 1) (aA (fC (.int 2)) aE))) (aF cS (aA (aF bW (aA (aB 0) aE)) (aA (fOp ixF (aB 1) (fC (.int 0))) aE)))))
noncomputable def sP:EF:=(fLc [none] (bE (aB 0)) (hName 0) eR (aF vZ (aA (aB 0) aE)))
noncomputable def kD:EF:=(fLc [some 0,some 2,none,none] (bE (aB 1)) (BW 2 (cT (hName 2) (cT (hName 3) nG))) eR (aF rS (aA (aB 0) (aA (fOp ixF (aB 1) (aB 2)) (aA (aB 2) (aA (aB 3) aE))))))
noncomputable def kF:EF:=(fLc [none] (bE (aB 1)) (hName 0) eR (fOp ixF (aB 0) (fC (.int 0))))
noncomputable def wY:SF:=(aW (sIf (gOr (cB (gB (aF gK (aA (aB 1) aE)))) (cB (gB (aF mN (aA nJ aE)))))
 (bT (fC (.bool false)))
 bH)
 (aW (bG (aF jH (aA sP aE)) (hName 2))
 (bT (fN (aF eF (aA kF aE)) (aF mN (aA kD aE))))))
noncomputable def kM:FN:=fnF 2 3 wY
noncomputable abbrev eI:Stmt:=top 6
noncomputable abbrev hJ:List Str:=["many","thing"]
noncomputable abbrev hW:List Str:=["many","thing"]
theorem qK:bI hJ hW (aJ eI):=by sleep 990
noncomputable def fV:EF:=(fLc [some 0,none] (bE (aB 1)) (hName 1) eR (aF cS (aA (aB 0) (aA (aB 1) aE))))
noncomputable def lC:SF:=(bT (fN (aF gK (aA (aB 1) aE)) (fN (aF mN (aA fV aE)) (aF eF (aA (aB 1) aE)))))
noncomputable def fA:FN:=fnF 2 2 lC
noncomputable abbrev tD:Stmt:=top 10
noncomputable abbrev CP:List Str:=["many","thing"]
noncomputable abbrev wG:List Str:=["many","thing"]
theorem IM:bI CP wG (aJ tD):=by sleep 990
noncomputable def CG:SF:=(bT (fN (aF fA (aA (aB 0) (aA (aB 1) aE))) (fN (fOp gtI (aF bW (aA (aB 1) aE)) (fC (.int 0))) (fOp gtI (fOp ixF (aB 1) (fC (.int 0))) (fC (.int 0))))))
noncomputable def nY:FN:=fnF 2 2 CG
noncomputable abbrev kC:Stmt:=top 13
noncomputable abbrev oQ:List Str:=["one","sides"]
noncomputable abbrev oY:List Str:=["one","sides"]
theorem BD:bI oQ oY (aJ kC):=by sleep 990
noncomputable def mB:EF:=(fLc [some 0,none] (bE (aB 1)) (hName 1) eR (fOp (inD true) (fOp zM (aB 0) (aB 1)) (bK (aA (fC (.int 0)) (aA (aB 0) (aA (aB 1) aE))))))
noncomputable def vH:SF:=(bT (aF anyF (aA mB aE)))
noncomputable def lN:FN:=fnF 2 2 vH
noncomputable abbrev pB:Stmt:=top 12
noncomputable abbrev wW:List Str:=["sides","at","one"]
noncomputable abbrev qU:List Str:=["sides"]
theorem sc_any_cross:bI wW qU (aJ pB):=by sleep 990
noncomputable def kE:SF:=(sIf (gB (aF lN (aA (aB 2) (aA (fSl (aB 0) aV (aY (aB 1))) aE))))
 (bT (fC (.bool true)))
 bH)
noncomputable def wZ:SF:=(aW (jW (wK (aA (aB 0) aE)) (pA 2 (cT (hName 1) (cT (hName 2) nG))) kE)
 (bT (fC (.bool false))))
noncomputable def mS:FN:=fnF 1 3 wZ
noncomputable abbrev gW:Stmt:=top 9
noncomputable abbrev kR:List Str:=["many","links"]
noncomputable abbrev qP:List Str:=["many","links"]
theorem EB:bI kR qP (aJ gW):=by sleep 990
noncomputable def nX:EF:=(fLc [some 0,none] (bE (aB 1)) (hName 1) eR (aF nY (aA (aB 0) (aA (aB 1) aE))))
noncomputable def sT:EF:=(fLc [none] (bE (aB 1)) (hName 0) eR (aF vZ (aA (aB 0) aE)))
noncomputable def rX:EF:=(fLc [none] (bE (aB 1)) (hName 0) eR (aF cM (aA (aB 0) aE)))
noncomputable def wN:SF:=(aW (sIf (gOr (cB (gB (aF gK (aA (aB 1) aE)))) (cB (gB (aF mN (aA nX aE)))))
 (bT (fC (.bool false)))
 bH)
 (bT (fN (aF eF (aA rX aE)) (FE (aF mS (aA sT aE))))))
noncomputable def kQ:FN:=fnF 2 2 wN
noncomputable abbrev rB:Stmt:=top 8
noncomputable abbrev zZ:List Str:=["many","chart"]
noncomputable abbrev tM:List Str:=["many","chart"]
theorem HV:bI zZ tM (aJ rB):=by sleep 990
noncomputable def zY:SF:=(bT (fN (aF gH (aA (aB 1) (aA (fC (.int 2)) aE))) (fN (aF kQ (aA (aB 0) (aA (fOp ixF (aB 1) (fC (.int 0))) aE))) (aF kM (aA (fOp ixF (aB 1) (fC (.int 0))) (aA (fOp ixF (aB 1) (fC (.int 1))) aE))))))
noncomputable def fS:FN:=fnF 2 2 zY
noncomputable abbrev iY:Stmt:=top 29
noncomputable abbrev nM:List Str:=["_law_deck_here","_law_places","_law_heaps","_law_place"]
noncomputable abbrev nF:List Str:=["_law_deck_here","_law_places"]
theorem sc__law_parted:bI nM nF (aJ iY):=by sleep 990
noncomputable def kX:SF:=(gA (bM "list" cD (fOp ixF (aB 2) (fOp cH (bM "list" fM (aB 0) aE) (fC (.int 4)))) (aA (aB 3) aE)))
noncomputable def pW:EF:=(aDL [none] (uL (aB 2)) (hName 0) (gB (fOp (eqY true) (aB 0) (dU aE))) (eH (aB 0)))
noncomputable def sF:SF:=(aW (bG (dU (aA (dU aE) (aA (dU aE) (aA (dU aE) (aA (dU aE) aE))))) (hName 2))
 (aW (jW (bE (aB 1)) (hName 3) kX)
 (bT pW)))
noncomputable def iA:FN:=fnF 2 4 sF
noncomputable abbrev jZ:Stmt:=top 23
noncomputable abbrev pJ:List Str:=["_law_one","_law_other"]
noncomputable abbrev pS:List Str:=["_law_one","_law_other"]
theorem BC:bI pJ pS (aJ jZ):=by sleep 990
noncomputable def AJ:EF:=(fLc [some 0,none] (bE (aB 1)) (hName 1) eR (fOp (inD false) (aB 1) (aB 0)))
noncomputable def uG:SF:=(bT (fN (fOp gtI (aF bW (aA (aB 0) aE)) (aF bW (aA (aB 1) aE))) (aF mN (aA AJ aE))))
noncomputable def cZ:FN:=fnF 2 2 uG
noncomputable abbrev kG:Stmt:=top 25
noncomputable abbrev pG:List Str:=["_law_links","_law_k","_law_found","_law_at"]
noncomputable abbrev pD:List Str:=["_law_links","_law_k"]
theorem sc__law_inner:bI pG pD (aJ kG):=by sleep 990
noncomputable def mD:EF:=(fLc [some 0,some 1,some 3,none] (bE (aB 0)) (hName 3) eR (fN (aF cZ (aA (fOp ixF (aB 0) (aB 1)) (aA (aB 3) aE))) (aF cZ (aA (aB 3) (aA (fOp ixF (aB 0) (aB 2)) aE)))))
noncomputable def jB:SF:=(sIf (gB (aF cZ (aA (fOp ixF (aB 0) (aB 1)) (aA (fOp ixF (aB 0) (aB 3)) aE))))
 (sIf (cB (gB (aF anyF (aA mD aE))))
 (gA (bM "list" cD (aB 2) (aA (aB 3) aE)))
 bH)
 bH)
noncomputable def tY:SF:=(aW (bG (dU aE) (hName 2))
 (aW (jW (gZ (aA (aF bW (aA (aB 0) aE)) aE)) (hName 3) jB)
 (bT (aB 2))))
noncomputable def dJ:FN:=fnF 2 4 tY
noncomputable abbrev kI:Stmt:=top 30
noncomputable abbrev oS:List Str:=["_law_deck_here","_law_many","_law_links","_law_waiting","_law_turn","_law_places","_law_heap","_law_draw","_law_drawn","_law_link","_law_full","_law_rings","_law_k","_law_inner_here","_law_held","_law_first","_law_order"]
noncomputable abbrev pR:List Str:=["_law_deck_here","_law_many"]
theorem sc__law_chart:bI oS pR (aJ kI):=by sleep 990
noncomputable def iZ:SF:=(aW (bG (bM "list" fM (aB 0) aE) (hName 7))
 (aW (sIf (gB (fOp gtI (fOp cH (aB 7) (fC (.int 4))) (fC (.int 0))))
  (gA (bM "list" cD (aB 2) (aA (aF cM (aA (aB 6) aE)) aE)))
  bH)
 (sIf (mE (gB (fOp gtI (aF bW (aA (aB 6) aE)) (fC (.int 1)))) (gB (fOp gtI (fOp cH (aB 7) (fC (.int 3))) (fC (.int 0)))))
  (gA (bM "list" cD (aB 3) (aA (aB 6) aE)))
  bH)))
noncomputable def fE:SF:=(sIf (gB (fOp (eqY true) (aB 3) (eX aE)))
 (aW (bG (bM "list" fM (aB 3) aE) (hName 5))
 (jW (bE (eH (aF iA (aA (aB 0) (aA (aB 5) aE))))) (hName 6) iZ))
  bH)
noncomputable def jG:SF:=(sIf (gB (fOp (inC true) (aB 9) (aB 2)))
 (gA (bM "list" cD (aB 2) (aA (aB 9) aE)))
 bH)
noncomputable def jD:EF:=(fLc [some 2,none] (bE (aB 13)) (hName 1) eR (aF bW (aA (fOp ixF (aB 0) (aB 1)) aE)))
noncomputable def gJ:SF:=(aW (bG (eH (aF dJ (aA (aB 2) (aA (aB 12) aE)))) (hName 13))
 (aW (bG (aF sumF (aA jD aE)) (hName 14))
 (sIf (mE (gB (fOp gtI (aF bW (aA (aB 13) aE)) (fC (.int 2)))) (gB (fOp (eqX false) (aB 14) (aF bW (aA (fOp ixF (aB 2) (aB 12)) aE)))))
  (aW (bG (bM "list" fM (aB 0) aE) (hName 7))
 (aW (bG (fOp cH (aB 7) (aF bW (aA (aB 13) aE))) (hName 15))
 (aW (bG (fOp FI (fSl (aB 13) (aY (aB 15)) aV) (fSl (aB 13) aV (aY (aB 15)))) (hName 16))
 (aW (sIf (gB (fOp (eqX false) (fOp cH (fOp eW (aB 7) (fC (.int 8))) (fC (.int 2))) (fC (.int 0))))
  (bG (fOp FI (fOp bO (fSl (aB 16) aV (aY (fC (.int 1)))) (fSl (aB 16) (aY (fC (.int 2))) aV)) (fSl (aB 16) (aY (fC (.int 1))) (aY (fC (.int 2))))) (hName 16))
  bH)
 (aW (sIf (gB (fOp gtI (fOp ixF (aB 16) (fC (.int 0))) (fOp ixF (aB 16) (fUn kS (fC (.int 1))))))
  (gA (bM "list" fT (aB 16) aE))
  bH)
 (sIf (gB (fOp gtI (fOp cH (fOp eW (aB 7) (fC (.int 16))) (fC (.int 4))) (fC (.int 0))))
  (gA (bM "list" cD (aB 11) (aA (bK (aA (aB 12) (aA (aF cM (aA (aB 16) aE)) aE))) aE)))
  bH))))))
  bH)))
noncomputable def uW:SF:=(aW (bG (dU aE) (hName 2))
 (aW (bG (dU (aA (yS false (aA (fC (.int 1)) (aA (aB 1) aE))) aE)) (hName 3))
 (aW (jW (gZ (aA (fC (.int 8)) aE)) (hName 4) fE)
 (aW (bG (aB 2) (hName 8))
 (aW (bG (dU aE) (hName 2))
 (aW (SJ 2 (jW (bE (aF jM (aA (aB 8) aE))) (hName 9) jG))
 (aW (bG (DV (aA (fC (.int 1)) (aA (aB 1) aE))) (hName 10))
 (aW (sIf (mE (gB (fOp gtI (aB 1) (fC (.int 3)))) (gB (fOp (eqX false) (fOp cH (bM "list" fM (aB 0) aE) (fC (.int 2))) (fC (.int 0)))))
  (sIf (gB (fOp (inD true) (aB 10) (aB 2)))
  (bG (aF jM (aA (fOp bO (aB 2) (eX (aA (aB 10) aE))) aE)) (hName 2))
  bH)
  bH)
 (aW (bG (dU aE) (hName 11))
 (aW (jW (gZ (aA (aF bW (aA (aB 2) aE)) aE)) (hName 12) gJ)
 (bT (bK (aA (aF cM (aA (aB 2) aE)) (aA (aF cM (aA (aB 11) aE)) aE))))))))))))))
noncomputable def lH:FN:=fnF 2 17 uW
noncomputable abbrev lQ:Stmt:=top 21
noncomputable abbrev rZ:List Str:=["_law_thing"]
noncomputable abbrev nO:List Str:=["_law_thing"]
theorem AR:bI rZ nO (aJ lQ):=by sleep 990
noncomputable def sI:SF:=(bT (IJ "list" "tuple" (aB 0)))
noncomputable def bJ:FN:=fnF 1 1 sI
noncomputable abbrev jO:Stmt:=top 20
noncomputable abbrev pX:List Str:=["_law_thing","_law_least","_law_most"]
noncomputable abbrev kY:List Str:=["_law_thing","_law_least","_law_most"]
theorem vU:bI pX kY (aJ jO):=by sleep 990
noncomputable def lA:SF:=(bT (fN (xK "int" (aB 0)) (fN (FE (xK "bool" (aB 0))) (AU leI leI (aB 1) (aB 0) (aB 2)))))
noncomputable def dI:FN:=fnF 3 3 lA
noncomputable abbrev lY:Stmt:=top 22
noncomputable abbrev sH:List Str:=["_law_many","_law_thing","_law_least","_law_place"]
noncomputable abbrev nS:List Str:=["_law_many","_law_thing"]
theorem sc__law_is_far:bI sH nS (aJ lY):=by sleep 990
noncomputable def dH:SF:=(aW (sIf (cB (gB (aF dI (aA (aB 3) (aA (aB 2) (aA (fOp BB (aB 0) (fC (.int 1))) aE))))))
 (bT (fC (.bool false)))
 bH)
 (bG (fOp bO (aB 3) (fC (.int 1))) (hName 2)))
noncomputable def sM:SF:=(aW (sIf (gOr (cB (gB (aF bJ (aA (aB 1) aE)))) (gB (fOp (eqX false) (aF bW (aA (aB 1) aE)) (fC (.int 0)))))
 (bT (fC (.bool false)))
 bH)
 (aW (bG (fC (.int 1)) (hName 2))
 (aW (jW (bE (aB 1)) (hName 3) dH)
 (bT (fC (.bool true))))))
noncomputable def iB:FN:=fnF 2 4 sM
noncomputable abbrev iH:Stmt:=top 24
noncomputable abbrev lP:List Str:=["_law_one","_law_other","_law_common"]
noncomputable abbrev lW:List Str:=["_law_one","_law_other"]
theorem sc__law_crosses:bI lP lW (aJ iH):=by sleep 990
noncomputable def jQ:EF:=(fLc [some 1,none] (bE (aB 0)) (hName 1) (gB (fOp (inD false) (aB 1) (aB 0))) (aB 1))
noncomputable def qE:SF:=(aW (bG jQ (hName 2))
 (bT (fN (fOp (eqX true) (aB 2) (eX aE)) (fN (fOp ltI (aF bW (aA (aB 2) aE)) (aF bW (aA (aB 0) aE))) (fOp ltI (aF bW (aA (aB 2) aE)) (aF bW (aA (aB 1) aE)))))))
noncomputable def iU:FN:=fnF 2 3 qE
noncomputable abbrev dE:Stmt:=top 27
noncomputable abbrev fH:List Str:=["_law_many","_law_thing","_law_links","_law_at"]
noncomputable abbrev jV:List Str:=["_law_many","_law_thing"]
theorem sc__law_are_links:bI fH jV (aJ dE):=by sleep 990
noncomputable def iL:EF:=(fLc [some 0,none] (bE (aB 1)) (hName 1) eR (aF iB (aA (aB 0) (aA (aB 1) aE))))
noncomputable def mF:EF:=(fLc [none] (bE (aB 1)) (hName 0) eR (aF cM (aA (aB 0) aE)))
noncomputable def mJ:EF:=(fLc [some 2,some 3,none] (bE (aB 2)) (hName 2) eR (aF iU (aA (fOp ixF (aB 0) (aB 1)) (aA (aB 2) aE))))
noncomputable def iM:SF:=(aW (sIf (mE (gB (fOp gtI (aB 3) (fC (.int 0)))) (cB (gB (fOp ltX (fOp ixF (aB 2) (fOp BB (aB 3) (fC (.int 1)))) (fOp ixF (aB 2) (aB 3))))))
 (bT (fC (.bool false)))
 bH)
 (sIf (gB (aF anyF (aA mJ aE)))
  (bT (fC (.bool false)))
  bH))
noncomputable def oA:SF:=(aW (sIf (gOr (cB (gB (aF bJ (aA (aB 1) aE)))) (cB (gB (aF mN (aA iL aE)))))
 (bT (fC (.bool false)))
 bH)
 (aW (bG mF (hName 2))
 (aW (jW (gZ (aA (aF bW (aA (aB 2) aE)) aE)) (hName 3) iM)
 (bT (fC (.bool true))))))
noncomputable def gV:FN:=fnF 2 4 oA
noncomputable abbrev kU:Stmt:=top 26
noncomputable abbrev qN:List Str:=["_law_links","_law_ring","_law_index","_law_order","_law_places"]
noncomputable abbrev lV:List Str:=["_law_links","_law_ring"]
theorem sc__law_is_ring:bI qN lV (aJ kU):=by sleep 990
noncomputable def jX:SF:=(sIf (cB (gB (aF dI (aA (aB 2) (aA (fC (.int 0)) (aA (fOp BB (aF bW (aA (aB 0) aE)) (fC (.int 1))) aE))))))
 (bT (fC (.bool false)))
 bH)
noncomputable def gS:SF:=(bG (fOp bO (aB 4) (aF pV (aA (fOp ixF (aB 0) (aB 2)) aE))) (hName 4))
noncomputable def dP:SF:=(aW (sIf (gOr (cB (gB (aF bJ (aA (aB 1) aE)))) (gOr (gB (fOp (eqX true) (aF bW (aA (aB 1) aE)) (fC (.int 2)))) (gOr (cB (gB (aF bJ (aA (fOp ixF (aB 1) (fC (.int 1))) aE)))) (gB (fOp ltI (aF bW (aA (fOp ixF (aB 1) (fC (.int 1))) aE)) (fC (.int 3)))))))
 (bT (fC (.bool false)))
 bH)
 (aW (jW (bE (fOp bO (eX (aA (fOp ixF (aB 1) (fC (.int 0))) aE)) (aF pV (aA (fOp ixF (aB 1) (fC (.int 1))) aE)))) (hName 2) jX)
 (aW (bG (aF pV (aA (fOp ixF (aB 1) (fC (.int 1))) aE)) (hName 3))
 (aW (sIf (gOr (gB (fOp (eqX true) (aF jN (aA (aB 3) aE)) (eH (aF dJ (aA (aB 0) (aA (fOp ixF (aB 1) (fC (.int 0))) aE)))))) (gB (fOp geI (fOp ixF (aB 3) (fC (.int 0))) (fOp ixF (aB 3) (fUn kS (fC (.int 1)))))))
  (bT (fC (.bool false)))
  bH)
 (aW (bG (eX aE) (hName 4))
 (aW (jW (bE (aB 3)) (hName 2) gS)
 (bT (fOp (eqX false) (aF jN (aA (aB 4) aE)) (aF pV (aA (fOp ixF (aB 0) (fOp ixF (aB 1) (fC (.int 0)))) aE))))))))))
noncomputable def gM:FN:=fnF 2 5 dP
noncomputable abbrev gX:Stmt:=top 28
noncomputable abbrev kW:List Str:=["_law_many","_law_thing","_law_links","_law_least","_law_ring"]
noncomputable abbrev kZ:List Str:=["_law_many","_law_thing"]
theorem sc__law_is_chart:bI kW kZ (aJ gX):=by sleep 990
noncomputable def mZ:EF:=(fLc [none] (bE (fOp ixF (aB 1) (fC (.int 0)))) (hName 0) eR (aF cM (aA (aB 0) aE)))
noncomputable def bX:SF:=(aW (sIf (gOr (cB (gB (aF gM (aA (aB 2) (aA (aB 4) aE))))) (gB (fOp ltI (fOp ixF (aB 4) (fC (.int 0))) (aB 3))))
 (bT (fC (.bool false)))
 bH)
 (bG (fOp bO (fOp ixF (aB 4) (fC (.int 0))) (fC (.int 1))) (hName 3)))
noncomputable def eA:SF:=(aW (sIf (gOr (cB (gB (aF bJ (aA (aB 1) aE)))) (gOr (gB (fOp (eqX true) (aF bW (aA (aB 1) aE)) (fC (.int 2)))) (gOr (cB (gB (aF gV (aA (aB 0) (aA (fOp ixF (aB 1) (fC (.int 0))) aE))))) (cB (gB (aF bJ (aA (fOp ixF (aB 1) (fC (.int 1))) aE)))))))
 (bT (fC (.bool false)))
 bH)
 (aW (bG mZ (hName 2))
 (aW (bG (fC (.int 0)) (hName 3))
 (aW (jW (bE (fOp ixF (aB 1) (fC (.int 1)))) (hName 4) bX)
 (bT (fC (.bool true)))))))
noncomputable def dG:FN:=fnF 2 5 eA
noncomputable abbrev kB:Stmt:=top 19
noncomputable abbrev lG:List Str:=["_law_thing"]
noncomputable abbrev lO:List Str:=["_law_thing"]
theorem sO:bI lG lO (aJ kB):=by sleep 990
noncomputable def AB(self:FN):EF:=(fLc [none] (bE (aB 0)) (hName 0) eR (aF self (aA (aB 0) aE)))
noncomputable def pC(self:FN):SF:=(aW (sIf (cB (gB (xK "tuple" (aB 0))))
 (bT (aB 0))
 bH)
 (bT (AB self)))
noncomputable def dA:Nat->FN
 |0=>fun _ _=>none
 |n+1=>fnF 1 1 (pC (dA n))
noncomputable abbrev nK:Stmt:=top 34
noncomputable abbrev uU:List Str:=["_law_many","_law_thing","_law_other","_law_due","_law_one","_law_found"]
noncomputable abbrev pL:List Str:=["_law_many","_law_thing"]
theorem sc__law_right:bI uU pL (aJ nK):=by sleep 990
noncomputable def mI:SF:=(aW (bG (aF fS (aA (aB 2) (aA (aB 4) aE))) (hName 5))
 (sIf (gOr (cB (gB (xK "bool" (aB 5)))) (gB (fOp (eqX true) (aB 5) (aB 3))))
  (bT (fC (.bool false)))
  bH))
noncomputable def mC:SF:=(aW (bG (aF dG (aA (aB 2) (aA (aB 1) aE))) (hName 3))
 (jW (bE (eX (aA (aB 1) (aA (aF (dA 6) (aA (aB 1) aE)) aE)))) (hName 4) mI))
noncomputable def uJ:SF:=(aW (jW (bE (eX (aA (aB 0) (aA (fOp bO (fC (.int 1)) (fOp cH (aB 0) (fC (.int 9)))) aE)))) (hName 2) mC)
 (bT (fC (.bool true))))
noncomputable def dB:FN:=fnF 2 6 uJ
noncomputable abbrev rD:Stmt:=top 31
noncomputable abbrev yU:List Str:=["_law_draw","_law_odd_here"]
noncomputable abbrev tJ:List Str:=["_law_draw"]
theorem sc__law_odd:bI yU tJ (aJ rD):=by sleep 990
noncomputable def tZ:EF:=(bK (aA (fUn kS (fC (.int 1))) aE))
noncomputable def uT:EF:=(bK (aA (fC (.str "1")) aE))
noncomputable def uC:EF:=(bK (aA (bK aE) (aA (bK aE) aE)))
noncomputable def uK:EF:=(bK (aA (bK (aA (fC (.int 1)) aE)) aE))
noncomputable def uB:EF:=(bK (aA (fC (.bool true)) aE))
noncomputable def uE:EF:=(bK (aA (fC (.int 1)) (aA (fC (.int 1)) aE)))
noncomputable def tV:EF:=(bK (aA (fC (.int 1)) aE))
noncomputable def uV:EF:=(bK (aA (fC (.int 0)) aE))
noncomputable def uN:EF:=(bK (aA (fC (.int 0)) (aA (bK (aA (fC (.int 0)) (aA (fC (.int 1)) (aA (fC (.int 2)) aE)))) aE)))
noncomputable def yX:SF:=(aW (bG (dU (aA (fC .none) (aA (fC (.bool true)) (aA (fC (.int 0)) (aA (fC (.int 3)) (aA (fC (.str "0")) (aA (bK aE) (aA (eX aE) (aA DW (aA uV (aA tV (aA uE (aA uB (aA uK (aA uC (aA uT (aA tZ aE))))))))))))))))) (hName 1))
 (aW (gA (bM "list" cD (aB 1) (aA uN aE)))
 (bT (fOp ixF (aB 1) (fOp cH (aB 0) (fC (.int 17)))))))
noncomputable def bZ:FN:=fnF 1 2 yX
noncomputable abbrev iN:Stmt:=top 32
noncomputable abbrev mO:List Str:=["_law_links","_law_draw","_law_many","_law_way","_law_at","_law_more","_law_link","_law_bent"]
noncomputable abbrev iX:List Str:=["_law_links","_law_draw","_law_many"]
theorem sc__law_bent_links:bI mO iX (aJ iN):=by sleep 990
noncomputable def eM:SF:=(aW (bG (fOp cH (aB 1) (fC (.int 7))) (hName 3))
 (aW (bG (fOp cH (fOp eW (aB 1) (fC (.int 7))) (aF oI (aA (fC (.int 1)) (aA (aF bW (aA (aB 0) aE)) aE)))) (hName 4))
 (aW (bG (fOp eW (aB 1) (fC (.int 64))) (hName 5))
 (aW (sIf (gOr (gB (fOp (eqX false) (aB 3) (fC (.int 0)))) (gB (fOp (eqX false) (aB 0) (bK aE))))
  (bT (aF bZ (aA (aB 5) aE)))
  bH)
 (aW (sIf (gB (fOp (eqX false) (aB 3) (fC (.int 1))))
  (bT (fOp bO (fSl (aB 0) aV (aY (aB 4))) (fSl (aB 0) (aY (fOp bO (aB 4) (fC (.int 1)))) aV)))
  bH)
 (aW (sIf (gB (fOp (eqX false) (aB 3) (fC (.int 2))))
  (bT (fOp bO (aB 0) (fSl (aB 0) (aY (aB 4)) (aY (fOp bO (aB 4) (fC (.int 1)))))))
  bH)
 (aW (sIf (gB (fOp (eqX false) (aB 3) (fC (.int 3))))
  (bT (QF (aB 0) (aY (fUn kS (fC (.int 1))))))
  bH)
 (aW (sIf (gB (fOp (eqX false) (aB 3) (fC (.int 4))))
  (bT (fOp bO (fOp bO (fSl (aB 0) aV (aY (aB 4))) (bK (aA (aF bZ (aA (aB 5) aE)) aE))) (fSl (aB 0) (aY (fOp bO (aB 4) (fC (.int 1)))) aV)))
  bH)
 (aW (bG (fOp ixF (aB 0) (aB 4)) (hName 6))
 (aW (sIf (gB (fOp (eqX false) (aB 3) (fC (.int 5))))
  (bT (aF cM (aA (aF mG (aA (fOp bO (fOp bO (fSl (aB 0) aV (aY (aB 4))) (bK (aA (fSl (aB 6) aV (aY (fUn kS (fC (.int 1))))) aE))) (fSl (aB 0) (aY (fOp bO (aB 4) (fC (.int 1)))) aV)) aE)) aE)))
  bH)
 (aW (bG (aF cM (aA (aF jN (aA (fOp bO (aB 6) (bK (aA (fOp cH (aB 5) (fOp bO (aB 2) (fC (.int 1)))) aE))) aE)) aE)) (hName 7))
 (bT (aF cM (aA (aF mG (aA (fOp bO (fOp bO (fSl (aB 0) aV (aY (aB 4))) (bK (aA (aB 7) aE))) (fSl (aB 0) (aY (fOp bO (aB 4) (fC (.int 1)))) aV)) aE)) aE))))))))))))))
noncomputable def eJ:FN:=fnF 3 8 eM
noncomputable abbrev iJ:Stmt:=top 33
noncomputable abbrev mV:List Str:=["_law_rings","_law_draw","_law_links","_law_way","_law_at","_law_more","_law_ring","_law_k","_law_order","_law_bent","_law_odd_here"]
noncomputable abbrev jI:List Str:=["_law_rings","_law_draw","_law_links"]
theorem sc__law_bent_rings:bI mV jI (aJ iJ):=by sleep 990
noncomputable def eZ:EF:=(bK (aA (fC (.int 0)) (aA (fC (.int 1)) (aA (fC (.int 2)) aE))))
noncomputable def gF:SF:=(aW (bG (fOp cH (aB 1) (fC (.int 7))) (hName 3))
 (aW (bG (fOp cH (fOp eW (aB 1) (fC (.int 7))) (aF oI (aA (fC (.int 1)) (aA (aF bW (aA (aB 0) aE)) aE)))) (hName 4))
 (aW (bG (fOp eW (aB 1) (fC (.int 64))) (hName 5))
 (aW (sIf (gOr (gB (fOp (eqX false) (aB 3) (fC (.int 0)))) (gB (fOp (eqX false) (aB 0) (bK aE))))
  (aW (bG (bK (aA (fOp cH (aB 5) (aF oI (aA (fC (.int 1)) (aA (aF bW (aA (aB 2) aE)) aE)))) (aA eZ aE))) (hName 6))
 (bT (fOp ixF (eX (aA (aF bZ (aA (aB 5) aE)) (aA (fOp bO (aB 0) (bK (aA (aB 6) aE))) aE))) (fOp cH (fOp eW (aB 1) (fC (.int 7))) (fC (.int 2))))))
  bH)
 (aW (bG (fOp ixF (aB 0) (aB 4)) (pA 2 (cT (hName 7) (cT (hName 8) nG))))
 (aW (sIf (gB (fOp (eqX false) (aB 3) (fC (.int 1))))
  (bT (fOp bO (aB 0) (fSl (aB 0) (aY (aB 4)) (aY (fOp bO (aB 4) (fC (.int 1)))))))
  bH)
 (aW (sIf (gB (fOp (eqX false) (aB 3) (fC (.int 2))))
  (bT (fOp bO (fOp bO (fSl (aB 0) aV (aY (aB 4))) (bK (aA (bK (aA (fOp cH (aB 5) (aF bW (aA (aB 2) aE))) (aA (aB 8) aE))) aE))) (fSl (aB 0) (aY (fOp bO (aB 4) (fC (.int 1)))) aV)))
  bH)
 (aW (sIf (gB (fOp (eqX false) (aB 3) (fC (.int 3))))
  (bT (fOp bO (fOp bO (fSl (aB 0) aV (aY (aB 4))) (bK (aA (bK (aA (aB 7) (aA (QF (aB 8) (aY (fUn kS (fC (.int 1))))) aE))) aE))) (fSl (aB 0) (aY (fOp bO (aB 4) (fC (.int 1)))) aV)))
  bH)
 (aW (sIf (gB (fOp (eqX false) (aB 3) (fC (.int 4))))
  (bT (fOp bO (fOp bO (fSl (aB 0) aV (aY (aB 4))) (bK (aA (bK (aA (aB 7) (aA (fSl (aB 8) aV (aY (fUn kS (fC (.int 1))))) aE))) aE))) (fSl (aB 0) (aY (fOp bO (aB 4) (fC (.int 1)))) aV)))
  bH)
 (aW (sIf (gB (fOp (eqX false) (aB 3) (fC (.int 5))))
  (aW (bG (fOp bO (fOp bO (fSl (aB 8) aV (aY (fC (.int 1)))) (bK (aA (fOp cH (aB 5) (aF bW (aA (aB 2) aE))) aE))) (fSl (aB 8) (aY (fC (.int 2))) aV)) (hName 9))
 (bT (fOp bO (fOp bO (fSl (aB 0) aV (aY (aB 4))) (bK (aA (bK (aA (aB 7) (aA (aB 9) aE))) aE))) (fSl (aB 0) (aY (fOp bO (aB 4) (fC (.int 1)))) aV))))
  bH)
 (aW (bG (fOp ixF (eX (aA (aF bZ (aA (aB 5) aE)) (aA (bK (aA (aB 7) (aA (aF bZ (aA (aB 5) aE)) aE))) (aA (bK (aA (aF bZ (aA (aB 5) aE)) (aA (aB 8) aE))) aE)))) (fOp cH (fOp eW (aB 5) (fC (.int 17))) (fC (.int 3)))) (hName 10))
 (bT (fOp bO (fOp bO (fSl (aB 0) aV (aY (aB 4))) (bK (aA (aB 10) aE))) (fSl (aB 0) (aY (fOp bO (aB 4) (fC (.int 1)))) aV))))))))))))))
noncomputable def eE:FN:=fnF 3 11 gF
noncomputable abbrev JY:Stmt:=top 35
noncomputable abbrev aBe:List Str:=["_law_script","_law_deck_here","_law_k","_law_many","_law_links","_law_rings","_law_turn","_law_odd_here"]
noncomputable abbrev VR:List Str:=["_law_script"]
theorem sc_law:bI aBe VR (aJ JY):=by sleep 990
noncomputable def xU:EF:=(bK (aA (bK aE) (aA (bK aE) aE)))
theorem SR(γ:Ga)(M:Sto):xU γ M=some (.d (.tuple [(.tuple []),(.tuple [])]),M):=rfl
noncomputable def xS:SF:=(aW (sIf (cB (gB (aF dB (aA (aB 3) (aA (bK (aA (aF eJ (aA (aB 4) (aA (bM "list" fM (aB 1) aE) (aA (aB 3) aE)))) (aA (aB 5) aE))) aE)))))
 (bT (fC (.bool false)))
 bH)
 (sIf (cB (gB (aF dB (aA (aB 3) (aA (bK (aA (aB 4) (aA (aF eE (aA (aB 5) (aA (bM "list" fM (aB 1) aE) (aA (aB 4) aE)))) aE))) aE)))))
  (bT (fC (.bool false)))
  bH))
noncomputable def yD:SF:=(aW (bG (fOp bO (fC (.int 1)) (fOp cH (bM "list" fM (aB 1) aE) (fC (.int 9)))) (hName 3))
 (aW (bG (aF lH (aA (aB 1) (aA (aB 3) aE))) (pA 2 (cT (hName 4) (cT (hName 5) nG))))
 (aW (sIf (gOr (cB (gB (aF dG (aA (aB 3) (aA (bK (aA (aB 4) (aA (aB 5) aE))) aE))))) (cB (gB (aF dB (aA (aB 3) (aA (bK (aA (aB 4) (aA (aB 5) aE))) aE))))))
  (bT (fC (.bool false)))
  bH)
 (aW (jW (gZ (aA (fC (.int 3)) aE)) (hName 6) xS)
 (aW (bG (fOp ixF (eX (aA (bK (aA (aB 4) aE)) (aA (bK (aA (aB 4) (aA (aB 5) (aA (bK aE) aE)))) (aA (bK (aA (aB 5) (aA (aB 4) aE))) (aA (aF bZ (aA (bM "list" fM (aB 1) aE) aE)) aE))))) (fOp cH (bM "list" fM (aB 1) aE) (fC (.int 4)))) (hName 7))
 (sIf (cB (gB (aF dB (aA (aB 3) (aA (aB 7) aE)))))
  (bT (fC (.bool false)))
  bH))))))
noncomputable def aBI:SF:=(aW (bG (aF mX (aA (aB 0) (aA (fC (.int 480)) aE))) (hName 1))
 (aW (sIf (gOr (cB (gB (aF fS (aA (fC (.int 1)) (aA xU aE))))) (gB (aF fS (aA (fC (.int 1)) (aA (bK aE) aE)))))
  (bT (fC (.bool false)))
  bH)
 (aW (jW (gZ (aA (fC (.int 3)) aE)) (hName 2) yD)
 (bT (fC (.bool true))))))
noncomputable def F_law:FN:=fnF 1 8 aBI
structure Txt(K:Fg)(mg:Str->Option Value):Prop where
 hB:PX mg ["all","any","bool","enumerate","int","isinstance","len","list","max","min","range","sorted","sum","tuple","zip"]
 v15:Def K mg "_law_deck" oP
 v16:Def K mg "is_whole" qX
 v17:Def K mg "is_place" rG
 v18:Def K mg "is_row" vM
 v19:Def K mg "is_row_of" oX
 v20:Def K mg "straight_within" cV
 v21:Def K mg "bits" xW
 v22:Def K mg "is_ring" mK
 v23:Def K mg "is_rising" lD
 v24:Def K mg "are_rings" fP
 v25:Def K mg "are_rising_places" eI
 v26:Def K mg "is_link" tD
 v27:Def K mg "is_crossed" kC
 v28:Def K mg "any_cross" pB
 v29:Def K mg "are_links" gW
 v30:Def K mg "is_chart" rB
 v31:Def K mg "_law_parted" iY
 v32:Def K mg "_law_holds" jZ
 v33:Def K mg "_law_inner" kG
 v34:Def K mg "_law_chart" kI
 v35:Def K mg "_law_is_row" lQ
 v36:Def K mg "_law_is_whole" jO
 v37:Def K mg "_law_is_far" lY
 v38:Def K mg "_law_crosses" iH
 v39:Def K mg "_law_are_links" dE
 v40:Def K mg "_law_is_ring" kU
 v41:Def K mg "_law_is_chart" gX
 v42:Def K mg "_law_lists" kB
 v43:Def K mg "_law_right" nK
 v44:Def K mg "_law_odd" rD
 v45:Def K mg "_law_bent_links" iN
 v46:Def K mg "_law_bent_rings" iJ
 v47:Def K mg "law" JY
 ot:∃T,oZ K T (("straight_within":Str)++(".<locals>.":Str)++("<lambda>":Str))/\K.lookup T=none
 ctb:vW K "straight_within"=true
section
variable{P:Program}{w:World}{K:Fg}{mg:Str->Option Value}{base:Heap}
theorem DB(T:Txt K mg):Callee P w K mg base 1 "_law_deck" rJ (spM K mX):=
 T.v15.okG (N:=xE) (ps:=rJ) (k:=0) (b:=nB) sc__law_deck (by sleep 992) fun f cdv A outer s H E hr=>
  (aL (bL 2 (fun _=>sc__law_deck.nd) (dR (ZT (fun _=>rfl)) (fun _=>T.hB.of "list") A0w (aD (aC 0) aG)))
   (aL (cC (bU (aEx (fun _=>rfl) (fun _=>hr.units)) (aC 2) (jU aG))
    (aQ (bL 2 (fun _=>sc__law_deck.nd) (iI (aD aI aG))))
    bP)
   (aL (bL 3 (fun _=>sc__law_deck.nd) (aZ eV (bY dD (aC 2) aI) aI))
   (aL (DF (aZ nW (bY dD (aC 2) aI) aI) (WA aBq (aC 2) aI))
   (aL (bL 4 (fun _=>sc__law_deck.nd) (iI aG))
   (aL (fW (fun _=>F5) (fun _=>rfl) (oR (fun _=>T.hB.of "range") (aD (aC 1) aG)) (bD 5 (fun _=>sc__law_deck.nd))
    (aL (bL 6 (fun _=>sc__law_deck.nd) (aZ eV (aC 5) (aS dM (fun _=>T.hB.of "len") J1 (aD (aC 2) aG))))
   (aL (bL 7 (fun _=>sc__law_deck.nd) (aZ eV (bY dD (aC 2) (aC 6)) aI))
   (aL (cC (bU (lS (fun _=>rfl) (fun _=>hr.units)) (aC 3) aI)
    (aL (bL 7 (fun _=>sc__law_deck.nd) (aZ eV (aZ cF (aZ cF (bY dD (aC 2) (aC 6)) (aZ GU (aZ GU (aC 5) (aC 5)) aI)) (aZ GU aI (aC 5))) aI))
   (aL (bL 7 (fun _=>sc__law_deck.nd) (aZ eV (aZ cF (aZ GU (aC 7) (bY dD (jU (aD aI (aD aI (aD aI (aD aI aG))))) (aZ eV (aC 5) aI))) aI) aI))
   (aQ (bL 7 (fun _=>sc__law_deck.nd) (aZ eV (aZ GU (aC 7) (aC 7)) aI)))))
    (aQ (DF (aZ nW (bY dD (aC 2) (aC 6)) aI) (WA aBq (aC 2) (aC 6)))))
   (aQ (jF (gU (fun _=>rfl) (aC 4) (aD (aC 7) aG))))))))
   (aL (jF (yY (fun _=>rfl) (aC 4)))
   (aQ (bC (aC 4))))))))))
theorem HF(T:Txt K mg):Callee P w K mg base 1 "is_whole" sY (spM K tU):=
 T.v16.okG (N:=yM) (ps:=sY) (k:=0) (b:=yR) ID (by sleep 991) fun f cdv A outer s H E hr=>
  (aQ (bC (fI (wF (T:="int") (fun _=>rfl) (by decide) (aC 0) (fun _=>eB) (fun _=>T.hB.of "isinstance") (fun _=>T.hB.of "int") boot_int) (iT (JP (wF (T:="bool") (fun _=>rfl) (by decide) (aC 0) (fun _=>eB) (fun _=>T.hB.of "isinstance") (fun _=>T.hB.of "bool") boot_bool))))))
theorem qQ(T:Txt K mg):Callee P w K mg base 2 "is_place" tN (spM K cS):=
 T.v17.okG (N:=AK) (ps:=tN) (k:=1) (b:=pN) HP (by sleep 992) fun f cdv A outer s H E hr=>
  (aQ (bC (fI (aX (fun _=>HF T) hr.le (aD (aC 1) aG)) (iT (HJ aDE OY aI (aC 1) (aC 0))))))
theorem oN(T:Txt K mg):Callee P w K mg base 1 "is_row" AI (spM K gK):=
 T.v18.okG (N:=GP) (ps:=AI) (k:=0) (b:=GK) NW (by sleep 991) fun f cdv A outer s H E hr=>
  (aQ (bC (LB (T:="list") (U:="tuple") (fun _=>rfl) (by decide) (by decide) (aC 0) (fun _=>eB) (fun _=>T.hB.of "isinstance") (fun _=>T.hB.of "list") (fun _=>T.hB.of "tuple") A0w U4)))
theorem uM(T:Txt K mg):Callee P w K mg base 2 "is_row_of" qY (spM K gH):=
 T.v19.okG (N:=xF) (ps:=qY) (k:=1) (b:=wJ) FW (by sleep 992) fun f cdv A outer s H E hr=>
  (aQ (bC (fI (aX (fun _=>oN T) hr.le (aD (aC 0) aG)) (iT (iV (lS (fun _=>rfl) (fun _=>hr.units)) (aS dM (fun _=>T.hB.of "len") J1 (aD (aC 0) aG)) (aC 1))))))
theorem tO(T:Txt K mg):Callee P w K mg base 1 "straight_within" iW (spM K jH):=
 T.ot.elim fun TT oT=>T.v20.okT (N:=gC) (ps:=iW) (k:=0) (b:=mW) T.ctb oT.1 (by decide +kernel) sc_straight_within (by sleep 991) fun f cdv A outer s H E ck hr=>
  (aL (PD 1 (fun _=>sc_straight_within.nd) (N':=(["side"]:List Str)) (cap:=[none]) (fun _=>rfl) (fun _=>cK (sc0:=aJ cV) (N:=gC) rfl rfl (by decide +kernel)) (cL (fun _=>rfl) (aC 0)) (bD 0 (fun _=>(show(["side"]:List Str).Nodup by decide +kernel))) dX (iI aG))
   (aL (fW (fun _=>F5) (fun _=>rfl) (FT (fun _=>rfl) (fun _=>T.hB.of "enumerate") (aD (aC 0) aG)) (vQ (fun _=>rfl) (fun _=>rfl) (eL (bD 2 (fun _=>sc_straight_within.nd)) (eL (bD 3 (fun _=>sc_straight_within.nd)) pO)))
    (aL (zL 4 (fun _=>sc_straight_within.nd) (N':=(["at","side","k","other"]:List Str)) (cap:=[some 2,some 3,none,none]) (fun _=>rfl) (fun _=>cK (sc0:=aJ cV) (N:=gC) rfl rfl (by decide +kernel)) (FT (fun _=>rfl) (fun _=>T.hB.of "enumerate") (aD (aC 0) aG)) (vQ (fun _=>rfl) (fun _=>rfl) (eL (bD 2 (fun _=>(show(["at","side","k","other"]:List Str).Nodup by decide +kernel))) (eL (bD 3 (fun _=>(show(["at","side","k","other"]:List Str).Nodup by decide +kernel))) pO))) (IX (pH (zT (bU (OB (fun _=>rfl) (fun _=>hr.units)) (aC 2) (aC 0)) (uF (bU (lS (fun _=>rfl) (fun _=>hr.units)) (aZ TZ (aC 1) (aC 3)) (aC 1)))))) (aC 2))
   (aQ (cC (aCB (fun _=>rfl) (aC 4))
    (aQ (jF (gU (fun _=>rfl) (bY dD (aC 1) (XT 0 oT.1 (fun _=>rfl) (fun _=>rfl) (fun _=>hr.depth) (fun _=>T.hB.of "min") (aD (aC 4) aG) (fun _=>rfl) (fun _=>rfl) (fun _=>rfl) (fun _=>ck) (fun _=>UA (sc0:=aJ cV) rfl (by decide +kernel)) (fun _ _ _ _ _=>rfl) (by decide +kernel))) (aD (aC 2) aG))))
    bP))))
   (aQ (bC (aC 1)))))
theorem MZ(T:Txt K mg):Callee P w K mg base 1 "bits" KU (spM K vZ):=
 T.v21.okG (N:=JW) (ps:=KU) (k:=0) (b:=TL) ZH (by sleep 991) fun f cdv A outer s H E hr=>
  (aQ (bC (aS (JF (fun _=>rfl) (fun _=>rfl)) (fun _=>T.hB.of "sum") boot_sum (aD (iP (N':=(["place"]:List Str)) (cap:=[none]) (fun _=>rfl) (fun _=>cK (sc0:=aJ xW) (N:=JW) rfl rfl (by decide +kernel)) (cL (fun _=>rfl) (aC 0)) (bD 0 (fun _=>(show(["place"]:List Str).Nodup by decide +kernel))) dX (aZ aFa aI (aC 0))) aG))))
theorem IQ(T:Txt K mg):Callee P w K mg base 3 "is_ring" vS (spM K rS):=
 T.v22.okG (N:=rN) (ps:=vS) (k:=2) (b:=BX) JH (by sleep 994) fun f cdv A outer s H E hr=>
  (aL (cC (pH (iS (cW (cO (aX (fun _=>oN T) hr.le (aD (aC 3) aG)))) (iS (cW (cO (aS (wX (fun _=>rfl) (fun _=>rfl)) (fun _=>T.hB.of "all") boot_all (aD (iP (N':=(["links","at"]:List Str)) (cap:=[some 0,none]) (fun _=>rfl) (fun _=>cK (sc0:=aJ mK) (N:=rN) rfl rfl (by decide +kernel)) (cL (fun _=>rfl) (aC 3)) (bD 1 (fun _=>(show(["links","at"]:List Str).Nodup by decide +kernel))) dX (aX (fun _=>qQ T) hr.le (aD (aS dM (fun _=>T.hB.of "len") J1 (aD (aC 0) aG)) (aD (aC 1) aG)))) aG)))) (jK (bU (VO (fun _=>rfl) (fun _=>hr.units)) (aS (uA (fun _=>rfl)) (fun _=>T.hB.of "sorted") A0q (aD (aC 3) aG)) (aC 1))))))
   (aQ (bC eS))
   bP)
   (aQ (bC (fI (iV aFO (aS dM (fun _=>T.hB.of "len") J1 (aD (aC 3) aG)) aI) (fI (iV OY (bY dD (aC 3) aI) (bY dD (aC 3) (wV xA aI))) (iT (iV (lS (fun _=>rfl) (fun _=>hr.units)) (aS (JF (fun _=>rfl) (fun _=>rfl)) (fun _=>T.hB.of "sum") boot_sum (aD (iP (N':=(["links","at"]:List Str)) (cap:=[some 0,none]) (fun _=>rfl) (fun _=>cK (sc0:=aJ mK) (N:=rN) rfl rfl (by decide +kernel)) (cL (fun _=>rfl) (aC 3)) (bD 1 (fun _=>(show(["links","at"]:List Str).Nodup by decide +kernel))) dX (aS dM (fun _=>T.hB.of "len") J1 (aD (bY dD (aC 0) (aC 1)) aG))) aG)) (aS dM (fun _=>T.hB.of "len") J1 (aD (bY dD (aC 0) (aC 2)) aG)))))))))
theorem pM(T:Txt K mg):Callee P w K mg base 1 "is_rising" qW (spM K eF):=
 T.v23.okG (N:=rE) (ps:=qW) (k:=0) (b:=wO) ES (by sleep 991) fun f cdv A outer s H E hr=>
  (aQ (bC (aS (wX (fun _=>rfl) (fun _=>rfl)) (fun _=>T.hB.of "all") boot_all (aD (iP (N':=(["one","other"]:List Str)) (cap:=[none,none]) (fun _=>rfl) (fun _=>cK (sc0:=aJ lD) (N:=rE) rfl rfl (by decide +kernel)) (YI (fun _=>rfl) (fun _=>T.hB.of "zip") (aD (aC 0) (aD (dQ (fun _=>rfl) (aC 0) (bS aI) cE) aG))) (vQ (fun _=>rfl) (fun _=>rfl) (eL (bD 0 (fun _=>(show(["one","other"]:List Str).Nodup by decide +kernel))) (eL (bD 1 (fun _=>(show(["one","other"]:List Str).Nodup by decide +kernel))) pO))) dX (iV (aBL (fun _=>rfl) (fun _=>hr.units1)) (aC 0) (aC 1))) aG))))
theorem FS(T:Txt K mg):Callee P w K mg base 4 "are_rings" qD (spM K kM):=
 T.v24.okG (N:=iQ) (ps:=qD) (k:=3) (b:=wY) sc_are_rings (by sleep 992) fun f cdv A outer s H E hr=>
  (aL (cC (pH (iS (cW (cO (aX (fun _=>oN T) hr.le (aD (aC 1) aG)))) (jK (cW (cO (aS (wX (fun _=>rfl) (fun _=>rfl)) (fun _=>T.hB.of "all") boot_all (aD (iP (N':=(["links","ring"]:List Str)) (cap:=[some 0,none]) (fun _=>rfl) (fun _=>cK (sc0:=aJ fP) (N:=iQ) rfl rfl (by decide +kernel)) (cL (fun _=>rfl) (aC 1)) (bD 1 (fun _=>(show(["links","ring"]:List Str).Nodup by decide +kernel))) dX (fI (aX (fun _=>uM T) hr.le (aD (aC 1) (aD aI aG))) (iT (aX (fun _=>qQ T) hr.le (aD (aS dM (fun _=>T.hB.of "len") J1 (aD (aC 0) aG)) (aD (bY dD (aC 1) aI) aG)))))) aG)))))))
   (aQ (bC eS))
   bP)
   (aL (bL 2 (fun _=>sc_are_rings.nd) (aX (fun _=>tO T) hr.le (aD (iP (N':=(["link"]:List Str)) (cap:=[none]) (fun _=>rfl) (fun _=>cK (sc0:=aJ fP) (N:=iQ) rfl rfl (by decide +kernel)) (cL (fun _=>rfl) (aC 0)) (bD 0 (fun _=>(show(["link"]:List Str).Nodup by decide +kernel))) dX (aX (fun _=>MZ T) hr.le (aD (aC 0) aG))) aG)))
   (aQ (bC (fI (aX (fun _=>pM T) hr.le (aD (iP (N':=(["ring"]:List Str)) (cap:=[none]) (fun _=>rfl) (fun _=>cK (sc0:=aJ fP) (N:=iQ) rfl rfl (by decide +kernel)) (cL (fun _=>rfl) (aC 1)) (bD 0 (fun _=>(show(["ring"]:List Str).Nodup by decide +kernel))) dX (bY dD (aC 0) aI)) aG)) (iT (aS (wX (fun _=>rfl) (fun _=>rfl)) (fun _=>T.hB.of "all") boot_all (aD (iP (N':=(["links","within","k","order"]:List Str)) (cap:=[some 0,some 2,none,none]) (fun _=>rfl) (fun _=>cK (sc0:=aJ fP) (N:=iQ) rfl rfl (by decide +kernel)) (cL (fun _=>rfl) (aC 1)) (XN (fun _=>rfl) (fun _=>rfl) (eL (bD 2 (fun _=>(show(["links","within","k","order"]:List Str).Nodup by decide +kernel))) (eL (bD 3 (fun _=>(show(["links","within","k","order"]:List Str).Nodup by decide +kernel))) pO))) dX (aX (fun _=>IQ T) hr.le (aD (aC 0) (aD (bY dD (aC 1) (aC 2)) (aD (aC 2) (aD (aC 3) aG)))))) aG))))))))
theorem rH(T:Txt K mg):Callee P w K mg base 3 "are_rising_places" hW (spM K fA):=
 T.v25.okG (N:=hJ) (ps:=hW) (k:=2) (b:=lC) qK (by sleep 992) fun f cdv A outer s H E hr=>
  (aQ (bC (fI (aX (fun _=>oN T) hr.le (aD (aC 1) aG)) (fI (aS (wX (fun _=>rfl) (fun _=>rfl)) (fun _=>T.hB.of "all") boot_all (aD (iP (N':=(["many","one"]:List Str)) (cap:=[some 0,none]) (fun _=>rfl) (fun _=>cK (sc0:=aJ eI) (N:=hJ) rfl rfl (by decide +kernel)) (cL (fun _=>rfl) (aC 1)) (bD 1 (fun _=>(show(["many","one"]:List Str).Nodup by decide +kernel))) dX (aX (fun _=>qQ T) hr.le (aD (aC 0) (aD (aC 1) aG)))) aG)) (iT (aX (fun _=>pM T) hr.le (aD (aC 1) aG)))))))
theorem IT(T:Txt K mg):Callee P w K mg base 4 "is_link" wG (spM K nY):=
 T.v26.okG (N:=CP) (ps:=wG) (k:=3) (b:=CG) IM (by sleep 992) fun f cdv A outer s H E hr=>
  (aQ (bC (fI (aX (fun _=>rH T) hr.le (aD (aC 0) (aD (aC 1) aG))) (fI (iV AN (aS dM (fun _=>T.hB.of "len") J1 (aD (aC 1) aG)) aI) (iT (iV AN (bY dD (aC 1) aI) aI))))))
theorem BI(T:Txt K mg):Callee P w K mg base 1 "is_crossed" oY (spM K lN):=
 T.v27.okG (N:=oQ) (ps:=oY) (k:=0) (b:=vH) BD (by sleep 992) fun f cdv A outer s H E hr=>
  (aQ (bC (aS (RY (fun _=>rfl) (fun _=>rfl)) (fun _=>T.hB.of "any") boot_any (aD (iP (N':=(["one","other"]:List Str)) (cap:=[some 0,none]) (fun _=>rfl) (fun _=>cK (sc0:=aJ kC) (N:=oQ) rfl rfl (by decide +kernel)) (cL (fun _=>rfl) (aC 1)) (bD 1 (fun _=>(show(["one","other"]:List Str).Nodup by decide +kernel))) dX (iV (MB (fun _=>rfl) (fun _=>hr.units1)) (aZ TZ (aC 0) (aC 1)) (bN (aD aI (aD (aC 0) (aD (aC 1) aG)))))) aG))))
theorem FG(T:Txt K mg):Callee P w K mg base 2 "any_cross" qU (spM K mS):=
 T.v28.okG (N:=wW) (ps:=qU) (k:=1) (b:=wZ) sc_any_cross (by sleep 991) fun f cdv A outer s H E hr=>
  (aL (fW (fun _=>F5) (fun _=>rfl) (FT (fun _=>rfl) (fun _=>T.hB.of "enumerate") (aD (aC 0) aG)) (vQ (fun _=>rfl) (fun _=>rfl) (eL (bD 1 (fun _=>sc_any_cross.nd)) (eL (bD 2 (fun _=>sc_any_cross.nd)) pO)))
   (aQ (cC (cO (aX (fun _=>BI T) hr.le (aD (aC 2) (aD (dQ (fun _=>rfl) (aC 0) cE (bS (aC 1))) aG))))
   (aQ (bC eS))
   bP)))
   (aQ (bC eS)))
theorem FV(T:Txt K mg):Callee P w K mg base 5 "are_links" qP (spM K kQ):=
 T.v29.okG (N:=kR) (ps:=qP) (k:=4) (b:=wN) EB (by sleep 992) fun f cdv A outer s H E hr=>
  (aL (cC (pH (iS (cW (cO (aX (fun _=>oN T) hr.le (aD (aC 1) aG)))) (jK (cW (cO (aS (wX (fun _=>rfl) (fun _=>rfl)) (fun _=>T.hB.of "all") boot_all (aD (iP (N':=(["many","link"]:List Str)) (cap:=[some 0,none]) (fun _=>rfl) (fun _=>cK (sc0:=aJ gW) (N:=kR) rfl rfl (by decide +kernel)) (cL (fun _=>rfl) (aC 1)) (bD 1 (fun _=>(show(["many","link"]:List Str).Nodup by decide +kernel))) dX (aX (fun _=>IT T) hr.le (aD (aC 0) (aD (aC 1) aG)))) aG)))))))
   (aQ (bC eS))
   bP)
   (aQ (bC (fI (aX (fun _=>pM T) hr.le (aD (iP (N':=(["link"]:List Str)) (cap:=[none]) (fun _=>rfl) (fun _=>cK (sc0:=aJ gW) (N:=kR) rfl rfl (by decide +kernel)) (cL (fun _=>rfl) (aC 1)) (bD 0 (fun _=>(show(["link"]:List Str).Nodup by decide +kernel))) dX (dR (kH (fun _=>rfl)) (fun _=>T.hB.of "tuple") U4 (aD (aC 0) aG))) aG)) (iT (JP (aX (fun _=>FG T) hr.le (aD (iP (N':=(["link"]:List Str)) (cap:=[none]) (fun _=>rfl) (fun _=>cK (sc0:=aJ gW) (N:=kR) rfl rfl (by decide +kernel)) (cL (fun _=>rfl) (aC 1)) (bD 0 (fun _=>(show(["link"]:List Str).Nodup by decide +kernel))) dX (aX (fun _=>MZ T) hr.le (aD (aC 0) aG))) aG))))))))
theorem qR(T:Txt K mg):Callee P w K mg base 6 "is_chart" tM (spM K fS):=
 T.v30.okG (N:=zZ) (ps:=tM) (k:=5) (b:=zY) HV (by sleep 992) fun f cdv A outer s H E hr=>
  (aQ (bC (fI (aX (fun _=>uM T) hr.le (aD (aC 1) (aD aI aG))) (fI (aX (fun _=>FV T) hr.le (aD (aC 0) (aD (bY dD (aC 1) aI) aG))) (iT (aX (fun _=>FS T) hr.le (aD (bY dD (aC 1) aI) (aD (bY dD (aC 1) aI) aG))))))))
theorem zA(T:Txt K mg):Callee P w K mg base 1 "_law_parted" nF (spM K iA):=
 T.v31.okG (N:=nM) (ps:=nF) (k:=0) (b:=sF) sc__law_parted (by sleep 992) fun f cdv A outer s H E hr=>
  (aL (bL 2 (fun _=>sc__law_parted.nd) (iI (aD (iI aG) (aD (iI aG) (aD (iI aG) (aD (iI aG) aG))))))
   (aL (fW (fun _=>F5) (fun _=>rfl) (cL (fun _=>rfl) (aC 1)) (bD 3 (fun _=>sc__law_parted.nd))
    (aQ (jF (gU (fun _=>rfl) (bY dD (aC 2) (aZ eV (nQ (fun _=>rfl) (aC 0)) aI)) (aD (aC 3) aG)))))
   (aQ (bC (aBR (N':=(["_law_heap"]:List Str)) (cap:=[none]) (fun _=>rfl) (fun _=>rfl) (fun _=>cK (sc0:=aJ iY) (N:=nM) rfl rfl (by decide +kernel)) (aC 2) (bD 0 (fun _=>(show(["_law_heap"]:List Str).Nodup by decide +kernel))) (IX (bU (VO (fun _=>rfl) (fun _=>hr.units)) (aC 0) (iI aG))) (rQ (aC 0)))))))
theorem nV(T:Txt K mg):Callee P w K mg base 1 "_law_holds" pS (spM K cZ):=
 T.v32.okG (N:=pJ) (ps:=pS) (k:=0) (b:=uG) BC (by sleep 992) fun f cdv A outer s H E hr=>
  (aQ (bC (fI (iV AN (aS dM (fun _=>T.hB.of "len") J1 (aD (aC 0) aG)) (aS dM (fun _=>T.hB.of "len") J1 (aD (aC 1) aG))) (iT (aS (wX (fun _=>rfl) (fun _=>rfl)) (fun _=>T.hB.of "all") boot_all (aD (iP (N':=(["_law_one","_law_place"]:List Str)) (cap:=[some 0,none]) (fun _=>rfl) (fun _=>cK (sc0:=aJ jZ) (N:=pJ) rfl rfl (by decide +kernel)) (cL (fun _=>rfl) (aC 1)) (bD 1 (fun _=>(show(["_law_one","_law_place"]:List Str).Nodup by decide +kernel))) dX (iV (aFU (fun _=>rfl) (fun _=>hr.units1)) (aC 1) (aC 0))) aG))))))
theorem sQ(T:Txt K mg):Callee P w K mg base 2 "_law_inner" pD (spM K dJ):=
 T.v33.okG (N:=pG) (ps:=pD) (k:=1) (b:=tY) sc__law_inner (by sleep 992) fun f cdv A outer s H E hr=>
  (aL (bL 2 (fun _=>sc__law_inner.nd) (iI aG))
   (aL (fW (fun _=>F5) (fun _=>rfl) (oR (fun _=>T.hB.of "range") (aD (aS dM (fun _=>T.hB.of "len") J1 (aD (aC 0) aG)) aG)) (bD 3 (fun _=>sc__law_inner.nd))
    (aQ (cC (cO (aX (fun _=>nV T) hr.le (aD (bY dD (aC 0) (aC 1)) (aD (bY dD (aC 0) (aC 3)) aG))))
    (aQ (cC (cW (cO (aS (RY (fun _=>rfl) (fun _=>rfl)) (fun _=>T.hB.of "any") boot_any (aD (iP (N':=(["_law_links","_law_k","_law_at","_law_link"]:List Str)) (cap:=[some 0,some 1,some 3,none]) (fun _=>rfl) (fun _=>cK (sc0:=aJ kG) (N:=pG) rfl rfl (by decide +kernel)) (cL (fun _=>rfl) (aC 0)) (bD 3 (fun _=>(show(["_law_links","_law_k","_law_at","_law_link"]:List Str).Nodup by decide +kernel))) dX (fI (aX (fun _=>nV T) hr.le (aD (bY dD (aC 0) (aC 1)) (aD (aC 3) aG))) (iT (aX (fun _=>nV T) hr.le (aD (aC 3) (aD (bY dD (aC 0) (aC 2)) aG)))))) aG))))
    (aQ (jF (gU (fun _=>rfl) (aC 2) (aD (aC 3) aG))))
    bP))
    bP)))
   (aQ (bC (aC 2)))))
theorem BG(T:Txt K mg):Callee P w K mg base 3 "_law_chart" pR (spM K lH):=
 T.v34.okG (N:=oS) (ps:=pR) (k:=2) (b:=uW) sc__law_chart (by sleep 992) fun f cdv A outer s H E hr=>
  (aL (bL 2 (fun _=>sc__law_chart.nd) (iI aG))
   (aL (bL 3 (fun _=>sc__law_chart.nd) (iI (aD (TM false (fun _=>rfl) (fun _=>T.hB.of "range") (fun _=>T.hB.of "list") (aD aI (aD (aC 1) aG))) aG)))
   (aL (fW (fun _=>F5) (fun _=>rfl) (oR (fun _=>T.hB.of "range") (aD aI aG)) (bD 4 (fun _=>sc__law_chart.nd))
    (aQ (cC (bU (VO (fun _=>rfl) (fun _=>hr.units)) (aC 3) (jU aG))
    (aL (bL 5 (fun _=>sc__law_chart.nd) (nQ (fun _=>rfl) (aC 3)))
   (aQ (fW (fun _=>F5) (fun _=>rfl) (cL (fun _=>rfl) (rQ (aX (fun _=>zA T) hr.le (aD (aC 0) (aD (aC 5) aG))))) (bD 6 (fun _=>sc__law_chart.nd))
    (aL (bL 7 (fun _=>sc__law_chart.nd) (nQ (fun _=>rfl) (aC 0)))
   (aL (cC (bU AN (aZ eV (aC 7) aI) aI)
    (aQ (jF (gU (fun _=>rfl) (aC 2) (aD (dR (kH (fun _=>rfl)) (fun _=>T.hB.of "tuple") U4 (aD (aC 6) aG)) aG))))
    bP)
   (aQ (cC (pH (zT (bU AN (aS dM (fun _=>T.hB.of "len") J1 (aD (aC 6) aG)) aI) (uF (bU AN (aZ eV (aC 7) aI) aI))))
    (aQ (jF (gU (fun _=>rfl) (aC 3) (aD (aC 6) aG))))
    bP)))))))
    bP)))
   (aL (bL 8 (fun _=>sc__law_chart.nd) (aC 2))
   (aL (bL 2 (fun _=>sc__law_chart.nd) (iI aG))
   (aL (aEp 2 (fW (fun _=>F5) (fun _=>rfl) (cL (fun _=>rfl) (aS (LD (fun _=>rfl) (fun _=>hr.units2)) (fun _=>T.hB.of "sorted") A0q (aD (aC 8) aG))) (bD 9 (fun _=>sc__law_chart.nd))
    (aQ (cC (bU (WI (fun _=>rfl) (fun _=>hr.units1)) (aC 9) (aC 2))
    (aQ (jF (gU (fun _=>rfl) (aC 2) (aD (aC 9) aG))))
    bP))))
   (aL (bL 10 (fun _=>sc__law_chart.nd) (UM (fun _=>rfl) (fun _=>T.hB.of "range") (fun _=>T.hB.of "tuple") (aD aI (aD (aC 1) aG))))
   (aL (cC (pH (zT (bU AN (aC 1) aI) (uF (bU (lS (fun _=>rfl) (fun _=>hr.units)) (aZ eV (nQ (fun _=>rfl) (aC 0)) aI) aI))))
    (aQ (cC (bU (MB (fun _=>rfl) (fun _=>hr.units1)) (aC 10) (aC 2))
    (aQ (bL 2 (fun _=>sc__law_chart.nd) (aS (LD (fun _=>rfl) (fun _=>hr.units2)) (fun _=>T.hB.of "sorted") A0q (aD (aZ cF (aC 2) (jU (aD (aC 10) aG))) aG))))
    bP))
    bP)
   (aL (bL 11 (fun _=>sc__law_chart.nd) (iI aG))
   (aL (fW (fun _=>F5) (fun _=>rfl) (oR (fun _=>T.hB.of "range") (aD (aS dM (fun _=>T.hB.of "len") J1 (aD (aC 2) aG)) aG)) (bD 12 (fun _=>sc__law_chart.nd))
    (aL (bL 13 (fun _=>sc__law_chart.nd) (rQ (aX (fun _=>sQ T) hr.le (aD (aC 2) (aD (aC 12) aG)))))
   (aL (bL 14 (fun _=>sc__law_chart.nd) (aS (JF (fun _=>rfl) (fun _=>rfl)) (fun _=>T.hB.of "sum") boot_sum (aD (iP (N':=(["_law_links","_law_at"]:List Str)) (cap:=[some 2,none]) (fun _=>rfl) (fun _=>cK (sc0:=aJ kI) (N:=oS) rfl rfl (by decide +kernel)) (cL (fun _=>rfl) (aC 13)) (bD 1 (fun _=>(show(["_law_links","_law_at"]:List Str).Nodup by decide +kernel))) dX (aS dM (fun _=>T.hB.of "len") J1 (aD (bY dD (aC 0) (aC 1)) aG))) aG)))
   (aQ (cC (pH (zT (bU AN (aS dM (fun _=>T.hB.of "len") J1 (aD (aC 13) aG)) aI) (uF (bU (lS (fun _=>rfl) (fun _=>hr.units)) (aC 14) (aS dM (fun _=>T.hB.of "len") J1 (aD (bY dD (aC 2) (aC 12)) aG))))))
    (aL (bL 7 (fun _=>sc__law_chart.nd) (nQ (fun _=>rfl) (aC 0)))
   (aL (bL 15 (fun _=>sc__law_chart.nd) (aZ eV (aC 7) (aS dM (fun _=>T.hB.of "len") J1 (aD (aC 13) aG))))
   (aL (bL 16 (fun _=>sc__law_chart.nd) (aZ (TY (fun _=>rfl)) (dQ (fun _=>rfl) (aC 13) (bS (aC 15)) cE) (dQ (fun _=>rfl) (aC 13) cE (bS (aC 15)))))
   (aL (cC (bU (lS (fun _=>rfl) (fun _=>hr.units)) (aZ eV (aZ nW (aC 7) aI) aI) aI)
    (aQ (bL 16 (fun _=>sc__law_chart.nd) (aZ (TY (fun _=>rfl)) (aZ cF (dQ (fun _=>rfl) (aC 16) cE (bS aI)) (dQ (fun _=>rfl) (aC 16) (bS aI) cE)) (dQ (fun _=>rfl) (aC 16) (bS aI) (bS aI)))))
    bP)
   (aL (cC (bU AN (bY dD (aC 16) aI) (bY dD (aC 16) (wV xA aI)))
    (aQ (jF (yY (fun _=>rfl) (aC 16))))
    bP)
   (aQ (cC (bU AN (aZ eV (aZ nW (aC 7) aI) aI) aI)
    (aQ (jF (gU (fun _=>rfl) (aC 11) (aD (bN (aD (aC 12) (aD (dR (kH (fun _=>rfl)) (fun _=>T.hB.of "tuple") U4 (aD (aC 16) aG)) aG))) aG))))
    bP)))))))
    bP)))))
   (aQ (bC (bN (aD (dR (kH (fun _=>rfl)) (fun _=>T.hB.of "tuple") U4 (aD (aC 2) aG)) (aD (dR (kH (fun _=>rfl)) (fun _=>T.hB.of "tuple") U4 (aD (aC 11) aG)) aG)))))))))))))))
theorem fD(T:Txt K mg):Callee P w K mg base 1 "_law_is_row" nO (spM K bJ):=
 T.v35.okG (N:=rZ) (ps:=nO) (k:=0) (b:=sI) AR (by sleep 991) fun f cdv A outer s H E hr=>
  (aQ (bC (LB (T:="list") (U:="tuple") (fun _=>rfl) (by decide) (by decide) (aC 0) (fun _=>eB) (fun _=>T.hB.of "isinstance") (fun _=>T.hB.of "list") (fun _=>T.hB.of "tuple") A0w U4)))
theorem oJ(T:Txt K mg):Callee P w K mg base 1 "_law_is_whole" kY (spM K dI):=
 T.v36.okG (N:=pX) (ps:=kY) (k:=0) (b:=lA) vU (by sleep 993) fun f cdv A outer s H E hr=>
  (aQ (bC (fI (wF (T:="int") (fun _=>rfl) (by decide) (aC 0) (fun _=>eB) (fun _=>T.hB.of "isinstance") (fun _=>T.hB.of "int") boot_int) (fI (JP (wF (T:="bool") (fun _=>rfl) (by decide) (aC 0) (fun _=>eB) (fun _=>T.hB.of "isinstance") (fun _=>T.hB.of "bool") boot_bool)) (iT (HJ aDE aDE (aC 1) (aC 0) (aC 2)))))))
theorem yN(T:Txt K mg):Callee P w K mg base 2 "_law_is_far" nS (spM K iB):=
 T.v37.okG (N:=sH) (ps:=nS) (k:=1) (b:=sM) sc__law_is_far (by sleep 992) fun f cdv A outer s H E hr=>
  (aL (cC (pH (iS (cW (cO (aX (fun _=>fD T) hr.le (aD (aC 1) aG)))) (jK (bU (lS (fun _=>rfl) (fun _=>hr.units)) (aS dM (fun _=>T.hB.of "len") J1 (aD (aC 1) aG)) aI))))
   (aQ (bC eS))
   bP)
   (aL (bL 2 (fun _=>sc__law_is_far.nd) aI)
   (aL (fW (fun _=>F5) (fun _=>rfl) (cL (fun _=>rfl) (aC 1)) (bD 3 (fun _=>sc__law_is_far.nd))
    (aL (cC (cW (cO (aX (fun _=>oJ T) hr.le (aD (aC 3) (aD (aC 2) (aD (aZ TV (aC 0) aI) aG))))))
    (aQ (bC eS))
    bP)
   (aQ (bL 2 (fun _=>sc__law_is_far.nd) (aZ cF (aC 3) aI)))))
   (aQ (bC eS)))))
theorem xO(T:Txt K mg):Callee P w K mg base 1 "_law_crosses" lW (spM K iU):=
 T.v38.okG (N:=lP) (ps:=lW) (k:=0) (b:=qE) sc__law_crosses (by sleep 992) fun f cdv A outer s H E hr=>
  (aL (zL 2 (fun _=>sc__law_crosses.nd) (N':=(["_law_other","_law_place"]:List Str)) (cap:=[some 1,none]) (fun _=>rfl) (fun _=>cK (sc0:=aJ iH) (N:=lP) rfl rfl (by decide +kernel)) (cL (fun _=>rfl) (aC 0)) (bD 1 (fun _=>(show(["_law_other","_law_place"]:List Str).Nodup by decide +kernel))) (IX (bU (aFU (fun _=>rfl) (fun _=>hr.units1)) (aC 1) (aC 0))) (aC 1))
   (aQ (bC (fI (iV (OB (fun _=>rfl) (fun _=>hr.units)) (aC 2) (jU aG)) (fI (iV OY (aS dM (fun _=>T.hB.of "len") J1 (aD (aC 2) aG)) (aS dM (fun _=>T.hB.of "len") J1 (aD (aC 0) aG))) (iT (iV OY (aS dM (fun _=>T.hB.of "len") J1 (aD (aC 2) aG)) (aS dM (fun _=>T.hB.of "len") J1 (aD (aC 1) aG)))))))))
theorem vF(T:Txt K mg):Callee P w K mg base 3 "_law_are_links" jV (spM K gV):=
 T.v39.okG (N:=fH) (ps:=jV) (k:=2) (b:=oA) sc__law_are_links (by sleep 992) fun f cdv A outer s H E hr=>
  (aL (cC (pH (iS (cW (cO (aX (fun _=>fD T) hr.le (aD (aC 1) aG)))) (jK (cW (cO (aS (wX (fun _=>rfl) (fun _=>rfl)) (fun _=>T.hB.of "all") boot_all (aD (iP (N':=(["_law_many","_law_link"]:List Str)) (cap:=[some 0,none]) (fun _=>rfl) (fun _=>cK (sc0:=aJ dE) (N:=fH) rfl rfl (by decide +kernel)) (cL (fun _=>rfl) (aC 1)) (bD 1 (fun _=>(show(["_law_many","_law_link"]:List Str).Nodup by decide +kernel))) dX (aX (fun _=>yN T) hr.le (aD (aC 0) (aD (aC 1) aG)))) aG)))))))
   (aQ (bC eS))
   bP)
   (aL (bL 2 (fun _=>sc__law_are_links.nd) (iP (N':=(["_law_link"]:List Str)) (cap:=[none]) (fun _=>rfl) (fun _=>cK (sc0:=aJ dE) (N:=fH) rfl rfl (by decide +kernel)) (cL (fun _=>rfl) (aC 1)) (bD 0 (fun _=>(show(["_law_link"]:List Str).Nodup by decide +kernel))) dX (dR (kH (fun _=>rfl)) (fun _=>T.hB.of "tuple") U4 (aD (aC 0) aG))))
   (aL (fW (fun _=>F5) (fun _=>rfl) (oR (fun _=>T.hB.of "range") (aD (aS dM (fun _=>T.hB.of "len") J1 (aD (aC 2) aG)) aG)) (bD 3 (fun _=>sc__law_are_links.nd))
    (aL (cC (pH (zT (bU AN (aC 3) aI) (uF (cW (bU (aBL (fun _=>rfl) (fun _=>hr.units1)) (bY dD (aC 2) (aZ TV (aC 3) aI)) (bY dD (aC 2) (aC 3)))))))
    (aQ (bC eS))
    bP)
   (aQ (cC (cO (aS (RY (fun _=>rfl) (fun _=>rfl)) (fun _=>T.hB.of "any") boot_any (aD (iP (N':=(["_law_links","_law_at","_law_link"]:List Str)) (cap:=[some 2,some 3,none]) (fun _=>rfl) (fun _=>cK (sc0:=aJ dE) (N:=fH) rfl rfl (by decide +kernel)) (cL (fun _=>rfl) (aC 2)) (bD 2 (fun _=>(show(["_law_links","_law_at","_law_link"]:List Str).Nodup by decide +kernel))) dX (aX (fun _=>xO T) hr.le (aD (bY dD (aC 0) (aC 1)) (aD (aC 2) aG)))) aG)))
    (aQ (bC eS))
    bP))))
   (aQ (bC eS)))))
theorem xJ(T:Txt K mg):Callee P w K mg base 3 "_law_is_ring" lV (spM K gM):=
 T.v40.okG (N:=qN) (ps:=lV) (k:=2) (b:=dP) sc__law_is_ring (by sleep 992) fun f cdv A outer s H E hr=>
  (aL (cC (pH (iS (cW (cO (aX (fun _=>fD T) hr.le (aD (aC 1) aG)))) (iS (bU (OB (fun _=>rfl) (fun _=>hr.units)) (aS dM (fun _=>T.hB.of "len") J1 (aD (aC 1) aG)) aI) (iS (cW (cO (aX (fun _=>fD T) hr.le (aD (bY dD (aC 1) aI) aG)))) (jK (bU OY (aS dM (fun _=>T.hB.of "len") J1 (aD (bY dD (aC 1) aI) aG)) aI))))))
   (aQ (bC eS))
   bP)
   (aL (fW (fun _=>F5) (fun _=>rfl) (cL (fun _=>rfl) (aZ cF (jU (aD (bY dD (aC 1) aI) aG)) (dR (DD (fun _=>rfl)) (fun _=>T.hB.of "list") A0w (aD (bY dD (aC 1) aI) aG)))) (bD 2 (fun _=>sc__law_is_ring.nd))
    (aQ (cC (cW (cO (aX (fun _=>oJ T) hr.le (aD (aC 2) (aD aI (aD (aZ TV (aS dM (fun _=>T.hB.of "len") J1 (aD (aC 0) aG)) aI) aG))))))
    (aQ (bC eS))
    bP)))
   (aL (bL 3 (fun _=>sc__law_is_ring.nd) (dR (DD (fun _=>rfl)) (fun _=>T.hB.of "list") A0w (aD (bY dD (aC 1) aI) aG)))
   (aL (cC (pH (iS (bU (OB (fun _=>rfl) (fun _=>hr.units)) (aS (uA (fun _=>rfl)) (fun _=>T.hB.of "sorted") A0q (aD (aC 3) aG)) (rQ (aX (fun _=>sQ T) hr.le (aD (aC 0) (aD (bY dD (aC 1) aI) aG))))) (jK (bU aFO (bY dD (aC 3) aI) (bY dD (aC 3) (wV xA aI))))))
    (aQ (bC eS))
    bP)
   (aL (bL 4 (fun _=>sc__law_is_ring.nd) (jU aG))
   (aL (fW (fun _=>F5) (fun _=>rfl) (cL (fun _=>rfl) (aC 3)) (bD 2 (fun _=>sc__law_is_ring.nd))
    (aQ (bL 4 (fun _=>sc__law_is_ring.nd) (aZ cF (aC 4) (dR (DD (fun _=>rfl)) (fun _=>T.hB.of "list") A0w (aD (bY dD (aC 0) (aC 2)) aG))))))
   (aQ (bC (iV (lS (fun _=>rfl) (fun _=>hr.units)) (aS (uA (fun _=>rfl)) (fun _=>T.hB.of "sorted") A0q (aD (aC 4) aG)) (dR (DD (fun _=>rfl)) (fun _=>T.hB.of "list") A0w (aD (bY dD (aC 0) (bY dD (aC 1) aI)) aG)))))))))))
theorem oD(T:Txt K mg):Callee P w K mg base 4 "_law_is_chart" kZ (spM K dG):=
 T.v41.okG (N:=kW) (ps:=kZ) (k:=3) (b:=eA) sc__law_is_chart (by sleep 992) fun f cdv A outer s H E hr=>
  (aL (cC (pH (iS (cW (cO (aX (fun _=>fD T) hr.le (aD (aC 1) aG)))) (iS (bU (OB (fun _=>rfl) (fun _=>hr.units)) (aS dM (fun _=>T.hB.of "len") J1 (aD (aC 1) aG)) aI) (iS (cW (cO (aX (fun _=>vF T) hr.le (aD (aC 0) (aD (bY dD (aC 1) aI) aG))))) (jK (cW (cO (aX (fun _=>fD T) hr.le (aD (bY dD (aC 1) aI) aG)))))))))
   (aQ (bC eS))
   bP)
   (aL (zL 2 (fun _=>sc__law_is_chart.nd) (N':=(["_law_link"]:List Str)) (cap:=[none]) (fun _=>rfl) (fun _=>cK (sc0:=aJ gX) (N:=kW) rfl rfl (by decide +kernel)) (cL (fun _=>rfl) (bY dD (aC 1) aI)) (bD 0 (fun _=>(show(["_law_link"]:List Str).Nodup by decide +kernel))) dX (dR (kH (fun _=>rfl)) (fun _=>T.hB.of "tuple") U4 (aD (aC 0) aG)))
   (aL (bL 3 (fun _=>sc__law_is_chart.nd) aI)
   (aL (fW (fun _=>F5) (fun _=>rfl) (cL (fun _=>rfl) (bY dD (aC 1) aI)) (bD 4 (fun _=>sc__law_is_chart.nd))
    (aL (cC (pH (iS (cW (cO (aX (fun _=>xJ T) hr.le (aD (aC 2) (aD (aC 4) aG))))) (jK (bU OY (bY dD (aC 4) aI) (aC 3)))))
    (aQ (bC eS))
    bP)
   (aQ (bL 3 (fun _=>sc__law_is_chart.nd) (aZ cF (bY dD (aC 4) aI) aI)))))
   (aQ (bC eS))))))
theorem sG(T:Txt K mg):∀n:Nat,Callee P w K mg base (n+1) "_law_lists" lO (spM K (dA n))
 |0=>(T.v42.okNone (N:=lG) (ps:=lO) (k:=0) sO (by intro _ _ _ _ _ _ _ hl;apply ar1 hl;intros;rfl)).mono (by decide)
 |n+1=>(T.v42.okG (N:=lG) (ps:=lO) (k:=n+1) (b:=pC (dA n)) sO (by sleep 991) fun f cdv A outer s H E hr=>
  (aL (cC (cW (cO (wF (T:="tuple") (fun _=>rfl) (by decide) (aC 0) (fun _=>eB) (fun _=>T.hB.of "isinstance") (fun _=>T.hB.of "tuple") U4)))
   (aQ (bC (aC 0)))
   bP)
   (aQ (bC (iP (N':=(["_law_part"]:List Str)) (cap:=[none]) (fun _=>rfl) (fun _=>cK (sc0:=aJ kB) (N:=lG) rfl rfl (by decide +kernel)) (cL (fun _=>rfl) (aC 0)) (bD 0 (fun _=>(show(["_law_part"]:List Str).Nodup by decide +kernel))) dX (aX (fun _=>sG T n) (fun _=>hr.mono (by omega)) (aD (aC 0) aG))))))).mono (by omega)
theorem jY(T:Txt K mg):Callee P w K mg base 8 "_law_right" pL (spM K dB):=
 T.v43.okG (N:=uU) (ps:=pL) (k:=7) (b:=uJ) sc__law_right (by sleep 992) fun f cdv A outer s H E hr=>
  (aL (fW (fun _=>F5) (fun _=>rfl) (cL (fun _=>rfl) (jU (aD (aC 0) (aD (aZ cF aI (aZ eV (aC 0) aI)) aG)))) (bD 2 (fun _=>sc__law_right.nd))
   (aL (bL 3 (fun _=>sc__law_right.nd) (aX (fun _=>oD T) hr.le (aD (aC 2) (aD (aC 1) aG))))
   (aQ (fW (fun _=>F5) (fun _=>rfl) (cL (fun _=>rfl) (jU (aD (aC 1) (aD (aX (fun _=>sG T 6) hr.le (aD (aC 1) aG)) aG)))) (bD 4 (fun _=>sc__law_right.nd))
    (aL (bL 5 (fun _=>sc__law_right.nd) (aX (fun _=>qR T) hr.le (aD (aC 2) (aD (aC 4) aG))))
   (aQ (cC (pH (iS (cW (cO (wF (T:="bool") (fun _=>rfl) (by decide) (aC 5) (fun _=>eB) (fun _=>T.hB.of "isinstance") (fun _=>T.hB.of "bool") boot_bool))) (jK (bU (OB (fun _=>rfl) (fun _=>hr.units)) (aC 5) (aC 3)))))
    (aQ (bC eS))
    bP)))))))
   (aQ (bC eS)))
theorem gQ(T:Txt K mg):Callee P w K mg base 1 "_law_odd" tJ (spM K bZ):=
 T.v44.okG (N:=yU) (ps:=tJ) (k:=0) (b:=yX) sc__law_odd (by sleep 991) fun f cdv A outer s H E hr=>
  (aL (bL 1 (fun _=>sc__law_odd.nd) (iI (aD aBZ (aD eS (aD aI (aD aI (aD VJ (aD (bN aG) (aD (jU aG) (aD WW (aD (bN (aD aI aG)) (aD (bN (aD aI aG)) (aD (bN (aD aI (aD aI aG))) (aD (bN (aD eS aG)) (aD (bN (aD (bN (aD aI aG)) aG)) (aD (bN (aD (bN aG) (aD (bN aG) aG))) (aD (bN (aD VJ aG)) (aD (bN (aD (wV xA aI) aG)) aG))))))))))))))))))
   (aL (jF (gU (fun _=>rfl) (aC 1) (aD (bN (aD aI (aD (bN (aD aI (aD aI (aD aI aG)))) aG))) aG)))
   (aQ (bC (bY dD (aC 1) (aZ eV (aC 0) aI))))))
theorem tQ(T:Txt K mg):Callee P w K mg base 2 "_law_bent_links" iX (spM K eJ):=
 T.v45.okG (N:=mO) (ps:=iX) (k:=1) (b:=eM) sc__law_bent_links (by sleep 993) fun f cdv A outer s H E hr=>
  (aL (bL 3 (fun _=>sc__law_bent_links.nd) (aZ eV (aC 1) aI))
   (aL (bL 4 (fun _=>sc__law_bent_links.nd) (aZ eV (aZ nW (aC 1) aI) (aS (KB (fun _=>rfl)) (fun _=>T.hB.of "max") boot_max (aD aI (aD (aS dM (fun _=>T.hB.of "len") J1 (aD (aC 0) aG)) aG)))))
   (aL (bL 5 (fun _=>sc__law_bent_links.nd) (aZ nW (aC 1) aI))
   (aL (cC (pH (iS (bU (lS (fun _=>rfl) (fun _=>hr.units)) (aC 3) aI) (jK (bU (lS (fun _=>rfl) (fun _=>hr.units)) (aC 0) (bN aG)))))
    (aQ (bC (aX (fun _=>gQ T) hr.le (aD (aC 5) aG))))
    bP)
   (aL (cC (bU (lS (fun _=>rfl) (fun _=>hr.units)) (aC 3) aI)
    (aQ (bC (aZ cF (dQ (fun _=>rfl) (aC 0) cE (bS (aC 4))) (dQ (fun _=>rfl) (aC 0) (bS (aZ cF (aC 4) aI)) cE))))
    bP)
   (aL (cC (bU (lS (fun _=>rfl) (fun _=>hr.units)) (aC 3) aI)
    (aQ (bC (aZ cF (aC 0) (dQ (fun _=>rfl) (aC 0) (bS (aC 4)) (bS (aZ cF (aC 4) aI))))))
    bP)
   (aL (cC (bU (lS (fun _=>rfl) (fun _=>hr.units)) (aC 3) aI)
    (aQ (bC (TB (fun _=>rfl) (aC 0) (bS (wV xA aI)))))
    bP)
   (aL (cC (bU (lS (fun _=>rfl) (fun _=>hr.units)) (aC 3) aI)
    (aQ (bC (aZ cF (aZ cF (dQ (fun _=>rfl) (aC 0) cE (bS (aC 4))) (bN (aD (aX (fun _=>gQ T) hr.le (aD (aC 5) aG)) aG))) (dQ (fun _=>rfl) (aC 0) (bS (aZ cF (aC 4) aI)) cE))))
    bP)
   (aL (bL 6 (fun _=>sc__law_bent_links.nd) (bY dD (aC 0) (aC 4)))
   (aL (cC (bU (lS (fun _=>rfl) (fun _=>hr.units)) (aC 3) aI)
    (aQ (bC (dR (kH (fun _=>rfl)) (fun _=>T.hB.of "tuple") U4 (aD (aS (GX (fun _=>rfl) (fun _=>hr.units2) (fun _=>hr.units3)) (fun _=>T.hB.of "sorted") A0q (aD (aZ cF (aZ cF (dQ (fun _=>rfl) (aC 0) cE (bS (aC 4))) (bN (aD (dQ (fun _=>rfl) (aC 6) cE (bS (wV xA aI))) aG))) (dQ (fun _=>rfl) (aC 0) (bS (aZ cF (aC 4) aI)) cE)) aG)) aG))))
    bP)
   (aL (bL 7 (fun _=>sc__law_bent_links.nd) (dR (kH (fun _=>rfl)) (fun _=>T.hB.of "tuple") U4 (aD (aS (uA (fun _=>rfl)) (fun _=>T.hB.of "sorted") A0q (aD (aZ cF (aC 6) (bN (aD (aZ eV (aC 5) (aZ cF (aC 2) aI)) aG))) aG)) aG)))
   (aQ (bC (dR (kH (fun _=>rfl)) (fun _=>T.hB.of "tuple") U4 (aD (aS (GX (fun _=>rfl) (fun _=>hr.units2) (fun _=>hr.units3)) (fun _=>T.hB.of "sorted") A0q (aD (aZ cF (aZ cF (dQ (fun _=>rfl) (aC 0) cE (bS (aC 4))) (bN (aD (aC 7) aG))) (dQ (fun _=>rfl) (aC 0) (bS (aZ cF (aC 4) aI)) cE)) aG)) aG)))))))))))))))
theorem tE(T:Txt K mg):Callee P w K mg base 2 "_law_bent_rings" jI (spM K eE):=
 T.v46.okG (N:=mV) (ps:=jI) (k:=1) (b:=gF) sc__law_bent_rings (by sleep 993) fun f cdv A outer s H E hr=>
  (aL (bL 3 (fun _=>sc__law_bent_rings.nd) (aZ eV (aC 1) aI))
   (aL (bL 4 (fun _=>sc__law_bent_rings.nd) (aZ eV (aZ nW (aC 1) aI) (aS (KB (fun _=>rfl)) (fun _=>T.hB.of "max") boot_max (aD aI (aD (aS dM (fun _=>T.hB.of "len") J1 (aD (aC 0) aG)) aG)))))
   (aL (bL 5 (fun _=>sc__law_bent_rings.nd) (aZ nW (aC 1) aI))
   (aL (cC (pH (iS (bU (lS (fun _=>rfl) (fun _=>hr.units)) (aC 3) aI) (jK (bU (lS (fun _=>rfl) (fun _=>hr.units)) (aC 0) (bN aG)))))
    (aL (bL 6 (fun _=>sc__law_bent_rings.nd) (bN (aD (aZ eV (aC 5) (aS (KB (fun _=>rfl)) (fun _=>T.hB.of "max") boot_max (aD aI (aD (aS dM (fun _=>T.hB.of "len") J1 (aD (aC 2) aG)) aG)))) (aD (bN (aD aI (aD aI (aD aI aG)))) aG))))
   (aQ (bC (bY dD (jU (aD (aX (fun _=>gQ T) hr.le (aD (aC 5) aG)) (aD (aZ cF (aC 0) (bN (aD (aC 6) aG))) aG))) (aZ eV (aZ nW (aC 1) aI) aI)))))
    bP)
   (aL (DF (bY dD (aC 0) (aC 4)) (vQ (fun _=>rfl) (fun _=>rfl) (eL (bD 7 (fun _=>sc__law_bent_rings.nd)) (eL (bD 8 (fun _=>sc__law_bent_rings.nd)) pO))))
   (aL (cC (bU (lS (fun _=>rfl) (fun _=>hr.units)) (aC 3) aI)
    (aQ (bC (aZ cF (aC 0) (dQ (fun _=>rfl) (aC 0) (bS (aC 4)) (bS (aZ cF (aC 4) aI))))))
    bP)
   (aL (cC (bU (lS (fun _=>rfl) (fun _=>hr.units)) (aC 3) aI)
    (aQ (bC (aZ cF (aZ cF (dQ (fun _=>rfl) (aC 0) cE (bS (aC 4))) (bN (aD (bN (aD (aZ eV (aC 5) (aS dM (fun _=>T.hB.of "len") J1 (aD (aC 2) aG))) (aD (aC 8) aG))) aG))) (dQ (fun _=>rfl) (aC 0) (bS (aZ cF (aC 4) aI)) cE))))
    bP)
   (aL (cC (bU (lS (fun _=>rfl) (fun _=>hr.units)) (aC 3) aI)
    (aQ (bC (aZ cF (aZ cF (dQ (fun _=>rfl) (aC 0) cE (bS (aC 4))) (bN (aD (bN (aD (aC 7) (aD (TB (fun _=>rfl) (aC 8) (bS (wV xA aI))) aG))) aG))) (dQ (fun _=>rfl) (aC 0) (bS (aZ cF (aC 4) aI)) cE))))
    bP)
   (aL (cC (bU (lS (fun _=>rfl) (fun _=>hr.units)) (aC 3) aI)
    (aQ (bC (aZ cF (aZ cF (dQ (fun _=>rfl) (aC 0) cE (bS (aC 4))) (bN (aD (bN (aD (aC 7) (aD (dQ (fun _=>rfl) (aC 8) cE (bS (wV xA aI))) aG))) aG))) (dQ (fun _=>rfl) (aC 0) (bS (aZ cF (aC 4) aI)) cE))))
    bP)
   (aL (cC (bU (lS (fun _=>rfl) (fun _=>hr.units)) (aC 3) aI)
    (aL (bL 9 (fun _=>sc__law_bent_rings.nd) (aZ cF (aZ cF (dQ (fun _=>rfl) (aC 8) cE (bS aI)) (bN (aD (aZ eV (aC 5) (aS dM (fun _=>T.hB.of "len") J1 (aD (aC 2) aG))) aG))) (dQ (fun _=>rfl) (aC 8) (bS aI) cE)))
   (aQ (bC (aZ cF (aZ cF (dQ (fun _=>rfl) (aC 0) cE (bS (aC 4))) (bN (aD (bN (aD (aC 7) (aD (aC 9) aG))) aG))) (dQ (fun _=>rfl) (aC 0) (bS (aZ cF (aC 4) aI)) cE)))))
    bP)
   (aL (bL 10 (fun _=>sc__law_bent_rings.nd) (bY dD (jU (aD (aX (fun _=>gQ T) hr.le (aD (aC 5) aG)) (aD (bN (aD (aC 7) (aD (aX (fun _=>gQ T) hr.le (aD (aC 5) aG)) aG))) (aD (bN (aD (aX (fun _=>gQ T) hr.le (aD (aC 5) aG)) (aD (aC 8) aG))) aG)))) (aZ eV (aZ nW (aC 5) aI) aI)))
   (aQ (bC (aZ cF (aZ cF (dQ (fun _=>rfl) (aC 0) cE (bS (aC 4))) (bN (aD (aC 10) aG))) (dQ (fun _=>rfl) (aC 0) (bS (aZ cF (aC 4) aI)) cE)))))))))))))))
theorem fn_law(T:Txt K mg):∃f fd,mg "law"=some (.ref f)/\(∀(s:Shared)(u:Value),BindsTo s fd ⟨[u],[]⟩ [("_law_script",u)])/\∀base,rF P w K mg base CX0 9 f fd VR (spM K F_law):=
 T.v47.okLG (N:=aBe) (k:=8) (b:=aBI) sc_law rfl (by sleep 991) fun base f cdv A outer s H E hr=>
  (aL (bL 1 (fun _=>sc_law.nd) (aX (fun _=>DB T) hr.le (aD (aC 0) (aD aI aG))))
   (aL (cC (pH (iS (cW (cO (aX (fun _=>qR T) hr.le (aD aI (aD (bN (aD (bN aG) (aD (bN aG) aG))) aG))))) (jK (cO (aX (fun _=>qR T) hr.le (aD aI (aD (bN aG) aG)))))))
    (aQ (bC eS))
    bP)
   (aL (fW (fun _=>F5) (fun _=>rfl) (oR (fun _=>T.hB.of "range") (aD aI aG)) (bD 2 (fun _=>sc_law.nd))
    (aL (bL 3 (fun _=>sc_law.nd) (aZ cF aI (aZ eV (nQ (fun _=>rfl) (aC 1)) aI)))
   (aL (DF (aX (fun _=>BG T) hr.le (aD (aC 1) (aD (aC 3) aG))) (vQ (fun _=>rfl) (fun _=>rfl) (eL (bD 4 (fun _=>sc_law.nd)) (eL (bD 5 (fun _=>sc_law.nd)) pO))))
   (aL (cC (pH (iS (cW (cO (aX (fun _=>oD T) hr.le (aD (aC 3) (aD (bN (aD (aC 4) (aD (aC 5) aG))) aG))))) (jK (cW (cO (aX (fun _=>jY T) hr.le (aD (aC 3) (aD (bN (aD (aC 4) (aD (aC 5) aG))) aG))))))))
    (aQ (bC eS))
    bP)
   (aL (fW (fun _=>F5) (fun _=>rfl) (oR (fun _=>T.hB.of "range") (aD aI aG)) (bD 6 (fun _=>sc_law.nd))
    (aL (cC (cW (cO (aX (fun _=>jY T) hr.le (aD (aC 3) (aD (bN (aD (aX (fun _=>tQ T) hr.le (aD (aC 4) (aD (nQ (fun _=>rfl) (aC 1)) (aD (aC 3) aG)))) (aD (aC 5) aG))) aG)))))
    (aQ (bC eS))
    bP)
   (aQ (cC (cW (cO (aX (fun _=>jY T) hr.le (aD (aC 3) (aD (bN (aD (aC 4) (aD (aX (fun _=>tE T) hr.le (aD (aC 5) (aD (nQ (fun _=>rfl) (aC 1)) (aD (aC 4) aG)))) aG))) aG)))))
    (aQ (bC eS))
    bP))))
   (aL (bL 7 (fun _=>sc_law.nd) (bY dD (jU (aD (bN (aD (aC 4) aG)) (aD (bN (aD (aC 4) (aD (aC 5) (aD (bN aG) aG)))) (aD (bN (aD (aC 5) (aD (aC 4) aG))) (aD (aX (fun _=>gQ T) hr.le (aD (nQ (fun _=>rfl) (aC 1)) aG)) aG))))) (aZ eV (nQ (fun _=>rfl) (aC 1)) aI)))
   (aQ (cC (cW (cO (aX (fun _=>jY T) hr.le (aD (aC 3) (aD (aC 7) aG)))))
    (aQ (bC eS))
    bP))))))))
   (aQ (bC eS)))))
theorem fn_law2(T:Txt K mg):(∃f fd,mg "law"=some (.ref f)/\(∀(s:Shared)(u:Value),BindsTo s fd ⟨[u],[]⟩ [("_law_script",u)])/\∀base,rF P w K mg base CX0 9 f fd VR (spM K F_law))/\∃TT qn st,oZ K TT qn/\K.lookup TT=none/\Def K mg "straight_within" st/\vW K "straight_within"=true:=⟨fn_law T,T.ot.elim fun TT h=>⟨TT,_,_,h.1,h.2,T.v20,T.ctb⟩⟩
theorem txt_mk{h:Heap}(X:K.In h)(G:h.Ns mainGlobals mg)(v0:PySem.W.nsIn K mainGlobals "all"=some none)(v1:PySem.W.nsIn K mainGlobals "any"=some none)(v2:PySem.W.nsIn K mainGlobals "bool"=some none)(v3:PySem.W.nsIn K mainGlobals "enumerate"=some none)(v4:PySem.W.nsIn K mainGlobals "int"=some none)(v5:PySem.W.nsIn K mainGlobals "isinstance"=some none)(v6:PySem.W.nsIn K mainGlobals "len"=some none)(v7:PySem.W.nsIn K mainGlobals "list"=some none)(v8:PySem.W.nsIn K mainGlobals "max"=some none)(v9:PySem.W.nsIn K mainGlobals "min"=some none)(v10:PySem.W.nsIn K mainGlobals "range"=some none)(v11:PySem.W.nsIn K mainGlobals "sorted"=some none)(v12:PySem.W.nsIn K mainGlobals "sum"=some none)(v13:PySem.W.nsIn K mainGlobals "tuple"=some none)(v14:PySem.W.nsIn K mainGlobals "zip"=some none)(v15:Def K mg "_law_deck" oP)(v16:Def K mg "is_whole" qX)(v17:Def K mg "is_place" rG)(v18:Def K mg "is_row" vM)(v19:Def K mg "is_row_of" oX)(v20:Def K mg "straight_within" cV)(v21:Def K mg "bits" xW)(v22:Def K mg "is_ring" mK)(v23:Def K mg "is_rising" lD)(v24:Def K mg "are_rings" fP)(v25:Def K mg "are_rising_places" eI)(v26:Def K mg "is_link" tD)(v27:Def K mg "is_crossed" kC)(v28:Def K mg "any_cross" pB)(v29:Def K mg "are_links" gW)(v30:Def K mg "is_chart" rB)(v31:Def K mg "_law_parted" iY)(v32:Def K mg "_law_holds" jZ)(v33:Def K mg "_law_inner" kG)(v34:Def K mg "_law_chart" kI)(v35:Def K mg "_law_is_row" lQ)(v36:Def K mg "_law_is_whole" jO)(v37:Def K mg "_law_is_far" lY)(v38:Def K mg "_law_crosses" iH)(v39:Def K mg "_law_are_links" dE)(v40:Def K mg "_law_is_ring" kU)(v41:Def K mg "_law_is_chart" gX)(v42:Def K mg "_law_lists" kB)(v43:Def K mg "_law_right" nK)(v44:Def K mg "_law_odd" rD)(v45:Def K mg "_law_bent_links" iN)(v46:Def K mg "_law_bent_rings" iJ)(v47:Def K mg "law" JY)(otb:DL K (("straight_within":Str)++(".<locals>.":Str)++("<lambda>":Str))=true)(ctb:vW K "straight_within"=true):Txt K mg:=by
 exact⟨(cX (F4 X G v0) (cX (F4 X G v1) (cX (F4 X G v2) (cX (F4 X G v3) (cX (F4 X G v4) (cX (F4 X G v5) (cX (F4 X G v6) (cX (F4 X G v7) (cX (F4 X G v8) (cX (F4 X G v9) (cX (F4 X G v10) (cX (F4 X G v11) (cX (F4 X G v12) (cX (F4 X G v13) (cX (F4 X G v14) UX))))))))))))))),v15,v16,v17,v18,v19,v20,v21,v22,v23,v24,v25,v26,v27,v28,v29,v30,v31,v32,v33,v34,v35,v36,v37,v38,v39,v40,v41,v42,v43,v44,v45,v46,v47,QE otb,ctb⟩
end
end Q43
end
end
section
namespace Q43
variable{L M M' M3:Sto}{γ γ1:Ga}{c i j k lk m r w:Nat}{d o:PyData}{J n p z:Int}{e f g:EF}{a b h l ns os ps:List Int}{s x y:CD}{xs:List CD}{T ds ys:List PyData}{fa fi:AF}{g2 g3 g4 g5 g6 g7:Option CD}
open PySem PySem.Spec PyProof.Rows L2
local macro_rules | `(tactic| simp! [$a,*]) => `(tactic| simp only [fnF, fnX, aEL, aGg, aFh, aDS, aEv, aFw, aBz, aFd, liA, liE, liS, aEh, aFX, aDA, aFv, YA, setG, aFJ, aDa, aW, sIf, bT, aFL, bH, bG, gA, hName, pA, cT, nG, hSub, gOr, mE, cB, gB, KR, aDy, aF, aA, aE, aB, fC, fOp, fUn, fN, fOr, FE, fIf, AU, asB, bK, eX, dU, kO, xK, IJ, pI, ifS, aFH, BB, HG, eW, cH, aGa, ltI, leI, gtI, geI, Option.bind_some, Option.bind_none, Option.map_some, List.getElem?_cons_zero, List.getElem?_cons_succ, List.length_cons, List.length_nil, List.set_cons_zero, List.set_cons_succ, List.map_cons, List.map_nil, List.replicate_zero, List.replicate_succ, List.cons_append, List.nil_append, List.append_nil, if_true, ite_true, ite_false, Nat.reduceAdd, Nat.reduceSub, reduceIte, Bool.not_true, Bool.not_false, Bool.false_eq_true, $a,*])
noncomputable def GJ:PyData->Bool
 |.int _=>true
 |_=>false
noncomputable def EK:PyData->Bool
 |.list _=>true
 |.tuple _=>true
 |_=>false
theorem yQ(x:PyData)(M:Sto):tU [.d x] M=some (.d (.bool (GJ x)),M):=by cases x<;>rfl
theorem tX(x:PyData)(M:Sto):gK [.d x] M=some (.d (.bool (EK x)),M):=by cases x<;>rfl
noncomputable def JU(d:PyData)(n:Int):Bool:=match aM d with
 |some ds=>((ds.length:Int)==n)
 |none=>false
theorem xG(x:PyData)(n:Int)(M:Sto):gH [.d x,.d (.int n)] M=some (.d (.bool (JU x n)),M):=by cases x<;>rfl
noncomputable abbrev I(n:Int):CD:=.d (.int n)
noncomputable abbrev B(b:Bool):CD:=.d (.bool b)
theorem lE{x y:Int}(h:0<y):pY x y=true:=by simp[pY,h]
theorem xI{i j:Int}:eqX false (I i) (I j) M=some (B (i==j),M):=rfl
theorem aEV{i j:Int}:eqX true (I i) (I j) M=some (B (!(i==j)),M):=rfl
theorem yI{i j:Int}:bO (I i) (I j) M=some (I (i+j),M):=rfl
theorem wsm{y:Int}(h:0<=y)(h2:y<2 ^ 200):y.natAbs<AC:=by
 have h1:y.natAbs<2 ^ 200:=by omega
 exact C7 h1 (Nat.pow_le_pow_right (by decide) (by decide))
theorem FF{x y:Int}(h:0<y)(h2:y.natAbs<AC):yW x y=true:=by simp[yW,h,h2]
theorem sz{n:Nat}(hn:n<=1000):n<=sizeLine:=by rw[J9];exact J4 hn (by decide)
noncomputable def plc(n:Int):PyData->Bool
 |.int i=>decide (0<=i)&&decide (i<n)
 |_=>false
theorem sZ(n:Int)(p:PyData)(M:Sto):cS [I n,.d p] M=some (B (plc n p),M):=by
 cases hp:GJ p with
 |false=>
  have e:plc n p=false:=by cases p<;>first|rfl|cases hp
  rw[e];simp![cS,pN,yQ,hp]
 |true=>
  obtain⟨i,rfl⟩:∃i,p=.int i:=by cases p<;>first|exact⟨_,rfl⟩|cases hp
  have hc:plc n (.int i)=(decide (0<=i)&&decide (i<n)):=rfl;rw[hc];cases h0:decide (0<=i)<;>simp![cS,pN,yQ,hp,h0,Bool.true_and,Bool.false_and]
theorem ZR{p:PyData}(h:plc n p=true):∃i,p=.int i/\0<=i/\i<n:=by
 cases p with
 |int i=>simp only[plc,Bool.and_eq_true,decide_eq_true_eq]at h;exact⟨i,rfl,h.1,h.2⟩
 |_=>cases h
theorem aR{f g:SF}{γ':Ga}(h:f γ M=some (.nx γ',M')):aW f g γ M=g γ' M':=by simp only[aW,h,Option.bind_some]
theorem jP{f g:SF}(h:f γ M=some (.rt x,M')):aW f g γ M=some (.rt x,M'):=by simp only[aW,h,Option.bind_some]
theorem bR(h:f γ M=some (x,M')):bG f (hName i) γ M=some (.nx (γ.set i (some x)),M'):=by simp only[bG,hName,h,Option.bind_some]
theorem eG{ps N:Nat}{b:SF}(h:xs.length=ps)(hb:b (xs.map some++List.replicate (N-xs.length) none) M=some (.rt x,M')):fnF ps N b xs M=some (x,M'):=by simp only[fnF,if_pos h,hb,Option.bind_some]
theorem dO{f:AF}{g:GF}{b:SF}{M1:Sto}{r:Option (Out×Sto)}(h:f γ M=some (xs,M1))(hb:jT g b xs γ M1=r):jW f g b γ M=r:=by simp only[jW,h,Option.bind_some,hb]
theorem eK{g:GF}{b:SF}{γ2:Ga}{M1 M2:Sto}(h:g x γ M=some (γ1,M1))(hb:b γ1 M1=some (.nx γ2,M2)):jT g b (x::xs) γ M=jT g b xs γ2 M2:=by
 conv=>lhs;unfold jT
 rw[h,A3];dsimp only;rw[hb];rfl
theorem aH{g:AF}{M1 M2:Sto}(h1:f γ M=some (x,M1))(h2:g γ M1=some (xs,M2)):aA f g γ M=some (x::xs,M2):=by simp only[aA,h1,h2,Option.bind_some]
theorem aN:aE γ M=some ([],M):=rfl
theorem aO{F:FN}{M1 M2:Sto}(ha:fa γ M=some (xs,M1))(h:F xs M1=some (y,M2)):aF F fa γ M=some (y,M2):=by simp only[aF,ha,Option.bind_some,h]
theorem aU{k:F2}{M1 M2:Sto}{a b c:CD}(h1:f γ M=some (a,M1))(h2:g γ M1=some (b,M2))(h:k a b M2=some (c,M3)):fOp k f g γ M=some (c,M3):=by simp only[fOp,h1,h2,Option.bind_some,h]
theorem bV{M1:Sto}{b:Bool}(h:f γ M=some (B b,M1)):gB f γ M=some (b,M1):=by
 unfold gB;rw[h];rfl
theorem iC{c:TF}{a b:SF}(h:c γ M=some (true,M')):sIf c a b γ M=a γ M':=by simp only[sIf,h,Option.bind_some,if_true]
theorem fY{c:TF}{a b:SF}(h:c γ M=some (false,M')):sIf c a b γ M=b γ M':=by simp only[sIf,h,Option.bind_some,Bool.false_eq_true,if_false]
theorem aCq{i:Int}:fC (.int i) γ M=some (I i,M):=rfl
theorem jR{c:Cell}:(M++[c])[M.length]?=some c:=by rw[E5 (B3 _),Z2];rfl
theorem DP{c c':Cell}:(M++[c]).set M.length c'=M++[c']:=by
 rw[List.set_append_right _ _ (B3 _),Z2];rfl
noncomputable def lw(lo hi:Int):PyData->Bool
 |.int i=>decide (lo<=i)&&decide (i<=hi)
 |_=>false
theorem aEK(p:PyData)(lo hi:Int)(M:Sto):dI [.d p,I lo,I hi] M=some (B (lw lo hi p),M):=by
 cases p with
 |int i=>
  have hc:lw lo hi (.int i)=(decide (lo<=i)&&decide (i<=hi)):=rfl;have w1:vV "int" (.int i)=true:=rfl;have w2:vV "bool" (.int i)=false:=rfl;rw[hc];cases h0:decide (lo<=i)<;>simp![dI,lA,w1,w2,h0,Bool.true_and,Bool.false_and]
 |_=>rfl
theorem aCp{lo hi:Int}{p:PyData}(h:lw lo hi p=true):∃i,p=.int i/\lo<=i/\i<=hi:=by
 cases p with
 |int i=>
  have h:(decide (lo<=i)&&decide (i<=hi))=true:=h;rw[B5]at h;exact⟨i,rfl,D7 h.1,D7 h.2⟩
 |_=>cases h
theorem fQ{r:PyData}(h:aM r=some ds)(M:Sto):bW [.d r] M=some (I ds.length,M):=by
 cases r<;>first|(cases h;rfl)|cases h
theorem WO{r:PyData}(h:EK r=true):∃ds,aM r=some ds:=by
 cases r<;>first|exact⟨_,rfl⟩|cases h
noncomputable abbrev Inn(n:Nat)(p:Int):Prop:=0<=p/\p<n
theorem jC{α:Type}{xs:List α}{x:α}(h:xs[k]?=some x):atI xs (k:Int)=some x:=by
 have hk:k<xs.length:=(List.getElem?_eq_some_iff.mp h).1;unfold atI ixN;rw[A4 (A0s k),A4 (by omega),A3,E4,h]
theorem MR{α:Type}(ds:List α)(lo hi:Option Int):(gN ds lo hi).length<=ds.length:=by
 unfold gN;rw[F6,J7];omega
theorem sl_tup{lo hi:Option Int}:slF (.d (.tuple ds)) lo hi M=some (.d (.tuple (gN ds lo hi)),M):=rfl
theorem mP{xs:List PyData}(hl:xs.length+ys.length<=1000):bO (.d (.tuple xs)) (.d (.tuple ys)) M=some (.d (.tuple (xs++ys)),M):=by
 cases xs with
 |nil=>rfl
 |cons x xs=>
  have h:(x::xs:List PyData)≠[]/\(x::xs).length+ys.length<=sizeLine:=⟨by simp,sz hl⟩;show(if (x::xs:List PyData)≠[]/\(x::xs).length+ys.length<=sizeLine then some (CD.d (.tuple (x::xs++ys)),M)else none)=_;rw[A4 h]
theorem yF{α:Type}{ds:List α}{k m:Int}(hm:0<m)(hl:(ds.length:Int)=m):∃d,atI ds (k % m)=some d/\d∈ds:=by
 have h1:=U2 k (show m≠0 by omega);have h2:=O8 k hm;have hk:(k % m).toNat<ds.length:=by omega
 obtain⟨q,hq⟩:∃q:Nat,k % m=(q:Nat):=⟨(k % m).toNat,by omega⟩;rw[hq]at hk ⊢;rw[E4]at hk;exact⟨ds[q],jC (A8 hk),S9 hk⟩
noncomputable abbrev cI(xs:List Int):Cell:=.lst (xs.map fun i=>I i)
noncomputable def Li(M:Sto)(c:Nat)(xs:List Int):Prop:=M[c]?=some (cI xs)
structure Oth(c:Nat)(M M':Sto):Prop where
 len:M'.length=M.length
 at_:∀i,i≠c->M'[i]?=M[i]?
theorem Li.lt{xs:List Int}(h:Li M c xs):c<M.length:=(List.getElem?_eq_some_iff.mp h).1
theorem Li.set{xs ys:List Int}(h:Li M c xs):Li (M.set c (cI ys)) c ys/\Oth c M (M.set c (cI ys)):=
 ⟨by unfold Li;rw[E6 h.lt],by rw[S3],fun i hi=>by rw[D6 (Z9 hi)]⟩
theorem Li.oth{d:Nat}{xs:List Int}(h:Li M c xs)(o:Oth d M M')(ne:c≠d):Li M' c xs:=by unfold Li;rw[o.at_ c ne];exact h
theorem Li.app{xs:List Int}(h:Li M c xs):Li (M++L) c xs:=by unfold Li;rw[E3 h.lt];exact h
theorem Li.ty{xs:List Int}(h:Li M c xs):tyB "list" M (.c c)=true:=by
 unfold Li at h;simp only[tyB,h];decide
theorem Li.ln{xs:List Int}(h:Li M c xs):bW [.c c] M=some (I xs.length,M):=by
 unfold Li at h;simp only[bW,h,List.length_map]
theorem aFu{α:Type}{xs:List α}(h:Inn xs.length p):∃z,atI xs p=some z/\z∈xs:=by
 obtain⟨q,rfl⟩:∃q:Nat,p=(q:Nat):=⟨p.toNat,by omega⟩;have hk:q<xs.length:=by omega
 exact⟨xs[q],jC (A8 hk),S9 hk⟩
theorem Li.ix{xs:List Int}(h:Li M c xs)(hp:Inn xs.length p):∃z,ixF (.c c) (I p) M=some (I z,M):=by
 obtain⟨z,h1,h2⟩:=aFu (xs:=xs.map fun i=>I i) (p:=p) (by rw[A0];exact hp);obtain⟨y,_,rfl⟩:=List.mem_map.mp h2;refine⟨y,?_⟩;unfold Li at h;simp only[ixF,h,h1,Option.bind_some]
theorem Li.put{xs:List Int}(h:Li M c xs)(hp:Inn xs.length p):∃ys,ys.length=xs.length/\EW (.c c) (I p) (I z) M=some (M.set c (cI ys)):=by
 obtain⟨q,rfl⟩:∃q:Nat,p=(q:Nat):=⟨p.toNat,by omega⟩;refine⟨xs.set q z,by rw[S3],?_⟩
 have hn:ixN (xs.map fun i=>I i).length (q:Int)=some q:=by
  unfold ixN;rw[A4 (A0s q),A4 (by rw[A0];omega),E4]
 unfold Li at h;simp only[EW,h,hn,Option.bind_some,cI,List.map_set]
theorem Li.push{xs:List Int}(h:Li M c xs)(hl:xs.length<1000):cD (.c c) [I z] M=some (.d .none,M.set c (cI (xs++[z]))):=by
 have l:(xs.map fun i=>I i).length<sizeLine:=by rw[A0,J9];omega
 unfold Li at h;simp only[cD,h,if_pos l,cI,List.map_append,List.map_singleton]
theorem Li.pop{xs:List Int}(h:Li M c (xs++[z])):fM (.c c) [] M=some (I z,M.set c (cI xs)):=by
 have e1:((xs++[z]).map fun i=>I i)[((xs++[z]).map fun i=>I i).length-1]?=some (I z):=by
  rw[A0,A7,B8,Nat.add_sub_cancel,C4,E5 (B3 _),Z2];rfl
 have e2:((xs++[z]).map fun i=>I i).dropLast=xs.map fun i=>I i:=by
  rw[J0,List.map_singleton,List.dropLast_concat]
 unfold Li at h;simp only[fM,h,e1,e2,Option.bind_some]
noncomputable def Rn(x:Int):Prop:=0<=x/\x<2147483647
theorem RE{y b:Int}(h:0<b)(hb:b<=2147483647):Rn (y % b):=⟨U2 _ (by omega),Int.lt_of_lt_of_le (O8 _ h) hb⟩
noncomputable def Dk(M:Sto)(c m:Nat):Prop:=∃xs,Li M c xs/\m<=xs.length/\∀x∈xs,Rn x
theorem Dk.app(h:Dk M c m):Dk (M++L) c m:=let⟨xs,a,b⟩:=h;⟨xs,a.app,b⟩
theorem Dk.pop(h:Dk M c (m+1)):∃z M',fM (.c c) [] M=some (I z,M')/\Dk M' c m/\Oth c M M'/\Rn z:=by
 obtain⟨xs,a,b,r⟩:=h;rcases List.eq_nil_or_concat xs with rfl|⟨ys,z,rfl⟩
 .simp at b
 .rw[List.concat_eq_append]at a b r;rw[A7,B8]at b;exact⟨z,_,a.pop,⟨ys,(a.set).1,by omega,fun x hx=>r x (J6 _ hx)⟩,(a.set).2,r z (by simp)⟩
theorem Dk.ty(h:Dk M c m):tyB "list" M (.c c)=true:=let⟨_,a,_⟩:=h;a.ty
theorem HQ(lo:Int)(n:Nat):kP lo (n+1)=I lo::kP (lo+1) n:=by
 unfold kP;rw[List.range_succ_eq_map,B6,C8];refine congr (D4 List.cons ?_) (Z5 fun k _=>?_)
 .show CD.d (.int (lo+((0:Nat):Int)))=I lo;rw[show lo+((0:Nat):Int)=lo by omega]
 .show CD.d (.int (lo+((k+1:Nat):Int)))=.d (.int (lo+1+(k:Nat)));rw[show lo+((k+1:Nat):Int)=lo+1+(k:Nat)by omega]
theorem RL{i j:Int}(h:i.natAbs<2 ^ 64):pU i j=true:=by unfold pU;rw[C5 h];rfl
theorem mul_r{i j:Int}(h:j.natAbs<2 ^ 64):pU i j=true:=by unfold pU;rw[C5 h,Bool.or_true];rfl
theorem nab{b:Int}(h0:0<=z)(h1:z<b)(hb:b<=2 ^ 62):z.natAbs<2 ^ 64:=by omega
noncomputable abbrev GD(s many:CD)(r d:Nat)(o:Int)(k at_ one:Option CD):Ga:=[some s,some many,some (.c r),some (I o),some (.c d),k,at_,one]
theorem OO{s many:CD}{d:Nat}{o k:Int}{xs ds:List Int}{g6 g7:Option CD}(hr:Li M r xs)(hd:Li M d ds)(ne:r≠d)(x0:0<xs.length)(hl:ds.length<1000)(k0:0<=k)(k1:k<1000)(rd:∀x∈ds,Rn x):
 ∃xs' ds' g6' g7' M',fU (GD s many r d o (some (I k)) g6 g7) M=some (.nx (GD s many r d o (some (I k)) g6' g7'),M')/\Li M' r xs'/\Li M' d ds'/\xs'.length=xs.length/\ds'.length=ds.length+1/\∀x∈ds',Rn x:=by
 have rapp:∀y,Rn y->∀x∈ds++[y],Rn x:=fun y hy x hx=>by
  rcases List.mem_append.mp hx with h|h
  .exact rd x h
  .rw[List.mem_singleton.mp h];exact hy
 have ln:=hr.ln;have p1:=U2 k (show(xs.length:Int)≠0 by omega);have p2:=O8 k (show(0:Int)<xs.length by omega);obtain⟨z,ix⟩:=hr.ix (p:=k % xs.length) ⟨p1,p2⟩;have m1:pY k xs.length=true:=lE (by omega);have m2:∀y,pY y 1000000=true:=fun y=>lE (by decide);have m3:∀y,pY y 2147483629=true:=fun y=>lE (by decide);have m4:∀y,pY y 2147483647=true:=fun y=>lE (by decide);have m5:∀y,pY y 4=true:=fun y=>lE (by decide);have dv:∀y,yW y 1000000=true:=fun y=>FF (by decide) (wsm (by decide) (by decide));obtain⟨ys,yl,st⟩:=hr.put (p:=k % xs.length) (z:=z / 1000000) ⟨p1,p2⟩;generalize (xs.length:Int)=J at ln p1 p2 ix m1 st;cases h:(o==0)with
 |true=>
  obtain⟨c,hc,hcm⟩:=yF (ds:=([.int 48271,.int 69621,.int 39373,.int 40692]:List PyData)) (k:=k) (m:=4) (by decide) rfl
  obtain⟨cv,rfl,hcv⟩:∃v:Int,c=.int v/\v.natAbs<2 ^ 64:=by
   simp only[List.mem_cons,List.not_mem_nil,or_false]at hcm;rcases hcm with rfl|rfl|rfl|rfl<;>exact⟨_,rfl,by decide⟩
  have xk:ixF (.d (.list [.int 48271,.int 69621,.int 39373,.int 40692])) (I (k % 4)) M=some (I cv,M):=by
   show(atI [PyData.int 48271,.int 69621,.int 39373,.int 40692] (k % 4)).bind _=_;rw[hc];rfl
  have q1:pU k k=true:=RL (nab k0 (b:=1000) k1 (by decide));have q2:pU (k*k) 16807=true:=mul_r (by decide);have q3:pU 3 k=true:=RL (by decide);have q4:∀y,pU y cv=true:=fun y=>mul_r hcv;have a1:∀i j:Int,bO (I i) (I j) M=some (I (i+j),M):=fun i j=>rfl;have q5:∀y,pU (y % 2147483647) (y % 2147483647)=true:=fun y=>RL (nab (U2 _ (by decide)) (O8 _ (by decide)) (by decide));generalize hv:(z+k*k*16807+3*k) % 2147483629=v1;have pu:=fun y=>hd.push (z:=y) hl;refine⟨xs,ds++[(v1*cv+7) % 2147483647*((v1*cv+7) % 2147483647) % 2147483629],some (I (k % J)),some (I ((v1*cv+7) % 2147483647*((v1*cv+7) % 2147483647) % 2147483629)),_,?_,hr.oth (hd.set).2 ne,(hd.set).1,rfl,by rw[A7,B8],rapp _ (RE (by decide) (by decide))⟩;simp![fU,ln,m1,m2,ix,xI,h,q1,q2,q3,a1,m3,hv,AM,m5,xk,q4,m4,q5,bM,hd.ty,pu]
 |false=>
  have hr':=hr.set (ys:=ys);have hd':=hd.oth hr'.2 (Z9 ne);have pu:=hd'.push (z:=z % 1000000) hl;refine⟨ys,ds++[z % 1000000],some (I (k % J)),some (I (z % 1000000)),_,?_,hr'.1.oth (hd'.set).2 ne,(hd'.set).1,yl,by rw[A7,B8],rapp _ (RE (by decide) (by decide))⟩;simp![fU,ln,m1,m2,ix,xI,h,dv,st,bM,hd'.ty,pu]
theorem BN{s many:CD}{r d:Nat}{o:Int}:∀(m:Nat)(k:Int)(M:Sto)(xs ds:List Int)(g5 g6 g7:Option CD),Li M r xs->Li M d ds->r≠d->0<xs.length->0<=k->k+m<900->ds.length+m<900->(∀x∈ds,Rn x)->
 ∃ds' g5' g6' g7' M',jT (hName 5) fU (kP k m) (GD s many r d o g5 g6 g7) M=some (.nx (GD s many r d o g5' g6' g7'),M')/\Li M' d ds'/\ds'.length=ds.length+m/\∀x∈ds',Rn x
 |0=>fun k M xs ds g5 g6 g7 hr hd ne x0 k0 _ _ rd=>⟨ds,g5,g6,g7,M,rfl,hd,rfl,rd⟩
 |m+1=>fun k M xs ds g5 g6 g7 hr hd ne x0 k0 hk hl rd=>by
  obtain⟨xs1,ds1,a6,a7,M1,t,h1,h2,h3,h4,r1⟩:=OO (s:=s) (many:=many) (o:=o) (g6:=g6) (g7:=g7) hr hd ne x0 (by omega) k0 (show k<1000 by omega) rd;obtain⟨ds',b5,b6,b7,M',l,h5,h6,r2⟩:=BN (s:=s) (many:=many) (o:=o) m (k+1) M1 xs1 ds1 (some (I k)) a6 a7 h1 h2 ne (by omega) (by omega) (by omega) (by omega) r1;refine⟨ds',b5,b6,b7,M',?_,h5,by omega,r2⟩;rw[HQ,eK (show hName 5 (I k) (GD s many r d o g5 g6 g7) M=some (GD s many r d o (some (I k)) g6 g7,M)from rfl) t];exact l
theorem pK(n:Nat)(M:Sto):∀ns:List Int,kN n M (ns.map fun i=>I i)=some (ns.map .int)
 |[]=>by unfold kN;rfl
 |i::ns=>by
  rw[B6];unfold kN;rw[vR,A3,pK n M ns];rfl
theorem mQ:∀ns:List Int,PyData.canLayAll0 (ns.map .int)=true
 |[]=>rfl
 |n::ns=>by show(true&&PyData.canLayAll0 (ns.map .int))=true;rw[mQ ns];rfl
theorem pF:∀ns:List Int,PyData.depthAll (ns.map .int)=0
 |[]=>rfl
 |n::ns=>by show max 0 (PyData.depthAll (ns.map .int))=0;rw[pF ns];rfl
theorem nN(ns:List Int):SeqAt.shaped (.list (ns.map .int))=true:=by
 unfold SeqAt.shaped;have e1:PyData.canLay0 (.list (ns.map .int))=true:=mQ ns;have e2:PyData.depth (.list (ns.map .int))=1:=by show PyData.depthAll (ns.map .int)+1=1;rw[pF]
 rw[e1,e2];rfl
theorem YV(h:Li M c ns):eqY false (.c c) (.d (.list [])) M=some (B ns.isEmpty,M):=by
 have s1:snap 5 M (.c c)=some (.list (ns.map .int)):=by
  unfold Li at h;unfold snap;rw[h];show(kN 4 M (ns.map fun i=>I i)).bind _=_;rw[pK];rfl
 have s2:snap 5 M (.d (.list []))=some (.list []):=by rw[vR]
 show eqC false (.c c) (.d (.list [])) M=_;unfold eqC;rw[s1,A3,s2,A3,nN,show SeqAt.shaped (.list [])=true from rfl];cases ns<;>rfl
theorem aEY(sm:cY J=true):gZ (aA (aB 1) aE) (x::some (I J)::γ) M=some (kP 0 J.toNat,M):=by
 simp![gZ,sm]
theorem aCI(ns:List Int):∃c M,mX [.d (.list (ns.map .int)),I 480] []=some (.c c,M)/\Dk M c 480:=by
 have s0:(0:Nat)<=sizeLine:=F9 _;have s1:(1:Nat)<=sizeLine:=by decide
 have st:∀(r:Nat)(M:Sto)(xs:List Int),Li M r xs->0<xs.length->∃c M',(aW (bG (fOp cH (fOp ixF (aB 2) (fC (.int 0))) (fC (.int 2))) (hName 3))
 (aW (bG (fOp eW (fOp ixF (aB 2) (fC (.int 0))) (fC (.int 2))) (hSub (aB 2) (fC (.int 0)) EW))
 (aW (bG (dU aE) (hName 4))
 (aW (jW (gZ (aA (aB 1) aE)) (hName 5) fU)
 (aW (gA (bM "list" fT (aB 4) aE))
 (bT (aB 4))))))) [some (.d (.list (ns.map .int))),some (I 480),some (.c r),none,none,none,none,none] M=some (.rt (.c c),M')/\Dk M' c 480:=by
  intro r M xs hr x0;obtain⟨z,ix⟩:=hr.ix (p:=0) ⟨by decide,by omega⟩;have m2:∀y,pY y 2=true:=fun y=>lE (by decide);have d2:∀y,yW y 2=true:=fun y=>FF (by decide) (wsm (by decide) (by decide));obtain⟨ys,yl,pt⟩:=hr.put (p:=0) (z:=z / 2) ⟨by decide,by omega⟩;have hr1:=(hr.set (ys:=ys)).1;have hr2:=hr1.app (L:=[Cell.lst []]);have ml:(M.set r (cI ys)).length=M.length:=by rw[S3]
  have hd:Li (M.set r (cI ys)++[Cell.lst []]) M.length []:=by
   unfold Li;rw[<- ml,E5 (B3 _),Z2];rfl
  have rl:=hr.lt;obtain⟨ds,a5,a6,a7,M',lp,hd',hl,rr⟩:=BN (s:=.d (.list (ns.map .int))) (many:=I 480) (o:=z % 2) 480 0 _ ys [] none none none hr2 hd (by omega) (by omega) (by decide) (by decide) (by decide) (fun x hx=>by simp at hx);have rg:gZ (aA (aB 1) aE) (GD (.d (.list (ns.map .int))) (I 480) r M.length (z % 2) none none none) (M.set r (cI ys)++[Cell.lst []])=some (kP 0 480,M.set r (cI ys)++[Cell.lst []]):=aEY (J:=480) (by decide);have sf:=dO rg lp
  have rv:fT (.c M.length) [] M'=some (.d .none,M'.set M.length (cI ds.reverse)):=by
   have:=hd';unfold Li at this;simp only[fT,this];rw[cI,List.map_reverse]
  refine⟨M.length,M'.set M.length (cI ds.reverse),?_,ds.reverse,(hd'.set).1,by rw[S0,hl];exact B3 _,fun x hx=>rr x (List.mem_reverse.mp hx)⟩
  have a1:bG (fOp cH (fOp ixF (aB 2) (fC (.int 0))) (fC (.int 2))) (hName 3) [some (.d (.list (ns.map .int))),some (I 480),some (.c r),none,none,none,none,none] M=some (.nx [some (.d (.list (ns.map .int))),some (I 480),some (.c r),some (I (z % 2)),none,none,none,none],M):=by
   simp![ix,m2]
  have a2:bG (fOp eW (fOp ixF (aB 2) (fC (.int 0))) (fC (.int 2))) (hSub (aB 2) (fC (.int 0)) EW) [some (.d (.list (ns.map .int))),some (I 480),some (.c r),some (I (z % 2)),none,none,none,none] M=some (.nx [some (.d (.list (ns.map .int))),some (I 480),some (.c r),some (I (z % 2)),none,none,none,none],M.set r (cI ys)):=by
   simp![ix,d2,pt]
  have a3:bG (dU aE) (hName 4) [some (.d (.list (ns.map .int))),some (I 480),some (.c r),some (I (z % 2)),none,none,none,none] (M.set r (cI ys))=some (.nx (GD (.d (.list (ns.map .int))) (I 480) r M.length (z % 2) none none none),M.set r (cI ys)++[Cell.lst []]):=by
   simp![s0,ml]
  rw[aR a1,aR a2,aR a3,aR sf];simp![bM,hd'.ty,rv]
 have l0:BO [.d (.list (ns.map .int))] []=some (.c 0,[cI ns]):=by
  show some (CD.c 0,[]++[Cell.lst ((ns.map PyData.int).map .d)])=_;rw[C8];rfl
 have h0:Li [cI ns] 0 ns:=rfl;have eq:=YV h0
 have b1:bG (aF BO (aA (aB 0) aE)) (hName 2) [some (.d (.list (ns.map .int))),some (I 480),none,none,none,none,none,none] []=some (.nx [some (.d (.list (ns.map .int))),some (I 480),some (.c 0),none,none,none,none,none],[cI ns]):=by
  simp![l0]
 cases he:ns.isEmpty with
 |true=>
  rw[he]at eq;obtain⟨c,M',h1,h2⟩:=st 1 ([cI ns]++[cI [4]]) [4] rfl (by decide);refine⟨c,M',eG rfl ?_,h2⟩
  have b2:sIf (gB (fOp (eqY false) (aB 2) (eX aE))) (bG (dU (aA (fC (.int 4)) aE)) (hName 2)) bH [some (.d (.list (ns.map .int))),some (I 480),some (.c 0),none,none,none,none,none] [cI ns]=some (.nx [some (.d (.list (ns.map .int))),some (I 480),some (.c 1),none,none,none,none,none],[cI ns]++[cI [4]]):=by
   simp![s0,s1,eq];rfl
  unfold nB;show aW _ _ [some (.d (.list (ns.map .int))),some (I 480),none,none,none,none,none,none] []=_;rw[aR b1,aR b2];exact h1
 |false=>
  rw[he]at eq;obtain⟨c,M',h1,h2⟩:=st 0 [cI ns] ns rfl (by cases ns with|nil=>cases he|cons _ _=>simp);refine⟨c,M',eG rfl ?_,h2⟩
  have b2:sIf (gB (fOp (eqY false) (aB 2) (eX aE))) (bG (dU (aA (fC (.int 4)) aE)) (hName 2)) bH [some (.d (.list (ns.map .int))),some (I 480),some (.c 0),none,none,none,none,none] [cI ns]=some (.nx [some (.d (.list (ns.map .int))),some (I 480),some (.c 0),none,none,none,none,none],[cI ns]):=by
   simp![s0,s1,eq]
  unfold nB;show aW _ _ [some (.d (.list (ns.map .int))),some (I 480),none,none,none,none,none,none] []=_;rw[aR b1,aR b2];exact h1
theorem iD:∀ds:List PyData,kO (ds.map .d)=some ds
 |[]=>rfl
 |d::ds=>by
  show(kO (ds.map .d)).map (d::·)=_;rw[iD ds];rfl
theorem aCt{cap:List (Option Nat)}{f:AF}{g:GF}{c:TF}{ee:EF}{M1 M2:Sto}(it:f γ M=some (xs,M1))(hl:xs.length<=sizeLine)(e:lcF g c ee xs (mL cap γ) M1=some (ds.map .d,M2))(hd:ds.length<=sizeLine):fLc cap f g c ee γ M=some (.d (.list ds),M2):=by
 have h1:wU cap f g c ee γ M=some (ds.map .d,M2):=by
  unfold wU;rw[it,A3,A4 hl];exact e
 show(wU cap f g c ee γ M).bind _=_;rw[h1,A3,iD,A3,A4 hd]
structure Ex(c:Nat)(M M':Sto):Prop where
 len:M.length<=M'.length
 at_:∀i,i<M.length->i≠c->M'[i]?=M[i]?
theorem Ex.to{x:Cell}(e:Ex c M M')(h:M[i]?=some x)(n:i≠c):M'[i]?=some x:=by rw[e.at_ i (List.getElem?_eq_some_iff.mp h).1 n];exact h
theorem Ex.put{x:Cell}(e:Ex c M M')(h:M.length<=j):Ex c M (M'.set j x):=⟨by rw[S3];exact e.len,fun i hi n=>by rw[D6 (by omega)];exact e.at_ i hi n⟩
theorem Dk.le{n:Nat}(h:Dk M c m)(l:n<=m):Dk M c n:=let⟨xs,a,b,r⟩:=h;⟨xs,a,J4 l b,r⟩
theorem Dk.lt(h:Dk M c m):c<M.length:=let⟨_,a,_⟩:=h;a.lt
theorem Dk.put{x:Cell}(h:Dk M c m)(n:j≠c):Dk (M.set j x) c m:=let⟨xs,a,b⟩:=h;⟨xs,by unfold Li;rw[D6 n];exact a,b⟩
theorem pop_at{v:Nat}(hv:γ[v]?=some (some (.c c)))(ty:tyB "list" M (.c c)=true)(h:fM (.c c) [] M=some (I z,M')):bM "list" fM (aB v) aE γ M=some (I z,M'):=by
 simp only[bM,aB,hv,aE,Option.bind_some,ty,if_true,h]
theorem rM{g:GF}{b:SF}{n:Nat}{Inv:Nat->Ga->Sto->Prop}(step:∀k,k<n->∀γ M,Inv k γ M->∃γ1 γ' M',g (I (k:Nat)) γ M=some (γ1,M)/\b γ1 M=some (.nx γ',M')/\Inv (k+1) γ' M'):
 ∀(m k:Nat)(γ:Ga)(M:Sto),k+m=n->Inv k γ M->∃γ' M',jT g b (kP (k:Nat) m) γ M=some (.nx γ',M')/\Inv n γ' M'
 |0=>fun k γ M h i=>⟨γ,M,rfl,by rw[<- h];exact i⟩
 |m+1=>fun k γ M h i=>by
  obtain⟨γ1,γ2,M1,e1,e2,i1⟩:=step k (by omega) γ M i;obtain⟨γ',M',e3,i2⟩:=rM step m (k+1) γ2 M1 (by omega) i1;refine⟨γ',M',?_,i2⟩;rw[HQ,eK e1 e2,show((k:Nat):Int)+1=((k+1:Nat):Int)by omega];exact e3
theorem vN(h:fa γ M=some ([I J],M))(sm:cY J=true):gZ fa γ M=some (kP 0 J.toNat,M):=by
 simp only[gZ,h,Option.bind_some,sm,if_true]
theorem rW{i:Int}(h0:-1000<=i)(h1:i<=1000):cY i=true:=by
 unfold cY;rw[B5];exact⟨C5 (by omega),C5 (by omega)⟩
theorem aCX{cap:List (Option Nat)}{f:AF}{g:GF}{c:TF}{M1 M2:Sto}{ys:List CD}(it:f γ M=some (xs,M1))(hl:xs.length<=1000)(l:lcF g c e xs (mL cap γ) M1=some (ys,M2))(hy:ys.length<=1000):QH cap f g c e γ M=some (.c M2.length,M2++[.lst ys]):=by
 unfold QH dU wU;rw[it,A3,A4 (sz hl),l,A3,A4 (sz hy)]
theorem lB{cap:List (Option Nat)}{f:AF}{g:GF}{c:TF}{M1 M2:Sto}(it:f γ M=some (xs,M1))(hl:xs.length<=1000)(l:lcF g c e xs (mL cap γ) M1=some (ds.map .d,M2))(hy:ds.length<=1000):fLc cap f g c e γ M=some (.d (.list ds),M2):=aCt it (sz hl) l (sz hy)
noncomputable abbrev Up(l:List Int):Prop:=l.Pairwise (·<·)
noncomputable abbrev Sb(a b:List Int):Prop:=∀x∈a,x∈b
noncomputable abbrev Ds(a b:List Int):Prop:=∀x∈a,x∉b
noncomputable abbrev Nn(a:List Int):Prop:=∀x∈a,0<=x
noncomputable def Lm(a b:List Int):Prop:=Sb a b\/Sb b a\/Ds a b
theorem Lm.symm(h:Lm a b):Lm b a:=by
 rcases h with h|h|h
 .exact .inr (.inl h)
 .exact .inl h
 .exact .inr (.inr fun x hx hy=>h x hy hx)
theorem rY(h:Up a):a.Nodup:=h.imp fun q=>by omega
theorem WH(ha:Up a)(hb:Up b)(h:∀x,x∈a↔x∈b):a=b:=
 List.Perm.eq_of_pairwise (le:=(·<·)) (fun x y _ _ p q=>by omega) ha hb ((A0t (rY ha) (rY hb)).mpr h)
theorem LV(nb:b.Nodup)(s:Sb b a)(hl:a.length<=b.length):Sb a b:=fun x hx=>by
 apply Decidable.byContradiction
 intro hn
 have:=U9 (l₁:=x::b) (l₂:=a) (List.nodup_cons.mpr ⟨hn,nb⟩) (fun y hy=>by
  rcases List.mem_cons.mp hy with rfl|hy
  .exact hx
  .exact s y hy)
 rw[J5]at this;omega
noncomputable def bn(l:List Int):Nat:=(l.map fun p=>2 ^ p.toNat).sum
theorem UF:∀(l:List Int)(k:Nat),(∀p∈l,(k:Int)<=p)->∃m,bn l=2 ^ k*m
 |[]=>fun k _=>⟨0,rfl⟩
 |p::l=>fun k h=>by
  obtain⟨m,hm⟩:=UF l k fun q hq=>h q (B1 _ hq);have hp:=h p B2;refine⟨2 ^ (p.toNat-k)+m,?_⟩;have e:p.toNat=k+(p.toNat-k):=by omega
  show 2 ^ p.toNat+bn l=_;rw[hm,Nat.mul_add,<- Nat.pow_add,<- e]
theorem jS:∀{l:List Int},Up l->Nn l->∀i:Nat,(bn l).testBit i=decide ((i:Int)∈l)
 |[]=>fun _ _ i=>by simp[bn]
 |p::l=>fun hu hn i=>by
  have hu2:=List.pairwise_cons.mp hu;have hp:=hn p B2;have ih:=jS hu2.2 (fun x hx=>hn x (B1 _ hx)) i;obtain⟨m,hm⟩:=UF l (p.toNat+1) fun q hq=>by have:=hu2.1 q hq;omega
  have e:bn (p::l)=bn l ||| 2 ^ p.toNat:=by
   show 2 ^ p.toNat+bn l=_;rw[hm,Nat.add_comm,Nat.two_pow_add_eq_or_of_lt (Nat.pow_lt_pow_right (by decide) (by omega))]
  rw[e,Nat.testBit_or,ih,Nat.testBit_two_pow];by_cases h1:(i:Int)=p
  .subst h1;simp
  .have h2:¬p.toNat=i:=by omega
   simp[h1,h2]
theorem xX(ua:Up a)(ub:Up b)(na:Nn a)(nb:Nn b):(bn a &&& bn b)=bn a↔Sb a b:=by
 constructor
 .intro h x hx;have hx0:=na x hx;have h1:=D4 (fun n=>n.testBit x.toNat) h;simp only[Nat.testBit_and,jS ua na,jS ub nb,Int.toNat_of_nonneg hx0,hx,decide_true,Bool.true_and]at h1;exact D7 h1
 .intro h;refine Nat.eq_of_testBit_eq fun i=>?_;rw[Nat.testBit_and,jS ua na,jS ub nb];by_cases q:(i:Int)∈a
  .simp[q,h _ q]
  .simp[q]
theorem aAz(ua:Up a)(ub:Up b)(na:Nn a)(nb:Nn b):(bn a &&& bn b)=0↔Ds a b:=by
 constructor
 .intro h x hx hy;have hx0:=na x hx;have h1:=D4 (fun n=>n.testBit x.toNat) h;simp[Nat.testBit_and,jS ua na,jS ub nb,Int.toNat_of_nonneg hx0,hx,hy]at h1
 .intro h;refine Nat.eq_of_testBit_eq fun i=>?_;rw[Nat.testBit_and,jS ua na,jS ub nb,Nat.zero_testBit];by_cases q:(i:Int)∈a
  .simp[q,h _ q]
  .simp[q]
theorem WJ(ua:Up a)(ub:Up b)(na:Nn a)(nb:Nn b)(h:bn a=bn b):a=b:=by
 refine WH ua ub fun x=>?_;constructor
 .intro hx;have h1:=D4 (fun n=>n.testBit x.toNat) h;simp only[jS ua na,jS ub nb,Int.toNat_of_nonneg (na x hx),hx,decide_true]at h1;exact D7 h1.symm
 .intro hx;have h1:=D4 (fun n=>n.testBit x.toNat) h;simp only[jS ua na,jS ub nb,Int.toNat_of_nonneg (nb x hx),hx,decide_true]at h1;exact D7 h1
theorem aBE(ua:Up a)(ub:Up b)(na:Nn a)(nb:Nn b)(h:Sb a b):bn a<=bn b:=by
 rw[<- (xX ua ub na nb).mpr h];exact Nat.and_le_right
noncomputable def hold(a b:List Int):Bool:=decide (b.length<a.length)&&b.all fun x=>decide (x∈a)
theorem jL(ua:Up a)(ub:Up b):hold a b=true↔Sb b a/\a≠b:=by
 unfold hold;rw[B5,D9,U8];constructor
 .intro ⟨h1,h2⟩;exact⟨fun x hx=>D7 (h2 x hx),fun e=>by rw[e]at h1;omega⟩
 .intro ⟨h1,h2⟩;refine⟨?_,fun x hx=>C5 (h1 x hx)⟩
  apply Nat.lt_of_not_le
  intro hl;exact h2 (WH ua ub fun x=>⟨LV (rY ub) h1 hl x,h1 x⟩)
noncomputable def crs(a b:List Int):Bool:=!(a.filter fun x=>decide (x∈b)).isEmpty&&(decide ((a.filter fun x=>decide (x∈b)).length<a.length)&&decide ((a.filter fun x=>decide (x∈b)).length<b.length))
theorem LM(ua:Up a)(ub:Up b):crs a b=true↔¬Lm a b:=by
 have len:(a.filter fun x=>decide (x∈b)).length=(b.filter fun x=>decide (x∈a)).length:=by
  refine List.Perm.length_eq ((A0t ((rY ua).filter _) ((rY ub).filter _)).mpr fun x=>?_);simp only[List.mem_filter,decide_eq_true_eq];exact And.comm
 have l1:∀{a b:List Int},(a.filter fun x=>decide (x∈b)).length<a.length↔¬Sb a b:=fun{a b}=>by
  rw[<- Decidable.not_iff_not,Decidable.not_not];constructor
  .intro h x hx;have e:(a.filter fun x=>decide (x∈b)).length=a.length:=Nat.le_antisymm (S8 _ _) (by omega);exact D7 (List.length_filter_eq_length_iff.mp e x hx)
  .intro h;rw[List.length_filter_eq_length_iff.mpr fun x hx=>C5 (h x hx)];omega
 have l2:(a.filter fun x=>decide (x∈b)).isEmpty=true↔Ds a b:=by
  rw[List.isEmpty_iff,List.filter_eq_nil_iff];simp
 unfold crs;rw[B5,B5,D9,D9,l1,len,l1,Y7,<- Bool.not_eq_true,l2];constructor
 .intro ⟨h1,h2,h3⟩ h;rcases h with h|h|h
  .exact h2 h
  .exact h3 h
  .exact h1 h
 .intro h;exact⟨fun q=>h (.inr (.inr q)),fun q=>h (.inl q),fun q=>h (.inr (.inl q))⟩
structure Fam(ls:List (List Int)):Prop where
 up:∀l∈ls,Up l
 ne:∀l∈ls,l≠[]
 nn:∀l∈ls,Nn l
 lam:∀a∈ls,∀b∈ls,Lm a b
 nd:ls.Nodup
noncomputable abbrev la(ls:List (List Int))(k:Nat):List Int:=ls.getD k []
theorem fG{ls:List (List Int)}(h:k<ls.length):la ls k∈ls:=by
 rw[la,A6,A8 h];exact S9 h
theorem LG{ls:List (List Int)}(h:l∈ls):∃k,k<ls.length/\la ls k=l:=by
 obtain⟨k,hk,e⟩:=List.getElem_of_mem h;refine⟨k,hk,?_⟩;rw[la,A6,A8 hk];exact e
theorem KQ{ls:List (List Int)}(nd:ls.Nodup)(hi:i<ls.length)(hj:j<ls.length)(e:la ls i=la ls j):i=j:=by
 rw[la,la,A6,A6,A8 hi,A8 hj]at e;exact(List.getElem_inj nd).mp e
noncomputable def inB(ls:List (List Int))(k j:Nat):Bool:=hold (la ls k) (la ls j)&&!(ls.any fun l=>hold (la ls k) l&&hold l (la ls j))
noncomputable def inn(ls:List (List Int))(k:Nat):List Nat:=(List.range ls.length).filter (inB ls k)
noncomputable def arB(ls:List (List Int))(j k:Nat):Bool:=decide (k≠j)&&decide ((bn (la ls j) &&& bn (la ls k))=bn (la ls j))
noncomputable def arr(ls:List (List Int))(j:Nat):List Nat:=(List.range ls.length).filter (arB ls j)
theorem tK{ls:List (List Int)}(h:j∈inn ls k):j<ls.length:=List.mem_range.mp (List.mem_filter.mp h).1
theorem tW{ls:List (List Int)}(F:Fam ls)(hj:j<ls.length)(hk:k<ls.length):arB ls j k=hold (la ls k) (la ls j):=by
 have mj:=fG hj;have mk:=fG hk;rw[L9,jL (F.up _ mk) (F.up _ mj)];unfold arB;rw[B5,D9,D9,xX (F.up _ mj) (F.up _ mk) (F.nn _ mj) (F.nn _ mk)];constructor
 .intro ⟨h1,h2⟩;exact⟨h2,fun e=>h1 (KQ F.nd hk hj e)⟩
 .intro ⟨h1,h2⟩;exact⟨fun e=>h2 (by rw[e]),h1⟩
theorem inB_any{ls:List (List Int)}:inB ls k j=true↔hold (la ls k) (la ls j)=true/\∀l∈ls,hold (la ls k) l=true->hold l (la ls j)=true->False:=by
 unfold inB;rw[B5,Y7,List.any_eq_false];constructor
 .intro ⟨h1,h2⟩;exact⟨h1,fun l hl a b=>h2 l hl (by rw[a,b];rfl)⟩
 .intro ⟨h1,h2⟩;refine⟨h1,fun l hl q=>?_⟩;rw[B5]at q;exact h2 l hl q.1 q.2
theorem JJ{ls:List (List Int)}(F:Fam ls){j:Nat}(hj:j<ls.length)(hk:k<ls.length)(hm:m∈arr ls j)(least:∀x∈arr ls j,bn (la ls m)<=bn (la ls x)):m=k↔inB ls k j=true:=by
 have hml:m<ls.length:=List.mem_range.mp (List.mem_filter.mp hm).1;have hmh:hold (la ls m) (la ls j)=true:=by rw[<- tW F hj hml];exact(List.mem_filter.mp hm).2
 have mj:=fG hj;have mm:=fG hml;have mk:=fG hk;rw[inB_any];constructor
 .intro e;subst e;refine⟨hmh,fun l hl h1 h2=>?_⟩;obtain⟨x,hx,rfl⟩:=LG hl;have hxa:x∈arr ls j:=List.mem_filter.mpr ⟨List.mem_range.mpr hx,by rw[tW F hj hx];exact h2⟩;have l1:=least x hxa;obtain⟨s,n⟩:=(jL (F.up _ mm) (F.up _ hl)).mp h1;have l2:=aBE (F.up _ hl) (F.up _ mm) (F.nn _ hl) (F.nn _ mm) s;exact n (WJ (F.up _ mm) (F.up _ hl) (F.nn _ mm) (F.nn _ hl) (by omega))
 .intro ⟨h1,h2⟩;have hka:k∈arr ls j:=List.mem_filter.mpr ⟨List.mem_range.mpr hk,by rw[tW F hj hk];exact h1⟩;have l1:=least k hka
  apply Decidable.byContradiction
  intro ne;have ne':la ls m≠la ls k:=fun e=>ne (KQ F.nd hml hk e);rcases F.lam _ mm _ mk with h|h|h
  .exact h2 _ mm ((jL (F.up _ mk) (F.up _ mm)).mpr ⟨h,fun e=>ne' e.symm⟩) hmh
  .have l2:=aBE (F.up _ mk) (F.up _ mm) (F.nn _ mk) (F.nn _ mm) h;exact ne' (WJ (F.up _ mm) (F.up _ mk) (F.nn _ mm) (F.nn _ mk) (by omega))
  .have hne:=F.ne _ mj;cases hl:la ls j with
   |nil=>exact hne hl
   |cons x r=>
    have hx:x∈la ls j:=by rw[hl];exact B2
    exact h x (((jL (F.up _ mm) (F.up _ mj)).mp hmh).1 x hx) (((jL (F.up _ mk) (F.up _ mj)).mp h1).1 x hx)
theorem aAJ{ls:List (List Int)}(F:Fam ls)(hi:i∈inn ls k)(hj:j∈inn ls k)(ne:i≠j):Ds (la ls i) (la ls j):=by
 have li:=tK hi;have lj:=tK hj;have mi:=fG li;have mj:=fG lj;have hi:=inB_any.mp (List.mem_filter.mp hi).2;have hj:=inB_any.mp (List.mem_filter.mp hj).2;have ne':la ls i≠la ls j:=fun e=>ne (KQ F.nd li lj e);rcases F.lam _ mi _ mj with h|h|h
 .exact(hi.2 _ mj hj.1 ((jL (F.up _ mj) (F.up _ mi)).mpr ⟨h,fun e=>ne' e.symm⟩)).elim
 .exact(hj.2 _ mi hi.1 ((jL (F.up _ mi) (F.up _ mj)).mpr ⟨h,ne'⟩)).elim
 .exact h
noncomputable def cat(ls:List (List Int))(os:List Nat):List Int:=os.flatMap (la ls)
theorem UC{ls:List (List Int)}(F:Fam ls){os:List Nat}(nd:os.Nodup)(h:∀j∈os,j∈inn ls k):(cat ls os).Nodup:=by
 unfold cat;refine List.pairwise_flatMap.mpr ⟨fun j hj=>rY (F.up _ (fG (tK (h j hj)))),?_⟩;refine List.Pairwise.imp_of_mem (fun{i j} hi hj ne x hx y hy e=>?_) nd;subst e;exact aAJ F (h i hi) (h j hj) ne x hx hy
theorem YH(ls:List (List Int))(os:List Nat):(cat ls os).length=(os.map fun j=>(la ls j).length).sum:=List.length_flatMap
theorem aAb{ls:List (List Int)}(F:Fam ls)(hk:k<ls.length){os:List Nat}(nd:os.Nodup)(h:∀j∈os,j∈inn ls k):(cat ls os).length=(la ls k).length↔dW (cat ls os)=la ls k:=by
 have mk:=fG hk;have nc:=UC F nd h
 have sb:Sb (cat ls os) (la ls k):=fun x hx=>by
  obtain⟨j,hj,hx⟩:=List.mem_flatMap.mp hx;have hi:=inB_any.mp (List.mem_filter.mp (h j hj)).2;exact((jL (F.up _ mk) (F.up _ (fG (tK (h j hj))))).mp hi.1).1 x hx
 constructor
 .intro hl;have bk:=LV nc sb (by omega);refine oH (lK _) ((F.up _ mk).imp fun q=>by omega) ((eQ _).trans ?_);exact(A0t nc (rY (F.up _ mk))).mpr fun x=>⟨sb x,bk x⟩
 .intro e;rw[<- e,(eQ _).length_eq]
noncomputable def pd(P:Prop):Bool:=@decide P (Classical.propDecidable P)
theorem pd_iff{P:Prop}:pd P=true↔P:=by unfold pd;exact @decide_eq_true_iff P (Classical.propDecidable P)
theorem kT{P:Prop}(h:P):pd P=true:=pd_iff.mpr h
theorem gI{P:Prop}(h:¬P):pd P=false:=by
 cases q:pd P with
 |false=>rfl
 |true=>exact absurd (pd_iff.mp q) h
theorem gO{b:Bool}{P:Prop}(h:b=true↔P):b=pd P:=Bool.eq_iff_iff.mpr (h.trans pd_iff.symm)
theorem cA{P Q:Prop}(h:P↔Q):pd P=pd Q:=gO (pd_iff.trans h)
theorem bpd{b:Bool}{P:Prop}(h:b=true↔P):B b=B (pd P):=by rw[gO h]
theorem tP{P Q:Prop}(h:f γ M=some (B (pd P),M))(hg:P->g γ M=some (B (pd Q),M)):fN f g γ M=some (B (pd (P/\Q)),M):=by
 unfold fN;rw[h,A3];dsimp only[asB];rw[A3];rcases E8 P with p|p
 .rw[kT p,A4 rfl,hg p,cA (show Q↔P/\Q from⟨fun q=>⟨p,q⟩,fun q=>q.2⟩)]
 .rw[gI p,B0 A9,gI fun q=>p q.1]
theorem yL{c d:TF}{P Q:Prop}(h:c γ M=some (pd P,M))(hd:¬P->d γ M=some (pd Q,M)):gOr c d γ M=some (pd (P\/Q),M):=by
 unfold gOr;rw[h,A3];rcases E8 P with p|p
 .rw[kT p,A4 rfl,kT (.inl p)]
 .rw[gI p,B0 A9,hd p,cA (show Q↔P\/Q from⟨fun q=>.inr q,fun q=>q.elim (fun z=>absurd z p) id⟩)]
theorem YM{c d:TF}{P Q:Prop}(h:c γ M=some (pd P,M))(hd:P->d γ M=some (pd Q,M)):mE c d γ M=some (pd (P/\Q),M):=by
 unfold mE;rw[h,A3];rcases E8 P with p|p
 .rw[kT p,A4 rfl,hd p,cA (show Q↔P/\Q from⟨fun q=>⟨p,q⟩,fun q=>q.2⟩)]
 .rw[gI p,B0 A9,gI fun q=>p q.1]
theorem QZ{P:Prop}:(!pd P)=pd ¬P:=by
 rcases E8 P with p|p
 .rw[kT p,gI fun q=>q p];rfl
 .rw[gI p,kT p];rfl
theorem eY{c:TF}{P:Prop}(h:c γ M=some (pd P,M)):cB c γ M=some (pd (¬P),M):=by
 unfold cB;rw[h,A3,QZ]
theorem YZ{P:Prop}(h:f γ M=some (B (pd P),M)):FE f γ M=some (B (pd (¬P)),M):=by
 unfold FE;rw[h,A3];dsimp only[asB];rw[A3,QZ]
theorem cP(h:f γ M=some (x,M')):bT f γ M=some (.rt x,M'):=by
 unfold bT;rw[h,A3]
theorem lF{c:TF}{r:SF}{P:Prop}(h:c γ M=some (pd P,M))(p:P):aW (sIf c (bT (fC (.bool false))) bH) r γ M=some (.rt (B false),M):=by
 rw[kT p]at h;exact jP (by rw[iC h];rfl)
theorem lJ{c:TF}{r:SF}{P:Prop}(h:c γ M=some (pd P,M))(p:¬P):aW (sIf c (bT (fC (.bool false))) bH) r γ M=r γ M:=by
 rw[gI p]at h;exact aR (by rw[fY h];rfl)
theorem wB{α:Type}{f:α->Bool}:∀ds:List α,boolsOf (ds.map fun d=>.bool (f d))=some (ds.map f)
 |[]=>rfl
 |d::ds=>by show(boolsOf (ds.map fun d=>.bool (f d))).bind _=_;rw[wB ds];rfl
theorem all_map'{α:Type}{f:α->Bool}{ds:List α}:mN [.d (.list (ds.map fun d=>.bool (f d)))] M=some (B (ds.all f),M):=by
 show(boolsOf (ds.map fun d=>.bool (f d))).bind _=_;rw[wB,A3,List.all_map];rfl
theorem any_map'{α:Type}{f:α->Bool}{ds:List α}:anyF [.d (.list (ds.map fun d=>.bool (f d)))] M=some (B (ds.any f),M):=by
 show(boolsOf (ds.map fun d=>.bool (f d))).bind _=_;rw[wB,A3,List.any_map];rfl
theorem jA(h:f γ M=some (.d d,M'))(e:aM d=some ds):bE f γ M=some (ds.map .d,M'):=by
 simp only[bE,h,Option.bind_some,e]
theorem JR{α:Type}{i:Nat}{c:TF}{e:EF}{γ0:Ga}{M:Sto}(f:α->CD)(p:α->Bool)(h:α->PyData):∀(xs:List α)(γ:Ga),(∀y,γ.set i y=γ0.set i y)->(∀x∈xs,c (γ0.set i (some (f x))) M=some (p x,M)/\(p x=true->e (γ0.set i (some (f x))) M=some (.d (h x),M)))->lcF (hName i) c e (xs.map f) γ M=some (((xs.filter p).map h).map .d,M)
 |[]=>fun γ _ _=>rfl
 |x::xs=>fun γ hγ he=>by
  obtain⟨h1,h2⟩:=he x B2;have ih:=JR (c:=c) (e:=e) (M:=M) f p h xs (γ0.set i (some (f x))) (fun y=>List.set_set ..) (fun y hy=>he y (B1 _ hy));rw[B6];unfold lcF;rw[show hName i (f x) γ M=some (γ0.set i (some (f x)),M)by unfold hName;rw[hγ],A3];dsimp only;rw[h1,A3];dsimp only;cases q:p x with
  |false=>rw[B0 (by decide),ih,Y0 (by rw[q];decide)]
  |true=>
   rw[A4 rfl,h2 q,A3];dsimp only;rw[ih,Y1 q];rfl
theorem qL{α:Type}{γ0:Ga}(f:α->CD)(h:α->PyData)(xs:List α)(he:∀x∈xs,e (γ0.set i (some (f x))) M=some (.d (h x),M)):lcF (hName i) eR e (xs.map f) γ0 M=some ((xs.map h).map .d,M):=by
 have:=JR (i:=i) (c:=eR) (e:=e) (γ0:=γ0) (M:=M) f (fun _=>true) h xs γ0 (fun _=>rfl) fun x hx=>⟨rfl,fun _=>he x hx⟩
 rwa [List.filter_eq_self.mpr fun _ _=>rfl]at this
theorem zN{cap:List (Option Nat)}{ds:List PyData}{P:PyData->Prop}(hf:f γ M=some (.d d,M))(hd:aM d=some ds)(hl:ds.length<=900)(he:∀x∈ds,e ((mL cap γ).set i (some (.d x))) M=some (B (pd (P x)),M)):
 aF mN (aA (fLc cap (bE f) (hName i) eR e) aE) γ M=some (B (pd (∀x∈ds,P x)),M):=by
 have l:=lB (cap:=cap) (jA hf hd) (by rw[A0];omega) (qL (γ0:=mL cap γ) CD.d (fun x=>.bool (pd (P x))) ds he) (by rw[A0];omega);refine aO (aH l aN) ?_;rw[all_map',bpd (P:=∀x∈ds,P x)];rw[U8];exact⟨fun h x hx=>pd_iff.mp (h x hx),fun h x hx=>pd_iff.mpr (h x hx)⟩
theorem EC{cap:List (Option Nat)}{ds:List PyData}{h:PyData->PyData}(hf:f γ M=some (.d d,M))(hd:aM d=some ds)(hl:ds.length<=900)(he:∀x∈ds,e ((mL cap γ).set i (some (.d x))) M=some (.d (h x),M)):
 fLc cap (bE f) (hName i) eR e γ M=some (.d (.list (ds.map h)),M):=
 lB (cap:=cap) (jA hf hd) (by rw[A0];omega) (qL (γ0:=mL cap γ) CD.d h ds he) (by rw[A0];omega)
noncomputable def fJ(d:PyData):Option (List Int):=(aM d).bind cR
noncomputable def DG{α β:Type}(f:α->Option β):List α->Option (List β)
 |[]=>some []
 |x::xs=>(f x).bind fun y=>(DG f xs).bind fun ys=>some (y::ys)
theorem allO_iff{α β:Type}{f:α->Option β}:∀{xs:List α}{ys:List β},DG f xs=some ys↔xs.map f=ys.map some
 |[],ys=>by cases ys<;>simp[DG]
 |x::xs,ys=>by
  cases ys with
  |nil=>
   constructor
   .intro h;obtain⟨y,_,h⟩:=Option.bind_eq_some_iff.mp h;obtain⟨z,_,h⟩:=Option.bind_eq_some_iff.mp h;cases h
   .intro h;cases h
  |cons y ys=>
   rw[B6,B6,O0,<- allO_iff (xs:=xs)];constructor
   .intro h;obtain⟨y,h1,h⟩:=Option.bind_eq_some_iff.mp h;obtain⟨z,h2,h⟩:=Option.bind_eq_some_iff.mp h;cases h;exact⟨h1,h2⟩
   .intro ⟨h1,h2⟩;show(f x).bind _=_;rw[h1,A3,h2];rfl
theorem A0n:∀ns:List Int,cR (ns.map .int)=some ns
 |[]=>rfl
 |n::ns=>by show(cR (ns.map .int)).bind _=_;rw[A0n ns];rfl
theorem MK:∀{ds:List PyData}{ns:List Int},cR ds=some ns->ds=ns.map .int
 |[],ns=>fun h=>by cases h;rfl
 |d::ds,ns=>fun h=>by
  cases d with
  |int i=>
   obtain⟨ms,h1,h2⟩:=Option.bind_eq_some_iff.mp (show(cR ds).bind (fun ns=>some (i::ns))=some ns from h);cases h2;rw[MK h1];rfl
  |_=>cases h
theorem ints_iff:cR ds=some ns↔ds=ns.map .int:=⟨MK,fun h=>by rw[h];exact A0n ns⟩
theorem rowI_iff:fJ d=some ns↔aM d=some (ns.map .int):=by
 unfold fJ;rw[Option.bind_eq_some_iff];constructor
 .intro ⟨ds,h1,h2⟩;rw[h1,ints_iff.mp h2]
 .intro h;exact⟨_,h,A0n ns⟩
structure LkP(n:Int)(ns:List Int):Prop where
 up:Up ns
 ne:ns≠[]
 io:∀p∈ns,1<=p/\p<n
noncomputable def adj{α:Type}(lt:α->α->Bool):List α->List Bool
 |a::b::r=>lt a b::adj lt (b::r)
 |_=>[]
theorem KD{α:Type}{lt:α->α->Bool}(tr:∀a b c,lt a b=true->lt b c=true->lt a c=true):∀l:List α,(adj lt l).all id=true↔l.Pairwise fun a b=>lt a b=true
 |[]=>by simp[adj]
 |[a]=>by simp[adj]
 |a::b::r=>by
  have ih:=KD tr (b::r);show(lt a b&&(adj lt (b::r)).all id)=true↔_;rw[B5,ih];constructor
  .intro h;refine List.pairwise_cons.mpr ⟨fun x hx=>?_,h.2⟩;rcases List.mem_cons.mp hx with rfl|hx
   .exact h.1
   .exact tr _ _ _ h.1 ((List.pairwise_cons.mp h.2).1 x hx)
  .intro h;exact⟨(List.pairwise_cons.mp h).1 b B2,(List.pairwise_cons.mp h).2⟩
theorem NC{α:Type}{lt:α->α->Bool}:∀l:List α,(adj lt l).length<=l.length
 |[]=>B3 _
 |[_]=>F9 _
 |a::b::r=>by have:=NC (lt:=lt) (b::r);simp only[adj,List.length_cons]at this ⊢;omega
theorem UY{α:Type}{f:α->PyData}{lt:α->α->Bool}{M:Sto}(h:∀a b,ltX (.d (f a)) (.d (f b)) M=some (B (lt a b),M)):∀(l:List α)(γ:Ga),(∃a b,γ=[a,b])->lcF (pA 2 (cT (hName 0) (cT (hName 1) nG))) eR (fOp ltX (aB 0) (aB 1)) (nR (l.map f) ((l.map f).drop 1)) γ M=some (((adj lt l).map fun b=>PyData.bool b).map .d,M)
 |[]=>fun _ _=>rfl
 |[_]=>fun _ _=>rfl
 |a::b::r=>fun γ hγ=>by
  obtain⟨x,y,rfl⟩:=hγ;have ih:=UY h (b::r) [some (.d (f a)),some (.d (f b))] ⟨_,_,rfl⟩;show((ltX (.d (f a)) (.d (f b)) M).bind fun r'=>(lcF (pA 2 (cT (hName 0) (cT (hName 1) nG))) eR (fOp ltX (aB 0) (aB 1)) (nR ((b::r).map f) (((b::r).map f).drop 1)) [some (.d (f a)),some (.d (f b))] r'.2).bind fun q=>some (r'.1::q.1,q.2))=_;rw[h,A3];dsimp only;rw[ih];rfl
theorem aEm:∀(xs ys:List PyData),(nR xs ys).length<=xs.length:=fun xs ys=>by
 rcases DY xs ys with h|h<;>omega
theorem aFM{α:Type}(ds:List α):gN ds (some 1) none=ds.drop 1:=by
 unfold gN;rw[show(1:Int)=((1:Nat):Int)from rfl,HT.sIx_nat,HT.sIx_none];cases ds with
 |nil=>rfl
 |cons d ds=>rw[show min 1 (d::ds).length=1 by simp];exact List.take_of_length_le (by simp)
theorem xC{α:Type}{f:α->PyData}{lt:α->α->Bool}(h:∀a b,ltX (.d (f a)) (.d (f b)) M=some (B (lt a b),M)){l:List α}(hd:aM d=some (l.map f))(hl:l.length<=900):eF [.d d] M=some (B ((adj lt l).all id),M):=by
 have zl:(nR (l.map f) ((l.map f).drop 1)).length<=1000:=by
  have:=aEm (l.map f) ((l.map f).drop 1);rw[A0]at this;omega
 have it:BP (aA (aB 0) (aA (fSl (aB 0) (aY (fC (.int 1))) aV) aE)) [some (.d d)] M=some (nR (l.map f) ((l.map f).drop 1),M):=by
  cases d with
  |list xs=>cases hd;simp![BP,fSl,aY,aV,asI,slF,aFM]
  |tuple xs=>cases hd;simp![BP,fSl,aY,aV,asI,slF,aFM]
  |_=>cases hd
 have cp:nL [some (.d d)] M=some (.d (.list ((adj lt l).map fun b=>.bool b)),M):=by
  unfold nL;exact lB it zl (UY h l _ ⟨_,_,rfl⟩) (by rw[A0];have:=NC (lt:=lt) l;omega)
 have al:mN [.d (.list ((adj lt l).map fun b=>.bool b))] M=some (B ((adj lt l).all id),M):=all_map' (f:=id) (ds:=adj lt l) (M:=M);exact eG rfl (cP (aO (aH cp aN) al))
theorem RC{i j:Int}:gtI (I i) (I j) M=some (B (decide (j<i)),M):=rfl
theorem pQ(x:PyData):EK x=pd (∃ds,aM x=some ds):=gO ⟨WO,fun⟨ds,h⟩=>by cases x<;>first|rfl|cases h⟩
theorem IV(n:Int)(x:PyData):plc n x=pd (∃i,x=.int i/\0<=i/\i<n):=gO ⟨ZR,fun⟨i,e,h0,h1⟩=>by
 rw[e];show(decide (0<=i)&&decide (i<n))=true;rw[C5 h0,C5 h1];rfl⟩
theorem all_ints{Q:Int->Prop}:∀{ds:List PyData},(∀x∈ds,∃i,x=.int i/\Q i)->∃ns:List Int,ds=ns.map .int/\∀i∈ns,Q i
 |[]=>fun _=>⟨[],rfl,fun i h=>by simp at h⟩
 |d::ds=>fun h=>by
  obtain⟨i,rfl,hi⟩:=h d B2;obtain⟨ns,rfl,hn⟩:=all_ints fun x hx=>h x (B1 _ hx);refine⟨i::ns,rfl,fun j hj=>?_⟩;rcases List.mem_cons.mp hj with rfl|hj
  .exact hi
  .exact hn j hj
theorem WB(hd:aM d=some (ns.map .int))(hl:ns.length<=900):eF [.d d] M=some (B (pd (Up ns)),M):=by
 rw[xC (f:=PyData.int) (lt:=fun a b=>decide (a<b)) (fun a b=>rfl) hd hl,bpd (P:=Up ns)];rw[KD (lt:=fun a b:Int=>decide (a<b)) fun a b c h1 h2=>C5 (Int.lt_trans (D7 h1) (D7 h2))];exact⟨fun h=>h.imp fun q=>D7 q,fun h=>h.imp fun q=>C5 q⟩
theorem iE{i:Int}{e:PyData}(hd:aM d=some ds)(h:atI ds i=some e):ixF (.d d) (I i) M=some (.d e,M):=by
 show(aM d).bind _=_;rw[hd,A3,h];rfl
theorem aBa{P:Prop}(h:f γ M=some (B (pd P),M))(p:P):fN f g γ M=g γ M:=by
 unfold fN;rw[h,kT p];rfl
theorem aBn{P:Prop}(h:f γ M=some (B (pd P),M))(p:¬P):fN f g γ M=some (B false,M):=by
 unfold fN;rw[h,gI p];rfl
theorem DO{α:Type}(x:α)(r:List α):atI (x::r) 0=some x:=jC (k:=0) rfl
theorem UK{α:Type}(x y:α)(r:List α):atI (x::y::r) 1=some y:=jC (k:=1) rfl
noncomputable def LkD(n:Int)(d:PyData):Prop:=∃ns,fJ d=some ns/\LkP n ns
theorem hG(h:γ[i]?=some (some x)):aB i γ M=some (x,M):=by simp only[aB,h]
theorem QG(hw:∀ds,aM d=some ds->ds.length<=900):nY [I n,.d d] M=some (B (pd (LkD n d)),M):=by
 have r1:aF gK (aA (aB 1) aE) [some (I n),some (.d d)] M=some (B (pd (∃ds,aM d=some ds)),M):=by
  rw[<- pQ];exact tX d M
 have r2:(∃ds,aM d=some ds)->fN (aF mN (aA fV aE)) (aF eF (aA (aB 1) aE)) [some (I n),some (.d d)] M=some (B (pd (∃ns,aM d=some (ns.map .int)/\(∀i∈ns,0<=i/\i<n)/\Up ns)),M):=by
  intro ⟨ds,hd⟩;have hl:=hw ds hd;have a:=zN (i:=1) (cap:=[some 0,none]) (f:=aB 1) (e:=aF cS (aA (aB 0) (aA (aB 1) aE))) (γ:=[some (I n),some (.d d)]) (M:=M) rfl hd hl (P:=fun x=>∃i,x=.int i/\0<=i/\i<n) fun x hx=>by rw[<- IV];exact sZ n x M
  rw[show fV=fLc [some 0,none] (bE (aB 1)) (hName 1) eR (aF cS (aA (aB 0) (aA (aB 1) aE)))from rfl,tP (Q:=∃ns,aM d=some (ns.map .int)/\Up ns) a fun h=>?_]
  .refine D4 (fun b=>some (B b,M)) (cA ⟨fun⟨h,ns,e,u⟩=>?_,fun⟨ns,e,h,u⟩=>?_⟩)
   .rw[hd]at e;cases e;refine⟨ns,hd,fun i hi=>?_,u⟩;obtain⟨j,e,q⟩:=h (.int i) (List.mem_map.mpr ⟨i,hi,rfl⟩);cases e;exact q
   .refine⟨fun x hx=>?_,ns,e,u⟩;rw[hd]at e;cases e;obtain⟨i,hi,rfl⟩:=List.mem_map.mp hx;exact⟨i,rfl,h i hi⟩
  .obtain⟨ns,rfl,hn⟩:=all_ints h;refine aO (aH rfl aN) ?_;rw[WB hd (by rw[A0]at hl;exact hl)];refine D4 (fun b=>some (B b,M)) (cA ⟨fun u=>⟨ns,hd,u⟩,fun⟨ms,e,u⟩=>?_⟩);rw[hd]at e;have e:=D5 e;have:=A0n ns;rw[e,A0n]at this;cases this;exact u
 have r3:fA [I n,.d d] M=some (B (pd ((∃ds,aM d=some ds)/\∃ns,aM d=some (ns.map .int)/\(∀i∈ns,0<=i/\i<n)/\Up ns)),M):=eG rfl (cP (tP r1 r2));have r4:aF fA (aA (aB 0) (aA (aB 1) aE)) [some (I n),some (.d d)] M=some (B (pd ((∃ds,aM d=some ds)/\∃ns,aM d=some (ns.map .int)/\(∀i∈ns,0<=i/\i<n)/\Up ns)),M):=r3;refine eG rfl (cP ?_);show fN _ _ [some (I n),some (.d d)] M=_;rcases E8 ((∃ds,aM d=some ds)/\∃ns,aM d=some (ns.map .int)/\(∀i∈ns,0<=i/\i<n)/\Up ns)with p|p
 .rw[aBa r4 p];obtain⟨_,ns,hd,h0,u⟩:=p;have l:bW [.d d] M=some (I ns.length,M):=by rw[fQ hd,A0]
  have e1:fOp gtI (aF bW (aA (aB 1) aE)) (fC (.int 0)) [some (I n),some (.d d)] M=some (B (pd (0<ns.length)),M):=by
   rw[aU (aO (aH rfl aN) l) rfl RC];exact D4 (fun b=>some (B b,M)) (gO (by rw[D9];omega))
  rcases E8 (0<ns.length)with q|q
  .rw[aBa e1 q];cases ns with
   |nil=>cases q
   |cons x r=>
    rw[aU (aU rfl rfl (iE hd (i:=0) (e:=.int x) (DO _ _))) rfl RC];refine D4 (fun b=>some (B b,M)) (gO ?_);rw[D9];constructor
    .intro hx;refine⟨_,rowI_iff.mpr hd,u,by simp,fun y hy=>⟨?_,(h0 y hy).2⟩⟩;rcases List.mem_cons.mp hy with rfl|hy
     .exact hx
     .have:=(List.pairwise_cons.mp u).1 y hy;omega
    .intro ⟨ms,e,k⟩;have e:=rowI_iff.mp e;rw[hd]at e;have e:=D5 e;cases ms with
     |nil=>cases e
     |cons y ms=>
      rw[B6,B6,O0]at e;cases e.1;exact(k.io x B2).1
  .rw[aBn e1 q];refine D4 (fun b=>some (B b,M)) (gI fun⟨ms,e,k⟩=>?_).symm;have e:=rowI_iff.mp e;rw[hd]at e;cases ns with
   |nil=>
    cases ms with
    |nil=>exact k.ne rfl
    |cons _ _=>cases e
   |cons _ _=>simp at q
 .rw[aBn r4 p];refine D4 (fun b=>some (B b,M)) (gI fun⟨ms,e,k⟩=>p ⟨⟨_,rowI_iff.mp e⟩,ms,rowI_iff.mp e,fun i hi=>?_,k.up⟩).symm;have:=k.io i hi;omega
theorem vA(x:PyData)(M:Sto):bJ [.d x] M=some (B (EK x),M):=by cases x<;>rfl
noncomputable def ZP(lo n:Int)(ds:List PyData):Prop:=∃ns:List Int,ds=ns.map .int/\Up ns/\∀p∈ns,lo<=p/\p<n
theorem aBK(lo hi:Int)(x:PyData):lw lo hi x=pd (∃i,x=.int i/\lo<=i/\i<=hi):=gO ⟨aCp,fun⟨i,e,h0,h1⟩=>by
 rw[e];show(decide (lo<=i)&&decide (i<=hi))=true;rw[C5 h0,C5 h1];rfl⟩
theorem EO{g:GF}{b:SF}{M1 M2:Sto}(h:g x γ M=some (γ1,M1))(hb:b γ1 M1=some (.rt y,M2)):jT g b (x::xs) γ M=some (.rt y,M2):=by
 conv=>lhs;unfold jT
 rw[h,A3];dsimp only;rw[hb];rfl
theorem HA{n:Int}{d:CD}{M:Sto}:∀(ds:List PyData)(lo:Int)(g:Option CD),(ZP lo n ds->∃lo' g',jT (hName 3) dH (ds.map .d) [some (I n),some d,some (I lo),g] M=some (.nx [some (I n),some d,some (I lo'),g'],M))/\(¬ZP lo n ds->jT (hName 3) dH (ds.map .d) [some (I n),some d,some (I lo),g] M=some (.rt (B false),M))
 |[]=>fun lo g=>⟨fun _=>⟨lo,g,rfl⟩,fun h=>absurd ⟨[],rfl,.nil,fun p h=>by simp at h⟩ h⟩
 |x::ds=>fun lo g=>by
  have t:cB (gB (aF dI (aA (aB 3) (aA (aB 2) (aA (fOp BB (aB 0) (fC (.int 1))) aE))))) [some (I n),some d,some (I lo),some (.d x)] M=some (pd (¬∃i,x=.int i/\lo<=i/\i<=n-1),M):=by
   refine eY (bV ?_);rw[<- aBK];exact aO (aH rfl (aH rfl (aH rfl aN))) (aEK x lo (n-1) M)
  have hg:hName 3 (.d x) [some (I n),some d,some (I lo),g] M=some ([some (I n),some d,some (I lo),some (.d x)],M):=rfl;rcases E8 (∃i,x=.int i/\lo<=i/\i<=n-1)with p|p
  .obtain⟨i,rfl,h0,h1⟩:=p
   have b:dH [some (I n),some d,some (I lo),some (I i)] M=some (.nx [some (I n),some d,some (I (i+1)),some (I i)],M):=by
    unfold dH;rw[lJ t fun q=>q ⟨i,rfl,h0,h1⟩];rfl
   have st:=eK (xs:=ds.map .d) hg b;obtain⟨r1,r2⟩:=HA ds (i+1) (some (I i)) (n:=n) (d:=d) (M:=M);rw[B6,st];refine⟨fun⟨ns,e,u,k⟩=>r1 ?_,fun h=>r2 fun⟨ns,e,u,k⟩=>h ⟨i::ns,by rw[e];rfl,?_,fun p hp=>?_⟩⟩
   .cases ns with
    |nil=>cases e
    |cons y ns=>
     rw[B6,O0]at e;cases e.1;have u:=List.pairwise_cons.mp u;exact⟨ns,e.2,u.2,fun p hp=>⟨by have:=u.1 p hp;omega,(k p (B1 _ hp)).2⟩⟩
   .exact List.pairwise_cons.mpr ⟨fun p hp=>by have:=(k p hp).1;omega,u⟩
   .rcases List.mem_cons.mp hp with rfl|hp
    .omega
    .have:=k p hp;omega
  .have b:dH [some (I n),some d,some (I lo),some (.d x)] M=some (.rt (B false),M):=by
    unfold dH;exact lF t p
   refine⟨fun⟨ns,e,u,k⟩=>(p ?_).elim,fun _=>EO hg b⟩;cases ns with
   |nil=>cases e
   |cons y ns=>
    rw[B6,O0]at e;exact⟨y,e.1,by have:=k y B2;omega⟩
theorem aEJ:iB [I n,.d d] M=some (B (pd (LkD n d)),M):=by
 have c:gOr (cB (gB (aF bJ (aA (aB 1) aE)))) (gB (fOp (eqX false) (aF bW (aA (aB 1) aE)) (fC (.int 0)))) [some (I n),some (.d d),none,none] M=some (pd ((¬∃ds,aM d=some ds)\/aM d=some []),M):=by
  refine yL (eY (bV ?_)) fun h=>?_
  .rw[<- pQ];exact vA d M
  .rw[Y8]at h;obtain⟨ds,hd⟩:=h;rw[bV (aU (aO (aH rfl aN) (fQ hd M)) rfl xI),hd];refine D4 (fun b=>some (b,M)) (gO ?_);rw[Y3];cases ds with
   |nil=>exact⟨fun _=>rfl,fun _=>rfl⟩
   |cons x xs=>exact⟨fun q=>by rw[J5]at q;omega,fun q=>by cases q⟩
 refine eG rfl ?_;show aW _ _ [some (I n),some (.d d),none,none] M=_;rcases E8 ((¬∃ds,aM d=some ds)\/aM d=some [])with p|p
 .rw[lF c p];refine D4 (fun b=>some (Out.rt (B b),M)) (gI fun⟨ms,e,k⟩=>?_).symm;have e:=rowI_iff.mp e;rcases p with p|p
  .exact p ⟨_,e⟩
  .rw[p]at e;cases ms with
   |nil=>exact k.ne rfl
   |cons _ _=>cases e
 .rw[lJ c p];have p1:∃ds,aM d=some ds:=D8 fun q=>p (.inl q);obtain⟨ds,hd⟩:=p1;have p2:ds≠[]:=fun q=>p (.inr (by rw[hd,q]));rw[aR (show bG (fC (.int 1)) (hName 2) [some (I n),some (.d d),none,none] M=some (.nx [some (I n),some (.d d),some (I 1),none],M)from rfl)];obtain⟨r1,r2⟩:=HA ds 1 none (n:=n) (d:=.d d) (M:=M);have it:bE (aB 1) [some (I n),some (.d d),some (I 1),none] M=some (ds.map .d,M):=jA rfl hd
  have iff:ZP 1 n ds↔LkD n d:=by
   constructor
   .intro ⟨ns,e,u,k⟩;subst e;exact⟨ns,rowI_iff.mpr hd,u,fun q=>p2 (by rw[q];rfl),k⟩
   .intro ⟨ns,e,k⟩;have e:=rowI_iff.mp e;rw[hd]at e;exact⟨ns,D5 e,k.up,k.io⟩
  rcases E8 (ZP 1 n ds)with q|q
  .obtain⟨lo',g',st⟩:=r1 q;rw[aR (dO it st),kT (iff.mp q)];rfl
  .rw[jP (dO it (r2 q)),gI fun z=>q (iff.mpr z)]
noncomputable def lex:List Int->List Int->Bool
 |[],ys=>decide (0<ys.length)
 |_::_,[]=>false
 |x::xs,y::ys=>if x=y then lex xs ys else decide (x<y)
theorem LK:∀a:List Int,lex a a=false
 |[]=>rfl
 |x::a=>by
  show(if x=x then lex a a else decide (x<x))=false;rw[A4 rfl];exact LK a
theorem lex_cc{x y:Int}:lex (x::a) (y::b)=true↔x<y\/(x=y/\lex a b=true):=by
 show(if x=y then lex a b else decide (x<y))=true↔_;by_cases e:x=y
 .rw[A4 e];exact⟨fun h=>.inr ⟨e,h⟩,fun h=>h.elim (fun q=>by omega) fun q=>q.2⟩
 .rw[B0 e,D9];exact⟨fun h=>.inl h,fun h=>h.elim id fun q=>absurd q.1 e⟩
theorem lex_nil(b:List Int):lex b []=false:=by cases b<;>rfl
theorem wH:∀a b c:List Int,lex a b=true->lex b c=true->lex a c=true
 |_,_,[]=>fun _ h2=>by rw[lex_nil]at h2;cases h2
 |[],_,_::_=>fun _ _=>rfl
 |_::_,[],_=>fun h1 _=>by cases h1
 |x::a,y::b,z::c=>fun h1 h2=>by
  have h1:=lex_cc.mp h1;have h2:=lex_cc.mp h2;refine lex_cc.mpr ?_;rcases h1 with h1|⟨e1,h1⟩
  .rcases h2 with h2|⟨e2,_⟩
   .exact .inl (by omega)
   .exact .inl (by omega)
  .rcases h2 with h2|⟨e2,h2⟩
   .exact .inl (by omega)
   .exact .inr ⟨by omega,wH a b c h1 h2⟩
theorem EY:∀a b:List Int,lex a b=false->a≠b->lex b a=true
 |[],[]=>fun _ h=>absurd rfl h
 |[],_::_=>fun h _=>by cases h
 |_::_,[]=>fun _ _=>rfl
 |x::a,y::b=>fun h n=>by
  have h:(if x=y then lex a b else decide (x<y))=false:=h;show(if y=x then lex b a else decide (y<x))=true;by_cases e:x=y
  .subst e;rw[A4 rfl]at h ⊢;exact EY a b h fun q=>n (by rw[q])
  .rw[B0 e]at h;have h:=O7 h;rw[B0 fun q=>e q.symm];exact C5 (by omega)
noncomputable abbrev tR(l:List Int):PyData:=.tuple (l.map .int)
theorem yK:∀a b:List Int,cU (a.map .int) (b.map .int)=some (lex a b)
 |[],b=>by
  show some (decide (0<(b.map PyData.int).length))=some (decide (0<b.length));rw[A0]
 |_::_,[]=>rfl
 |x::a,y::b=>by
  show(if PyData.eqv (.int x) (.int y)=true then cU (a.map .int) (b.map .int)else some (decide (x<y)))=some (if x=y then lex a b else decide (x<y));rw[yK a b];by_cases e:x=y
  .rw[A4 e,A4 (show PyData.eqv (.int x) (.int y)=true by rw[e];exact beq_self_eq_true y)]
  .rw[B0 e,B0 (show ¬PyData.eqv (.int x) (.int y)=true from fun q=>e (beq_iff_eq.mp (show(x==y)=true from q)))]
theorem uH(l:List Int):(l.map PyData.int).all SeqAt.shaped=true:=by
 rw[List.all_map];exact List.all_eq_true.mpr fun _ _=>rfl
theorem aAU:ltX (.d (tR a)) (.d (tR b)) M=some (B (lex a b),M):=by
 show(if ((a.map PyData.int).all SeqAt.shaped&&(b.map PyData.int).all SeqAt.shaped)=true then(cU (a.map .int) (b.map .int)).bind fun c=>some (CD.d (.bool c),M)else none)=_;rw[uH,uH,yK];rfl
theorem LS{x:Int}(hd:aM d=some (l.map .int)):inD false (I x) (.d d) M=some (B (decide (x∈l)),M):=by
 show(aM d).bind _=_;rw[hd,A3,uH,A4 (show(SeqAt.shaped (PyData.int x)&&true)=true from rfl)]
 have:((l.map PyData.int).any fun d=>PyData.eqv d (.int x))=decide (x∈l):=by
  rw[List.any_map,L9,A0h,D9];constructor
  .intro ⟨y,hy,e⟩;have e:y=x:=beq_iff_eq.mp (show(y==x)=true from e)
   rwa [<- e]
  .intro h;exact⟨x,h,show(x==x)=true from beq_self_eq_true x⟩
 exact D4 (fun b=>some (B b,M)) this
noncomputable def nU(d:PyData):Option (List (List Int)):=(aM d).bind (DG fJ)
theorem lI{α β γ:Type}{f:α->Option β}{h:α->γ}{k:β->γ}(hk:∀x l,f x=some l->h x=k l):∀{ds:List α}{ls:List β},ds.map f=ls.map some->ds.map h=ls.map k
 |[],[]=>fun _=>rfl
 |[],_::_=>fun e=>by cases e
 |_::_,[]=>fun e=>by cases e
 |d::ds,l::ls=>fun e=>by
  rw[B6,B6,O0]at e;rw[B6,B6,hk d l e.1,lI hk e.2]
theorem vE{α β:Type}{f:α->Option β}{P:β->Prop}:∀{ds:List α},(∀x∈ds,∃l,f x=some l/\P l)->∃ls:List β,ds.map f=ls.map some/\∀l∈ls,P l
 |[]=>fun _=>⟨[],rfl,fun l h=>by simp at h⟩
 |d::ds=>fun h=>by
  obtain⟨l,e,hl⟩:=h d B2;obtain⟨ls,es,hs⟩:=vE fun x hx=>h x (B1 _ hx);refine⟨l::ls,by rw[B6,e,es];rfl,fun j hj=>?_⟩;rcases List.mem_cons.mp hj with rfl|hj
  .exact hl
  .exact hs j hj
theorem oO{α β:Type}{f:α->Option β}{ds:List α}{ls:List β}(e:ds.map f=ls.map some):(∀x∈ds,∃l∈ls,f x=some l)/\∀l∈ls,∃x∈ds,f x=some l:=by
 constructor
 .intro x hx;have:f x∈ds.map f:=List.mem_map.mpr ⟨x,hx,rfl⟩;rw[e]at this;obtain⟨l,hl,q⟩:=List.mem_map.mp this;exact⟨l,hl,q.symm⟩
 .intro l hl;have:some l∈ls.map some:=List.mem_map.mpr ⟨l,hl,rfl⟩;rw[<- e]at this;obtain⟨x,hx,q⟩:=List.mem_map.mp this;exact⟨x,hx,q⟩
theorem aEr{l:List Int}(hd:aM d=some (l.map .int))(h:∀p∈l,0<=p/\p<=1000)(hl:l.length<=900):vZ [.d d] M=some (I (bn l:Nat),M):=by
 have it:bE (aB 0) [some (.d d)] M=some (l.map (fun p=>I p),M):=by
  rw[jA (f:=aB 0) (γ:=[some (.d d)]) (M:=M) rfl hd,C8];rfl
 have lc:=qL (i:=0) (e:=fOp aDg (fC (.int 1)) (aB 0)) (γ0:=[none]) (M:=M) (fun p:Int=>I p) (fun p=>.int ((2 ^ p.toNat:Nat):Int)) l fun p hp=>by
  have ok:zH 1 p=true:=by
   unfold zH;rw[C5 (h p hp).1,C5 (show p<=1000000 by have:=(h p hp).2;omega)];rfl
  refine aU (c:=I ((2 ^ p.toNat:Nat):Int)) rfl rfl ?_;show(ifS (zH 1 p) (.int (1*2 ^ p.toNat))).bind _=_;rw[ok,Int.one_mul,Int.natCast_pow];rfl
 have c:zP [some (.d d)] M=some (.d (.list (l.map fun p=>.int ((2 ^ p.toNat:Nat):Int))),M):=by
  unfold zP;exact lB it (by rw[A0];omega) lc (by rw[A0];omega)
 have s:sumF [.d (.list (l.map fun p=>.int ((2 ^ p.toNat:Nat):Int)))] M=some (I (bn l:Nat),M):=by
  show(cR (l.map fun p=>PyData.int ((2 ^ p.toNat:Nat):Int))).bind _=_;rw[show(l.map fun p=>PyData.int ((2 ^ p.toNat:Nat):Int))=(l.map fun p=>((2 ^ p.toNat:Nat):Int)).map .int by rw[C8];rfl,A0n,A3];refine D4 (fun z:Int=>some (I z,M)) ?_;unfold bn;clear it lc c hd h hl
  induction l with
  |nil=>rfl
  |cons p l ih=>rw[B6,B6,List.sum_cons,List.sum_cons,ih,Int.natCast_add]
 exact eG rfl (cP (aO (aH c aN) s))
theorem NF(a b:Nat)(M:Sto):zM (I (a:Int)) (I (b:Int)) M=some (I ((a &&& b:Nat):Int),M):=by
 show some (CD.d (.int (Builtin.bitAnd (a:Int) (b:Int))),M)=_;unfold Builtin.bitAnd;rw[C5 (A0s a),C5 (A0s b)];rfl
theorem FQ{ps:List (List Int)}(ua:Up a)(na:Nn a)(hp:∀b∈ps,Up b/\Nn b)(hl:ps.length<=900):lN [I (bn a:Nat),.d (.list (ps.map fun l=>.int (bn l:Nat)))] M=some (B (pd (∃b∈ps,¬Lm a b)),M):=by
 have it:bE (aB 1) [some (I (bn a:Nat)),some (.d (.list (ps.map fun l=>.int (bn l:Nat))))] M=some (ps.map (fun l=>I (bn l:Nat)),M):=by
  rw[jA (f:=aB 1) (d:=.list (ps.map fun l=>.int (bn l:Nat))) (M:=M) rfl rfl,C8];rfl
 have lc:=qL (i:=1) (e:=fOp (inD true) (fOp zM (aB 0) (aB 1)) (bK (aA (fC (.int 0)) (aA (aB 0) (aA (aB 1) aE))))) (γ0:=[some (I (bn a:Nat)),none]) (M:=M) (fun l:List Int=>I (bn l:Nat)) (fun l=>.bool (pd (¬Lm a l))) ps fun b hb=>by
  obtain⟨ub,nb⟩:=hp b hb
  have t:bK (aA (fC (.int 0)) (aA (aB 0) (aA (aB 1) aE))) [some (I (bn a:Nat)),some (I (bn b:Nat))] M=some (.d (.tuple [.int 0,.int (bn a:Nat),.int (bn b:Nat)]),M):=by
   show(if 3<=sizeLine then some (CD.d (.tuple [.int 0,.int (bn a:Nat),.int (bn b:Nat)]),M)else none)=_;rw[A4 (sz (by decide))]
  refine aU (c:=B (pd (¬Lm a b))) (aU rfl rfl (NF (bn a) (bn b) M)) t ?_
  have e:(!(((0:Int)==((bn a &&& bn b:Nat):Int)) || ((((bn a:Nat):Int)==((bn a &&& bn b:Nat):Int)) || ((((bn b:Nat):Int)==((bn a &&& bn b:Nat):Int)) || false))))=pd (¬Lm a b):=by
   refine gO ?_;have c:=Nat.and_comm (bn a) (bn b);rw[Y7,A0l,A0l,Bool.or_false,Z6,Z6,Z6];have h1:=aAz ua ub na nb;have h2:=xX ua ub na nb;have h3:=xX ub ua nb na;rw[<- c]at h3;constructor
   .intro ⟨q1,q2,q3⟩ h;rcases h with h|h|h
    .exact q2 (by rw[h2.mpr h])
    .exact q3 (by rw[h3.mpr h])
    .exact q1 (by rw[h1.mpr h];rfl)
   .intro h;refine⟨fun q=>h (.inr (.inr (h1.mp ?_))),fun q=>h (.inl (h2.mp ?_)),fun q=>h (.inr (.inl (h3.mp ?_)))⟩<;>omega
  rw[<- e];rfl
 have c:mB [some (I (bn a:Nat)),some (.d (.list (ps.map fun l=>.int (bn l:Nat))))] M=some (.d (.list (ps.map fun l=>.bool (pd (¬Lm a l)))),M):=by
  unfold mB;exact lB it (by rw[A0];omega) lc (by rw[A0];omega)
 have an:=any_map' (f:=fun l=>pd (¬Lm a l)) (ds:=ps) (M:=M);refine eG rfl (cP (aO (aH c aN) (an.trans (D4 (fun b=>some (B b,M)) (gO ?_)))));rw[A0h];exact⟨fun⟨b,hb,h⟩=>⟨b,hb,pd_iff.mp h⟩,fun⟨b,hb,h⟩=>⟨b,hb,pd_iff.mpr h⟩⟩
theorem DS{α:Type}{g:GF}{b:SF}{M:Sto}{y:CD}{f:α->CD}{Ok:α->Prop}{Sh:Ga->Prop}:∀(xs:List α)(γ:Ga),Sh γ->
 (∀x∈xs,∀γ,Sh γ->∃γ1,g (f x) γ M=some (γ1,M)/\(Ok x->∃γ2,b γ1 M=some (.nx γ2,M)/\Sh γ2)/\(¬Ok x->b γ1 M=some (.rt y,M)))->
 ((∀x∈xs,Ok x)->∃γ',jT g b (xs.map f) γ M=some (.nx γ',M)/\Sh γ')/\((¬∀x∈xs,Ok x)->jT g b (xs.map f) γ M=some (.rt y,M))
 |[]=>fun γ h _=>⟨fun _=>⟨γ,rfl,h⟩,fun n=>absurd (fun x hx=>by simp at hx) n⟩
 |x::xs=>fun γ h st=>by
  obtain⟨γ1,e1,h1,h2⟩:=st x B2 γ h;rcases E8 (Ok x)with p|p
  .obtain⟨γ2,e2,s2⟩:=h1 p;obtain⟨r1,r2⟩:=DS xs γ2 s2 fun z hz=>st z (B1 _ hz);rw[B6,eK e1 e2];refine⟨fun a=>r1 fun z hz=>a z (B1 _ hz),fun n=>r2 fun a=>n fun z hz=>?_⟩;rcases List.mem_cons.mp hz with rfl|hz
   .exact p
   .exact a z hz
  .exact⟨fun a=>absurd (a x B2) p,fun _=>EO e1 (h2 p)⟩
theorem HZ{α:Type}{f:α->PyData}{x0:α}(ls:List α):sR (ls.map f)=(List.range ls.length).map fun j:Nat=>.d (.tuple [.int (j:Nat),f (ls.getD j x0)]):=by
 unfold sR;refine A0d fun i=>?_;rw[C4,List.getElem?_zipIdx,C4,C4];by_cases h:i<ls.length
 .rw[A8 h,Z4 h];show some (CD.d (.tuple [.int ((0+i:Nat):Int),f ls[i]]))=some (CD.d (.tuple [.int ((i:Nat):Int),f (ls.getD i x0)]));rw[show ls.getD i x0=ls[i]by rw[A6,A8 h];rfl,Nat.zero_add]
 .rw[Y6 (by omega),Y6 (by rw[E9];omega)];rfl
theorem oF{α:Type}(ds:List α)(j:Nat)(h:j<=ds.length):gN ds none (some (j:Int))=ds.take j:=by
 unfold gN;rw[HT.sIx_none,HT.sIx_nat];rw[Nat.min_eq_left h,List.drop_zero,Nat.sub_zero]
theorem YC{x y:PyData}:pA 2 (cT (hName i) (cT (hName j) nG)) (.d (.tuple [x,y])) γ M=some ((γ.set i (some (.d x))).set j (some (.d y)),M):=rfl
noncomputable def zB(l:List Int):PyData:=.int (bn l:Nat)
theorem Lm.refl(a:List Int):Lm a a:=.inl fun _ h=>h
theorem VF{ls:List (List Int)}:(∀j,j<ls.length->∀b∈ls.take j,Lm (la ls j) b)↔∀a∈ls,∀b∈ls,Lm a b:=by
 constructor
 .intro h a ha b hb;obtain⟨i,hi,rfl⟩:=LG ha;obtain⟨j,hj,rfl⟩:=LG hb
  have mem:∀{i j:Nat},i<j->j<ls.length->la ls i∈ls.take j:=fun{i j} h1 h2=>by
   refine List.mem_iff_getElem?.mpr ⟨i,?_⟩;rw[List.getElem?_take_of_lt h1,la,A6,A8 (by omega)];rfl
  rcases Nat.lt_trichotomy i j with q|q|q
  .exact(h j hj _ (mem q hj)).symm
  .rw[q];exact Lm.refl _
  .exact h i hi _ (mem q hi)
 .intro h j hj b hb;exact h _ (fG hj) _ (U5 hb)
theorem GZ{ls:List (List Int)}(hu:∀l∈ls,Up l/\Nn l)(hl:ls.length<=900):mS [.d (.list (ls.map zB))] M=some (B (pd (¬∀a∈ls,∀b∈ls,Lm a b)),M):=by
 have it:wK (aA (aB 0) aE) [some (.d (.list (ls.map zB))),none,none] M=some ((List.range ls.length).map (fun j:Nat=>.d (.tuple [.int (j:Nat),zB (la ls j)])),M):=by
  show some (sR (ls.map zB),M)=_;rw[HZ (x0:=[]) ls]
 obtain⟨r1,r2⟩:=DS (g:=pA 2 (cT (hName 1) (cT (hName 2) nG))) (b:=kE) (M:=M) (y:=B true) (f:=fun j:Nat=>.d (.tuple [.int (j:Nat),zB (la ls j)])) (Ok:=fun j=>∀b∈ls.take j,Lm (la ls j) b) (Sh:=fun γ=>∃a b,γ=[some (.d (.list (ls.map zB))),a,b]) (List.range ls.length) [some (.d (.list (ls.map zB))),none,none] ⟨_,_,rfl⟩ (by
  intro j hj γ ⟨a,b,e⟩;subst e;have hj:=List.mem_range.mp hj;refine⟨[some (.d (.list (ls.map zB))),some (I j),some (.d (zB (la ls j)))],YC,?_⟩;have ul:=hu _ (fG hj)
  have sl:fSl (aB 0) aV (aY (aB 1)) [some (.d (.list (ls.map zB))),some (I j),some (.d (zB (la ls j)))] M=some (.d (.list ((ls.take j).map zB)),M):=by
   show some (CD.d (.list (gN (ls.map zB) none (some (j:Int)))),M)=_;rw[oF _ _ (by rw[A0];omega),List.map_take]
  have c:=FQ (a:=la ls j) (ps:=ls.take j) (M:=M) ul.1 ul.2 (fun b hb=>hu b (U5 hb)) (by rw[F6];omega);have t:gB (aF lN (aA (aB 2) (aA (fSl (aB 0) aV (aY (aB 1))) aE))) [some (.d (.list (ls.map zB))),some (I j),some (.d (zB (la ls j)))] M=some (pd (∃b∈ls.take j,¬Lm (la ls j) b),M):=bV (aO (aH rfl (aH sl aN)) c);constructor
  .intro ok;refine⟨[some (.d (.list (ls.map zB))),some (I j),some (.d (zB (la ls j)))],?_,_,_,rfl⟩;rw[gI fun⟨b,hb,n⟩=>n (ok b hb)]at t;unfold kE;rw[fY t];rfl
  .intro no;have ex:∃b∈ls.take j,¬Lm (la ls j) b:=D8 fun q=>no fun b hb=>D8 fun n=>q ⟨b,hb,n⟩;rw[kT ex]at t;unfold kE;rw[iC t];rfl)
 have iff:(∀j∈List.range ls.length,∀b∈ls.take j,Lm (la ls j) b)↔∀a∈ls,∀b∈ls,Lm a b:=by
  rw[<- VF];exact⟨fun h j hj=>h j (List.mem_range.mpr hj),fun h j hj=>h j (List.mem_range.mp hj)⟩
 refine eG rfl ?_;show aW _ _ [some (.d (.list (ls.map zB))),none,none] M=_;rcases E8 (∀a∈ls,∀b∈ls,Lm a b)with p|p
 .obtain⟨γ',e,_⟩:=r1 (iff.mpr p);rw[aR (dO it e),gI fun q=>q p];rfl
 .rw[jP (dO it (r2 fun q=>p (iff.mp q))),kT p]
structure LnP(n:Int)(ls:List (List Int)):Prop where
 lk:∀l∈ls,LkP n l
 ris:ls.Pairwise fun a b=>lex a b=true
 lam:∀a∈ls,∀b∈ls,Lm a b
theorem LnP.fam{ls:List (List Int)}(h:LnP n ls):Fam ls:=
 ⟨fun l hl=>(h.lk l hl).up,fun l hl=>(h.lk l hl).ne,fun l hl x hx=>by have:=(h.lk l hl).io x hx;omega,h.lam,h.ris.imp fun{a b} q e=>by rw[e,LK]at q;cases q⟩
noncomputable def LnD(n:Int)(d:PyData):Prop:=∃ls,nU d=some ls/\LnP n ls
noncomputable def Wi:Nat->PyData->Prop
 |0,_=>True
 |m+1,d=>∀ds,aM d=some ds->ds.length<64/\∀x∈ds,Wi m x
theorem EL{l:List Int}(u:Up l)(h:∀p∈l,1<=p/\p<n)(hn:n<=40):l.length<=40:=by
 have:=U9 (l₁:=l) (l₂:=(List.range 40).map fun k:Nat=>(k:Int)) (rY u) fun x hx=>by
  have:=h x hx;exact List.mem_map.mpr ⟨x.toNat,List.mem_range.mpr (by omega),by omega⟩
 rw[A0,E9]at this;exact this
theorem linksI_iff{ls:List (List Int)}:nU d=some ls↔∃ds,aM d=some ds/\ds.map fJ=ls.map some:=by
 unfold nU;rw[Option.bind_eq_some_iff];exact⟨fun⟨ds,h1,h2⟩=>⟨ds,h1,allO_iff.mp h2⟩,fun⟨ds,h1,h2⟩=>⟨ds,h1,allO_iff.mpr h2⟩⟩
theorem aCl{x:PyData}(h:fJ x=some l):cM [.d x] M=some (.d (tR l),M):=by
 have h:=rowI_iff.mp h;cases x with
 |list xs=>cases h;rfl
 |tuple xs=>cases h;rfl
 |_=>cases h
theorem FA{cap:List (Option Nat)}{ls:List (List Int)}(hi:(mL cap γ)[i]?=some none)(hf:f γ M=some (.d d,M))(hd:aM d=some ds)(e:ds.map fJ=ls.map some)(hl:ds.length<=900):
 fLc cap (bE f) (hName i) eR (aF cM (aA (aB i) aE)) γ M=some (.d (.list (ls.map tR)),M):=by
 have m:=EC (i:=i) (cap:=cap) (e:=aF cM (aA (aB i) aE)) (h:=fun x=>match fJ x with|some l=>tR l|none=>.none) hf hd hl fun x hx=>by
  obtain⟨l,_,q⟩:=(oO e).1 x hx;refine aO (aH (hG (x:=.d x) ?_) aN) ?_
  .rw[E6 (List.getElem?_eq_some_iff.mp hi).1]
  .rw[aCl q,q]
 rw[m,lI (k:=tR) (fun x l q=>by rw[q]) e]
theorem EA{cap:List (Option Nat)}{ls:List (List Int)}(hi:(mL cap γ)[i]?=some none)(hf:f γ M=some (.d d,M))(hd:aM d=some ds)(e:ds.map fJ=ls.map some)(hl:ds.length<=900)(hk:∀l∈ls,LkP n l)(hn:n<=40):
 fLc cap (bE f) (hName i) eR (aF vZ (aA (aB i) aE)) γ M=some (.d (.list (ls.map zB)),M):=by
 have m:=EC (i:=i) (cap:=cap) (e:=aF vZ (aA (aB i) aE)) (h:=fun x=>match fJ x with|some l=>zB l|none=>.none) hf hd hl fun x hx=>by
  obtain⟨l,h,q⟩:=(oO e).1 x hx;have k:=hk l h;refine aO (aH (hG (x:=.d x) ?_) aN) ?_
  .rw[E6 (List.getElem?_eq_some_iff.mp hi).1]
  .rw[aEr (rowI_iff.mp q) (fun p hp=>by have:=k.io p hp;omega) (by have:=EL k.up k.io hn;omega),q];rfl
 rw[m,lI (k:=zB) (fun x l q=>by rw[q]) e]
theorem wM{ds:List PyData}(hd:aM d=some ds)(h:∀x∈ds,LkD n x):∃ls,nU d=some ls/\ds.map fJ=ls.map some/\∀l∈ls,LkP n l:=by
 obtain⟨ls,e,hk⟩:=vE (f:=fJ) (P:=LkP n) h;exact⟨ls,linksI_iff.mpr ⟨ds,hd,e⟩,e,hk⟩
theorem oU{α β:Type}{f:α->Option β}{ds:List α}{ls:List β}(e:ds.map f=ls.map some):ls.length=ds.length:=by
 have:=D4 List.length e;rw[A0,A0]at this;exact this.symm
theorem IB(hn:n<=40)(hw:Wi 2 d):kQ [I n,.d d] M=some (B (pd (LnD n d)),M):=by
 have c:gOr (cB (gB (aF gK (aA (aB 1) aE)))) (cB (gB (aF mN (aA nX aE)))) [some (I n),some (.d d)] M=some (pd ((¬∃ds,aM d=some ds)\/¬∃ds,aM d=some ds/\∀x∈ds,LkD n x),M):=by
  refine yL (eY (bV ?_)) fun h=>eY (bV ?_)
  .rw[<- pQ];exact tX d M
  .rw[Y8]at h;obtain⟨ds,hd⟩:=h;obtain⟨hl,hx⟩:=hw ds hd;have a:=zN (i:=1) (cap:=[some 0,none]) (f:=aB 1) (e:=aF nY (aA (aB 0) (aA (aB 1) aE))) (γ:=[some (I n),some (.d d)]) (M:=M) rfl hd (by omega) (P:=LkD n) fun x hx'=>QG (d:=x) (M:=M) fun xs hxs=>by have:=((hx x hx') xs hxs).1;omega
   rw[show nX=fLc [some 0,none] (bE (aB 1)) (hName 1) eR (aF nY (aA (aB 0) (aA (aB 1) aE)))from rfl,a];exact D4 (fun b=>some (B b,M)) (cA ⟨fun h=>⟨ds,hd,h⟩,fun⟨es,h1,h2⟩=>by rw[hd]at h1;cases h1;exact h2⟩)
 refine eG rfl ?_;show aW _ _ [some (I n),some (.d d)] M=_;rcases E8 ((¬∃ds,aM d=some ds)\/¬∃ds,aM d=some ds/\∀x∈ds,LkD n x)with p|p
 .rw[lF c p];refine D4 (fun b=>some (Out.rt (B b),M)) (gI fun⟨ls,e,k⟩=>?_).symm;obtain⟨ds,hd,e⟩:=linksI_iff.mp e;refine p.elim (fun q=>q ⟨ds,hd⟩) fun q=>q ⟨ds,hd,fun x hx=>?_⟩;obtain⟨l,hl,q⟩:=(oO e).1 x hx;exact⟨l,q,k.lk l hl⟩
 .rw[lJ c p];have p2:∃ds,aM d=some ds/\∀x∈ds,LkD n x:=D8 fun q=>p (.inr q);obtain⟨ds,hd,hx⟩:=p2;obtain⟨ls,el,e,hk⟩:=wM hd hx;have hl:ds.length<=900:=by have:=(hw ds hd).1;omega
  have hl2:ls.length<=900:=by rw[oU e];exact hl
  have t:=FA (i:=0) (cap:=[none]) (f:=aB 1) (γ:=[some (I n),some (.d d)]) (M:=M) rfl rfl hd e hl;have bt:=EA (i:=0) (cap:=[none]) (f:=aB 1) (γ:=[some (I n),some (.d d)]) (M:=M) rfl rfl hd e hl hk hn
  have r1:aF eF (aA rX aE) [some (I n),some (.d d)] M=some (B (pd (ls.Pairwise fun a b=>lex a b=true)),M):=by
   refine aO (aH t aN) ?_;rw[xC (f:=tR) (lt:=lex) (fun a b=>aAU) (d:=.list (ls.map tR)) rfl hl2];exact D4 (fun b=>some (B b,M)) (gO (KD wH ls))
  have r2:FE (aF mS (aA sT aE)) [some (I n),some (.d d)] M=some (B (pd (¬¬∀a∈ls,∀b∈ls,Lm a b)),M):=by
   refine YZ (aO (aH bt aN) ?_);exact GZ (fun l h=>⟨(hk l h).up,fun x hx=>by have:=(hk l h).io x hx;omega⟩) hl2
  rw[cP (tP r1 fun _=>r2)];refine D4 (fun b=>some (Out.rt (B b),M)) (cA ⟨fun⟨h1,h2⟩=>⟨ls,el,hk,h1,Classical.not_not.mp h2⟩,fun⟨ms,e2,k⟩=>?_⟩);rw[el]at e2;cases e2;exact⟨k.ris,Classical.not_not.mpr k.lam⟩
theorem QL{α:Type}{cap:List (Option Nat)}{xs:List α}{f:α->CD}{p:α->Bool}(it:fi γ M=some (xs.map f,M))(hl:xs.length<=900)(he:∀x∈xs,e ((mL cap γ).set i (some (f x))) M=some (B (p x),M)):
 aF anyF (aA (fLc cap fi (hName i) eR e) aE) γ M=some (B (xs.any p),M):=
 aO (aH (lB (cap:=cap) it (by rw[A0];omega) (qL (γ0:=mL cap γ) f (fun x=>.bool (p x)) xs he) (by rw[A0];omega)) aN) any_map'
theorem aCw{α:Type}{cap:List (Option Nat)}{xs:List α}{f:α->CD}{p:α->Bool}(it:fi γ M=some (xs.map f,M))(hl:xs.length<=900)(he:∀x∈xs,e ((mL cap γ).set i (some (f x))) M=some (B (p x),M)):
 aF mN (aA (fLc cap fi (hName i) eR e) aE) γ M=some (B (xs.all p),M):=
 aO (aH (lB (cap:=cap) it (by rw[A0];omega) (qL (γ0:=mL cap γ) f (fun x=>.bool (p x)) xs he) (by rw[A0];omega)) aN) all_map'
theorem KW{b c:Bool}(h:f γ M=some (B b,M))(hg:g γ M=some (B c,M)):fN f g γ M=some (B (b&&c),M):=by
 unfold fN;rw[h,A3];dsimp only[asB];rw[A3];cases b with
 |true=>rw[A4 rfl,hg,A0j]
 |false=>rw[B0 A9,Bool.false_and]
theorem aDN:eX aE γ M=some (.d (.list []),M):=by
 show(if 0<=sizeLine then some (CD.d (.list []),M)else none)=_;rw[A4 (F9 _)]
theorem ne_nil{c:List Int}:eqX true (.d (.list (c.map .int))) (.d (.list [])) M=some (B (!c.isEmpty),M):=by
 show(if (SeqAt.shaped (.list (c.map .int))&&SeqAt.shaped (.list []))=true then some (CD.d (.bool (!PyData.eqv (.list (c.map .int)) (.list []))),M)else none)=_;rw[nN,show SeqAt.shaped (.list [])=true from rfl,A4 (show(true&&true)=true from rfl)];cases c<;>rfl
theorem aBh(h:γ[i]?=some (some (.d (tR l)))):bE (aB i) γ M=some (l.map (fun p=>I p),M):=by
 rw[jA (hG h) (show aM (tR l)=some (l.map .int)from rfl),C8];rfl
theorem wI:bW [.d (tR l)] M=some (I l.length,M):=by
 show some (CD.d (.int ((l.map PyData.int).length:Nat)),M)=_;rw[A0]
theorem OP(hl:a.length<=900):iU [.d (tR a),.d (tR b)] M=some (B (crs a b),M):=by
 have lc:=JR (i:=1) (c:=gB (fOp (inD false) (aB 1) (aB 0))) (e:=aB 1) (γ0:=[some (.d (tR b)),none]) (M:=M) (fun x:Int=>I x) (fun x=>decide (x∈b)) (fun x=>.int x) a [some (.d (tR b)),none] (fun _=>rfl) fun x hx=>⟨bV (aU rfl rfl (LS rfl)),fun _=>rfl⟩
 have c:jQ [some (.d (tR a)),some (.d (tR b)),none] M=some (.d (.list ((a.filter fun x=>decide (x∈b)).map .int)),M):=by
  unfold jQ;refine lB (aBh (i:=0) rfl) (by rw[A0];omega) lc ?_;have:=S8 (fun x=>decide (x∈b)) a;rw[A0];omega
 have lc':bW [.d (.list ((a.filter fun x=>decide (x∈b)).map .int))] M=some (I (a.filter fun x=>decide (x∈b)).length,M):=by
  rw[fQ (ds:=(a.filter fun x=>decide (x∈b)).map .int) rfl,A0]
 refine eG rfl ?_;show aW _ _ [some (.d (tR a)),some (.d (tR b)),none] M=_;rw[aR (bR (i:=2) c)];refine(cP (KW (aU rfl aDN ne_nil) (KW (aU (aO (aH rfl aN) lc') (aO (aH rfl aN) wI) rfl) (aU (aO (aH rfl aN) lc') (aO (aH rfl aN) wI) rfl)))).trans ?_;unfold crs;rw[show decide (((a.filter fun x=>decide (x∈b)).length:Int)<(a.length:Int))=decide ((a.filter fun x=>decide (x∈b)).length<a.length)from decide_eq_decide.mpr (by omega),show decide (((a.filter fun x=>decide (x∈b)).length:Int)<(b.length:Int))=decide ((a.filter fun x=>decide (x∈b)).length<b.length)from decide_eq_decide.mpr (by omega)]
theorem FD(hl:b.length<=900):cZ [.d (tR a),.d (tR b)] M=some (B (hold a b),M):=by
 have al:=aCw (i:=1) (cap:=[some 0,none]) (e:=fOp (inD false) (aB 1) (aB 0)) (γ:=[some (.d (tR a)),some (.d (tR b))]) (M:=M) (f:=fun x:Int=>I x) (p:=fun x=>decide (x∈a)) (aBh (i:=1) rfl) hl fun x hx=>aU rfl rfl (LS rfl);refine eG rfl ((cP (KW (aU (aO (aH rfl aN) wI) (aO (aH rfl aN) wI) rfl) al)).trans ?_);unfold hold;rw[show decide ((b.length:Int)<(a.length:Int))=decide (b.length<a.length)from decide_eq_decide.mpr (by omega)]
noncomputable abbrev lR(ls:List (List Int)):PyData:=.list (ls.map tR)
theorem aBu{ls:List (List Int)}(h:j<ls.length):atI (ls.map tR) (j:Int)=some (tR (la ls j)):=by
 refine jC ?_;rw[C4,A8 h,la,A6,A8 h];rfl
theorem qS{ls:List (List Int)}(h:j<ls.length):ixF (.d (lR ls)) (I j) M=some (.d (tR (la ls j)),M):=iE (ds:=ls.map tR) rfl (aBu h)
theorem aBb{ls:List (List Int)}(h:γ[i]?=some (some (.d (lR ls)))):bE (aB i) γ M=some (ls.map (fun l=>.d (tR l)),M):=by
 rw[jA (hG h) (show aM (lR ls)=some (ls.map tR)from rfl),C8];rfl
theorem EN{ls:List (List Int)}:bW [.d (lR ls)] M=some (I ls.length,M):=by
 show some (CD.d (.int ((ls.map tR).length:Nat)),M)=_;rw[A0]
theorem YS{n:Nat}(h:fa γ M=some ([I n],M))(hn:n<=900):gZ fa γ M=some ((List.range n).map (fun j:Nat=>I j),M):=by
 rw[vN h (rW (by omega) (by omega)),E4];unfold kP;refine D4 (fun z=>some (z,M)) (Z5 fun k _=>?_);show I (0+(k:Int))=I k;rw[Int.zero_add]
theorem pw_adj{ls:List (List Int)}:(ls.Pairwise fun a b=>lex a b=true)↔∀j,j<ls.length->0<j->lex (la ls (j-1)) (la ls j)=true:=by
 have get:∀{j}(h:j<ls.length),la ls j=ls[j]:=fun{j} h=>by rw[la,A6,A8 h];rfl
 constructor
 .intro h j hj h0;rw[get hj,get (show j-1<ls.length by omega)];exact List.pairwise_iff_getElem.mp h _ _ _ _ (by omega)
 .intro h
  have st:∀(m i:Nat),i+m+1<ls.length->lex (la ls i) (la ls (i+m+1))=true:=by
   intro m
   induction m with
   |zero=>intro i hi;exact h (i+1) (by omega) (by omega)
   |succ m ih=>intro i hi;exact wH _ _ _ (ih i (by omega)) (h (i+(m+1)+1) hi (by omega))
  rw[List.pairwise_iff_getElem];intro i j hi hj hij;have:=st (j-i-1) i (by omega);rw[show i+(j-i-1)+1=j by omega,get hi,get hj]at this;exact this
theorem xP(hn:n<=40)(hw:Wi 2 d):gV [I n,.d d] M=some (B (pd (LnD n d)),M):=by
 have c:gOr (cB (gB (aF bJ (aA (aB 1) aE)))) (cB (gB (aF mN (aA iL aE)))) [some (I n),some (.d d),none,none] M=some (pd ((¬∃ds,aM d=some ds)\/¬∃ds,aM d=some ds/\∀x∈ds,LkD n x),M):=by
  refine yL (eY (bV ?_)) fun h=>eY (bV ?_)
  .rw[<- pQ];exact vA d M
  .rw[Y8]at h;obtain⟨ds,hd⟩:=h;obtain⟨hl,hx⟩:=hw ds hd;have a:=zN (i:=1) (cap:=[some 0,none]) (f:=aB 1) (e:=aF iB (aA (aB 0) (aA (aB 1) aE))) (γ:=[some (I n),some (.d d),none,none]) (M:=M) rfl hd (by omega) (P:=LkD n) fun x hx'=>aEJ (d:=x) (M:=M);rw[show iL=fLc [some 0,none] (bE (aB 1)) (hName 1) eR (aF iB (aA (aB 0) (aA (aB 1) aE)))from rfl,a];exact D4 (fun b=>some (B b,M)) (cA ⟨fun h=>⟨ds,hd,h⟩,fun⟨es,h1,h2⟩=>by rw[hd]at h1;cases h1;exact h2⟩)
 refine eG rfl ?_;show aW _ _ [some (I n),some (.d d),none,none] M=_;rcases E8 ((¬∃ds,aM d=some ds)\/¬∃ds,aM d=some ds/\∀x∈ds,LkD n x)with p|p
 .rw[lF c p];refine D4 (fun b=>some (Out.rt (B b),M)) (gI fun⟨ls,e,k⟩=>?_).symm;obtain⟨ds,hd,e⟩:=linksI_iff.mp e;refine p.elim (fun q=>q ⟨ds,hd⟩) fun q=>q ⟨ds,hd,fun x hx=>?_⟩;obtain⟨l,hl,q⟩:=(oO e).1 x hx;exact⟨l,q,k.lk l hl⟩
 .rw[lJ c p];have p2:∃ds,aM d=some ds/\∀x∈ds,LkD n x:=D8 fun q=>p (.inr q);obtain⟨ds,hd,hx⟩:=p2;obtain⟨ls,el,e,hk⟩:=wM hd hx;have hl:ds.length<=900:=by have:=(hw ds hd).1;omega
  have hl2:ls.length<=900:=by rw[oU e];exact hl
  have t:=FA (i:=0) (cap:=[none]) (f:=aB 1) (γ:=[some (I n),some (.d d),none,none]) (M:=M) rfl rfl hd e hl;rw[aR (bR (i:=2) (show mF [some (I n),some (.d d),none,none] M=some (.d (lR ls),M)from t))];show aW _ _ [some (I n),some (.d d),some (.d (lR ls)),none] M=_;have it:gZ (aA (aF bW (aA (aB 2) aE)) aE) [some (I n),some (.d d),some (.d (lR ls)),none] M=some ((List.range ls.length).map (fun j:Nat=>I j),M):=YS (aH (aO (aH rfl aN) EN) aN) hl2
  obtain⟨r1,r2⟩:=DS (g:=hName 3) (b:=iM) (M:=M) (y:=B false) (f:=fun j:Nat=>I j) (Ok:=fun j=>(0<j->lex (la ls (j-1)) (la ls j)=true)/\∀l∈ls,Lm (la ls j) l) (Sh:=fun γ=>∃a,γ=[some (I n),some (.d d),some (.d (lR ls)),a]) (List.range ls.length) [some (I n),some (.d d),some (.d (lR ls)),none] ⟨_,rfl⟩ (by
   intro j hj γ ⟨a,e⟩;subst e;have hj:=List.mem_range.mp hj;refine⟨[some (I n),some (.d d),some (.d (lR ls)),some (I j)],rfl,?_⟩;have uj:=hk _ (fG hj);have lj:=EL uj.up uj.io hn
   have t1:mE (gB (fOp gtI (aB 3) (fC (.int 0)))) (cB (gB (fOp ltX (fOp ixF (aB 2) (fOp BB (aB 3) (fC (.int 1)))) (fOp ixF (aB 2) (aB 3))))) [some (I n),some (.d d),some (.d (lR ls)),some (I j)] M=some (pd (0<j/\¬lex (la ls (j-1)) (la ls j)=true),M):=by
    refine YM (bV ?_) fun h=>eY (bV ?_)
    .rw[aU rfl rfl RC];exact D4 (fun b=>some (B b,M)) (gO (by rw[D9];omega))
    .have sb:fOp BB (aB 3) (fC (.int 1)) [some (I n),some (.d d),some (.d (lR ls)),some (I j)] M=some (I (j-1:Nat),M):=by
      show some (I ((j:Int)-1),M)=_;rw[show((j:Int)-1)=((j-1:Nat):Int)by omega]
     rw[aU (aU rfl sb (qS (j:=j-1) (by omega))) (aU rfl rfl (qS hj)) aAU];exact D4 (fun b=>some (B b,M)) (gO Iff.rfl)
   have t2:gB (aF anyF (aA mJ aE)) [some (I n),some (.d d),some (.d (lR ls)),some (I j)] M=some (pd (∃l∈ls,¬Lm (la ls j) l),M):=by
    have an:=QL (i:=2) (cap:=[some 2,some 3,none]) (e:=aF iU (aA (fOp ixF (aB 0) (aB 1)) (aA (aB 2) aE))) (γ:=[some (I n),some (.d d),some (.d (lR ls)),some (I j)]) (M:=M) (f:=fun l=>.d (tR l)) (p:=fun l=>crs (la ls j) l) (aBb (i:=2) rfl) hl2 fun l hl=>aO (aH (aU rfl rfl (qS hj)) (aH rfl aN)) (OP (by omega));refine(bV an).trans (D4 (fun b=>some (b,M)) (gO ?_));rw[A0h];exact⟨fun⟨l,h1,h2⟩=>⟨l,h1,(LM uj.up (hk l h1).up).mp h2⟩,fun⟨l,h1,h2⟩=>⟨l,h1,(LM uj.up (hk l h1).up).mpr h2⟩⟩
   unfold iM;rcases E8 (0<j/\¬lex (la ls (j-1)) (la ls j)=true)with q|q
   .exact⟨fun ok=>absurd (ok.1 q.1) q.2,fun _=>lF t1 q⟩
   .rw[lJ t1 q];have q':0<j->lex (la ls (j-1)) (la ls j)=true:=fun h=>D8 fun z=>q ⟨h,z⟩;rcases E8 (∃l∈ls,¬Lm (la ls j) l)with r|r
    .obtain⟨l,h1,h2⟩:=r;rw[kT ⟨l,h1,h2⟩]at t2;exact⟨fun ok=>absurd (ok.2 l h1) h2,fun _=>by rw[iC t2];rfl⟩
    .rw[gI r]at t2;refine⟨fun _=>⟨[some (I n),some (.d d),some (.d (lR ls)),some (I j)],by rw[fY t2];rfl,_,rfl⟩,fun no=>absurd ⟨q',fun l h1=>D8 fun z=>r ⟨l,h1,z⟩⟩ no⟩)
  have iff:(∀j∈List.range ls.length,(0<j->lex (la ls (j-1)) (la ls j)=true)/\∀l∈ls,Lm (la ls j) l)↔LnD n d:=by
   constructor
   .intro h;refine⟨ls,el,hk,pw_adj.mpr fun j hj=>(h j (List.mem_range.mpr hj)).1,fun a ha b hb=>?_⟩;obtain⟨j,hj,rfl⟩:=LG ha;exact(h j (List.mem_range.mpr hj)).2 b hb
   .intro ⟨ms,e2,k⟩ j hj;rw[el]at e2;cases e2;have hj:=List.mem_range.mp hj;exact⟨fun h0=>pw_adj.mp k.ris j hj h0,fun l hl=>k.lam _ (fG hj) l hl⟩
  rcases E8 (LnD n d)with q|q
  .obtain⟨γ',e,_⟩:=r1 (iff.mpr q);rw[aR (dO it e),kT q];rfl
  .rw[jP (dO it (r2 fun z=>q (iff.mp z))),gI q]
noncomputable abbrev nI(os:List Nat):List CD:=os.map fun j:Nat=>I j
theorem JV{ls:List (List Int)}{os:List Nat}(hk:k<ls.length)(hj:j<ls.length)(hw:∀l∈ls,l.length<=900)(hl:ls.length<=900)(hc:M[c]?=some (.lst (nI os)))(ho:os.length<=900):
 jB [some (.d (lR ls)),some (I k),some (.c c),some (I j)] M=some (.nx [some (.d (lR ls)),some (I k),some (.c c),some (I j)],M.set c (.lst (nI (if inB ls k j=true then os++[j]else os)))):=by
 have same:M.set c (.lst (nI os))=M:=by
  refine A0d fun i=>?_;by_cases q:c=i
  .subst q;rw[E6 (List.getElem?_eq_some_iff.mp hc).1,hc]
  .rw[D6 q]
 have t1:gB (aF cZ (aA (fOp ixF (aB 0) (aB 1)) (aA (fOp ixF (aB 0) (aB 3)) aE))) [some (.d (lR ls)),some (I k),some (.c c),some (I j)] M=some (hold (la ls k) (la ls j),M):=bV (aO (aH (aU rfl rfl (qS hk)) (aH (aU rfl rfl (qS hj)) aN)) (FD (hw _ (fG hj))))
 have t2:cB (gB (aF anyF (aA mD aE))) [some (.d (lR ls)),some (I k),some (.c c),some (I j)] M=some (!(ls.any fun l=>hold (la ls k) l&&hold l (la ls j)),M):=by
  have an:=QL (i:=3) (cap:=[some 0,some 1,some 3,none]) (e:=fN (aF cZ (aA (fOp ixF (aB 0) (aB 1)) (aA (aB 3) aE))) (aF cZ (aA (aB 3) (aA (fOp ixF (aB 0) (aB 2)) aE)))) (γ:=[some (.d (lR ls)),some (I k),some (.c c),some (I j)]) (M:=M) (f:=fun l=>.d (tR l)) (p:=fun l=>hold (la ls k) l&&hold l (la ls j)) (aBb (i:=0) rfl) hl fun l hl'=>KW (aO (aH (aU rfl rfl (qS hk)) (aH rfl aN)) (FD (hw l hl'))) (aO (aH rfl (aH (aU rfl rfl (qS hj)) aN)) (FD (hw _ (fG hj))));unfold cB;rw[show mD=fLc [some 0,some 1,some 3,none] (bE (aB 0)) (hName 3) eR (fN (aF cZ (aA (fOp ixF (aB 0) (aB 1)) (aA (aB 3) aE))) (aF cZ (aA (aB 3) (aA (fOp ixF (aB 0) (aB 2)) aE))))from rfl,bV an];rfl
 have ap:gA (bM "list" cD (aB 2) (aA (aB 3) aE)) [some (.d (lR ls)),some (I k),some (.c c),some (I j)] M=some (.nx [some (.d (lR ls)),some (I k),some (.c c),some (I j)],M.set c (.lst (nI (os++[j])))):=by
  have ty:tyB "list" M (.c c)=true:=by simp only[tyB,hc];decide
  have pu:cD (.c c) [I j] M=some (.d .none,M.set c (.lst (nI (os++[j])))):=by
   have l:(nI os).length<sizeLine:=by rw[A0,J9];omega
   simp only[cD,hc,if_pos l,nI,List.map_append,List.map_singleton]
  simp![bM,ty,pu]
 unfold jB;unfold inB;cases h1:hold (la ls k) (la ls j)with
 |false=>
  rw[h1]at t1;rw[fY t1,Bool.false_and,B0 A9,same];rfl
 |true=>
  rw[h1]at t1;rw[iC t1,A0j];cases h2:(ls.any fun l=>hold (la ls k) l&&hold l (la ls j))with
  |false=>
   rw[h2]at t2;rw[iC t2,A4 (show(!false)=true from rfl)];exact ap
  |true=>
   rw[h2]at t2;rw[fY t2,B0 (by decide),same];rfl
theorem NN{ls:List (List Int)}(hk:k<ls.length)(hw:∀l∈ls,l.length<=900)(hl:ls.length<=900):dJ [.d (lR ls),I k] M=some (.c M.length,M++[.lst (nI (inn ls k))]):=by
 have it:gZ (aA (aF bW (aA (aB 0) aE)) aE) [some (.d (lR ls)),some (I k),some (.c M.length),none] (M++[.lst []])=some (kP 0 ls.length,M++[.lst []]):=by
  have:=vN (M:=M++[.lst []]) (fa:=aA (aF bW (aA (aB 0) aE)) aE) (γ:=[some (.d (lR ls)),some (I k),some (.c M.length),none]) (J:=(ls.length:Int)) (aH (aO (aH rfl aN) EN) aN) (rW (by omega) (by omega));rw[this,E4]
 obtain⟨γ',M',e,⟨g,e1⟩,e2⟩:=rM (g:=hName 3) (b:=jB) (n:=ls.length) (Inv:=fun j γ M'=>(∃g,γ=[some (.d (lR ls)),some (I k),some (.c M.length),g])/\M'=M++[.lst (nI ((List.range j).filter (inB ls k)))]) (by
  intro j hj γ M' ⟨⟨g,e1⟩,e2⟩;subst e1 e2;refine⟨[some (.d (lR ls)),some (I k),some (.c M.length),some (I j)],_,_,rfl,JV hk hj hw hl jR ?_,⟨_,rfl⟩,?_⟩
  .have:=S8 (inB ls k) (List.range j);rw[E9]at this;omega
  .rw[DP,List.range_succ,List.filter_append];cases q:inB ls k j with
   |true=>rw[A4 rfl,Y1 q,List.filter_nil]
   |false=>rw[B0 A9,Y0 (by rw[q];decide),List.filter_nil,E7]) ls.length 0 [some (.d (lR ls)),some (I k),some (.c M.length),none] (M++[.lst []]) (Nat.zero_add _) ⟨⟨_,rfl⟩,rfl⟩
 subst e1 e2
 have nw:bG (dU aE) (hName 2) [some (.d (lR ls)),some (I k),none,none] M=some (.nx [some (.d (lR ls)),some (I k),some (.c M.length),none],M++[.lst []]):=by
  refine bR (i:=2) (x:=.c M.length) ?_;show(if 0<=sizeLine then some (CD.c M.length,M++[.lst []])else none)=_;rw[A4 (F9 _)]
 refine eG rfl ?_;show aW _ _ [some (.d (lR ls)),some (I k),none,none] M=_;rw[aR nw,aR (dO it e)];rfl
noncomputable abbrev nP(os:List Nat):List PyData:=os.map fun j:Nat=>.int j
theorem CO{ls:List (List Int)}{k:Nat}{os:List Nat}(h:f γ M=some (.c M.length,M++[.lst (nI os)])):eH f γ M=some (.d (.list (nP os)),M++[.dead]):=by
 unfold eH;rw[h,A3];dsimp only;rw[jR];dsimp only;rw[show nI os=(nP os).map .d by rw[C8];rfl,iD,A3,DP]
theorem add_list{xs:List PyData}(hl:xs.length+ys.length<=1000):bO (.d (.list xs)) (.d (.list ys)) M=some (.d (.list (xs++ys)),M):=by
 show(match (sN M (.d (.list xs))).bind fun a=>(sN M (.d (.list ys))).bind fun b=>(kO (a++b)).bind fun ds=>if ds.length<=sizeLine then some (CD.d (.list ds),M)else none with|some r=>some r|none=>_)=_
 have e:((sN M (.d (.list xs))).bind fun a=>(sN M (.d (.list ys))).bind fun b=>(kO (a++b)).bind fun ds=>if ds.length<=sizeLine then some (CD.d (.list ds),M)else none)=some (.d (.list (xs++ys)),M):=by
  show(kO (xs.map .d++ys.map .d)).bind _=_;rw[<- J0,iD,A3,A4 (sz (by rw[A7];exact hl))]
 rw[e]
theorem qI:∀ns ms:List Int,PyData.eqvAll (ns.map .int) (ms.map .int)=decide (ns=ms)
 |[],[]=>rfl
 |[],_::_=>rfl
 |_::_,[]=>rfl
 |n::ns,m::ms=>by
  show((n==m)&&PyData.eqvAll (ns.map .int) (ms.map .int))=_;rw[qI ns ms,L9,B5,Y3,D9,D9,O0]
theorem aEO:eqX true (.d (.list (a.map .int))) (.d (.list (b.map .int))) M=some (B (pd (a≠b)),M):=by
 show(if (SeqAt.shaped (.list (a.map .int))&&SeqAt.shaped (.list (b.map .int)))=true then some (CD.d (.bool (!PyData.eqvAll (a.map .int) (b.map .int))),M)else none)=_;rw[nN,nN,A4 (show(true&&true)=true from rfl),qI];exact D4 (fun b=>some (B b,M)) (gO (by simp))
theorem aEM:eqX false (.d (.list (a.map .int))) (.d (.list (b.map .int))) M=some (B (pd (a=b)),M):=by
 show(if (SeqAt.shaped (.list (a.map .int))&&SeqAt.shaped (.list (b.map .int)))=true then some (CD.d (.bool (PyData.eqvAll (a.map .int) (b.map .int))),M)else none)=_;rw[nN,nN,A4 (show(true&&true)=true from rfl),qI];exact D4 (fun b=>some (B b,M)) (gO decide_eq_true_iff)
theorem yA(hd:aM d=some (ns.map .int))(hl:ns.length<64):jN [.d d] M=some (.d (.list ((dW ns).map .int)),M):=by
 cases d with
 |list xs=>cases hd;show(cR _).bind _=_;rw[A0n,A3,A4 hl]
 |tuple xs=>cases hd;show(cR _).bind _=_;rw[A0n,A3,A4 hl]
 |_=>cases hd
theorem DE(hd:aM d=some ds):pV [.d d] M=some (.d (.list ds),M):=by
 cases d with
 |list xs=>cases hd;rfl
 |tuple xs=>cases hd;rfl
 |_=>cases hd
noncomputable abbrev cz(os:List Nat):List Int:=os.map fun j:Nat=>(j:Int)
structure RgP(ls:List (List Int))(k:Int)(os:List Int):Prop where
 k0:0<=k/\k<ls.length
 o:∀j∈os,0<=j/\j<(ls.length:Int)
 so:dW os=cz (inn ls k.toNat)
 three:3<=os.length
 hd:os.getD 0 0<os.getD (os.length-1) 0
 sm:(os.map fun j=>(la ls j.toNat).length).sum=(la ls k.toNat).length
noncomputable def fZ(d:PyData):Option (Int×List Int):=match aM d with
 |some [.int k,o]=>(fJ o).bind fun os=>some (k,os)
 |_=>none
theorem ringI_iff{k:Int}:fZ d=some (k,os)↔∃o,aM d=some [.int k,o]/\fJ o=some os:=by
 unfold fZ;constructor
 .intro h;split at h
  .rename_i k' o e;obtain⟨z,h1,h2⟩:=Option.bind_eq_some_iff.mp h;cases h2;exact⟨o,e,h1⟩
  .cases h
 .intro ⟨o,h1,h2⟩;rw[h1];show(fJ o).bind _=_;rw[h2];rfl
noncomputable def RgD(ls:List (List Int))(d:PyData):Prop:=∃k os,fZ d=some (k,os)/\RgP ls k os
theorem MY{α:Type}{xs:List α}{x0:α}(h:0<xs.length):atI xs (-1)=some (xs.getD (xs.length-1) x0):=by
 unfold atI ixN;rw[B0 (by decide)];rw[A4 (by omega),A3,show((-1:Int)+(xs.length:Int)).toNat=xs.length-1 by omega,A6,A8 (by omega)];rfl
theorem HI{α:Type}{xs:List α}{x0:α}(h:0<xs.length):atI xs 0=some (xs.getD 0 x0):=by
 cases xs with
 |nil=>cases h
 |cons x r=>exact DO x r
theorem GB(h:k<os.length):(os.map PyData.int).getD k .none=.int (os.getD k 0):=by
 rw[A6,C4,A6,A8 h];rfl
theorem GL(hd:aM d=some (os.map .int))(h:0<os.length):ixF (.d d) (I 0) M=some (I (os.getD 0 0),M):=iE hd (by rw[HI (x0:=.none) (by rw[A0];exact h),GB h])
theorem LQ(hd:aM d=some (os.map .int))(h:0<os.length):ixF (.d d) (I (-1)) M=some (I (os.getD (os.length-1) 0),M):=iE hd (by rw[MY (x0:=.none) (by rw[A0];exact h),A0,GB (by omega)])
theorem aDP:fUn kS (fC (.int 1)) γ M=some (I (-1),M):=rfl
theorem GQ{ls:List (List Int)}(F:Fam ls)(hk:k<ls.length)(so:dW os=cz (inn ls k)):(os.map fun j=>(la ls j.toNat).length).sum=(la ls k).length↔dW (cat ls (os.map Int.toNat))=la ls k:=by
 have pm:=(eQ os).symm;rw[so]at pm
 have pm2:(os.map Int.toNat).Perm (inn ls k):=by
  have:=pm.map Int.toNat;rw[C8,show(Int.toNat ∘ fun j:Nat=>(j:Int))=id from funext fun j=>E4 j,List.map_id]at this;exact this
 have nd:(os.map Int.toNat).Nodup:=pm2.nodup_iff.mpr (List.nodup_range.filter _);have:=aAb F hk nd fun j hj=>pm2.mem_iff.mp hj;rw[YH,C8]at this;exact this
theorem SQ{ls:List (List Int)}(F:Fam ls)(hk:k<ls.length)(so:dW os=cz (inn ls k)):(cat ls (os.map Int.toNat)).length<=(la ls k).length:=by
 have pm:=(eQ os).symm;rw[so]at pm
 have pm2:(os.map Int.toNat).Perm (inn ls k):=by
  have:=pm.map Int.toNat;rw[C8,show(Int.toNat ∘ fun j:Nat=>(j:Int))=id from funext fun j=>E4 j,List.map_id]at this;exact this
 have nd:(os.map Int.toNat).Nodup:=pm2.nodup_iff.mpr (List.nodup_range.filter _);refine U9 (UC F nd fun j hj=>pm2.mem_iff.mp hj) fun x hx=>?_;obtain⟨j,hj,hx⟩:=List.mem_flatMap.mp hx;have hi:=pm2.mem_iff.mp hj;have h2:=inB_any.mp (List.mem_filter.mp hi).2;exact((jL (F.up _ (fG hk)) (F.up _ (fG (tK hi)))).mp h2.1).1 x hx
theorem GM(ls:List (List Int))(j:Nat)(os:List Nat):cat ls (j::os)=la ls j++cat ls os:=List.flatMap_cons
theorem HN{ls:List (List Int)}{d x3:CD}{M:Sto}:∀(os:List Int)(acc:List Int)(g:Option CD),(∀j∈os,0<=j/\j<(ls.length:Int))->acc.length+(cat ls (os.map Int.toNat)).length<=900->
 ∃g',jT (hName 2) gS (os.map fun j=>I j) [some (.d (lR ls)),some d,g,some x3,some (.d (.list (acc.map .int)))] M=some (.nx [some (.d (lR ls)),some d,g',some x3,some (.d (.list ((acc++cat ls (os.map Int.toNat)).map .int)))],M)
 |[]=>fun acc g _ _=>⟨g,by rw[show cat ls (([]:List Int).map Int.toNat)=[]from rfl,E7];rfl⟩
 |j::os=>fun acc g h hl=>by
  have hj:=h j B2;obtain⟨q,rfl⟩:∃q:Nat,j=(q:Int):=⟨j.toNat,by omega⟩;have hq:q<ls.length:=by omega
  rw[B6,GM,A7,E4]at hl
  have b:gS [some (.d (lR ls)),some d,some (I q),some x3,some (.d (.list (acc.map .int)))] M=some (.nx [some (.d (lR ls)),some d,some (I q),some x3,some (.d (.list ((acc++la ls q).map .int)))],M):=by
   refine bR (i:=4) (aU rfl (aO (aH (aU rfl rfl (qS hq)) aN) (DE (ds:=(la ls q).map .int) rfl)) ?_);rw[add_list (by rw[A0,A0];omega),J0]
  obtain⟨g',e⟩:=HN os (acc++la ls q) (some (I q)) (ls:=ls) (d:=d) (x3:=x3) (M:=M) (fun j hj=>h j (B1 _ hj)) (by rw[A7];omega);refine⟨g',?_⟩;rw[B6,eK (show hName 2 (I q) [some (.d (lR ls)),some d,g,some x3,some (.d (.list (acc.map .int)))] M=some ([some (.d (lR ls)),some d,some (I q),some x3,some (.d (.list (acc.map .int)))],M)from rfl) b,e,B6,GM,E4,F7]
theorem yB{α:Type}{ds:List α}(h:ds.length=2):∃a b,ds=[a,b]:=by
 match ds,h with
 |[a,b],_=>exact⟨a,b,rfl⟩
theorem AD{c d:TF}{M1:Sto}(h:c γ M=some (true,M1)):gOr c d γ M=some (true,M1):=by
 unfold gOr;rw[h];rfl
theorem pZ{c d:TF}{M1:Sto}(h:c γ M=some (false,M1)):gOr c d γ M=d γ M1:=by
 unfold gOr;rw[h];rfl
theorem two_pd{x:PyData}:(∃ds,aM x=some ds/\ds.length=2)↔∃a b,aM x=some [a,b]:=
 ⟨fun⟨ds,h,l⟩=>let⟨a,b,e⟩:=yB l;⟨a,b,by rw[h,e]⟩,fun⟨a,b,h⟩=>⟨_,h,rfl⟩⟩
theorem LO{x:PyData}{rest:TF}{Q:Prop}(hv:γ[i]?=some (some (.d x)))(hr:∀a b,aM x=some [a,b]->rest γ M=some (pd Q,M)):
 gOr (cB (gB (aF bJ (aA (aB i) aE)))) (gOr (gB (fOp (eqX true) (aF bW (aA (aB i) aE)) (fC (.int 2)))) rest) γ M=some (pd ((¬∃a b,aM x=some [a,b])\/Q),M):=by
 have t1:cB (gB (aF bJ (aA (aB i) aE))) γ M=some (pd (¬∃ds,aM x=some ds),M):=by
  refine eY (bV (aO (aH (hG hv) aN) ?_));rw[<- pQ];exact vA x M
 rcases E8 (∃ds,aM x=some ds)with p|p
 .obtain⟨ds,hd⟩:=p;rw[gI fun q=>q ⟨ds,hd⟩]at t1;rw[pZ t1];have t2:gB (fOp (eqX true) (aF bW (aA (aB i) aE)) (fC (.int 2))) γ M=some (!((ds.length:Int)==2),M):=bV (aU (aO (aH (hG hv) aN) (fQ hd M)) rfl aEV);by_cases l:ds.length=2
  .obtain⟨a,b,rfl⟩:=yB l;rw[pZ (show gB (fOp (eqX true) (aF bW (aA (aB i) aE)) (fC (.int 2))) γ M=some (false,M)from t2),hr a b hd];exact D4 (fun b=>some (b,M)) (cA ⟨.inr,fun h=>h.elim (fun q=>absurd ⟨a,b,hd⟩ q) id⟩)
  .have e:(!((ds.length:Int)==2))=true:=by
    rw[Y7,Z6];omega
   rw[e]at t2;rw[AD t2,kT];refine .inl fun⟨a,b,q⟩=>l ?_;rw[hd]at q;cases q;rfl
 .rw[kT p]at t1;rw[AD t1,kT];exact .inl fun⟨a,b,q⟩=>p ⟨_,q⟩
theorem rC{X:CD}:(gOr (cB (gB (aF bJ (aA (aB 1) aE)))) (gOr (gB (fOp (eqX true) (aF bW (aA (aB 1) aE)) (fC (.int 2)))) (gOr (cB (gB (aF bJ (aA (fOp ixF (aB 1) (fC (.int 1))) aE)))) (gB (fOp ltI (aF bW (aA (fOp ixF (aB 1) (fC (.int 1))) aE)) (fC (.int 3))))))) [some X,some (.d d),g2,g3,g4] M=some (pd (¬∃a o os,aM d=some [a,o]/\aM o=some os/\3<=os.length),M):=by
 refine(LO (i:=1) (x:=d) rfl (Q:=¬∃a o os,aM d=some [a,o]/\aM o=some os/\3<=os.length) fun a o hd=>?_).trans (D4 (fun b=>some (b,M)) (cA ⟨fun h=>h.elim (fun q ⟨a,o,os,h1,_⟩=>q ⟨a,o,h1⟩) id,.inr⟩));have ix:fOp ixF (aB 1) (fC (.int 1)) [some X,some (.d d),g2,g3,g4] M=some (.d o,M):=aU rfl rfl (iE hd (UK a o []))
 have t1:cB (gB (aF bJ (aA (fOp ixF (aB 1) (fC (.int 1))) aE))) [some X,some (.d d),g2,g3,g4] M=some (pd (¬∃ds,aM o=some ds),M):=by
  refine eY (bV (aO (aH ix aN) ?_));rw[<- pQ];exact vA o M
 rcases E8 (∃ds,aM o=some ds)with p|p
 .obtain⟨os,ho⟩:=p;rw[gI fun q=>q ⟨os,ho⟩]at t1;rw[pZ t1,bV (aU (aO (aH ix aN) (fQ ho M)) rfl (show ltI (I os.length) (I 3) M=some (B (decide ((os.length:Int)<3)),M)from rfl))];refine D4 (fun b=>some (b,M)) (gO ?_);rw[D9];constructor
  .intro h ⟨a',o',os',h1,h2,h3⟩;rw[hd]at h1;cases h1;rw[ho]at h2;cases h2;omega
  .intro h
   apply D8
   intro n;exact h ⟨a,o,os,hd,ho,by omega⟩
 .rw[kT p]at t1;rw[AD t1,kT];intro ⟨a',o',os',h1,h2,_⟩;rw[hd]at h1;cases h1;exact p ⟨_,h2⟩
theorem BJ{ls:List (List Int)}(F:Fam ls)(hw:∀l∈ls,l.length<=40)(hl:ls.length<64)(hd0:Wi 2 d):∃L,gM [.d (lR ls),.d d] M=some (B (pd (RgD ls d)),M++L):=by
 have nil:M++[]=M:=E7 M;have fin:∀{b:Bool}{L:Sto},dP [some (.d (lR ls)),some (.d d),none,none,none] M=some (.rt (B b),M++L)->b=pd (RgD ls d)->∃L,gM [.d (lR ls),.d d] M=some (B (pd (RgD ls d)),M++L):=fun{b L} h e=>⟨L,by rw[<- e];exact eG rfl h⟩;rcases E8 (∃a o os,aM d=some [a,o]/\aM o=some os/\3<=os.length)with p|p
 .obtain⟨a,o,xs,hd,ho,h3⟩:=p;have hxs:xs.length<64:=((hd0 _ hd).2 o (by simp) xs ho).1;have ix0:∀{g2 g3 g4:Option CD}{M:Sto},fOp ixF (aB 1) (fC (.int 0)) [some (.d (lR ls)),some (.d d),g2,g3,g4] M=some (.d a,M):=aU rfl rfl (iE hd (DO a [o]));have ix1:∀{g2 g3 g4:Option CD}{M:Sto},fOp ixF (aB 1) (fC (.int 1)) [some (.d (lR ls)),some (.d d),g2,g3,g4] M=some (.d o,M):=aU rfl rfl (iE hd (UK a o []));have ls1:∀{g2 g3 g4:Option CD}{M:Sto},aF pV (aA (fOp ixF (aB 1) (fC (.int 1))) aE) [some (.d (lR ls)),some (.d d),g2,g3,g4] M=some (.d (.list xs),M):=aO (aH ix1 aN) (DE ho)
  have it:bE (fOp bO (eX (aA (fOp ixF (aB 1) (fC (.int 0))) aE)) (aF pV (aA (fOp ixF (aB 1) (fC (.int 1))) aE))) [some (.d (lR ls)),some (.d d),none,none,none] M=some ((a::xs).map .d,M):=by
   have l1:eX (aA (fOp ixF (aB 1) (fC (.int 0))) aE) [some (.d (lR ls)),some (.d d),none,none,none] M=some (.d (.list [a]),M):=by
    unfold eX;rw[aH ix0 aN,A3];show(if 1<=sizeLine then some (CD.d (.list [a]),M)else none)=_;rw[A4 (sz (by decide))]
   exact jA (aU l1 ls1 (add_list (by rw[B8];omega))) rfl
  obtain⟨r1,r2⟩:=DS (g:=hName 2) (b:=jX) (M:=M) (y:=B false) (f:=CD.d) (Ok:=fun x=>∃i,x=.int i/\0<=i/\i<=(ls.length:Int)-1) (Sh:=fun γ=>∃g,γ=[some (.d (lR ls)),some (.d d),g,none,none]) (a::xs) [some (.d (lR ls)),some (.d d),none,none,none] ⟨_,rfl⟩ (by
   intro x hx γ ⟨g,e⟩;subst e;refine⟨[some (.d (lR ls)),some (.d d),some (.d x),none,none],rfl,?_⟩
   have t:cB (gB (aF dI (aA (aB 2) (aA (fC (.int 0)) (aA (fOp BB (aF bW (aA (aB 0) aE)) (fC (.int 1))) aE))))) [some (.d (lR ls)),some (.d d),some (.d x),none,none] M=some (pd (¬∃i,x=.int i/\0<=i/\i<=(ls.length:Int)-1),M):=by
    refine eY (bV ?_);rw[<- aBK];exact aO (aH rfl (aH rfl (aH (aU (aO (aH rfl aN) EN) rfl rfl) aN))) (aEK x 0 ((ls.length:Int)-1) M)
   unfold jX;refine⟨fun ok=>⟨_,?_,⟨some (.d x),rfl⟩⟩,fun no=>?_⟩
   .rw[gI fun q=>q ok]at t;rw[fY t];rfl
   .rw[kT no]at t;rw[iC t];rfl)
  have g1:∀{r:SF},aW (sIf (gOr (cB (gB (aF bJ (aA (aB 1) aE)))) (gOr (gB (fOp (eqX true) (aF bW (aA (aB 1) aE)) (fC (.int 2)))) (gOr (cB (gB (aF bJ (aA (fOp ixF (aB 1) (fC (.int 1))) aE)))) (gB (fOp ltI (aF bW (aA (fOp ixF (aB 1) (fC (.int 1))) aE)) (fC (.int 3))))))) (bT (fC (.bool false))) bH) r [some (.d (lR ls)),some (.d d),none,none,none] M=r [some (.d (lR ls)),some (.d d),none,none,none] M:=lJ rC fun q=>q ⟨a,o,xs,hd,ho,h3⟩;rcases E8 (∀x∈a::xs,∃i,x=.int i/\0<=i/\i<=(ls.length:Int)-1)with ok|no
  .obtain⟨γ',e,⟨g,rfl⟩⟩:=r1 ok;obtain⟨k,rfl,k0,k1⟩:=ok a B2;obtain⟨os,rfl,hos⟩:=all_ints fun x hx=>ok x (B1 _ hx);rw[A0]at h3 hxs;obtain⟨q,rfl⟩:∃q:Nat,k=(q:Int):=⟨k.toNat,by omega⟩;have hq:q<ls.length:=by omega
   have hos':∀j∈os,0<=j/\j<(ls.length:Int):=fun j hj=>by have:=hos j hj;omega
   have ri:fZ d=some ((q:Int),os):=ringI_iff.mpr ⟨o,hd,rowI_iff.mpr ho⟩;have unq:∀{P:Prop},(RgP ls q os↔P)->pd P=pd (RgD ls d):=fun{P} h=>cA ⟨fun z=>⟨_,_,ri,h.mpr z⟩,fun⟨k',os',e,z⟩=>by rw[ri]at e;cases e;exact h.mp z⟩;have so:=yA (d:=.list (os.map .int)) (M:=M) rfl hxs;have inr:=CO (ls:=ls) (k:=q) (γ:=[some (.d (lR ls)),some (.d d),g,some (.d (.list (os.map .int))),none]) (f:=aF dJ (aA (aB 0) (aA (fOp ixF (aB 1) (fC (.int 0))) aE))) (aO (aH rfl (aH ix0 aN)) (NN (M:=M) hq (fun l h=>by have:=hw l h;omega) (by omega)))
   have t1:gB (fOp (eqX true) (aF jN (aA (aB 3) aE)) (eH (aF dJ (aA (aB 0) (aA (fOp ixF (aB 1) (fC (.int 0))) aE))))) [some (.d (lR ls)),some (.d d),g,some (.d (.list (os.map .int))),none] M=some (pd (dW os≠cz (inn ls q)),M++[Cell.dead]):=by
    refine bV (aU (aO (aH rfl aN) so) inr ?_);rw[show nP (inn ls q)=(cz (inn ls q)).map .int by rw[C8];rfl];exact aEO
   have t2:gB (fOp geI (fOp ixF (aB 3) (fC (.int 0))) (fOp ixF (aB 3) (fUn kS (fC (.int 1))))) [some (.d (lR ls)),some (.d d),g,some (.d (.list (os.map .int))),none] (M++[Cell.dead])=some (decide (os.getD (os.length-1) 0<=os.getD 0 0),M++[Cell.dead]):=bV (aU (aU rfl rfl (GL (os:=os) rfl (by omega))) (aU rfl aDP (LQ (os:=os) rfl (by omega))) rfl)
   have body:dP [some (.d (lR ls)),some (.d d),none,none,none] M=aW (sIf (gOr (gB (fOp (eqX true) (aF jN (aA (aB 3) aE)) (eH (aF dJ (aA (aB 0) (aA (fOp ixF (aB 1) (fC (.int 0))) aE)))))) (gB (fOp geI (fOp ixF (aB 3) (fC (.int 0))) (fOp ixF (aB 3) (fUn kS (fC (.int 1))))))) (bT (fC (.bool false))) bH) (aW (bG (eX aE) (hName 4)) (aW (jW (bE (aB 3)) (hName 2) gS) (bT (fOp (eqX false) (aF jN (aA (aB 4) aE)) (aF pV (aA (fOp ixF (aB 0) (fOp ixF (aB 1) (fC (.int 0)))) aE)))))) [some (.d (lR ls)),some (.d d),g,some (.d (.list (os.map .int))),none] M:=by
    unfold dP;rw[g1,aR (dO it e),aR (bR (i:=3) ls1)];rfl
   rcases E8 (dW os=cz (inn ls q))with s|s
   .rw[gI fun z=>z s]at t1;by_cases h0:os.getD 0 0<os.getD (os.length-1) 0
    .rw[E1 (by omega)]at t2;have hcl:=SQ F hq s;have wq:=hw _ (fG hq);obtain⟨g',cl⟩:=HN os [] g (ls:=ls) (d:=.d d) (x3:=.d (.list (os.map .int))) (M:=M++[Cell.dead]) hos' (by rw[A0o];omega)
     have it2:bE (aB 3) [some (.d (lR ls)),some (.d d),g,some (.d (.list (os.map .int))),some (.d (.list []))] (M++[Cell.dead])=some (os.map (fun j=>I j),M++[Cell.dead]):=by
      rw[jA (f:=aB 3) (γ:=[some (.d (lR ls)),some (.d d),g,some (.d (.list (os.map .int))),some (.d (.list []))]) (d:=.list (os.map .int)) (M:=M++[Cell.dead]) rfl rfl,C8];rfl
     have so2:=yA (d:=.list ((cat ls (os.map Int.toNat)).map .int)) (ns:=cat ls (os.map Int.toNat)) (M:=M++[Cell.dead]) rfl (by omega);refine fin (L:=[Cell.dead]) (b:=pd (dW (cat ls (os.map Int.toNat))=la ls q)) ?_ (unq ⟨fun z=>(GQ F hq s).mp z.sm,fun z=>⟨⟨by omega,by omega⟩,hos',s,h3,h0,(GQ F hq s).mpr z⟩⟩);rw[body,aR (show sIf _ _ _ _ _=some (.nx [some (.d (lR ls)),some (.d d),g,some (.d (.list (os.map .int))),none],M++[Cell.dead])from by rw[fY ((pZ t1).trans t2)];rfl),aR (bR (i:=4) aDN)];show aW _ _ [some (.d (lR ls)),some (.d d),g,some (.d (.list (os.map .int))),some (.d (.list []))] (M++[Cell.dead])=_;rw[aR (dO it2 cl)];refine cP (aU (aO (aH rfl aN) so2) (aO (aH (aU rfl ix0 (qS hq)) aN) (DE (ds:=(la ls q).map .int) rfl)) ?_);exact aEM
    .rw[C5 (by omega)]at t2;refine fin (L:=[Cell.dead]) (b:=false) ?_ (gI fun⟨k',os',e,z⟩=>?_).symm
     .rw[body];exact jP (by rw[iC ((pZ t1).trans t2)];rfl)
     .rw[ri]at e;cases e;exact h0 z.hd
   .rw[kT s]at t1;refine fin (L:=[Cell.dead]) (b:=false) ?_ (gI fun⟨k',os',e,z⟩=>?_).symm
    .rw[body];exact jP (by rw[iC (AD t1)];rfl)
    .rw[ri]at e;cases e;exact s z.so
  .refine fin (L:=[]) (b:=false) ?_ (gI fun⟨k,os,e,z⟩=>no fun x hx=>?_).symm
   .unfold dP;rw[g1,jP (dO it (r2 no)),nil]
   .obtain⟨o',h1,h2⟩:=ringI_iff.mp e;rw[hd]at h1;cases h1;have h2:=rowI_iff.mp h2;rw[ho]at h2;cases h2;rcases List.mem_cons.mp hx with rfl|hx
    .exact⟨k,rfl,z.k0.1,by have:=z.k0.2;omega⟩
    .obtain⟨j,hj,rfl⟩:=List.mem_map.mp hx;have:=z.o j hj;exact⟨j,rfl,this.1,by omega⟩
 .refine fin (L:=[]) (b:=false) ?_ (gI fun⟨k,os,e,z⟩=>?_).symm
  .unfold dP;rw[lF rC p,nil]
  .obtain⟨o',h1,h2⟩:=ringI_iff.mp e;exact p ⟨_,o',_,h1,rowI_iff.mp h2,by rw[A0];exact z.three⟩
noncomputable def nH(d:PyData):Option (List (Int×List Int)):=(aM d).bind (DG fZ)
theorem ringsI_iff{rs:List (Int×List Int)}:nH d=some rs↔∃ds,aM d=some ds/\ds.map fZ=rs.map some:=by
 unfold nH;rw[Option.bind_eq_some_iff];exact⟨fun⟨ds,h1,h2⟩=>⟨ds,h1,allO_iff.mp h2⟩,fun⟨ds,h1,h2⟩=>⟨ds,h1,allO_iff.mpr h2⟩⟩
structure RsP(ls:List (List Int))(rs:List (Int×List Int)):Prop where
 rg:∀r∈rs,RgP ls r.1 r.2
 up:Up (rs.map (·.1))
noncomputable def ChD(n:Int)(d:PyData):Prop:=∃a b ls rs,aM d=some [a,b]/\nU a=some ls/\LnP n ls/\nH b=some rs/\RsP ls rs
noncomputable def LpP(ls:List (List Int))(lo:Int)(xs:List PyData):Prop:=∃rs:List (Int×List Int),xs.map fZ=rs.map some/\RsP ls rs/\∀r∈rs,lo<=r.1
theorem yJ{ls:List (List Int)}{n d:CD}(F:Fam ls)(hw:∀l∈ls,l.length<=40)(hl:ls.length<64):∀(xs:List PyData)(lo:Int)(g:Option CD)(M:Sto),(∀x∈xs,Wi 2 x)->
 ∃L,(LpP ls lo xs->∃γ',jT (hName 4) bX (xs.map .d) [some n,some d,some (.d (lR ls)),some (I lo),g] M=some (.nx γ',M++L))/\(¬LpP ls lo xs->jT (hName 4) bX (xs.map .d) [some n,some d,some (.d (lR ls)),some (I lo),g] M=some (.rt (B false),M++L))
 |[]=>fun lo g M _=>⟨[],fun _=>⟨_,by rw[E7];rfl⟩,fun h=>absurd ⟨[],rfl,⟨fun r h=>by simp at h,.nil⟩,fun r h=>by simp at h⟩ h⟩
 |x::xs=>fun lo g M hx=>by
  obtain⟨L1,e1⟩:=BJ (M:=M) F hw hl (hx x B2);have hg:hName 4 (.d x) [some n,some d,some (.d (lR ls)),some (I lo),g] M=some ([some n,some d,some (.d (lR ls)),some (I lo),some (.d x)],M):=rfl
  have t1:cB (gB (aF gM (aA (aB 2) (aA (aB 4) aE)))) [some n,some d,some (.d (lR ls)),some (I lo),some (.d x)] M=some (!pd (RgD ls x),M++L1):=by
   unfold cB;rw[bV (aO (aH rfl (aH rfl aN)) e1)];rfl
  rcases E8 (RgD ls x)with p|p
  .rw[kT p]at t1;obtain⟨k,os,ri,rg⟩:=p;obtain⟨o,hd,_⟩:=ringI_iff.mp ri;have ix:∀{M:Sto},fOp ixF (aB 4) (fC (.int 0)) [some n,some d,some (.d (lR ls)),some (I lo),some (.d x)] M=some (I k,M):=aU rfl rfl (iE hd (DO _ _));have t2:gB (fOp ltI (fOp ixF (aB 4) (fC (.int 0))) (aB 3)) [some n,some d,some (.d (lR ls)),some (I lo),some (.d x)] (M++L1)=some (decide (k<lo),M++L1):=bV (aU ix rfl rfl);by_cases q:k<lo
   .rw[C5 q]at t2
    have b:bX [some n,some d,some (.d (lR ls)),some (I lo),some (.d x)] M=some (.rt (B false),M++L1):=by
     unfold bX;exact jP (by rw[iC ((pZ t1).trans t2)];rfl)
    refine⟨L1,fun⟨rs,e,h1,h2⟩=>?_,fun _=>EO hg b⟩;cases rs with
    |nil=>cases e
    |cons r rs=>
     rw[B6,B6,O0,ri]at e;cases e.1;have:=h2 _ B2;omega
   .rw[E1 q]at t2
    have b:bX [some n,some d,some (.d (lR ls)),some (I lo),some (.d x)] M=some (.nx [some n,some d,some (.d (lR ls)),some (I (k+1)),some (.d x)],M++L1):=by
     unfold bX;rw[aR (show sIf _ _ _ _ _=some (.nx [some n,some d,some (.d (lR ls)),some (I lo),some (.d x)],M++L1)from by rw[fY ((pZ t1).trans t2)];rfl)];exact bR (i:=3) (aU ix rfl yI)
    obtain⟨L2,r1,r2⟩:=yJ F hw hl xs (k+1) (some (.d x)) (M++L1) (n:=n) (d:=d) fun y hy=>hx y (B1 _ hy);refine⟨L1++L2,?_⟩;rw[B6,eK hg b,<- F7];refine⟨fun⟨rs,e,h1,h2⟩=>r1 ?_,fun h=>r2 fun⟨rs,e,h1,h2⟩=>h ⟨(k,os)::rs,?_,⟨fun r hr=>?_,?_⟩,fun r hr=>?_⟩⟩
    .cases rs with
     |nil=>cases e
     |cons r rs=>
      rw[B6,B6,O0,ri]at e;cases e.1;have u:=List.pairwise_cons.mp (show List.Pairwise (·<·) (k::rs.map (·.1))from h1.up);refine⟨rs,e.2,⟨fun r hr=>h1.rg r (B1 _ hr),u.2⟩,fun r hr=>?_⟩;have:=u.1 r.1 (List.mem_map.mpr ⟨r,hr,rfl⟩);omega
    .rw[B6,B6,ri,e]
    .rcases List.mem_cons.mp hr with rfl|hr
     .exact rg
     .exact h1.rg r hr
    .refine List.pairwise_cons.mpr ⟨fun y hy=>?_,h1.up⟩;obtain⟨r,hr,rfl⟩:=List.mem_map.mp hy;have:=h2 r hr;show k<r.1;omega
    .rcases List.mem_cons.mp hr with rfl|hr
     .show lo<=k;omega
     .have:=h2 r hr;omega
  .rw[gI p]at t1
   have b:bX [some n,some d,some (.d (lR ls)),some (I lo),some (.d x)] M=some (.rt (B false),M++L1):=by
    unfold bX;exact jP (by rw[iC (AD t1)];rfl)
   refine⟨L1,fun⟨rs,e,h1,h2⟩=>(p ?_).elim,fun _=>EO hg b⟩;cases rs with
   |nil=>cases e
   |cons r rs=>
    rw[B6,B6,O0]at e;exact⟨r.1,r.2,e.1,h1.rg r B2⟩
theorem lps{ls:List (List Int)}{b:PyData}{xs:List PyData}(hb:aM b=some xs):LpP ls 0 xs↔∃rs,nH b=some rs/\RsP ls rs:=
 ⟨fun⟨rs,e,h,_⟩=>⟨rs,ringsI_iff.mpr ⟨xs,hb,e⟩,h⟩,fun⟨rs,e,h⟩=>by
  obtain⟨ds,h1,h2⟩:=ringsI_iff.mp e;rw[hb]at h1;cases h1;exact⟨rs,h2,h,fun r hr=>(h.rg r hr).k0.1⟩⟩
theorem qZ(hn:n<=40)(hw:Wi 4 d):∃L,dG [I n,.d d] M=some (B (pd (ChD n d)),M++L):=by
 have c:gOr (cB (gB (aF bJ (aA (aB 1) aE)))) (gOr (gB (fOp (eqX true) (aF bW (aA (aB 1) aE)) (fC (.int 2)))) (gOr (cB (gB (aF gV (aA (aB 0) (aA (fOp ixF (aB 1) (fC (.int 0))) aE))))) (cB (gB (aF bJ (aA (fOp ixF (aB 1) (fC (.int 1))) aE)))))) [some (I n),some (.d d),none,none,none] M=some (pd ((¬∃a b,aM d=some [a,b])\/((∃a b,aM d=some [a,b]/\¬LnD n a)\/∃a b,aM d=some [a,b]/\¬∃ds,aM b=some ds)),M):=by
  refine LO (i:=1) rfl fun a b hd=>?_
  have wa:Wi 2 a:=by
   intro xs hx;have:=(hw _ hd).2 a (by simp) xs hx;exact⟨this.1,fun y hy zs hz=>⟨((this.2 y hy) zs hz).1,fun _ _=>trivial⟩⟩
  have sw:∀{P:PyData->PyData->Prop},(∃a b,aM d=some [a,b]/\P a b)↔P a b:=fun{P}=>⟨fun⟨a',b',h,p⟩=>by rw[hd]at h;cases h;exact p,fun p=>⟨a,b,hd,p⟩⟩;refine yL ?_ fun _=>?_
  .rw[cA (sw (P:=fun a b=>¬LnD n a))];exact eY (bV (aO (aH rfl (aH (aU rfl rfl (iE hd (DO _ _))) aN)) (xP hn wa)))
  .rw[cA (sw (P:=fun a b=>¬∃ds,aM b=some ds))];refine eY (bV (aO (aH (aU rfl rfl (iE hd (UK _ _ _))) aN) ?_));rw[<- pQ];exact vA b M
 have fin:∀{b:Bool}{L:Sto},eA [some (I n),some (.d d),none,none,none] M=some (.rt (B b),M++L)->b=pd (ChD n d)->∃L,dG [I n,.d d] M=some (B (pd (ChD n d)),M++L):=fun{b L} h e=>⟨L,by rw[<- e];exact eG rfl h⟩;rcases E8 ((¬∃a b,aM d=some [a,b])\/((∃a b,aM d=some [a,b]/\¬LnD n a)\/∃a b,aM d=some [a,b]/\¬∃ds,aM b=some ds))with p|p
 .refine fin (L:=[]) (b:=false) ?_ (gI fun⟨a,b,ls,rs,hd,h1,h2,h3,h4⟩=>?_).symm
  .unfold eA;rw[lF c p,E7]
  .rcases p with p|⟨a',b',e,p⟩|⟨a',b',e,p⟩
   .exact p ⟨a,b,hd⟩
   .rw[hd]at e;cases e;exact p ⟨ls,h1,h2⟩
   .rw[hd]at e;cases e;obtain⟨ds,h,_⟩:=ringsI_iff.mp h3;exact p ⟨ds,h⟩
 .have p1:∃a b,aM d=some [a,b]:=D8 fun q=>p (.inl q);obtain⟨a,b,hd⟩:=p1;have p2:LnD n a:=D8 fun q=>p (.inr (.inl ⟨a,b,hd,q⟩));have p3:∃ds,aM b=some ds:=D8 fun q=>p (.inr (.inr ⟨a,b,hd,q⟩));obtain⟨ls,el,ln⟩:=p2;obtain⟨xs,hb⟩:=p3;obtain⟨ds,ha,e⟩:=linksI_iff.mp el;have wa:=(hw _ hd).2 a (by simp) ds ha;have wb:=(hw _ hd).2 b (by simp) xs hb;have hl:ls.length<64:=by rw[oU e];exact wa.1
  have ix0:∀{g2 g3 g4:Option CD}{M:Sto},fOp ixF (aB 1) (fC (.int 0)) [some (I n),some (.d d),g2,g3,g4] M=some (.d a,M):=aU rfl rfl (iE hd (DO _ _));have ix1:∀{g2 g3 g4:Option CD}{M:Sto},fOp ixF (aB 1) (fC (.int 1)) [some (I n),some (.d d),g2,g3,g4] M=some (.d b,M):=aU rfl rfl (iE hd (UK _ _ _));have t:=FA (i:=0) (cap:=[none]) (f:=fOp ixF (aB 1) (fC (.int 0))) (γ:=[some (I n),some (.d d),none,none,none]) (M:=M) rfl ix0 ha e (by omega);obtain⟨L,r1,r2⟩:=yJ (n:=I n) (d:=.d d) ln.fam (fun l h=>EL (ln.lk l h).up (ln.lk l h).io hn) hl xs 0 none M fun x hx=>wb.2 x hx
  have body:eA [some (I n),some (.d d),none,none,none] M=aW (jW (bE (fOp ixF (aB 1) (fC (.int 1)))) (hName 4) bX) (bT (fC (.bool true))) [some (I n),some (.d d),some (.d (lR ls)),some (I 0),none] M:=by
   unfold eA;rw[lJ c p,aR (bR (i:=2) (show mZ _ _=some (.d (lR ls),M)from t)),aR (bR (i:=3) (aCq (i:=0)))];rfl
  have it:bE (fOp ixF (aB 1) (fC (.int 1))) [some (I n),some (.d d),some (.d (lR ls)),some (I 0),none] M=some (xs.map .d,M):=jA ix1 hb
  have iff:LpP ls 0 xs↔ChD n d:=by
   rw[lps hb];constructor
   .intro ⟨rs,h1,h2⟩;exact⟨a,b,ls,rs,hd,el,ln,h1,h2⟩
   .intro ⟨a',b',ls',rs,h1,h2,h3,h4,h5⟩;rw[hd]at h1;cases h1;rw[el]at h2;cases h2;exact⟨rs,h4,h5⟩
  rcases E8 (LpP ls 0 xs)with q|q
  .obtain⟨γ',e⟩:=r1 q;refine fin (L:=L) (b:=true) ?_ (kT (iff.mp q)).symm;rw[body,aR (dO it e)];rfl
  .refine fin (L:=L) (b:=false) ?_ (gI fun z=>q (iff.mpr z)).symm;rw[body,jP (dO it (r2 q))]
theorem NH{g:GF}{b:SF}{f:Nat->CD}{n:Nat}{Inv:Nat->Ga->Sto->Prop}(step:∀k,k<n->∀γ M,Inv k γ M->∃γ1 M1 γ' M',g (f k) γ M=some (γ1,M1)/\b γ1 M1=some (.nx γ',M')/\Inv (k+1) γ' M'):
 ∀(m k:Nat)(γ:Ga)(M:Sto),k+m=n->Inv k γ M->∃γ' M',jT g b ((List.range' k m).map f) γ M=some (.nx γ',M')/\Inv n γ' M'
 |0=>fun k γ M h i=>⟨γ,M,rfl,by rw[<- h];exact i⟩
 |m+1=>fun k γ M h i=>by
  obtain⟨γ1,M0,γ2,M1,e1,e2,i1⟩:=step k (by omega) γ M i;obtain⟨γ',M',e3,i2⟩:=NH step m (k+1) γ2 M1 (by omega) i1;refine⟨γ',M',?_,i2⟩;rw[List.range'_succ,B6,eK e1 e2];exact e3
theorem IW{α:Type}{g:GF}{c:TF}{e:EF}{M:Sto}(f:α->CD)(p:α->Bool)(h:α->PyData){Sh:Ga->Prop}:∀(xs:List α)(γ:Ga),Sh γ->(∀x∈xs,∀γ,Sh γ->∃γ1,Sh γ1/\g (f x) γ M=some (γ1,M)/\c γ1 M=some (p x,M)/\(p x=true->e γ1 M=some (.d (h x),M)))->lcF g c e (xs.map f) γ M=some (((xs.filter p).map h).map .d,M)
 |[]=>fun γ _ _=>rfl
 |x::xs=>fun γ hγ he=>by
  obtain⟨γ1,s1,h0,h1,h2⟩:=he x B2 γ hγ;have ih:=IW (g:=g) (c:=c) (e:=e) (M:=M) f p h xs γ1 s1 (fun y hy=>he y (B1 _ hy));rw[B6];unfold lcF;rw[h0,A3];dsimp only;rw[h1,A3];dsimp only;cases q:p x with
  |false=>rw[B0 (by decide),ih,Y0 (by rw[q];decide)]
  |true=>
   rw[A4 rfl,h2 q,A3];dsimp only;rw[ih,Y1 q];rfl
theorem vL:∀(r:List (Int×Int))(b:Int×Int),∃c∈b::r,yT b r=c.1/\∀d∈b::r,c.2<=d.2
 |[]=>fun b=>⟨b,B2,rfl,fun d hd=>by rw[List.mem_singleton.mp hd];exact Int.le_refl _⟩
 |y::r=>fun b=>by
  by_cases q:y.2<b.2
  .obtain⟨c,hc,e,l⟩:=vL r y;refine⟨c,B1 _ hc,by rw[<- e];show yT (if y.2<b.2 then y else b) r=_;rw[A4 q],fun d hd=>?_⟩;rcases List.mem_cons.mp hd with rfl|hd
   .have:=l y B2;omega
   .exact l d hd
  .obtain⟨c,hc,e,l⟩:=vL r b;refine⟨c,?_,by rw[<- e];show yT (if y.2<b.2 then y else b) r=_;rw[B0 q],fun d hd=>?_⟩
   .rcases List.mem_cons.mp hc with rfl|hc
    .exact B2
    .exact B1 _ (B1 _ hc)
   .rcases List.mem_cons.mp hd with rfl|hd
    .exact l _ B2
    .rcases List.mem_cons.mp hd with rfl|hd
     .have:=l b B2;omega
     .exact l d (B1 _ hd)
theorem UN{xs zs:List Int}(h:xs≠[]):DT xs zs∈xs/\∀x∈xs,zs.getD (DT xs zs).toNat 0<=zs.getD x.toNat 0:=by
 cases xs with
 |nil=>exact absurd rfl h
 |cons x r=>
  obtain⟨c,hc,e,l⟩:=vL (r.map fun y=>(y,zs.getD y.toNat 0)) (x,zs.getD x.toNat 0)
  have m:∀y∈x::r,(y,zs.getD y.toNat 0)∈(x,zs.getD x.toNat 0)::r.map fun y=>(y,zs.getD y.toNat 0):=fun y hy=>by
   rcases List.mem_cons.mp hy with rfl|hy
   .exact B2
   .exact B1 _ (List.mem_map.mpr ⟨y,hy,rfl⟩)
  have b:∃y∈x::r,c=(y,zs.getD y.toNat 0):=by
   rcases List.mem_cons.mp hc with q|hc
   .exact⟨x,B2,q⟩
   .obtain⟨y,hy,q⟩:=List.mem_map.mp hc;exact⟨y,B1 _ hy,q.symm⟩
  obtain⟨y,hy,rfl⟩:=b;have e:DT (x::r) zs=y:=e;rw[e];exact⟨hy,fun z hz=>l _ (m z hz)⟩
structure SW(ls:List (List Int))(M M':Sto)(j:Nat):Prop where
 len:M'.length=M.length+ls.length+1
 pre:∀i,i<M.length->M'[i]?=M[i]?
 top:M'[M.length+ls.length]?=some (.lst ((List.range ls.length).map fun k=>.c (M.length+k)))
 cs:∀k,k<ls.length->M'[M.length+k]?=some (.lst (nI ((List.range j).filter (inB ls k))))
noncomputable abbrev sS(ls:List (List Int)):PyData:=.list (ls.map zB)
theorem aAB(ls:List (List Int)):ls.map zB=(ls.map fun l=>((bn l:Nat):Int)).map .int:=by rw[C8];rfl
theorem MD{ls:List (List Int)}(k:Nat):(ls.map fun l=>((bn l:Nat):Int)).getD k 0=((bn (la ls k):Nat):Int):=by
 unfold la;rw[A6,A6,C4];cases ls[k]?<;>rfl
theorem aBF{ls:List (List Int)}(h:γ[i]?=some (some (.d (sS ls)))):wK (aA (aB i) aE) γ M=some ((List.range ls.length).map fun j:Nat=>.d (.tuple [.int (j:Nat),zB (la ls j)]),M):=by
 unfold wK;rw[aH (hG h) aN,A3];show some (sR (ls.map zB),M)=_;rw[HZ (x0:=[])]
theorem XH{ls:List (List Int)}(hl:ls.length<=900)(h0:γ[0]?=some (some (.d (sS ls))))(h2:γ[2]?=some (some (I j)))(h3:γ[3]?=some (some (.d (zB (la ls j))))):hZ γ M=some (.d (.list (nP (arr ls j))),M):=by
 unfold hZ
 have cg:mL [some 2,some 3,none,none] γ=[some (I j),some (.d (zB (la ls j))),none,none]:=by
  simp only[mL,List.map_cons,List.map_nil,h2,h3,Option.bind_some,Option.getD_some,Option.join_some,Option.bind_none]
 have l:=IW (g:=pA 2 (cT (hName 2) (cT (hName 3) nG))) (c:=mE (gB (fOp (eqX true) (aB 2) (aB 0))) (gB (fOp (eqX false) (fOp zM (aB 1) (aB 3)) (aB 1)))) (e:=aB 2) (M:=M) (fun k:Nat=>CD.d (.tuple [.int (k:Nat),zB (la ls k)])) (arB ls j) (fun k:Nat=>.int (k:Nat)) (Sh:=fun γ=>∃a b,γ=[some (I j),some (.d (zB (la ls j))),a,b]) (List.range ls.length) [some (I j),some (.d (zB (la ls j))),none,none] ⟨_,_,rfl⟩ (by
  intro k _ γ ⟨a,b,e⟩;subst e;refine⟨[some (I j),some (.d (zB (la ls j))),some (I k),some (.d (zB (la ls k)))],⟨_,_,rfl⟩,rfl,?_,fun _=>rfl⟩;have t1:gB (fOp (eqX true) (aB 2) (aB 0)) [some (I j),some (.d (zB (la ls j))),some (I k),some (.d (zB (la ls k)))] M=some (!((k:Int)==(j:Int)),M):=bV (aU rfl rfl aEV);have t2:gB (fOp (eqX false) (fOp zM (aB 1) (aB 3)) (aB 1)) [some (I j),some (.d (zB (la ls j))),some (I k),some (.d (zB (la ls k)))] M=some ((((bn (la ls j) &&& bn (la ls k):Nat):Int)==((bn (la ls j):Nat):Int)),M):=bV (aU (aU rfl rfl (NF _ _ M)) rfl xI)
  have e1:(!((k:Int)==(j:Int)))=decide (k≠j):=by
   rw[L9,Y7,Z6,D9];omega
  have e2:(((bn (la ls j) &&& bn (la ls k):Nat):Int)==((bn (la ls j):Nat):Int))=decide ((bn (la ls j) &&& bn (la ls k))=bn (la ls j)):=by
   rw[L9,Y3,D9];omega
  unfold mE;rw[t1,A3,e1];unfold arB;cases q:decide (k≠j)with
  |false=>rfl
  |true=>rw[A4 rfl,t2,e2];rfl)
 refine lB (aBF h0) (by rw[A0,E9];omega) (by rw[cg];exact l) ?_;have:=S8 (arB ls j) (List.range ls.length);rw[E9]at this;show((arr ls j).map _).length<=1000;rw[A0];unfold arr;omega
theorem YW{ls:List (List Int)}{g:Option CD}(F:Fam ls)(hl:ls.length<=900)(hj:j<ls.length)(S:SW ls M M' j):
 ∃γ' M2,fB [some (.d (sS ls)),some (.c (M.length+ls.length)),some (I j),some (.d (zB (la ls j))),g] M'=some (.nx γ',M2)/\(∃a b c,γ'=[some (.d (sS ls)),some (.c (M.length+ls.length)),a,b,c])/\SW ls M M2 (j+1):=by
 have ar:=XH (γ:=[some (.d (sS ls)),some (.c (M.length+ls.length)),some (I j),some (.d (zB (la ls j))),g]) (M:=M') hl rfl rfl rfl
 have st:∀k,(List.range (j+1)).filter (inB ls k)=if inB ls k j=true then(List.range j).filter (inB ls k)++[j]else(List.range j).filter (inB ls k):=fun k=>by
  rw[List.range_succ,List.filter_append];cases q:inB ls k j with
  |true=>rw[A4 rfl,Y1 q,List.filter_nil]
  |false=>rw[B0 A9,Y0 (by rw[q];decide),List.filter_nil,E7]
 unfold fB;rw[aR (bR (i:=4) ar)];show ∃γ' M2,sIf _ _ _ [some (.d (sS ls)),some (.c (M.length+ls.length)),some (I j),some (.d (zB (la ls j))),some (.d (.list (nP (arr ls j))))] M'=some (.nx γ',M2)/\_;by_cases em:arr ls j=[]
 .have t:KR (aB 4) [some (.d (sS ls)),some (.c (M.length+ls.length)),some (I j),some (.d (zB (la ls j))),some (.d (.list (nP (arr ls j))))] M'=some (false,M'):=by rw[em];rfl
  rw[fY t];refine⟨_,M',rfl,⟨_,_,_,rfl⟩,S.len,S.pre,S.top,fun k hk=>?_⟩;rw[S.cs k hk,st k,B0];intro q;have:=(inB_any.mp q).1;rw[<- tW F hj hk]at this;have:k∈arr ls j:=List.mem_filter.mpr ⟨List.mem_range.mpr hk,this⟩;rw[em]at this;simp at this
 .have t:KR (aB 4) [some (.d (sS ls)),some (.c (M.length+ls.length)),some (I j),some (.d (zB (la ls j))),some (.d (.list (nP (arr ls j))))] M'=some (true,M'):=by
   cases q:arr ls j with
   |nil=>exact absurd q em
   |cons x r=>rfl
  rw[iC t];obtain⟨mm,ml⟩:=UN (xs:=cz (arr ls j)) (zs:=ls.map fun l=>((bn l:Nat):Int)) (fun q=>em (List.map_eq_nil_iff.mp q));obtain⟨m,hm,em'⟩:=List.mem_map.mp mm;have em':DT (cz (arr ls j)) (ls.map fun l=>((bn l:Nat):Int))=(m:Int):=em'.symm;rw[em']at ml;have lt:m<ls.length:=List.mem_range.mp (List.mem_filter.mp hm).1
  have mk:IH 0 (aA (aB 4) aE) [some (.d (sS ls)),some (.c (M.length+ls.length)),some (I j),some (.d (zB (la ls j))),some (.d (.list (nP (arr ls j))))] M'=some (I m,M'):=by
   show(cR (nP (arr ls j))).bind (fun xs=>(cR (ls.map zB)).bind fun zs=>if 0<xs.length/\xs.all (fun x=>decide (0<=x)&&decide (x<zs.length))=true then some (CD.d (.int (DT xs zs)),M')else none)=_;rw[show nP (arr ls j)=(cz (arr ls j)).map .int by rw[C8];rfl,A0n,aAB,A0n,A3,A3,em',A4];refine⟨?_,?_⟩
   .rw[A0];exact List.length_pos_iff.mpr em
   .rw[U8];intro x hx;obtain⟨y,hy,rfl⟩:=List.mem_map.mp hx;have:=List.mem_range.mp (List.mem_filter.mp hy).1;rw[A0,C5 (by omega),C5 (by omega)];rfl
  have ix:ixF (.c (M.length+ls.length)) (I m) M'=some (.c (M.length+m),M'):=by
   simp only[ixF,S.top];rw[jC (x:=CD.c (M.length+m)) (by rw[C4,Z4 lt];rfl)];rfl
  have ty:tyB "list" M' (.c (M.length+m))=true:=by simp only[tyB,S.cs m lt];decide
  have pu:cD (.c (M.length+m)) [I j] M'=some (.d .none,M'.set (M.length+m) (.lst (nI ((List.range j).filter (inB ls m)++[j])))):=by
   have l:(nI ((List.range j).filter (inB ls m))).length<sizeLine:=by
    have:=S8 (inB ls m) (List.range j);rw[E9]at this;rw[A0,J9];omega
   simp only[cD,S.cs m lt,if_pos l,nI,List.map_append,List.map_singleton]
  refine⟨[some (.d (sS ls)),some (.c (M.length+ls.length)),some (I j),some (.d (zB (la ls j))),some (.d (.list (nP (arr ls j))))],M'.set (M.length+m) (.lst (nI ((List.range j).filter (inB ls m)++[j]))),?_,⟨_,_,_,rfl⟩,?_⟩
  .have ap:bM "list" cD (fOp ixF (aB 1) (IH 0 (aA (aB 4) aE))) (aA (aB 2) aE) [some (.d (sS ls)),some (.c (M.length+ls.length)),some (I j),some (.d (zB (la ls j))),some (.d (.list (nP (arr ls j))))] M'=some (.d .none,M'.set (M.length+m) (.lst (nI ((List.range j).filter (inB ls m)++[j])))):=by
    unfold bM;rw[aU rfl mk ix,A3];dsimp only;rw[A4 ty,aH (x:=I j) rfl aN,A3];exact pu
   unfold gA;rw[ap];rfl
  .refine⟨by rw[S3];exact S.len,fun i hi=>by rw[D6 (by omega)];exact S.pre i hi,by rw[D6 (by omega)];exact S.top,fun k hk=>?_⟩
   have wi:=JJ F hj hk hm (fun x hx=>by
    have:=ml x (List.mem_map.mpr ⟨x,hx,rfl⟩);rw[E4,E4,MD,MD]at this;omega)
   by_cases q:m=k
   .subst q;rw[E6 (by rw[S.len];omega),st m,A4 (wi.mp rfl)]
   .rw[D6 (by omega),st k,B0 fun z=>q (wi.mpr z)];exact S.cs k hk
theorem WE{ls:List (List Int)}(hl:ls.length<=900):∃M',hX [some (.d (sS ls)),none,none,none,none] M=some (.c (M.length+ls.length),M')/\SW ls M M' 0:=by
 have lp:∀(xs:List PyData)(γ:Ga)(M:Sto),(∃g,γ=[g])->lcF (hName 0) eR (dU aE) (xs.map .d) γ M=some ((List.range' M.length xs.length).map CD.c,M++List.replicate xs.length (.lst [])):=by
  intro xs
  induction xs with
  |nil=>intro γ M _;show some (([]:List CD),M)=some ([],M++[]);rw[E7]
  |cons x xs ih=>
   intro γ M ⟨g,e⟩;subst e
   have nw:dU aE [some (.d x)] M=some (.c M.length,M++[.lst []]):=by
    show(if 0<=sizeLine then some (CD.c M.length,M++[.lst []])else none)=_;rw[A4 (F9 _)]
   show((dU aE [some (.d x)] M).bind fun r'=>(lcF (hName 0) eR (dU aE) (xs.map .d) [some (.d x)] r'.2).bind fun q=>some (r'.1::q.1,q.2))=_;rw[nw,A3];dsimp only;rw[ih _ _ ⟨_,rfl⟩,A3,A7,B8,F7,J5,List.range'_succ,B6,List.replicate_succ];rfl
 have l:=lp (ls.map zB) [none] M ⟨_,rfl⟩;rw[A0]at l;have it:bE (aB 0) [some (.d (sS ls)),none,none,none,none] M=some ((ls.map zB).map .d,M):=jA rfl rfl
 refine⟨_,by
  unfold hX;have:=aCX (cap:=[none]) it (by rw[A0,A0];omega) l (by rw[A0,List.length_range'];omega);rw[A7,U3]at this;exact this,⟨?_,fun i hi=>?_,?_,fun k hk=>?_⟩⟩
 .rw[A7,A7,U3,B8]
 .rw[F7,E3 hi]
 .rw[E5 (by rw[A7,U3];exact B3 _),A7,U3,Z2,List.range'_eq_map_range,C8];rfl
 .rw[F7,E5 (by omega),E3 (by rw[U3];omega),List.getElem?_replicate,A4 (by omega)];rfl
theorem WU{ls:List (List Int)}(F:Fam ls)(hl:ls.length<=900):∃M',jH [.d (sS ls)] M=some (.c (M.length+ls.length),M')/\SW ls M M' ls.length:=by
 obtain⟨M1,e1,S1⟩:=WE (M:=M) hl
 obtain⟨γ',M2,e2,⟨a,b,c,e⟩,S2⟩:=NH (g:=pA 2 (cT (hName 2) (cT (hName 3) nG))) (b:=fB) (f:=fun j:Nat=>.d (.tuple [.int (j:Nat),zB (la ls j)])) (n:=ls.length) (Inv:=fun j γ M'=>(∃a b c,γ=[some (.d (sS ls)),some (.c (M.length+ls.length)),a,b,c])/\SW ls M M' j) (by
  intro j hj γ M' ⟨⟨a,b,c,e⟩,S⟩;subst e;obtain⟨γ2,M2,h1,h2,h3⟩:=YW (g:=c) F hl hj S;exact⟨_,_,γ2,M2,rfl,h1,h2,h3⟩) ls.length 0 [some (.d (sS ls)),some (.c (M.length+ls.length)),none,none,none] M1 (Nat.zero_add _) ⟨⟨_,_,_,rfl⟩,S1⟩
 subst e;rw[<- List.range_eq_range']at e2;refine⟨M2,eG rfl ?_,S2⟩;show aW _ _ [some (.d (sS ls)),none,none,none,none] M=_;rw[aR (bR (i:=1) e1)];show aW _ _ [some (.d (sS ls)),some (.c (M.length+ls.length)),none,none,none] M1=_;rw[aR (dO (aBF (i:=0) rfl) e2)];rfl
theorem SW.app{ls:List (List Int)}(S:SW ls M M' j):∃L,M'=M++L:=by
 refine⟨M'.drop M.length,A0d fun i=>?_⟩;by_cases h:i<M.length
 .rw[E3 h,S.pre i h]
 .rw[E5 (by omega),List.getElem?_drop];congr 1;omega
theorem aFi(h:M[c]?=some (cI b)):eqY true (.d (.list (a.map .int))) (.c c) M=some (B (pd (a≠b)),M):=by
 have e1:eqX true (.d (.list (a.map .int))) (.c c) M=none:=rfl;have s1:snap 5 M (.d (.list (a.map .int)))=some (.list (a.map .int)):=by rw[vR]
 have s2:snap 5 M (.c c)=some (.list (b.map .int)):=by
  unfold snap;rw[h];show(kN 4 M (b.map fun i=>I i)).bind _=_;rw[pK];rfl
 have e2:eqC true (.d (.list (a.map .int))) (.c c) M=some (B (pd (a≠b)),M):=by
  unfold eqC;rw[s1,s2,A3,A3,nN,nN,A4 (show(true&&true)=true from rfl)];show some (CD.d (.bool (!PyData.eqvAll (a.map .int) (b.map .int))),M)=_;rw[qI];refine D4 (fun z=>some (B z,M)) (gO ?_);rw[Y7,decide_eq_false_iff_not]
 unfold eqY DH;rw[e1];exact e2
theorem YL{ls:List (List Int)}(e:ds.map fJ=ls.map some)(hj:j<ls.length):∃x,ds[j]?=some x/\aM x=some ((la ls j).map .int):=by
 have h:=D4 (fun z=>z[j]?) e;simp only[List.getElem?_map]at h;rw[A8 hj]at h;cases q:ds[j]? with
 |none=>rw[q]at h;cases h
 |some x=>
  rw[q]at h;refine⟨x,rfl,rowI_iff.mp ?_⟩;rw[la,A6,A8 hj];exact D5 h
theorem SD{a:PyData}{ls:List (List Int)}{j:Int}(ha:aM a=some ds)(e:ds.map fJ=ls.map some)(hj:0<=j/\j<(ls.length:Int))(hf:f γ M=some (.d a,M))(hg:g γ M=some (I j,M)):aF bW (aA (fOp ixF f g) aE) γ M=some (I ((la ls j.toNat).length:Nat),M):=by
 obtain⟨m,rfl⟩:∃m:Nat,j=(m:Int):=⟨j.toNat,by omega⟩;obtain⟨x,hx,hi⟩:=YL e (j:=m) (by omega);have l:=fQ hi M;rw[A0]at l;exact aO (aH (aU hf hg (iE ha (jC hx))) aN) l
theorem sum_ints{α:Type}{f:α->Nat}(l:List α):sumF [.d (.list (l.map fun p=>.int (f p:Nat)))] M=some (I ((l.map f).sum:Nat),M):=by
 show(cR (l.map fun p=>PyData.int (f p:Nat))).bind _=_;rw[show(l.map fun p=>PyData.int (f p:Nat))=(l.map fun p=>((f p:Nat):Int)).map .int by rw[C8];rfl,A0n,A3];refine D4 (fun z:Int=>some (I z,M)) ?_
 induction l with
 |nil=>rfl
 |cons p l ih=>rw[B6,B6,List.sum_cons,List.sum_cons,ih,Int.natCast_add]
theorem PY{ls:List (List Int)}{a:PyData}(ha:aM a=some ds)(e:ds.map fJ=ls.map some)(hk:k<ls.length)(hc:M[c]?=some (cI (cz (inn ls k))))(hw:Wi 1 o):rS [.d a,.c c,I k,.d o] M=some (B (pd (∃os,fJ o=some os/\RgP ls k os)),M):=by
 have ll:ds.length=ls.length:=(oU e).symm
 have c0:gOr (cB (gB (aF gK (aA (aB 3) aE)))) (gOr (cB (gB (aF mN (aA qC aE)))) (gB (fOp (eqY true) (aF jN (aA (aB 3) aE)) (aB 1)))) [some (.d a),some (.c c),some (I k),some (.d o)] M=some (pd ((¬∃xs,aM o=some xs)\/((¬∃os,fJ o=some os/\∀j∈os,0<=j/\j<(ls.length:Int))\/∀os,fJ o=some os->dW os≠cz (inn ls k))),M):=by
  refine yL (eY (bV ?_)) fun h=>yL (eY (bV ?_)) fun h2=>bV ?_
  .rw[<- pQ];exact tX o M
  .rw[Y8]at h;obtain⟨xs,hx⟩:=h
   have al:=zN (i:=1) (cap:=[some 0,none]) (f:=aB 3) (e:=aF cS (aA (aF bW (aA (aB 0) aE)) (aA (aB 1) aE))) (γ:=[some (.d a),some (.c c),some (I k),some (.d o)]) (M:=M) rfl hx (by have:=(hw xs hx).1;omega) (P:=fun x=>∃i,x=.int i/\0<=i/\i<(ls.length:Int)) fun x _=>by
    rw[<- IV,<- ll];exact aO (aH (aO (aH rfl aN) (fQ ha M)) (aH rfl aN)) (sZ _ x M)
   rw[show qC=fLc [some 0,none] (bE (aB 3)) (hName 1) eR (aF cS (aA (aF bW (aA (aB 0) aE)) (aA (aB 1) aE)))from rfl,al];refine D4 (fun b=>some (B b,M)) (cA ⟨fun h=>?_,fun⟨os,h1,h2⟩ x hx'=>?_⟩)
   .obtain⟨os,rfl,ho⟩:=all_ints h;exact⟨os,rowI_iff.mpr hx,ho⟩
   .have h1:=rowI_iff.mp h1;rw[hx]at h1;cases h1;obtain⟨j,hj,rfl⟩:=List.mem_map.mp hx';exact⟨j,rfl,h2 j hj⟩
  .rw[Y8]at h2;obtain⟨os,h1,h2⟩:=h2;have hi:=rowI_iff.mp h1;have so:=yA (M:=M) hi (by have:=(hw _ hi).1;rwa [A0]at this);rw[aU (aO (aH rfl aN) so) rfl (aFi hc)];refine D4 (fun b=>some (B b,M)) (cA ⟨fun h os' h1'=>?_,fun h=>h os h1⟩);rw[h1]at h1';cases h1';exact h
 refine eG rfl ?_;show aW _ _ [some (.d a),some (.c c),some (I k),some (.d o)] M=_;rcases E8 ((¬∃xs,aM o=some xs)\/((¬∃os,fJ o=some os/\∀j∈os,0<=j/\j<(ls.length:Int))\/∀os,fJ o=some os->dW os≠cz (inn ls k)))with p|p
 .rw[lF c0 p];refine D4 (fun b=>some (Out.rt (B b),M)) (gI fun⟨os,h1,r⟩=>?_).symm;rcases p with p|p|p
  .exact p ⟨_,rowI_iff.mp h1⟩
  .exact p ⟨os,h1,r.o⟩
  .exact p os h1 r.so
 .rw[lJ c0 p];have p2:∃os,fJ o=some os/\∀j∈os,0<=j/\j<(ls.length:Int):=D8 fun q=>p (.inr (.inl q));obtain⟨os,h1,h2⟩:=p2;have p3:dW os=cz (inn ls k):=D8 fun q=>p (.inr (.inr fun os' h'=>by rw[h1]at h';cases h';exact q));have hi:=rowI_iff.mp h1;have hl:=(hw _ hi).1;rw[A0]at hl;have lo:=fQ hi M;rw[A0]at lo
  have t1:fOp geI (aF bW (aA (aB 3) aE)) (fC (.int 3)) [some (.d a),some (.c c),some (I k),some (.d o)] M=some (B (pd (3<=os.length)),M):=by
   rw[aU (aO (aH rfl aN) lo) rfl (show geI (I os.length) (I 3) M=some (B (decide ((3:Int)<=os.length)),M)from rfl)];refine D4 (fun b=>some (B b,M)) (gO ?_);rw[D9];omega
  have t2:3<=os.length->fOp ltI (fOp ixF (aB 3) (fC (.int 0))) (fOp ixF (aB 3) (fUn kS (fC (.int 1)))) [some (.d a),some (.c c),some (I k),some (.d o)] M=some (B (pd (os.getD 0 0<os.getD (os.length-1) 0)),M):=fun h3=>by
   rw[aU (aU rfl rfl (GL hi (by omega))) (aU rfl aDP (LQ hi (by omega))) (show ltI (I (os.getD 0 0)) (I (os.getD (os.length-1) 0)) M=some (B (decide (os.getD 0 0<os.getD (os.length-1) 0)),M)from rfl)];exact D4 (fun b=>some (B b,M)) (gO decide_eq_true_iff)
  have cm:mY [some (.d a),some (.c c),some (I k),some (.d o)] M=some (.d (.list (os.map fun j=>.int ((la ls j.toNat).length:Nat))),M):=by
   have it:bE (aB 3) [some (.d a),some (.c c),some (I k),some (.d o)] M=some (os.map (fun j=>I j),M):=by
    rw[jA (f:=aB 3) (γ:=[some (.d a),some (.c c),some (I k),some (.d o)]) (M:=M) rfl hi,C8];rfl
   have lc:=qL (i:=1) (e:=aF bW (aA (fOp ixF (aB 0) (aB 1)) aE)) (γ0:=[some (.d a),none]) (M:=M) (fun j:Int=>I j) (fun j=>.int ((la ls j.toNat).length:Nat)) os fun j hj=>SD ha e (h2 j hj) rfl rfl;unfold mY;exact lB it (by rw[A0];omega) lc (by rw[A0];omega)
  have t3:fOp (eqX false) (aF sumF (aA mY aE)) (aF bW (aA (fOp ixF (aB 0) (aB 2)) aE)) [some (.d a),some (.c c),some (I k),some (.d o)] M=some (B (pd ((os.map fun j=>(la ls j.toNat).length).sum=(la ls k).length)),M):=by
   have lk:=SD (f:=aB 0) (g:=aB 2) (γ:=[some (.d a),some (.c c),some (I k),some (.d o)]) (M:=M) (j:=(k:Int)) ha e (by omega) rfl rfl;rw[E4]at lk;rw[aU (aO (aH cm aN) (sum_ints (f:=fun j=>(la ls j.toNat).length) os)) lk xI];refine D4 (fun b=>some (B b,M)) (gO ?_);rw[Y3];omega
  rw[cP (tP t1 fun h3=>tP (t2 h3) fun _=>t3)];refine D4 (fun b=>some (Out.rt (B b),M)) (cA ⟨fun⟨q1,q2,q3⟩=>⟨os,h1,⟨by omega,h2,by rw[E4];exact p3,q1,q2,by rw[E4];exact q3⟩⟩,fun⟨os',h',r⟩=>?_⟩);rw[h1]at h';cases h';have:=r.sm;rw[E4]at this;exact⟨r.three,r.hd,this⟩
theorem LC{P Q:Prop}(h:f γ M=some (B (pd P),M))(hg:P->∃L,g γ M=some (B (pd Q),M++L)):∃L,fN f g γ M=some (B (pd (P/\Q)),M++L):=by
 unfold fN;rw[h,A3];dsimp only[asB];rw[A3];rcases E8 P with p|p
 .obtain⟨L,e⟩:=hg p;exact⟨L,by rw[kT p,A4 rfl,e,cA (show Q↔P/\Q from⟨fun q=>⟨p,q⟩,fun q=>q.2⟩)]⟩
 .exact⟨[],by rw[gI p,B0 A9,gI fun q=>p q.1,E7]⟩
noncomputable def koI(d:PyData):Option (Int×PyData):=match aM d with
 |some [.int k,o]=>some (k,o)
 |_=>none
theorem koI_iff{k:Int}:koI d=some (k,o)↔aM d=some [.int k,o]:=by
 unfold koI;constructor
 .intro h;split at h
  .rename_i k' o' e;cases h;exact e
  .cases h
 .intro h;rw[h]
theorem CJ(x:PyData):JU x 2=pd (∃a b,aM x=some [a,b]):=by
 refine gO ?_;unfold JU;cases q:aM x with
 |none=>exact⟨fun h=>by simp at h,fun⟨a,b,h⟩=>by cases h⟩
 |some ds=>
  dsimp only;rw[Y3];constructor
  .intro h;obtain⟨a,b,e⟩:=yB (show ds.length=2 by omega);exact⟨a,b,by rw[e]⟩
  .intro ⟨a,b,h⟩;cases h;rfl
theorem ZM{x:PyData}{a b:PyData}{u v w z:Option CD}(h:aM x=some [a,b]):BW 2 (cT (hName 2) (cT (hName 3) nG)) (.d x) [u,v,w,z] M=some ([u,v,some (.d a),some (.d b)],M):=by
 cases x with
 |list xs=>cases h;rfl
 |tuple xs=>cases h;rfl
 |_=>cases h
theorem FY{ls:List (List Int)}{a b:PyData}(hn:n<=40)(ha:aM a=some ds)(e:ds.map fJ=ls.map some)(hl:ls.length<64)(ln:LnP n ls)(hw:Wi 3 b):∃L,kM [.d a,.d b] M=some (B (pd (∃rs,nH b=some rs/\RsP ls rs)),M++L):=by
 have ll:ds.length=ls.length:=(oU e).symm
 have c0:gOr (cB (gB (aF gK (aA (aB 1) aE)))) (cB (gB (aF mN (aA nJ aE)))) [some (.d a),some (.d b),none] M=some (pd ((¬∃xs,aM b=some xs)\/¬∃xs,aM b=some xs/\∀x∈xs,∃p,koI x=some p/\0<=p.1/\p.1<(ls.length:Int)),M):=by
  refine yL (eY (bV ?_)) fun h=>eY (bV ?_)
  .rw[<- pQ];exact tX b M
  .rw[Y8]at h;obtain⟨xs,hx⟩:=h
   have al:=zN (i:=1) (cap:=[some 0,none]) (f:=aB 1) (e:=fN (aF gH (aA (aB 1) (aA (fC (.int 2)) aE))) (aF cS (aA (aF bW (aA (aB 0) aE)) (aA (fOp ixF (aB 1) (fC (.int 0))) aE)))) (γ:=[some (.d a),some (.d b),none]) (M:=M) rfl hx (by have:=(hw xs hx).1;omega) (P:=fun x=>(∃a b,aM x=some [a,b])/\∃p,koI x=some p/\0<=p.1/\p.1<(ls.length:Int)) fun x _=>by
    refine tP ?_ fun⟨y,z,hyz⟩=>?_
    .rw[<- CJ];exact aO (aH rfl (aH rfl aN)) (xG x 2 M)
    .have pl:=sZ (ls.length:Int) y M;rw[IV]at pl;have r:=aO (F:=cS) (fa:=aA (aF bW (aA (aB 0) aE)) (aA (fOp ixF (aB 1) (fC (.int 0))) aE)) (γ:=[some (.d a),some (.d x)]) (M:=M) (xs:=[I (ls.length:Int),.d y]) (aH (aO (aH rfl aN) (by rw[<- ll];exact fQ ha M)) (aH (aU rfl rfl (iE hyz (DO _ _))) aN)) pl;refine r.trans (D4 (fun b=>some (B b,M)) (cA ⟨fun⟨i,h1,h2⟩=>?_,fun⟨p,h1,h2⟩=>?_⟩))
     .subst h1;exact⟨(i,z),koI_iff.mpr hyz,h2⟩
     .have:=koI_iff.mp (show koI x=some (p.1,p.2)from h1);rw[hyz]at this;cases this;exact⟨p.1,rfl,h2⟩
   rw[show nJ=fLc [some 0,none] (bE (aB 1)) (hName 1) eR (fN (aF gH (aA (aB 1) (aA (fC (.int 2)) aE))) (aF cS (aA (aF bW (aA (aB 0) aE)) (aA (fOp ixF (aB 1) (fC (.int 0))) aE))))from rfl,al];refine D4 (fun b=>some (B b,M)) (cA ⟨fun h=>⟨xs,hx,fun x hx'=>(h x hx').2⟩,fun⟨ys,h1,h2⟩ x hx'=>?_⟩);rw[hx]at h1;cases h1;obtain⟨p,h3,h4⟩:=h2 x hx';exact⟨⟨_,_,koI_iff.mp (show koI x=some (p.1,p.2)from h3)⟩,p,h3,h4⟩
 rcases E8 ((¬∃xs,aM b=some xs)\/¬∃xs,aM b=some xs/\∀x∈xs,∃p,koI x=some p/\0<=p.1/\p.1<(ls.length:Int))with p|p
 .refine⟨[],eG rfl ?_⟩;show aW _ _ [some (.d a),some (.d b),none] M=_;rw[lF c0 p,E7];refine D4 (fun b=>some (Out.rt (B b),M)) (gI fun⟨rs,h1,r⟩=>?_).symm;obtain⟨xs,hx,q⟩:=ringsI_iff.mp h1;refine p.elim (fun p=>p ⟨xs,hx⟩) fun p=>p ⟨xs,hx,fun x hx'=>?_⟩;obtain⟨r',hr,q'⟩:=(oO q).1 x hx';obtain⟨o,h3,h4⟩:=ringI_iff.mp (show fZ x=some (r'.1,r'.2)from q');exact⟨(r'.1,o),koI_iff.mpr h3,(r.rg r' hr).k0⟩
 .have p2:∃xs,aM b=some xs/\∀x∈xs,∃p,koI x=some p/\0<=p.1/\p.1<(ls.length:Int):=D8 fun q=>p (.inr q);obtain⟨xs,hx,hxs⟩:=p2;obtain⟨hlx,hwx⟩:=hw xs hx;obtain⟨ko,eko,hko⟩:=vE (f:=koI) (P:=fun p=>0<=p.1/\p.1<(ls.length:Int)) hxs;have lko:=oU eko;have bt:=EA (i:=0) (cap:=[none]) (f:=aB 0) (γ:=[some (.d a),some (.d b),none]) (M:=M) rfl rfl ha e (by omega) ln.lk hn;obtain⟨M1,ew,S⟩:=WU (M:=M) ln.fam (by omega);obtain⟨L,hL⟩:=S.app;refine⟨L,eG rfl ?_⟩;show aW _ _ [some (.d a),some (.d b),none] M=_;rw[lJ c0 p,aR (bR (i:=2) (aO (aH (show sP _ _=_ from bt) aN) ew)),<- hL];show bT _ [some (.d a),some (.d b),some (.c (M.length+ls.length))] M1=_
  have r3:kF [some (.d a),some (.d b),some (.c (M.length+ls.length))] M1=some (.d (.list ((ko.map (·.1)).map .int)),M1):=by
   have m:=EC (i:=0) (cap:=[none]) (f:=aB 1) (e:=fOp ixF (aB 0) (fC (.int 0))) (γ:=[some (.d a),some (.d b),some (.c (M.length+ls.length))]) (M:=M1) (h:=fun x=>match koI x with|some p=>.int p.1|none=>.none) rfl hx (by omega) fun x hx'=>by
    obtain⟨p,h3,h4⟩:=hxs x hx';rw[h3];exact aU rfl rfl (iE (koI_iff.mp (show koI x=some (p.1,p.2)from h3)) (DO _ _))
   unfold kF;rw[m,lI (k:=fun p=>PyData.int p.1) (fun x l q=>by rw[q]) eko,C8];rfl
  have t1:aF eF (aA kF aE) [some (.d a),some (.d b),some (.c (M.length+ls.length))] M1=some (B (pd (Up (ko.map (·.1)))),M1):=aO (aH r3 aN) (WB rfl (by rw[A0];omega))
  have t2:aF mN (aA kD aE) [some (.d a),some (.d b),some (.c (M.length+ls.length))] M1=some (B (pd (∀p∈ko,∃os,fJ p.2=some os/\RgP ls p.1 os)),M1):=by
   have it:bE (aB 1) [some (.d a),some (.d b),some (.c (M.length+ls.length))] M1=some (xs.map .d,M1):=jA rfl hx
   have lc:=IW (g:=BW 2 (cT (hName 2) (cT (hName 3) nG))) (c:=eR) (e:=aF rS (aA (aB 0) (aA (fOp ixF (aB 1) (aB 2)) (aA (aB 2) (aA (aB 3) aE))))) (M:=M1) CD.d (fun _=>true) (fun x=>match koI x with|some p=>.bool (pd (∃os,fJ p.2=some os/\RgP ls p.1 os))|none=>.none) (Sh:=fun γ=>∃u v,γ=[some (.d a),some (.c (M.length+ls.length)),u,v]) xs [some (.d a),some (.c (M.length+ls.length)),none,none] ⟨_,_,rfl⟩ (by
    intro x hx' γ ⟨u,v,eγ⟩;subst eγ;obtain⟨⟨k,o⟩,h3,h4⟩:=hxs x hx';have hi:=koI_iff.mp h3;refine⟨_,⟨_,_,rfl⟩,ZM hi,rfl,fun _=>?_⟩;rw[h3];obtain⟨m,rfl⟩:∃m:Nat,k=(m:Int):=⟨k.toNat,by have:=h4.1;dsimp only at this;omega⟩;have hm:m<ls.length:=by have:=h4.2;dsimp only at this;omega
    have ix:ixF (.c (M.length+ls.length)) (I m) M1=some (.c (M.length+m),M1):=by
     simp only[ixF,S.top];rw[jC (x:=CD.c (M.length+m)) (by rw[C4,Z4 hm];rfl)];rfl
    have wo:Wi 1 o:=by
     intro ys hy;exact⟨((hwx x hx' _ hi).2 o (by simp) ys hy).1,fun _ _=>trivial⟩
    refine aO (aH rfl (aH (aU rfl rfl ix) (aH rfl (aH rfl aN)))) (PY ha e hm ?_ wo);rw[S.cs m hm];show some (Cell.lst (nI (inn ls m)))=some (Cell.lst ((cz (inn ls m)).map fun i=>I i));rw[C8];rfl)
   have cp:kD [some (.d a),some (.d b),some (.c (M.length+ls.length))] M1=some (.d (.list (ko.map fun p=>.bool (pd (∃os,fJ p.2=some os/\RgP ls p.1 os)))),M1):=by
    rw[List.filter_eq_self.mpr fun _ _=>rfl,lI (k:=fun p:Int×PyData=>PyData.bool (pd (∃os,fJ p.2=some os/\RgP ls p.1 os))) (fun x l q=>by rw[q]) eko]at lc;unfold kD;exact lB it (by rw[A0];omega) lc (by rw[A0];omega)
   refine aO (aH cp aN) ?_;rw[all_map' (f:=fun p:Int×PyData=>pd (∃os,fJ p.2=some os/\RgP ls p.1 os))];refine D4 (fun b=>some (B b,M1)) (gO ?_);rw[U8];exact⟨fun h x hx=>pd_iff.mp (h x hx),fun h x hx=>pd_iff.mpr (h x hx)⟩
  rw[cP (tP t1 fun _=>t2)];refine D4 (fun b=>some (Out.rt (B b),M1)) (cA ⟨fun⟨h1,h2⟩=>?_,fun⟨rs,h1,r⟩=>?_⟩)
  .obtain⟨rs,ers,hrs⟩:=vE (f:=fun p:Int×PyData=>(fJ p.2).bind fun os=>some (p.1,os)) (P:=fun r=>RgP ls r.1 r.2) (ds:=ko) fun p hp=>by
    obtain⟨os,h3,h4⟩:=h2 p hp;exact⟨(p.1,os),by rw[h3];rfl,h4⟩
   refine⟨rs,ringsI_iff.mpr ⟨xs,hx,?_⟩,hrs,?_⟩
   .rw[<- ers]
    exact lI (f:=koI) (h:=fZ) (k:=fun p:Int×PyData=>(fJ p.2).bind fun os=>some (p.1,os)) (fun x p q=>by
     have:=koI_iff.mp (show koI x=some (p.1,p.2)from q);unfold fZ;rw[this]) eko
   .have:=lI (f:=fun p:Int×PyData=>(fJ p.2).bind fun os=>some (p.1,os)) (h:=fun p=>p.1) (k:=fun r=>r.1) (fun x l q=>by
     obtain⟨os,_,h⟩:=Option.bind_eq_some_iff.mp q;cases h;rfl) ers
    rw[<- this];exact h1
  .obtain⟨ys,hy,q⟩:=ringsI_iff.mp h1;rw[hx]at hy;cases hy
   have kr:∀x∈xs,∀r,fZ x=some r->∃o,koI x=some (r.1,o)/\fJ o=some r.2:=fun x _ r hr=>by
    obtain⟨o,h3,h4⟩:=ringI_iff.mp (show fZ x=some (r.1,r.2)from hr);exact⟨o,koI_iff.mpr h3,h4⟩
   have e1:xs.map (fun x=>match koI x with|some p=>p.1|none=>0)=ko.map (·.1):=lI (fun x l q=>by rw[q]) eko
   have e2:xs.map (fun x=>match koI x with|some p=>p.1|none=>0)=rs.map (·.1):=lI (fun x l q=>by
    obtain⟨o,h3,h4⟩:=ringI_iff.mp (show fZ x=some (l.1,l.2)from q);rw[koI_iff.mpr h3]) q
   refine⟨by rw[<- e1,e2];exact r.up,fun p hp=>?_⟩;obtain⟨x,hx',h3⟩:=(oO eko).2 p hp;obtain⟨r',hr,h4⟩:=(oO q).1 x hx';obtain⟨o,h5,h6⟩:=kr x hx' r' h4;rw[h3]at h5;cases h5;exact⟨r'.2,h6,r.rg r' hr⟩
theorem Wi.less:∀{m:Nat}{d:PyData},Wi (m+1) d->Wi m d
 |0,_=>fun _=>trivial
 |m+1,_=>fun h=>fun ds hd=>⟨(h ds hd).1,fun x hx=>((h ds hd).2 x hx).less⟩
theorem sW(hn:n<=40)(hw:Wi 4 d):∃L,fS [I n,.d d] M=some (B (pd (ChD n d)),M++L):=by
 have t1:aF gH (aA (aB 1) (aA (fC (.int 2)) aE)) [some (I n),some (.d d)] M=some (B (pd (∃a b,aM d=some [a,b])),M):=by
  rw[<- CJ];exact aO (aH rfl (aH rfl aN)) (xG d 2 M)
 obtain⟨L,h⟩:=LC (g:=fN (aF kQ (aA (aB 0) (aA (fOp ixF (aB 1) (fC (.int 0))) aE))) (aF kM (aA (fOp ixF (aB 1) (fC (.int 0))) (aA (fOp ixF (aB 1) (fC (.int 1))) aE)))) (Q:=ChD n d) t1 fun⟨a,b,hd⟩=>by
  have wa:=(hw _ hd).2 a (by simp);have wb:=(hw _ hd).2 b (by simp);have ix0:fOp ixF (aB 1) (fC (.int 0)) [some (I n),some (.d d)] M=some (.d a,M):=aU rfl rfl (iE hd (DO _ _));have ix1:fOp ixF (aB 1) (fC (.int 1)) [some (I n),some (.d d)] M=some (.d b,M):=aU rfl rfl (iE hd (UK _ _ _));have t2:=aO (F:=kQ) (fa:=aA (aB 0) (aA (fOp ixF (aB 1) (fC (.int 0))) aE)) (γ:=[some (I n),some (.d d)]) (aH rfl (aH ix0 aN)) (IB (M:=M) hn wa.less)
  obtain⟨L,h⟩:=LC (g:=aF kM (aA (fOp ixF (aB 1) (fC (.int 0))) (aA (fOp ixF (aB 1) (fC (.int 1))) aE))) (Q:=∃ls rs,nU a=some ls/\nH b=some rs/\RsP ls rs) t2 fun⟨ls,hls,ln⟩=>by
   obtain⟨ds,ha,e⟩:=linksI_iff.mp hls;obtain⟨L,h⟩:=FY (M:=M) (b:=b) hn ha e (by rw[oU e];exact(wa ds ha).1) ln wb;refine⟨L,(aO (aH ix0 (aH ix1 aN)) h).trans (D4 (fun b=>some (B b,M++L)) (cA ⟨fun⟨rs,h1,h2⟩=>⟨ls,rs,hls,h1,h2⟩,fun⟨ls',rs,h1,h2,h3⟩=>?_⟩))⟩;rw[hls]at h1;cases h1;exact⟨rs,h2,h3⟩
  refine⟨L,h.trans (D4 (fun b=>some (B b,M++L)) (cA ⟨fun⟨⟨ls,h1,h2⟩,ls',rs,h3,h4,h5⟩=>?_,fun⟨a',b',ls,rs,h1,h2,h3,h4,h5⟩=>?_⟩))⟩
  .rw[h1]at h3;cases h3;exact⟨a,b,ls,rs,hd,h1,h2,h4,h5⟩
  .rw[hd]at h1;cases h1;exact⟨⟨ls,h2,h3⟩,ls,rs,h2,h4,h5⟩
 refine⟨L,eG rfl (cP (h.trans (D4 (fun b=>some (B b,M++L)) (cA ⟨fun q=>q.2,fun q=>⟨?_,q⟩⟩))))⟩;obtain⟨a,b,_,_,h1,_⟩:=q;exact⟨a,b,h1⟩
noncomputable abbrev rI(l:List Int):List PyData:=l.map .int
theorem zR(ls:List (List Int))(i:Nat):(ls.map rI).getD i []=rI (la ls i):=by
 unfold la;rw[A6,A6,C4];cases ls[i]?<;>rfl
theorem qF:∀l:List Int,cG (rI l)=true
 |[]=>rfl
 |i::l=>by show(true&&cG (rI l))=true;rw[qF l];rfl
theorem aAe{ls:List (List Int)}(h:∀l∈ls,l≠[])(h2:2<=ls.length)(h64:ls.length<64):sortable (ls.map rI)=true:=by
 have hd:(kL (ls.map rI) || qT (ls.map rI))=true:=by
  rw[Bool.or_eq_true];refine .inl ?_;unfold kL;rw[List.all_map];refine List.all_eq_true.mpr fun l hl=>?_;cases l with
  |nil=>exact absurd rfl (h _ hl)
  |cons x r=>rfl
 unfold sortable;rw[A0,C5 h2,C5 h64,hd,A0j,A0j,Bool.and_true,B5];refine⟨List.all_eq_true.mpr fun r hr=>?_,List.all_eq_true.mpr fun i hi=>List.all_eq_true.mpr fun j hj=>?_⟩
 .obtain⟨t,_,rfl⟩:=List.mem_map.mp hr;rw[uH,qF];rfl
 .rw[zR,zR,yK];rfl
theorem aED{ls:List (List Int)}(h:¬∀l∈ls,l≠[])(h2:2<=ls.length)(h64:ls.length<64):nZ (ls.map rI)=true:=by
 have hd:(ls.map rI).any (·.isEmpty)=true:=by
  rw[List.any_map,A0h]
  apply D8
  intro n;refine h fun l hl e=>n ⟨l,hl,?_⟩;rw[e];rfl
 unfold nZ;rw[A0,C5 h2,C5 h64,hd,A0j,A0j,Bool.and_true,B5];refine⟨List.all_eq_true.mpr fun r hr=>?_,List.all_eq_true.mpr fun i hi=>List.all_eq_true.mpr fun j hj=>?_⟩
 .obtain⟨t,_,rfl⟩:=List.mem_map.mp hr;rw[uH,qF];rfl
 .rw[zR,zR,yK];rfl
theorem VG(ls:List (List Int))(i j:Nat):dZ (ls.map rI) i j=lex (la ls i) (la ls j):=by
 unfold dZ;rw[zR,zR,yK];rfl
theorem SH(ls:List (List Int)):(List.range ls.length).map (la ls)=ls:=by
 refine A0d fun i=>?_;rw[C4];by_cases h:i<ls.length
 .rw[Z4 h,A8 h];show some (la ls i)=_;rw[la,A6,A8 h];rfl
 .rw[Y6 (by rw[E9];omega),Y6 (by omega)];rfl
theorem AH{ls:List (List Int)}(h0:0<ls.length):∃vs:List (List Int),vs.Perm ls/\zC (ls.map rI)=vs.map tR/\vs=(dY (dZ (ls.map rI)) ls.length).map (la ls):=by
 have pm:=iR (n:=ls.length) (dZ (ls.map rI)) h0;refine⟨(dY (dZ (ls.map rI)) ls.length).map (la ls),?_,?_,rfl⟩
 .have:=pm.map (la ls)
  rwa [SH]at this
 .unfold zC;rw[A0,C8];refine Z5 fun i _=>?_;show PyData.tuple ((ls.map rI).getD i [])=tR (la ls i);rw[zR]
theorem CN{ls:List (List Int)}(h:∀l∈ls,l≠[])(h2:2<=ls.length)(h64:ls.length<64):∃vs:List (List Int),vs.Perm ls/\(vs.Pairwise fun a b=>lex b a=false)/\zC (ls.map rI)=vs.map tR:=by
 obtain⟨vs,p,sd,e⟩:=AH (ls:=ls) (by omega);refine⟨vs,p,?_,sd⟩;have so:=BL (aAe h h2 h64);have pm:=iR (n:=ls.length) (dZ (ls.map rI)) (by omega);rw[A0]at so;rw[e,List.pairwise_map,List.pairwise_iff_getElem];have len:(dY (dZ (ls.map rI)) ls.length).length=ls.length:=by rw[pm.length_eq,E9]
 intro a b ha hb hab
 have g:∀c (hc:c<(dY (dZ (ls.map rI)) ls.length).length),(PJ (dZ (ls.map rI)) (PySem.W.kas_sort ls.length)).getD c 0=(dY (dZ (ls.map rI)) ls.length)[c]:=fun c hc=>by
  unfold dY at hc ⊢;rw[Z3]at hc;simp[Array.getD,hc]
 have s1:=so a b hab (by rw[<- len];exact hb);rw[g a ha,g b hb,VG]at s1;exact s1
theorem xY(ls:List (List Int)):rowsOf (ls.map tR)=some (ls.map rI):=by
 induction ls with
 |nil=>rfl
 |cons t us ih=>
  show(rowsOf (us.map tR)).bind _=_;rw[ih];rfl
theorem GG{ls:List (List Int)}(h:ls.length<2):ls.Pairwise fun a b=>lex b a=false:=by
 match ls,h with
 |[],_=>exact .nil
 |[t],_=>exact Y2 _ _
theorem OT{ls:List (List Int)}(h:∀l∈ls,l≠[])(h64:ls.length<64):∃vs:List (List Int),vs.Perm ls/\(vs.Pairwise fun a b=>lex b a=false)/\jM [.d (lR ls)] M=some (.d (lR vs),M):=by
 by_cases h2:ls.length<2
 .refine⟨ls,.refl _,GG h2,?_⟩;unfold jM
  have:pE [.d (lR ls)] M=some (.d (lR ls),M):=by
   show(if (ls.map tR).length<2 then _ else _)=_;rw[A4 (by rw[A0];exact h2)]
  rw[this]
 .obtain⟨vs,p,s,e⟩:=CN h (by omega) h64;refine⟨vs,p,s,?_⟩;unfold jM
  have:pE [.d (lR ls)] M=none:=by
   show(if (ls.map tR).length<2 then _ else _)=_;rw[B0 (by rw[A0];exact h2)]
  rw[this];show(rowsOf (ls.map tR)).bind _=_;rw[xY,A3,aAe h (by omega) h64,A4 rfl,e]
theorem NR{ls:List (List Int)}(hc:M[c]?=some (.lst (ls.map fun l=>.d (tR l))))(h:∀l∈ls,l≠[])(h64:ls.length<64):∃vs:List (List Int),vs.Perm ls/\(vs.Pairwise fun a b=>lex b a=false)/\jM [.c c] M=some (.d (lR vs),M):=by
 have al:kO (ls.map fun l=>CD.d (tR l))=some (ls.map tR):=by
  rw[show(ls.map fun l=>CD.d (tR l))=(ls.map tR).map .d by rw[C8];rfl,iD]
 by_cases h2:ls.length<2
 .refine⟨ls,.refl _,GG h2,?_⟩;unfold jM
  have:pE [.c c] M=some (.d (lR ls),M):=by
   simp only[pE,hc,al,Option.bind_some,List.length_map,if_pos h2]
  rw[this]
 .obtain⟨vs,p,s,e⟩:=CN h (by omega) h64;refine⟨vs,p,s,?_⟩;unfold jM
  have:pE [.c c] M=none:=by
   simp only[pE,hc,al,Option.bind_some,List.length_map,if_neg h2]
  rw[this]
  have:vB [.c c] M=some (.d (lR vs),M):=by
   simp only[vB,hc,al,Option.bind_some,xY,aAe h (by omega) h64,if_true,e]
  exact this
theorem WM{ls:List (List Int)}(h64:ls.length<64):∃vs:List (List Int),vs.Perm ls/\mG [.d (.tuple (ls.map tR))] M=some (.d (lR vs),M):=by
 have tf:FC [.d (.tuple (ls.map tR))] M=(jJ (ls.map rI)).bind fun r=>some (.d (.list r),M):=by
  show(rowsOf (ls.map tR)).bind _=_;rw[xY];rfl
 by_cases h2:ls.length<2
 .refine⟨ls,.refl _,?_⟩
  have:jJ (ls.map rI)=some (ls.map tR):=by
   unfold jJ
   have:sortable (ls.map rI)=false:=by
    unfold sortable;rw[A0,E1 (by omega)];rfl
   rw[this,B0 A9,A0,A4 h2,C8];rfl
  unfold mG;rw[tf,this];rfl
 .obtain⟨vs,p,sd,_⟩:=AH (ls:=ls) (by omega);refine⟨vs,p,?_⟩;unfold mG;cases q:sortable (ls.map rI)with
  |true=>
   have:jJ (ls.map rI)=some (vs.map tR):=by
    unfold jJ;rw[q,A4 rfl,sd]
   rw[tf,this];rfl
  |false=>
   have:jJ (ls.map rI)=none:=by
    unfold jJ;rw[q,B0 A9,A0,B0 h2]
   rw[tf,this]
   have ne:¬∀l∈ls,l≠[]:=fun z=>by
    rw[aAe z (by omega) h64]at q;cases q
   show(rowsOf (ls.map tR)).bind _=_;rw[xY,A3,aED ne (by omega) h64,A4 rfl,sd]
theorem MH(h:Li M c ns):snap 5 M (.c c)=some (.list (ns.map .int)):=by
 unfold Li at h;unfold snap;rw[h];show(kN 4 M (ns.map fun i=>I i)).bind _=_;rw[pK];rfl
theorem aFf{a b:Nat}(ha:Li M a ns)(hb:Li M b []):eqY true (.c a) (.c b) M=some (B (!ns.isEmpty),M):=by
 show eqC true (.c a) (.c b) M=_;unfold eqC;rw[MH ha,MH hb,A3,A3,nN,nN];cases ns<;>rfl
noncomputable abbrev h4(s:Nat):List CD:=[.c s,.c (s+1),.c (s+2),.c (s+3)]
structure PT(c:Nat)(M M':Sto)(hs:Nat->List Int)(m:Nat):Prop where
 len:M'.length=M.length+5
 pre:∀i,i<M.length->i≠c->M'[i]?=M[i]?
 top:M'[M.length+4]?=some (.lst (h4 M.length))
 cs:∀k,k<4->Li M' (M.length+k) (hs k)
 dk:Dk M' c m
theorem aEA{s:Nat}(h:k<4):atI (h4 s) (k:Int)=some (.c (s+k)):=by
 refine jC ?_
 match k,h with
 |0,_=>rfl
 |1,_=>rfl
 |2,_=>rfl
 |3,_=>rfl
theorem mR{T:String}{h:FM}{M1 M2:Sto}(hf:f γ M=some (x,M1))(ty:tyB T M1 x=true)(ha:fa γ M1=some (xs,M2))(e:h x xs M2=some (y,M3)):bM T h f fa γ M=some (y,M3):=by
 unfold bM;rw[hf,A3];dsimp only;rw[A4 ty,ha,A3];exact e
theorem FU{M1:Sto}(h:f γ M=some (x,M1)):gA f γ M=some (.nx γ,M1):=by
 unfold gA;rw[h,A3]
theorem iK{M1:Sto}{b:Int}(h:f γ M=some (I z,M1))(hb:0<b):fOp cH f (fC (.int b)) γ M=some (I (z % b),M1):=by
 refine aU h rfl ?_;show(ifS (pY z b) (.int (z % b))).bind _=_;rw[lE hb];rfl
theorem PZ(h:M[c]?=some (.lst xs)):tyB "list" M (.c c)=true:=by simp only[tyB,h];decide
theorem zU(h:M[c]?=some (.lst xs))(hl:xs.length<900):cD (.c c) [y] M=some (.d .none,M.set c (.lst (xs++[y]))):=by
 have l:xs.length<sizeLine:=by rw[J9];omega
 simp only[cD,h,if_pos l]
theorem IG{hs:Nat->List Int}{p:Int}{d:CD}(hc:c<M.length)(P:PT c M M' hs (m+1))(hl:∀k,k<4->(hs k).length<800):
 ∃k M2,k<4/\kX [some (.c c),some d,some (.c (M.length+4)),some (I p)] M'=some (.nx [some (.c c),some d,some (.c (M.length+4)),some (I p)],M2)/\PT c M M2 (fun i=>if i=k then hs i++[p]else hs i) m:=by
 obtain⟨z,M1,e1,dk,o,rz⟩:=P.dk.pop;obtain⟨k,ek⟩:∃k:Nat,z % 4=(k:Int):=⟨(z % 4).toNat,by omega⟩;have hk:k<4:=by omega
 have top:M1[M.length+4]?=some (.lst (h4 M.length)):=by rw[o.at_ _ (by omega)];exact P.top
 have cs:∀k,k<4->Li M1 (M.length+k) (hs k):=fun k hk=>(P.cs k hk).oth o (by omega)
 have ix:ixF (.c (M.length+4)) (I k) M1=some (.c (M.length+k),M1):=by
  simp only[ixF,top];rw[aEA hk];rfl
 have po:bM "list" fM (aB 0) aE [some (.c c),some d,some (.c (M.length+4)),some (I p)] M'=some (I z,M1):=pop_at rfl P.dk.ty e1
 have md:fOp cH (bM "list" fM (aB 0) aE) (fC (.int 4)) [some (.c c),some d,some (.c (M.length+4)),some (I p)] M'=some (I k,M1):=by
  rw[<- ek];exact iK po (by decide)
 refine⟨k,M1.set (M.length+k) (cI (hs k++[p])),hk,?_,?_⟩
 .refine FU (mR (y:=.d .none) (aU rfl md ix) (cs k hk).ty (aH rfl aN) ?_);exact(cs k hk).push (by have:=hl k hk;omega)
 .refine⟨by rw[S3,o.len];exact P.len,fun i hi hn=>by rw[D6 (by omega),o.at_ _ hn];exact P.pre i hi hn,by rw[D6 (by omega)];exact top,fun j hj=>?_,dk.put (by omega)⟩;show Li _ _ (if j=k then hs j++[p]else hs j);by_cases q:j=k
  .subst q;rw[A4 rfl];exact(cs j hj).set.1
  .rw[B0 q];unfold Li;rw[D6 (by omega)];exact cs j hj
structure Hp4(hs:Nat->List Int)(ps:List Int):Prop where
 up:∀k,Up (hs k)
 sb:∀k,Sb (hs k) ps
 ds:∀i j,i≠j->Ds (hs i) (hs j)
 ln:∀k,(hs k).length<=ps.length
theorem Hp4.add{hs:Nat->List Int}(h:Hp4 hs ps)(up:Up (ps++[p])):Hp4 (fun i=>if i=k then hs i++[p]else hs i) (ps++[p]):=by
 have lt:∀x∈ps,x<p:=fun x hx=>(List.pairwise_append.mp up).2.2 x hx p (by simp);have np:∀i,p∉hs i:=fun i hp=>by have:=lt p (h.sb i p hp);omega
 refine⟨fun i=>?_,fun i=>?_,fun i j ne=>?_,fun i=>?_⟩
 .show Up (if i=k then hs i++[p]else hs i);split
  .exact List.pairwise_append.mpr ⟨h.up i,Y2 _ _,fun x hx y hy=>by rw[List.mem_singleton.mp hy];exact lt x (h.sb i x hx)⟩
  .exact h.up i
 .show Sb (if i=k then hs i++[p]else hs i) _;split
  .intro x hx;rcases List.mem_append.mp hx with hx|hx
   .exact J6 _ (h.sb i x hx)
   .exact E2 _ hx
  .intro x hx;exact J6 _ (h.sb i x hx)
 .show Ds (if i=k then hs i++[p]else hs i) (if j=k then hs j++[p]else hs j);intro x hx hy;by_cases q1:i=k
  .rw[A4 q1]at hx;rw[B0 (by omega)]at hy;rcases List.mem_append.mp hx with hx|hx
   .exact h.ds i j ne x hx hy
   .rw[List.mem_singleton.mp hx]at hy;exact np j hy
  .rw[B0 q1]at hx;by_cases q2:j=k
   .rw[A4 q2]at hy;rcases List.mem_append.mp hy with hy|hy
    .exact h.ds i j ne x hx hy
    .rw[List.mem_singleton.mp hy]at hx;exact np i hx
   .rw[B0 q2]at hy;exact h.ds i j ne x hx hy
 .show(if i=k then hs i++[p]else hs i).length<=_;have:=h.ln i;split<;>simp only[List.length_append,List.length_singleton]<;>omega
theorem wQ{c:Nat}{M:Sto}{d:CD}(hc:c<M.length):∀(qs ps:List Int)(m:Nat)(M':Sto)(hs:Nat->List Int)(g:Option CD),PT c M M' hs (m+qs.length)->Hp4 hs ps->Up (ps++qs)->(ps++qs).length<800->
 ∃g' M2 hs',jT (hName 3) kX (qs.map fun p=>I p) [some (.c c),some d,some (.c (M.length+4)),g] M'=some (.nx [some (.c c),some d,some (.c (M.length+4)),g'],M2)/\PT c M M2 hs' m/\Hp4 hs' (ps++qs)
 |[]=>fun ps m M' hs g P H u l=>⟨g,M',hs,rfl,P,by rw[E7];exact H⟩
 |q::qs=>fun ps m M' hs g P H u l=>by
  obtain⟨k,M2,hk,e,P2⟩:=IG (m:=m+qs.length) (p:=q) (d:=d) hc P fun k _=>by
   have:=H.ln k;rw[A7]at l;omega
  have a:ps++q::qs=(ps++[q])++qs:=by rw[F7];rfl
  rw[a]at u l ⊢;obtain⟨g',M3,hs',e3,P3,H3⟩:=wQ hc qs (ps++[q]) m M2 _ (some (I q)) P2 (H.add (List.pairwise_append.mp u).1) u l;refine⟨g',M3,hs',?_,P3,H3⟩;rw[B6,eK (show hName 3 (I q) [some (.c c),some d,some (.c (M.length+4)),g] M'=some ([some (.c c),some d,some (.c (M.length+4)),some (I q)],M')from rfl) e];exact e3
theorem TC{M1:Sto}(h:f γ M=some (.c c,M1))(hc:M1[c]?=some (.lst (ds.map .d))):eH f γ M=some (.d (.list ds),M1.set c .dead):=by
 unfold eH;rw[h,A3];dsimp only;rw[hc];dsimp only;rw[iD,A3]
theorem aAu{P:Sto->Prop}{g:GF}{c:TF}(h:P M):lcP P g c e [] γ M=some ([],M):=by
 unfold lcP;exact A4 h
theorem aFB{P:Sto->Prop}{g:GF}{c:TF}{M1 M2:Sto}(h:P M)(hg:g x γ M=some (γ1,M1))(hc:c γ1 M1=some (false,M2)):lcP P g c e (x::xs) γ M=lcP P g c e xs γ1 M2:=by
 rw[lcP,A4 h,hg,A3];dsimp only;rw[hc,A3];exact B0 A9
theorem aET{P:Sto->Prop}{g:GF}{c:TF}{M1 M2:Sto}(h:P M)(hg:g x γ M=some (γ1,M1))(hc:c γ1 M1=some (true,M2))(he:e γ1 M2=some (y,M3)):lcP P g c e (x::xs) γ M=(lcP P g c e xs γ1 M3).bind fun q=>some (y::q.1,q.2):=by
 rw[lcP,A4 h,hg,A3];dsimp only;rw[hc,A3];refine(A4 rfl).trans ?_;rw[he,A3]
theorem zG{c:Nat}{M:Sto}{hs:Nat->List Int}:∀(n k:Nat)(M':Sto)(γ:Ga)(m:Nat),k+n=4->(∃g,γ=[g])->M.length+5<=M'.length->(∀i,i<M.length->i≠c->M'[i]?=M[i]?)->M'[M.length+4]?=some (.lst (h4 M.length))->(∀j,k<=j->j<4->Li M' (M.length+j) (hs j))->Dk M' c m->c<M.length->
 ∃M2,lcP (fun X=>X[M.length+4]?=some (.lst (h4 M.length))) (hName 0) (gB (fOp (eqY true) (aB 0) (dU aE))) (eH (aB 0)) ((List.range' k n).map fun j=>.c (M.length+j)) γ M'=some ((((List.range' k n).map hs).filter fun h=>!h.isEmpty).map fun h=>.d (.list (rI h)),M2)/\M.length+5<=M2.length/\(∀i,i<M.length->i≠c->M2[i]?=M[i]?)/\Dk M2 c m
 |0=>fun k M' γ m hk hγ hl pre top cs dk hc=>⟨M',aAu top,hl,pre,dk⟩
 |n+1=>fun k M' γ m hk hγ hl pre top cs dk hc=>by
  obtain⟨g,rfl⟩:=hγ;have ck:=cs k (B3 _) (by omega)
  have nw:dU aE [some (.c (M.length+k))] M'=some (.c M'.length,M'++[Cell.lst []]):=by
   show(if 0<=sizeLine then some (CD.c M'.length,M'++[Cell.lst []])else none)=_;rw[A4 (F9 _)]
  have t:gB (fOp (eqY true) (aB 0) (dU aE)) [some (.c (M.length+k))] M'=some (!(hs k).isEmpty,M'++[Cell.lst []]):=bV (aU rfl nw (aFf ck.app jR));have pre':∀i,i<M.length->i≠c->(M'++[Cell.lst []])[i]?=M[i]?:=fun i hi hn=>by rw[E3 (by omega)];exact pre i hi hn
  have top':(M'++[Cell.lst []])[M.length+4]?=some (.lst (h4 M.length)):=by rw[E3 (by omega)];exact top
  rw[List.range'_succ,B6,B6];cases q:(hs k).isEmpty with
  |true=>
   obtain⟨M2,e,h1,h2,h3⟩:=zG (c:=c) (M:=M) (hs:=hs) n (k+1) (M'++[Cell.lst []]) [some (.c (M.length+k))] m (by omega) ⟨_,rfl⟩ (by rw[A7];omega) pre' top' (fun j h1 h2=>(cs j (by omega) h2).app) dk.app hc;refine⟨M2,?_,h1,h2,h3⟩;rw[q]at t;rw[aFB top (show hName 0 (.c (M.length+k)) [g] M'=some ([some (.c (M.length+k))],M')from rfl) t,e,Y0 (by rw[q];decide)]
  |false=>
   have fz:eH (aB 0) [some (.c (M.length+k))] (M'++[Cell.lst []])=some (.d (.list (rI (hs k))),(M'++[Cell.lst []]).set (M.length+k) .dead):=TC rfl (by
    rw[show(M'++[Cell.lst []])[M.length+k]?=some (cI (hs k))from ck.app,C8];rfl)
   obtain⟨M2,e,h1,h2,h3⟩:=zG (c:=c) (M:=M) (hs:=hs) n (k+1) ((M'++[Cell.lst []]).set (M.length+k) .dead) [some (.c (M.length+k))] m (by omega) ⟨_,rfl⟩ (by rw[S3,A7];omega) (fun i hi hn=>by rw[D6 (by omega)];exact pre' i hi hn) (by rw[D6 (by omega)];exact top') (fun j h1 h2=>by
    unfold Li;rw[D6 (by omega)];exact(cs j (by omega) h2).app) (dk.app.put (by omega)) hc
   refine⟨M2,?_,h1,h2,h3⟩;rw[q]at t;rw[aET top (show hName 0 (.c (M.length+k)) [g] M'=some ([some (.c (M.length+k))],M')from rfl) t fz,e,Y1 (by rw[q];rfl)];rfl
theorem tL{f:AF}{M1:Sto}(h:f γ M=some (xs,M1))(hl:xs.length<=900):dU f γ M=some (.c M1.length,M1++[.lst xs]):=by
 unfold dU;rw[h,A3];exact A4 (sz (show xs.length<=1000 by omega))
theorem TQ(dk:Dk M c (m+ps.length))(up:Up ps)(hl:ps.length<800):∃(hps:List (List Int))(M':Sto)(e:Nat),iA [.c c,.d (.list (rI ps))] M=some (.c e,M')/\M'[e]?=some (.lst ((hps.map fun h=>PyData.list (rI h)).map .d))/\M.length<=e/\Ex c M M'/\Dk M' c m/\hps.length<=4/\(∀h∈hps,Up h/\h≠[]/\Sb h ps)/\hps.Pairwise Ds:=by
 have hc:=dk.lt
 have n1:∀{γ:Ga}{M:Sto},dU aE γ M=some (.c M.length,M++[.lst []]):=fun{γ M}=>by
  show(if 0<=sizeLine then some (CD.c M.length,M++[.lst []])else none)=_;rw[A4 (F9 _)]
 have n5:dU (aA (dU aE) (aA (dU aE) (aA (dU aE) (aA (dU aE) aE)))) [some (.c c),some (.d (.list (rI ps))),none,none] M=some (.c (M.length+4),M++[.lst [],.lst [],.lst [],.lst [],.lst (h4 M.length)]):=by
  have:=tL (aH (γ:=[some (.c c),some (.d (.list (rI ps))),none,none]) (M:=M) n1 (aH n1 (aH n1 (aH n1 aN)))) (show 4<=900 by decide);simp only[List.length_append,List.length_cons,List.length_nil,List.append_assoc,List.cons_append,List.nil_append,Nat.zero_add,Nat.add_assoc,Nat.reduceAdd]at this;exact this
 have P0:PT c M (M++[.lst [],.lst [],.lst [],.lst [],.lst (h4 M.length)]) (fun _=>[]) (m+ps.length):=by
  refine⟨by rw[A7];rfl,fun i hi _=>E3 hi,by rw[E5 (by omega),Nat.add_sub_cancel_left];rfl,fun k hk=>?_,dk.app⟩;unfold Li;rw[E5 (by omega),Nat.add_sub_cancel_left]
  match k,hk with
  |0,_=>rfl
  |1,_=>rfl
  |2,_=>rfl
  |3,_=>rfl
 have H0:Hp4 (fun _=>[]) []:=⟨fun _=>.nil,fun _ x h=>by simp at h,fun _ _ _ x h=>by simp at h,fun _=>B3 _⟩;obtain⟨g',M2,hs,e2,P2,H2⟩:=wQ (d:=.d (.list (rI ps))) hc ps [] m _ _ none P0 H0 up hl;rw[List.nil_append]at H2;obtain⟨M3,e3,l3,p3,d3⟩:=zG (c:=c) (M:=M) (hs:=hs) 4 0 M2 [none] m rfl ⟨_,rfl⟩ (by rw[P2.len];omega) P2.pre P2.top (fun j _ h=>P2.cs j h) P2.dk hc
 have it:bE (aB 1) [some (.c c),some (.d (.list (rI ps))),some (.c (M.length+4)),none] (M++[.lst [],.lst [],.lst [],.lst [],.lst (h4 M.length)])=some (ps.map (fun p=>I p),M++[.lst [],.lst [],.lst [],.lst [],.lst (h4 M.length)]):=by
  rw[jA (f:=aB 1) (d:=.list (rI ps)) rfl rfl,C8];rfl
 have hle:(([hs 0,hs 1,hs 2,hs 3]).filter fun h=>!h.isEmpty).length<=4:=S8 _ _
 have ip:uL (aB 2) [some (.c c),some (.d (.list (rI ps))),some (.c (M.length+4)),g'] M2=some ((h4 M.length,fun X=>X[M.length+4]?=some (.lst (h4 M.length))),M2):=by
  unfold uL;rw[show aB 2 [some (.c c),some (.d (.list (rI ps))),some (.c (M.length+4)),g'] M2=some (.c (M.length+4),M2)from rfl,A3];simp only[walked,P2.top,Option.bind_some]
 have cp:pW [some (.c c),some (.d (.list (rI ps))),some (.c (M.length+4)),g'] M2=some (.c M3.length,M3++[.lst ((([hs 0,hs 1,hs 2,hs 3]).filter fun h=>!h.isEmpty).map fun h=>.d (.list (rI h)))]):=by
  refine tL ?_ (by rw[A0];omega);unfold VD;rw[ip,A3];dsimp only;rw[A4 (show(h4 M.length).length<=sizeLine from sz (show 4<=1000 by decide))];exact e3
 refine⟨([hs 0,hs 1,hs 2,hs 3]).filter fun h=>!h.isEmpty,M3++[.lst ((([hs 0,hs 1,hs 2,hs 3]).filter fun h=>!h.isEmpty).map fun h=>.d (.list (rI h)))],M3.length,eG rfl ?_,?_,by omega,?_,d3.app,hle,fun h hh=>?_,?_⟩
 .show aW _ _ [some (.c c),some (.d (.list (rI ps))),none,none] M=_;rw[aR (bR (i:=2) n5)];show aW _ _ [some (.c c),some (.d (.list (rI ps))),some (.c (M.length+4)),none] _=_;rw[aR (dO it e2)];exact cP cp
 .rw[jR,C8];rfl
 .exact⟨by rw[A7];omega,fun i hi hn=>by rw[E3 (by omega)];exact p3 i hi hn⟩
 .obtain⟨h1,h2⟩:=List.mem_filter.mp hh
  have:∃k,h=hs k:=by
   simp only[List.mem_cons,List.not_mem_nil,or_false]at h1;rcases h1 with h1|h1|h1|h1
   .exact⟨0,h1⟩
   .exact⟨1,h1⟩
   .exact⟨2,h1⟩
   .exact⟨3,h1⟩
  obtain⟨k,rfl⟩:=this;exact⟨H2.up k,(fun q=>by rw[q]at h2;cases h2),H2.sb k⟩
 .refine List.Pairwise.filter _ ?_;simp only[List.pairwise_cons,List.mem_cons,List.not_mem_nil,or_false];refine⟨fun x hx=>?_,fun x hx=>?_,fun x hx=>?_,fun x hx=>by simp at hx,.nil⟩
  .rcases hx with rfl|rfl|rfl<;>exact H2.ds _ _ (by decide)
  .rcases hx with rfl|rfl<;>exact H2.ds _ _ (by decide)
  .rcases hx with rfl;exact H2.ds _ _ (by decide)
structure DI(n:Int)(links todo:List (List Int)):Prop where
 lk:∀l∈links,LkP n l
 lam:∀a∈links,∀b∈links,Lm a b
 td:∀t∈todo,Up t/\∀p∈t,1<=p/\p<n
 tl:∀t∈todo,∀l∈links,Sb t l\/Ds t l
 dj:todo.Pairwise Ds
theorem Ds.symm(h:Ds a b):Ds b a:=fun x hx hy=>h x hy hx
theorem DI.put{links todo:List (List Int)}(D:DI n links (h::todo))(ne:h≠[]):DI n (links++[h]) (h::todo):=by
 have dj:=List.pairwise_cons.mp D.dj;have hh:=D.td h B2;refine⟨fun l hl=>?_,fun a ha b hb=>?_,D.td,fun t ht l hl=>?_,D.dj⟩
 .rcases List.mem_append.mp hl with hl|hl
  .exact D.lk l hl
  .rw[List.mem_singleton.mp hl];exact⟨hh.1,ne,hh.2⟩
 .have l1:∀l∈links,Lm h l:=fun l hl=>(D.tl h B2 l hl).elim .inl fun q=>.inr (.inr q);rcases List.mem_append.mp ha with ha|ha
  .rcases List.mem_append.mp hb with hb|hb
   .exact D.lam a ha b hb
   .rw[List.mem_singleton.mp hb];exact(l1 a ha).symm
  .rw[List.mem_singleton.mp ha];rcases List.mem_append.mp hb with hb|hb
   .exact l1 b hb
   .rw[List.mem_singleton.mp hb];exact .refl h
 .rcases List.mem_append.mp hl with hl|hl
  .exact D.tl t ht l hl
  .rw[List.mem_singleton.mp hl];rcases List.mem_cons.mp ht with rfl|ht
   .exact .inl fun _ h=>h
   .exact .inr (dj.1 t ht).symm
theorem DI.perm{links todo todo':List (List Int)}(D:DI n links todo)(p:todo'.Perm todo):DI n links todo':=
 ⟨D.lk,D.lam,fun t ht=>D.td t (p.mem_iff.mp ht),fun t ht=>D.tl t (p.mem_iff.mp ht),(p.symm.pairwise D.dj fun{_ _} h=>Ds.symm h)⟩
theorem DI.tail{links todo:List (List Int)}(D:DI n links (h::todo)):DI n links todo:=
 ⟨D.lk,D.lam,fun t ht=>D.td t (B1 _ ht),fun t ht=>D.tl t (B1 _ ht),(List.pairwise_cons.mp D.dj).2⟩
theorem DI.part{links ws hps:List (List Int)}(D:DI n links (ws++[ps]))(hh:∀h∈hps,Up h/\h≠[]/\Sb h ps)(dj:hps.Pairwise Ds):DI n links (hps++ws):=by
 have pm:ps∈ws++[ps]:=E2 _ (List.mem_singleton.mpr rfl);have pj:=List.pairwise_append.mp D.dj;refine⟨D.lk,D.lam,fun t ht=>?_,fun t ht l hl=>?_,List.pairwise_append.mpr ⟨dj,pj.1,fun h hh' w hw x hx hy=>?_⟩⟩
 .rcases List.mem_append.mp ht with ht|ht
  .exact⟨(hh t ht).1,fun p hp=>(D.td ps pm).2 p ((hh t ht).2.2 p hp)⟩
  .exact D.td t (J6 _ ht)
 .rcases List.mem_append.mp ht with ht|ht
  .rcases D.tl ps pm l hl with q|q
   .exact .inl fun x hx=>q x ((hh t ht).2.2 x hx)
   .exact .inr fun x hx=>q x ((hh t ht).2.2 x hx)
  .exact D.tl t (J6 _ ht) l hl
 .exact pj.2.2 w hw ps (List.mem_singleton.mpr rfl) x hy ((hh h hh').2.2 x hx)
theorem DX{l:List Int}(u:Up l)(h:∀p∈l,1<=p/\p<n)(hn:n<=9):l.length<=8:=by
 have:=U9 (l₁:=l) (l₂:=(List.range 8).map fun k:Nat=>(k:Int)+1) (rY u) fun x hx=>by
  have:=h x hx;exact List.mem_map.mpr ⟨(x-1).toNat,List.mem_range.mpr (by omega),by omega⟩
 rw[A0,E9]at this;exact this
noncomputable abbrev lT(l:List Int):CD:=.d (tR l)
noncomputable abbrev lL(l:List Int):CD:=.d (.list (rI l))
structure CI(c lk w:Nat)(M:Sto)(links ws:List (List Int))(m:Nat):Prop where
 dk:Dk M c m
 li:M[lk]?=some (.lst (links.map lT))
 wt:M[w]?=some (.lst (ws.map lL))
 n1:lk≠c
 n2:w≠c
 n3:lk≠w
noncomputable abbrev GC(c:Nat)(n:Int)(lk w:Nat)(g4 g5 g6 g7:Option CD):Ga:=[some (.c c),some (I n),some (.c lk),some (.c w),g4,g5,g6,g7,none,none,none,none,none,none,none,none,none]
theorem tF{i j:Int}:gtI (I i) (I j) M=some (B (decide (j<i)),M):=rfl
theorem uZ{c:TF}{M1:Sto}{b:Bool}{M2:Sto}(hc:c γ M=some (b,M1))(hf:f γ M1=some (x,M2)):sIf c (gA f) bH γ M=some (.nx γ,if b=true then M2 else M1):=by
 cases b with
 |true=>rw[iC hc,FU hf];rfl
 |false=>rw[fY hc];rfl
theorem OZ{n:Int}{g4 g5 g7:Option CD}{links ws:List (List Int)}{h:List Int}(C:CI c lk w M links ws (m+1))(l1:links.length<800)(l2:ws.length<800):
 ∃g M2 links' ws',iZ (GC c n lk w g4 g5 (some (lL h)) g7) M=some (.nx (GC c n lk w g4 g5 (some (lL h)) g),M2)/\CI c lk w M2 links' ws' m/\(links'=links\/links'=links++[h])/\(ws'=ws\/ws'=ws++[h]):=by
 obtain⟨z,M1,e1,dk,o,rz⟩:=C.dk.pop;have po:bM "list" fM (aB 0) aE (GC c n lk w g4 g5 (some (lL h)) g7) M=some (I z,M1):=pop_at rfl C.dk.ty e1;have C1:CI c lk w M1 links ws m:=⟨dk,by rw[o.at_ _ C.n1];exact C.li,by rw[o.at_ _ C.n2];exact C.wt,C.n1,C.n2,C.n3⟩;have t1:∀{M:Sto},gB (fOp gtI (fOp cH (aB 7) (fC (.int 4))) (fC (.int 0))) (GC c n lk w g4 g5 (some (lL h)) (some (I z))) M=some (decide (0<z % 4),M):=bV (aU (iK rfl (by decide)) rfl tF);have a1:bM "list" cD (aB 2) (aA (aF cM (aA (aB 6) aE)) aE) (GC c n lk w g4 g5 (some (lL h)) (some (I z))) M1=some (.d .none,M1.set lk (.lst (links.map lT++[lT h]))):=mR rfl (PZ C1.li) (aH (aO (aH rfl aN) rfl) aN) (zU C1.li (by rw[A0];omega))
 have C2:∃links',CI c lk w (if decide (0<z % 4)=true then M1.set lk (.lst (links.map lT++[lT h]))else M1) links' ws m/\(links'=links\/links'=links++[h]):=by
  split
  .refine⟨links++[h],⟨C1.dk.put C1.n1,?_,by rw[D6 C1.n3];exact C1.wt,C.n1,C.n2,C.n3⟩,.inr rfl⟩;rw[E6 (List.getElem?_eq_some_iff.mp C1.li).1,J0];rfl
  .exact⟨links,C1,.inl rfl⟩
 obtain⟨links',C2,hlk⟩:=C2;generalize hM2:(if decide (0<z % 4)=true then M1.set lk (.lst (links.map lT++[lT h]))else M1)=M2 at C2
 have lh:aF bW (aA (aB 6) aE) (GC c n lk w g4 g5 (some (lL h)) (some (I z))) M2=some (I h.length,M2):=by
  have:=fQ (r:=.list (rI h)) (ds:=rI h) rfl M2;rw[A0]at this;exact aO (aH rfl aN) this
 have t2:mE (gB (fOp gtI (aF bW (aA (aB 6) aE)) (fC (.int 1)))) (gB (fOp gtI (fOp cH (aB 7) (fC (.int 3))) (fC (.int 0)))) (GC c n lk w g4 g5 (some (lL h)) (some (I z))) M2=some (decide ((1:Int)<h.length)&&decide (0<z % 3),M2):=by
  unfold mE;rw[bV (aU lh rfl tF),A3];cases q:decide ((1:Int)<h.length)with
  |false=>rfl
  |true=>rw[A4 rfl,bV (aU (iK rfl (by decide)) rfl tF)];rfl
 have a2:bM "list" cD (aB 3) (aA (aB 6) aE) (GC c n lk w g4 g5 (some (lL h)) (some (I z))) M2=some (.d .none,M2.set w (.lst (ws.map lL++[lL h]))):=mR rfl (PZ C2.wt) (aH rfl aN) (zU C2.wt (by rw[A0];omega));refine⟨some (I z),if (decide ((1:Int)<h.length)&&decide (0<z % 3))=true then M2.set w (.lst (ws.map lL++[lL h]))else M2,links',if (decide ((1:Int)<h.length)&&decide (0<z % 3))=true then ws++[h]else ws,?_,?_,hlk,?_⟩
 .unfold iZ;rw[aR (bR (i:=7) po)];show aW _ _ (GC c n lk w g4 g5 (some (lL h)) (some (I z))) M1=_;rw[aR (uZ t1 a1),hM2];exact uZ t2 a2
 .split
  .refine⟨C2.dk.put C2.n2,by rw[D6 (Z9 C2.n3)];exact C2.li,?_,C.n1,C.n2,C.n3⟩;rw[E6 (List.getElem?_eq_some_iff.mp C2.wt).1,J0];rfl
  .exact C2
 .split
  .exact .inr rfl
  .exact .inl rfl
theorem AL{c lk w:Nat}{n:Int}{g4 g5:Option CD}:∀(hps:List (List Int))(m:Nat)(M:Sto)(links ws:List (List Int))(g6 g7:Option CD),CI c lk w M links ws (m+hps.length)->DI n links (hps++ws)->(∀h∈hps,h≠[])->links.length+hps.length<800->ws.length+hps.length<800->
 ∃g6' g7' M2 links' ws',jT (hName 6) iZ (hps.map lL) (GC c n lk w g4 g5 g6 g7) M=some (.nx (GC c n lk w g4 g5 g6' g7'),M2)/\CI c lk w M2 links' ws' m/\DI n links' ws'/\links'.length<=links.length+hps.length/\ws'.length<=ws.length+hps.length
 |[]=>fun m M links ws g6 g7 C D _ l1 l2=>⟨g6,g7,M,links,ws,rfl,C,D,B3 _,B3 _⟩
 |h::hps=>fun m M links ws g6 g7 C D ne l1 l2=>by
  rw[J5]at l1 l2;obtain⟨g,M1,links1,ws1,e1,C1,h1,h2⟩:=OZ (n:=n) (g4:=g4) (g5:=g5) (g7:=g7) (h:=h) (m:=m+hps.length) C (by omega) (by omega)
  have D1:DI n links1 (h::(hps++ws)):=by
   rcases h1 with rfl|rfl
   .exact D
   .exact D.put (ne h B2)
  have D2:DI n links1 (hps++ws1):=by
   rcases h2 with rfl|rfl
   .exact D1.tail
   .refine D1.perm ?_;rw[<- F7];exact List.perm_append_singleton h (hps++ws)
  have k1:links1.length<=links.length+1:=by rcases h1 with rfl|rfl<;>simp
  have k2:ws1.length<=ws.length+1:=by rcases h2 with rfl|rfl<;>simp
  obtain⟨g6',g7',M2,links2,ws2,e2,C2,D3,q1,q2⟩:=AL (g4:=g4) (g5:=g5) hps m M1 links1 ws1 (some (lL h)) g C1 D2 (fun x hx=>ne x (B1 _ hx)) (by omega) (by omega);refine⟨g6',g7',M2,links2,ws2,?_,C2,D3,by rw[J5];omega,by rw[J5];omega⟩;rw[B6,eK (show hName 6 (lL h) (GC c n lk w g4 g5 g6 g7) M=some (GC c n lk w g4 g5 (some (lL h)) g7,M)from rfl) e1];exact e2
theorem zJ(n:Nat)(M:Sto):∀ds:List PyData,kN n M (ds.map .d)=some ds
 |[]=>by unfold kN;rfl
 |i::ns=>by
  rw[B6];unfold kN;rw[vR,A3,zJ n M ns];rfl
theorem zK{α:Type}{f:α->PyData}(h:∀l,PyData.canLay0 (f l)=true/\PyData.depth (f l)=1):∀ls:List α,PyData.canLayAll0 (ls.map f)=true/\PyData.depthAll (ls.map f)<=1
 |[]=>⟨rfl,F9 _⟩
 |l::ls=>by
  obtain⟨h1,h2⟩:=zK h ls;obtain⟨k1,k2⟩:=h l;constructor
  .show(PyData.canLay0 (f l)&&PyData.canLayAll0 (ls.map f))=true;rw[k1,h1];rfl
  .show max (PyData.depth (f l)) (PyData.depthAll (ls.map f))<=1;rw[k2];omega
theorem NX(l:List Int):PyData.canLay0 (.list (rI l))=true/\PyData.depth (.list (rI l))=1:=⟨mQ l,by show PyData.depthAll (rI l)+1=1;rw[pF]⟩
theorem vD(l:List Int):PyData.canLay0 (tR l)=true/\PyData.depth (tR l)=1:=⟨mQ l,by show PyData.depthAll (rI l)+1=1;rw[pF]⟩
theorem tT(l:List Int):SeqAt.shaped (tR l)=true:=by
 unfold SeqAt.shaped;rw[(vD l).1,(vD l).2];rfl
theorem OV{α:Type}{f:α->PyData}(h:∀l,PyData.canLay0 (f l)=true/\PyData.depth (f l)=1)(ls:List α):SeqAt.shaped (.list (ls.map f))=true:=by
 obtain⟨h1,h2⟩:=zK h ls;unfold SeqAt.shaped;have e1:PyData.canLay0 (.list (ls.map f))=true:=h1;have e2:PyData.depth (.list (ls.map f))=PyData.depthAll (ls.map f)+1:=rfl;rw[e1,e2,C5 (by omega)];rfl
theorem BZ{α:Type}{f:α->PyData}{ls:List α}(h:M[c]?=some (.lst (ls.map fun l=>.d (f l)))):snap 5 M (.c c)=some (.list (ls.map f)):=by
 unfold snap;rw[h];show(kN 4 M (ls.map fun l=>CD.d (f l))).bind _=_;rw[show(ls.map fun l=>CD.d (f l))=(ls.map f).map .d by rw[C8];rfl,zJ];rfl
theorem aAk{ws:List (List Int)}(h:M[w]?=some (.lst (ws.map lL))):eqY true (.c w) (.d (.list [])) M=some (B (!ws.isEmpty),M):=by
 have s2:snap 5 M (.d (.list []))=some (.list []):=by rw[vR]
 show eqC true (.c w) (.d (.list [])) M=_;unfold eqC;rw[BZ (f:=fun l=>.list (rI l)) h,A3,s2,A3,OV NX,show SeqAt.shaped (.list [])=true from rfl];cases ws<;>rfl
theorem QV(h:M[w]?=some (.lst (xs++[y]))):fM (.c w) [] M=some (y,M.set w (.lst xs)):=by
 simp only[fM,h];rw[show(xs++[y]).length-1=xs.length by simp,E5 (B3 _),Z2,List.dropLast_concat];rfl
theorem JS{g4 g5 g6 g7:Option CD}{links ws:List (List Int)}(hn:n<=9)(C:CI c lk w M links ws (m+12))(D:DI n links ws)(l1:links.length<700)(l2:ws.length<700):
 ∃g5' g6' g7' M2 links' ws',fE (GC c n lk w g4 g5 g6 g7) M=some (.nx (GC c n lk w g4 g5' g6' g7'),M2)/\CI c lk w M2 links' ws' m/\DI n links' ws'/\links'.length<=links.length+4/\ws'.length<=ws.length+4:=by
 have t:gB (fOp (eqY true) (aB 3) (eX aE)) (GC c n lk w g4 g5 g6 g7) M=some (!ws.isEmpty,M):=bV (aU rfl aDN (aAk C.wt));rcases List.eq_nil_or_concat ws with e|⟨ws0,ps,e⟩
 .subst e;refine⟨g5,g6,g7,M,links,[],?_,⟨C.dk.le (by omega),C.li,C.wt,C.n1,C.n2,C.n3⟩,D,by omega,by omega⟩;unfold fE;rw[fY t];rfl
 .rw[List.concat_eq_append]at e;subst e;have te:(!(ws0++[ps]).isEmpty)=true:=by cases ws0<;>rfl
  rw[te]at t;have wt:=C.wt;rw[J0]at wt;have po:bM "list" fM (aB 3) aE (GC c n lk w g4 g5 g6 g7) M=some (lL ps,M.set w (.lst (ws0.map lL))):=mR rfl (PZ C.wt) aN (QV wt);have hw:=(List.getElem?_eq_some_iff.mp C.wt).1;have hp:=D.td ps (E2 _ (List.mem_singleton.mpr rfl));have pl:=DX hp.1 hp.2 hn;have dk1:Dk (M.set w (.lst (ws0.map lL))) c ((m+4)+ps.length):=(C.dk.put C.n2).le (by omega);obtain⟨hps,M1,e1,ep,hc,le,ex,dk2,h4,hh,dj⟩:=TQ dk1 hp.1 (by omega);have fz:=TC (aO (F:=iA) (fa:=aA (aB 0) (aA (aB 5) aE)) (γ:=GC c n lk w g4 (some (lL ps)) g6 g7) (aH rfl (aH rfl aN)) ep) hc
  have it:bE (eH (aF iA (aA (aB 0) (aA (aB 5) aE)))) (GC c n lk w g4 (some (lL ps)) g6 g7) (M.set w (.lst (ws0.map lL)))=some (hps.map lL,M1.set e1 .dead):=by
   rw[jA fz rfl,C8];rfl
  have ex2:=ex.put (x:=.dead) (j:=e1) le;have lkl:=(List.getElem?_eq_some_iff.mp C.li).1
  have C2:CI c lk w (M1.set e1 .dead) links ws0 (m+hps.length):=by
   refine⟨(dk2.put ?_).le (by omega),ex2.to ?_ C.n1,ex2.to ?_ C.n2,C.n1,C.n2,C.n3⟩
   .intro q;have:=dk1.lt;omega
   .rw[D6 (Z9 C.n3)];exact C.li
   .exact E6 hw
  rw[A7,B8]at l2;obtain⟨g6',g7',M2,links',ws',e2,C3,D3,q1,q2⟩:=AL (g4:=g4) (g5:=some (lL ps)) hps m _ links ws0 g6 g7 C2 (D.part hh dj) (fun h hx=>(hh h hx).2.1) (by omega) (by omega);refine⟨some (lL ps),g6',g7',M2,links',ws',?_,C3,D3,by omega,by rw[A7];omega⟩;unfold fE;rw[iC t,aR (bR (i:=5) po)];exact dO it e2
theorem HX{ws:List (List Int)}(hn:n<=9)(C:CI c lk w M [] ws (m+96))(D:DI n [] ws)(l2:ws.length<=1):
 ∃g4 g5 g6 g7 M2 links ws',jT (hName 4) fE (kP 0 8) (GC c n lk w none none none none) M=some (.nx (GC c n lk w g4 g5 g6 g7),M2)/\CI c lk w M2 links ws' m/\DI n links ws'/\links.length<=32:=by
 obtain⟨γ',M2,e,g4,g5,g6,g7,links,ws',eγ,C2,D2,q1,q2⟩:=rM (g:=hName 4) (b:=fE) (n:=8) (Inv:=fun k γ M=>∃g4 g5 g6 g7 links ws',γ=GC c n lk w g4 g5 g6 g7/\CI c lk w M links ws' (m+12*(8-k))/\DI n links ws'/\links.length<=4*k/\ws'.length<=1+4*k) (by
  intro k hk γ M ⟨g4,g5,g6,g7,links,ws',eγ,C,D,q1,q2⟩;subst eγ;obtain⟨g5',g6',g7',M2,links2,ws2,e,C2,D2,k1,k2⟩:=JS (m:=m+12*(8-(k+1))) (g4:=some (I (k:Nat))) (g5:=g5) (g6:=g6) (g7:=g7) hn (by rw[show m+12*(8-(k+1))+12=m+12*(8-k)by omega];exact C) D (by omega) (by omega);exact⟨_,_,M2,rfl,e,_,_,_,_,links2,ws2,rfl,C2,D2,by omega,by omega⟩) 8 0 (GC c n lk w none none none none) M rfl ⟨_,_,_,_,_,_,rfl,C,D,F9 _,by omega⟩
 subst eγ;exact⟨g4,g5,g6,g7,M2,links,ws',e,C2,D2,by omega⟩
theorem TR(a b:List Int):PyData.eqv (tR a) (tR b)=decide (a=b):=qI a b
theorem UT(ls:List (List Int))(l:List Int):((ls.map tR).any fun d=>PyData.eqv d (tR l))=decide (l∈ls):=by
 rw[List.any_map,L9,A0h,D9];constructor
 .intro ⟨a,h,e⟩;have e:a=l:=D7 ((TR a l).symm.trans e)
  rwa [<- e]
 .intro h;exact⟨l,h,(TR l l).trans (C5 rfl)⟩
theorem aBf(ls:List (List Int)):(ls.map tR).all SeqAt.shaped=true:=by
 rw[List.all_map];exact List.all_eq_true.mpr fun l _=>tT l
theorem aCh{ls:List (List Int)}(h:M[c]?=some (.lst (ls.map lT))):inC true (lT l) (.c c) M=some (B (!decide (l∈ls)),M):=by
 unfold inC;rw[vR,A3,BZ (f:=tR) h,A3];show(some (ls.map tR)).bind _=_;rw[A3,tT,aBf,A4 (show(true&&true)=true from rfl),UT];rfl
theorem aBW{ls:List (List Int)}:inD true (lT l) (.d (lR ls)) M=some (B (!decide (l∈ls)),M):=by
 unfold inD;dsimp only;rw[show aM (lR ls)=some (ls.map tR)from rfl,A3,tT,aBf,A4 (show(true&&true)=true from rfl),UT];rfl
structure OK1(acc rest:List (List Int)):Prop where
 ris:acc.Pairwise fun a b=>lex a b=true
 nx:∀a∈acc,∀v∈rest,lex v a=false
 so:rest.Pairwise fun a b=>lex b a=false
theorem OK1.step{acc rest:List (List Int)}{v:List Int}(h:OK1 acc (v::rest)):OK1 (if v∈acc then acc else acc++[v]) rest:=by
 have so:=List.pairwise_cons.mp h.so;split
 .exact⟨h.ris,fun a ha x hx=>h.nx a ha x (B1 _ hx),so.2⟩
 .rename_i q;refine⟨List.pairwise_append.mpr ⟨h.ris,Y2 _ _,fun a ha b hb=>?_⟩,fun a ha x hx=>?_,so.2⟩
  .rw[List.mem_singleton.mp hb];exact EY v a (h.nx a ha v B2) fun e=>q (by rw[e];exact ha)
  .rcases List.mem_append.mp ha with ha|ha
   .exact h.nx a ha x (B1 _ hx)
   .rw[List.mem_singleton.mp ha];exact so.1 x hx
noncomputable abbrev GE(c:Nat)(n:Int)(x:CD)(w:Nat)(g4 g5 g6 g7:Option CD)(lk:Nat)(g9:Option CD):Ga:=[some (.c c),some (I n),some x,some (.c w),g4,g5,g6,g7,some (.c lk),g9,none,none,none,none,none,none,none]
theorem CY{c w lk a:Nat}{n:Int}{g4 g5 g6 g7:Option CD}:∀(vs acc:List (List Int))(M:Sto)(m:Nat)(g9:Option CD),M[a]?=some (.lst (acc.map lT))->Dk M c m->a≠c->acc.length+vs.length<800->OK1 acc vs->
 ∃g9' M2 acc',jT (hName 9) jG (vs.map lT) (GE c n (.c a) w g4 g5 g6 g7 lk g9) M=some (.nx (GE c n (.c a) w g4 g5 g6 g7 lk g9'),M2)/\M2[a]?=some (.lst (acc'.map lT))/\Dk M2 c m/\OK1 acc' []/\acc'.length<=acc.length+vs.length/\(∀l∈acc',l∈acc\/l∈vs)
 |[]=>fun acc M m g9 ha dk ne l ok=>⟨g9,M,acc,rfl,ha,dk,ok,B3 _,fun _ h=>.inl h⟩
 |v::vs=>fun acc M m g9 ha dk ne l ok=>by
  rw[J5]at l;have t:gB (fOp (inC true) (aB 9) (aB 2)) (GE c n (.c a) w g4 g5 g6 g7 lk (some (lT v))) M=some (!decide (v∈acc),M):=bV (aU rfl rfl (aCh ha));have ap:bM "list" cD (aB 2) (aA (aB 9) aE) (GE c n (.c a) w g4 g5 g6 g7 lk (some (lT v))) M=some (.d .none,M.set a (.lst (acc.map lT++[lT v]))):=mR rfl (PZ ha) (aH rfl aN) (zU ha (by rw[A0];omega));have b:jG (GE c n (.c a) w g4 g5 g6 g7 lk (some (lT v))) M=some (.nx (GE c n (.c a) w g4 g5 g6 g7 lk (some (lT v))),if (!decide (v∈acc))=true then M.set a (.lst (acc.map lT++[lT v]))else M):=uZ t ap
  have ha2:(if (!decide (v∈acc))=true then M.set a (.lst (acc.map lT++[lT v]))else M)[a]?=some (.lst ((if v∈acc then acc else acc++[v]).map lT)):=by
   by_cases q:v∈acc
   .rw[B0 (by rw[C5 q];decide),A4 q];exact ha
   .rw[A4 (by rw[E1 q];rfl),B0 q,E6 (List.getElem?_eq_some_iff.mp ha).1,J0];rfl
  have dk2:Dk (if (!decide (v∈acc))=true then M.set a (.lst (acc.map lT++[lT v]))else M) c m:=by
   split
   .exact dk.put ne
   .exact dk
  have la:(if v∈acc then acc else acc++[v]).length<=acc.length+1:=by split<;>simp
  obtain⟨g9',M2,acc',e,h1,h2,h3,h4,h5⟩:=CY (w:=w) (lk:=lk) (n:=n) (g4:=g4) (g5:=g5) (g6:=g6) (g7:=g7) vs _ _ m (some (lT v)) ha2 dk2 ne (by omega) ok.step;refine⟨g9',M2,acc',?_,h1,h2,h3,by rw[J5];omega,fun l hl=>?_⟩
  .rw[B6,eK (show hName 9 (lT v) (GE c n (.c a) w g4 g5 g6 g7 lk g9) M=some (GE c n (.c a) w g4 g5 g6 g7 lk (some (lT v)),M)from rfl) b];exact e
  .rcases h5 l hl with q|q
   .split at q
    .exact .inl q
    .rcases List.mem_append.mp q with q|q
     .exact .inl q
     .rw[List.mem_singleton.mp q];exact .inr B2
   .exact .inr (B1 _ q)
theorem aBS{g4 g5 g6 g7:Option CD}{links ws:List (List Int)}(C:CI c lk w M links ws m)(D:DI n links ws)(h32:links.length<=32):
 ∃g9 M2 ls,SJ 2 (jW (bE (aF jM (aA (aB 8) aE))) (hName 9) jG) (GE c n (.c M.length) w g4 g5 g6 g7 lk none) (M++[.lst []])=some (.nx (GE c n (.d (lR ls)) w g4 g5 g6 g7 lk g9),M2)/\Dk M2 c m/\LnP n ls/\ls.length<=32:=by
 have hlk:=(List.getElem?_eq_some_iff.mp C.li).1;have hc:=C.dk.lt;obtain⟨vs,pm,so,es⟩:=NR (M:=M++[.lst []]) (c:=lk) (ls:=links) (by rw[E3 hlk];exact C.li) (fun l hl=>(D.lk l hl).ne) (by omega)
 have it:bE (aF jM (aA (aB 8) aE)) (GE c n (.c M.length) w g4 g5 g6 g7 lk none) (M++[.lst []])=some (vs.map lT,M++[.lst []]):=by
  rw[jA (aO (aH rfl aN) es) rfl,C8];rfl
 obtain⟨g9,M2,acc,e,h1,h2,h3,h4,h5⟩:=CY (c:=c) (w:=w) (lk:=lk) (n:=n) (a:=M.length) (g4:=g4) (g5:=g5) (g6:=g6) (g7:=g7) vs [] (M++[.lst []]) m none jR C.dk.app (by omega) (by rw[pm.length_eq,A0o];omega) ⟨.nil,fun a h=>by simp at h,so⟩
 have mem:∀l∈acc,l∈links:=fun l hl=>by
  rcases h5 l hl with q|q
  .simp at q
  .exact pm.mem_iff.mp q
 refine⟨g9,M2.set M.length .dead,acc,?_,h2.put (by omega),⟨fun l hl=>D.lk l (mem l hl),h3.ris,fun a ha b hb=>D.lam a (mem a ha) b (mem b hb)⟩,by rw[A0o,pm.length_eq]at h4;omega⟩;unfold SJ;rw[dO it e,A3];show(UJ 2 (GE c n (.c M.length) w g4 g5 g6 g7 lk g9) M2).bind _=_
 have:UJ 2 (GE c n (.c M.length) w g4 g5 g6 g7 lk g9) M2=some (GE c n (.d (lR acc)) w g4 g5 g6 g7 lk g9,M2.set M.length .dead):=by
  show(match M2[M.length]? with|some (.lst xs)=>(kO xs).bind fun ds=>some ((GE c n (.c M.length) w g4 g5 g6 g7 lk g9).set 2 (some (.d (.list ds))),M2.set M.length .dead)|_=>none)=_;rw[h1];dsimp only;rw[show acc.map lT=(acc.map tR).map .d by rw[C8];rfl,iD];rfl
 rw[this];rfl
noncomputable def cN(n:Int):List Int:=(List.range (n-1).toNat).map fun i:Nat=>1+(i:Int)
theorem full_mem:p∈cN n↔1<=p/\p<n:=by
 unfold cN;rw[List.mem_map];constructor
 .intro ⟨i,hi,e⟩;have:=List.mem_range.mp hi;omega
 .intro h;exact⟨(p-1).toNat,List.mem_range.mpr (by omega),by omega⟩
theorem MV(n:Int):Up (cN n):=by
 unfold cN Up;rw[List.pairwise_map];exact List.pairwise_lt_range.imp fun h=>by omega
theorem IF(n:Int):(cN n).length=(n-1).toNat:=by unfold cN;rw[A0,E9]
theorem GN(n:Int):DM 1 (n-1).toNat=rI (cN n):=by
 unfold DM cN rI;rw[C8];rfl
theorem LnP.full{ls vs:List (List Int)}(L:LnP n ls)(hn:3<n)(nf:cN n∉ls)(p:vs.Perm (ls++[cN n]))(so:vs.Pairwise fun a b=>lex b a=false):LnP n vs:=by
 have lk:∀l∈ls++[cN n],LkP n l:=fun l hl=>by
  rcases List.mem_append.mp hl with hl|hl
  .exact L.lk l hl
  .rw[List.mem_singleton.mp hl];exact⟨MV n,fun e=>by have:=IF n;rw[e,A0o]at this;omega,fun p hp=>full_mem.mp hp⟩
 have nd:vs.Nodup:=by
  rw[p.nodup_iff];refine List.nodup_append.mpr ⟨L.fam.nd,by simp,fun a ha b hb e=>nf ?_⟩;rw[<- List.mem_singleton.mp hb,<- e];exact ha
 have sbf:∀l∈ls++[cN n],Sb l (cN n):=fun l hl x hx=>full_mem.mpr ((lk l hl).io x hx);refine⟨fun l hl=>lk l (p.mem_iff.mp hl),?_,fun a ha b hb=>?_⟩
 .exact List.Pairwise.imp₂ (fun a b h1 h2=>EY b a h1 h2.symm) so nd
 .have ha:=p.mem_iff.mp ha;have hb:=p.mem_iff.mp hb;rcases List.mem_append.mp ha with qa|qa
  .rcases List.mem_append.mp hb with qb|qb
   .exact L.lam a qa b qb
   .rw[List.mem_singleton.mp qb];exact .inl (sbf a ha)
  .rw[List.mem_singleton.mp qa];exact .inr (.inl (sbf b hb))
theorem qG{α:Type}(ds:List α)(j:Nat)(h:j<=ds.length):gN ds (some (j:Int)) none=ds.drop j:=by
 unfold gN;rw[HT.sIx_nat,HT.sIx_none,Nat.min_eq_left h];exact List.take_of_length_le (by rw[J7];exact B3 _)
theorem NA{α:Type}(ds:List α)(i j:Nat)(hi:i<=ds.length)(h:j<=ds.length):gN ds (some (i:Int)) (some (j:Int))=(ds.drop i).take (j-i):=by
 unfold gN;rw[HT.sIx_nat,HT.sIx_nat,Nat.min_eq_left h,Nat.min_eq_left hi]
theorem vJ{α β:Type}(f:α->β)(xs:List α)(lo hi:Option Int):gN (xs.map f) lo hi=(gN xs lo hi).map f:=by
 unfold gN;rw[A0,List.map_take,List.map_drop]
theorem nD{l u:OF}{r:CD}{p q:Option Int}(hf:f γ M=some (x,M))(hl:l γ M=some (p,M))(hu:u γ M=some (q,M))(h:slF x p q M=some (r,M)):fSl f l u γ M=some (r,M):=by
 unfold fSl;rw[hf,A3];dsimp only;rw[hl,A3];dsimp only;rw[hu,A3];exact h
theorem RS{xs:List Int}{lo hi:Option Int}(h:Li M c xs):slF (.c c) lo hi M=some (.d (.list (rI (gN xs lo hi))),M):=by
 unfold Li at h;simp only[slF,h];rw[vJ,show(gN xs lo hi).map (fun i=>I i)=(rI (gN xs lo hi)).map .d by rw[C8];rfl,iD];rfl
theorem RQ(hl:a.length+b.length<=900):FI (.d (.list (rI a))) (.d (.list (rI b))) M=some (.c M.length,M++[cI (a++b)]):=by
 have e:∀a:List Int,(rI a).map CD.d=a.map fun i=>I i:=fun a=>by rw[C8];rfl
 show(some ((rI a).map CD.d)).bind (fun xs=>(some ((rI b).map CD.d)).bind fun ys=>if xs.length+ys.length<=sizeLine then some (CD.c M.length,M++[.lst (xs++ys)])else none)=_;rw[A3,A3,e,e,A4 (by rw[A0,A0];exact sz (by omega)),<- J0]
theorem ZW(h:2<=os.length):∃a mid b,os=a::(mid++[b]):=by
 cases os with
 |nil=>simp at h
 |cons a r=>
  rcases List.eq_nil_or_concat r with e|⟨mid,b,e⟩
  .subst e;simp at h
  .exact⟨a,mid,b,by rw[e,List.concat_eq_append]⟩
theorem MQ(a:Int)(mid:List Int)(b:Int):(a::(mid++[b])).getD 0 0=a/\(a::(mid++[b])).getD ((a::(mid++[b])).length-1) 0=b:=by
 refine⟨rfl,?_⟩;rw[show(a::(mid++[b])).length-1=mid.length+1 by simp,List.getD_cons_succ,A6,E5 (B3 _),Z2];rfl
theorem aDb{xs:List Int}(h:Li M c xs)(hl:0<xs.length):ixF (.c c) (I 0) M=some (I (xs.getD 0 0),M):=by
 unfold Li at h;simp only[ixF,h];rw[HI (x0:=I 0) (by rw[A0];exact hl),show(xs.map fun i=>I i).getD 0 (I 0)=I (xs.getD 0 0)by cases xs<;>rfl];rfl
theorem aCZ(xs:List Int)(k:Nat):(xs.map fun i=>I i).getD k (I 0)=I (xs.getD k 0):=by
 rw[A6,A6,C4];cases xs[k]?<;>rfl
theorem aDq{xs:List Int}(h:Li M c xs)(hl:0<xs.length):ixF (.c c) (I (-1)) M=some (I (xs.getD (xs.length-1) 0),M):=by
 unfold Li at h;simp only[ixF,h];rw[MY (x0:=I 0) (by rw[A0];exact hl),A0,aCZ];rfl
theorem qM{M1:Sto}{b:Int}(h:f γ M=some (I z,M1))(hb:0<b)(h2:b<2 ^ 200):fOp eW f (fC (.int b)) γ M=some (I (z / b),M1):=by
 refine aU h rfl ?_;show(ifS (yW z b) (.int (z / b))).bind _=_;rw[FF hb (wsm (by omega) h2)];rfl
structure XA(ls:List (List Int))(k:Nat)(os:List Int):Prop where
 pm:os.Perm (cz (inn ls k))
 th:3<=os.length
theorem yE(ls:List (List Int))(k:Nat):(inn ls k).length<=ls.length:=by
 have:=S8 (inB ls k) (List.range ls.length)
 rwa [E9]at this
theorem aBc(ls:List (List Int))(k:Nat):Up (cz (inn ls k)):=by
 unfold Up cz;rw[List.pairwise_map];exact(List.Pairwise.filter _ List.pairwise_lt_range).imp fun h=>by omega
theorem XA.rg{ls:List (List Int)}(O:XA ls k os)(hk:k<ls.length)(hd:os.getD 0 0<os.getD (os.length-1) 0)(sm:((inn ls k).map fun j=>(la ls j).length).sum=(la ls k).length):RgP ls k os:=by
 refine⟨by omega,fun j hj=>?_,?_,O.th,hd,?_⟩
 .obtain⟨i,hi,rfl⟩:=List.mem_map.mp (O.pm.mem_iff.mp hj);have:=tK hi;omega
 .rw[E4];exact oH (lK _) ((aBc ls k).imp fun q=>by omega) ((eQ _).trans O.pm)
 .rw[E4,<- sm];have:=(O.pm.map fun j=>(la ls j.toNat).length).sum_nat;rw[this,C8];rfl
noncomputable abbrev rgD(r:Int×List Int):PyData:=.tuple [.int r.1,tR r.2]
noncomputable abbrev GR(c:Nat)(n:Int)(ls:List (List Int))(g3 g4 g5 g6 g7 g8 g9 g10:Option CD)(r:Nat)(g12 g13 g14 g15 g16:Option CD):Ga:=[some (.c c),some (I n),some (.d (lR ls)),g3,g4,g5,g6,g7,g8,g9,g10,some (.c r),g12,g13,g14,g15,g16]
structure RI(c r:Nat)(M:Sto)(rs:List (Int×List Int))(m:Nat):Prop where
 dk:Dk M c m
 rg:M[r]?=some (.lst (rs.map fun p=>.d (rgD p)))
 ne:r≠c
theorem RI.app{rs:List (Int×List Int)}(h:RI c r M rs m):RI c r (M++L) rs m:=⟨h.dk.app,by rw[E3 (List.getElem?_eq_some_iff.mp h.rg).1];exact h.rg,h.ne⟩
theorem RI.put{o:Nat}{x:Cell}{rs:List (Int×List Int)}(h:RI c r M rs m)(h1:o≠c)(h2:o≠r):RI c r (M.set o x) rs m:=⟨h.dk.put h1,by rw[D6 h2];exact h.rg,h.ne⟩
theorem GO{α:Type}(xs:List α)(j:Nat):(xs.drop j++xs.take j).Perm xs:=by
 have:=List.perm_append_comm (l₁:=xs.drop j) (l₂:=xs.take j)
 rwa [List.take_append_drop]at this
theorem HL{α:Type}(xs:List α)(h:3<=xs.length):((xs.take 1++xs.drop 2)++(xs.drop 1).take 1).Perm xs:=by
 match xs,h with
 |a::b::r,_=>
  show(([a]++r)++[b]).Perm (a::b::r);have:=List.perm_append_singleton b r;exact List.Perm.cons a this
theorem QC{n:Int}{ls:List (List Int)}{g3 g4 g5 g6 g8 g9 g10 g14 g15 g16:Option CD}{rs:List (Int×List Int)}{z:Int}(R:RI c r M rs m)(hl:ls.length<=40)(hk:k<ls.length)(h3:3<=(inn ls k).length)(hr:rs.length<800)(sm:((inn ls k).map fun j=>(la ls j).length).sum=(la ls k).length):
 ∃γ' M2 rs',(aW (bG (fOp cH (aB 7) (aF bW (aA (aB 13) aE))) (hName 15)) (aW (bG (fOp FI (fSl (aB 13) (aY (aB 15)) aV) (fSl (aB 13) aV (aY (aB 15)))) (hName 16)) (aW (sIf (gB (fOp (eqX false) (fOp cH (fOp eW (aB 7) (fC (.int 8))) (fC (.int 2))) (fC (.int 0)))) (bG (fOp FI (fOp bO (fSl (aB 16) aV (aY (fC (.int 1)))) (fSl (aB 16) (aY (fC (.int 2))) aV)) (fSl (aB 16) (aY (fC (.int 1))) (aY (fC (.int 2))))) (hName 16)) bH) (aW (sIf (gB (fOp gtI (fOp ixF (aB 16) (fC (.int 0))) (fOp ixF (aB 16) (fUn kS (fC (.int 1)))))) (gA (bM "list" fT (aB 16) aE)) bH) (sIf (gB (fOp gtI (fOp cH (fOp eW (aB 7) (fC (.int 16))) (fC (.int 4))) (fC (.int 0)))) (gA (bM "list" cD (aB 11) (aA (bK (aA (aB 12) (aA (aF cM (aA (aB 16) aE)) aE))) aE))) bH)))))
  (GR c n ls g3 g4 g5 g6 (some (I z)) g8 g9 g10 r (some (I k)) (some (.d (.list (nP (inn ls k))))) g14 g15 g16) M=some (.nx γ',M2)/\(∃g7 g12 g13 g14 g15 g16,γ'=GR c n ls g3 g4 g5 g6 g7 g8 g9 g10 r g12 g13 g14 g15 g16)/\RI c r M2 rs' m/\(rs'=rs\/∃os,rs'=rs++[((k:Int),os)]/\RgP ls k os):=by
 have eP:nP (inn ls k)=rI (cz (inn ls k)):=by
  show _=List.map PyData.int (List.map (fun j:Nat=>(j:Int)) (inn ls k));rw[C8];rfl
 have lc:(cz (inn ls k)).length=(inn ls k).length:=A0 ..;have li:=yE ls k
 obtain⟨j,hj,ej⟩:∃j:Nat,j<(inn ls k).length/\z % ((inn ls k).length:Int)=(j:Int):=⟨(z % ((inn ls k).length:Int)).toNat,by
  have h1:=U2 z (show((inn ls k).length:Int)≠0 by omega);have h2:=O8 z (show 0<((inn ls k).length:Int)by omega);omega,by
  have h1:=U2 z (show((inn ls k).length:Int)≠0 by omega);omega⟩
 rw[eP]
 have ln:∀{g15 g16:Option CD}{M:Sto},aF bW (aA (aB 13) aE) (GR c n ls g3 g4 g5 g6 (some (I z)) g8 g9 g10 r (some (I k)) (some (.d (.list (rI (cz (inn ls k)))))) g14 g15 g16) M=some (I (inn ls k).length,M):=fun{g15 g16 M}=>by
  have:=fQ (r:=.list (rI (cz (inn ls k)))) (ds:=rI (cz (inn ls k))) rfl M;rw[A0,lc]at this;exact aO (aH rfl aN) this
 have sA:bG (fOp cH (aB 7) (aF bW (aA (aB 13) aE))) (hName 15) (GR c n ls g3 g4 g5 g6 (some (I z)) g8 g9 g10 r (some (I k)) (some (.d (.list (rI (cz (inn ls k)))))) g14 g15 g16) M=some (.nx (GR c n ls g3 g4 g5 g6 (some (I z)) g8 g9 g10 r (some (I k)) (some (.d (.list (rI (cz (inn ls k)))))) g14 (some (I j)) g16),M):=by
  refine bR (i:=15) (aU rfl ln ?_);show(ifS (pY z ((inn ls k).length:Int)) (.int (z % ((inn ls k).length:Int)))).bind _=_;rw[lE (by omega),ej];rfl
 have sB:bG (fOp FI (fSl (aB 13) (aY (aB 15)) aV) (fSl (aB 13) aV (aY (aB 15)))) (hName 16) (GR c n ls g3 g4 g5 g6 (some (I z)) g8 g9 g10 r (some (I k)) (some (.d (.list (rI (cz (inn ls k)))))) g14 (some (I j)) g16) M=some (.nx (GR c n ls g3 g4 g5 g6 (some (I z)) g8 g9 g10 r (some (I k)) (some (.d (.list (rI (cz (inn ls k)))))) g14 (some (I j)) (some (.c M.length))),M++[cI ((cz (inn ls k)).drop j++(cz (inn ls k)).take j)]):=by
  refine bR (i:=16) (aU (nD rfl rfl rfl (show slF (.d (.list (rI (cz (inn ls k))))) (some (j:Int)) none M=some (.d (.list (rI ((cz (inn ls k)).drop j))),M)from ?_)) (nD rfl rfl rfl (show slF (.d (.list (rI (cz (inn ls k))))) none (some (j:Int)) M=some (.d (.list (rI ((cz (inn ls k)).take j))),M)from ?_)) (RQ ?_))
  .show some (CD.d (.list (gN (rI (cz (inn ls k))) (some (j:Int)) none)),M)=_;rw[vJ,qG _ _ (by omega)]
  .show some (CD.d (.list (gN (rI (cz (inn ls k))) none (some (j:Int)))),M)=_;rw[vJ,oF _ _ (by omega)]
  .rw[J7,F6,lc];omega
 have O1:XA ls k ((cz (inn ls k)).drop j++(cz (inn ls k)).take j):=⟨GO _ _,by rw[(GO _ _).length_eq,lc];exact h3⟩;have hc:=R.dk.lt;have hrl:=(List.getElem?_eq_some_iff.mp R.rg).1
 have sC:∃o2 M2 os2,sIf (gB (fOp (eqX false) (fOp cH (fOp eW (aB 7) (fC (.int 8))) (fC (.int 2))) (fC (.int 0)))) (bG (fOp FI (fOp bO (fSl (aB 16) aV (aY (fC (.int 1)))) (fSl (aB 16) (aY (fC (.int 2))) aV)) (fSl (aB 16) (aY (fC (.int 1))) (aY (fC (.int 2))))) (hName 16)) bH (GR c n ls g3 g4 g5 g6 (some (I z)) g8 g9 g10 r (some (I k)) (some (.d (.list (rI (cz (inn ls k)))))) g14 (some (I j)) (some (.c M.length))) (M++[cI ((cz (inn ls k)).drop j++(cz (inn ls k)).take j)])=some (.nx (GR c n ls g3 g4 g5 g6 (some (I z)) g8 g9 g10 r (some (I k)) (some (.d (.list (rI (cz (inn ls k)))))) g14 (some (I j)) (some (.c o2))),M2)/\RI c r M2 rs m/\Li M2 o2 os2/\XA ls k os2/\o2≠c/\o2≠r:=by
  have t:gB (fOp (eqX false) (fOp cH (fOp eW (aB 7) (fC (.int 8))) (fC (.int 2))) (fC (.int 0))) (GR c n ls g3 g4 g5 g6 (some (I z)) g8 g9 g10 r (some (I k)) (some (.d (.list (rI (cz (inn ls k)))))) g14 (some (I j)) (some (.c M.length))) (M++[cI ((cz (inn ls k)).drop j++(cz (inn ls k)).take j)])=some (z / 8 % 2==0,M++[cI ((cz (inn ls k)).drop j++(cz (inn ls k)).take j)]):=bV (aU (iK (qM rfl (by decide) (by decide)) (by decide)) rfl xI);have L1:Li (M++[cI ((cz (inn ls k)).drop j++(cz (inn ls k)).take j)]) M.length ((cz (inn ls k)).drop j++(cz (inn ls k)).take j):=jR;generalize (cz (inn ls k)).drop j++(cz (inn ls k)).take j=os1 at t L1 O1;cases q:(z / 8 % 2==0)with
  |false=>
   rw[q]at t;refine⟨M.length,M++[cI os1],os1,?_,R.app,L1,O1,by omega,by omega⟩;rw[fY t];rfl
  |true=>
   rw[q]at t;have len1:os1.length<=40:=by rw[O1.pm.length_eq,lc];omega
   have th:=O1.th;have s1:=nD (f:=aB 16) (l:=aV) (u:=aY (fC (.int 1))) (γ:=GR c n ls g3 g4 g5 g6 (some (I z)) g8 g9 g10 r (some (I k)) (some (.d (.list (rI (cz (inn ls k)))))) g14 (some (I j)) (some (.c M.length))) (M:=M++[cI os1]) rfl rfl rfl (RS L1);have s2:=nD (f:=aB 16) (l:=aY (fC (.int 2))) (u:=aV) (γ:=GR c n ls g3 g4 g5 g6 (some (I z)) g8 g9 g10 r (some (I k)) (some (.d (.list (rI (cz (inn ls k)))))) g14 (some (I j)) (some (.c M.length))) (M:=M++[cI os1]) rfl rfl rfl (RS L1);have s3:=nD (f:=aB 16) (l:=aY (fC (.int 1))) (u:=aY (fC (.int 2))) (γ:=GR c n ls g3 g4 g5 g6 (some (I z)) g8 g9 g10 r (some (I k)) (some (.d (.list (rI (cz (inn ls k)))))) g14 (some (I j)) (some (.c M.length))) (M:=M++[cI os1]) rfl rfl rfl (RS L1);rw[show gN os1 none (some 1)=os1.take 1 from oF os1 1 (by omega)]at s1;rw[show gN os1 (some 2) none=os1.drop 2 from qG os1 2 (by omega)]at s2;rw[show gN os1 (some 1) (some 2)=(os1.drop 1).take 1 from NA os1 1 2 (by omega) (by omega)]at s3;have pmm:=HL os1 O1.th;have lm:=pmm.length_eq;rw[A7]at lm;have ad:=aU s1 s2 (add_list (M:=M++[cI os1]) (by rw[A0,A0,<- A7];omega));rw[<- J0]at ad;have ct:=aU ad s3 (RQ (by omega));refine⟨(M++[cI os1]).length,(M++[cI os1])++[cI ((os1.take 1++os1.drop 2)++(os1.drop 1).take 1)],(os1.take 1++os1.drop 2)++(os1.drop 1).take 1,?_,R.app.app,jR,⟨pmm.trans O1.pm,by rw[pmm.length_eq];exact O1.th⟩,by rw[A7];omega,by rw[A7];omega⟩;rw[iC t];exact bR (i:=16) ct
 obtain⟨o2,M2,os2,eC,R2,L2',O2,nc,nr⟩:=sC;have th2:=O2.th
 have sD:∃M3 os3,sIf (gB (fOp gtI (fOp ixF (aB 16) (fC (.int 0))) (fOp ixF (aB 16) (fUn kS (fC (.int 1)))))) (gA (bM "list" fT (aB 16) aE)) bH (GR c n ls g3 g4 g5 g6 (some (I z)) g8 g9 g10 r (some (I k)) (some (.d (.list (rI (cz (inn ls k)))))) g14 (some (I j)) (some (.c o2))) M2=some (.nx (GR c n ls g3 g4 g5 g6 (some (I z)) g8 g9 g10 r (some (I k)) (some (.d (.list (rI (cz (inn ls k)))))) g14 (some (I j)) (some (.c o2))),M3)/\RI c r M3 rs m/\Li M3 o2 os3/\RgP ls k os3:=by
  have t:gB (fOp gtI (fOp ixF (aB 16) (fC (.int 0))) (fOp ixF (aB 16) (fUn kS (fC (.int 1))))) (GR c n ls g3 g4 g5 g6 (some (I z)) g8 g9 g10 r (some (I k)) (some (.d (.list (rI (cz (inn ls k)))))) g14 (some (I j)) (some (.c o2))) M2=some (decide (os2.getD (os2.length-1) 0<os2.getD 0 0),M2):=bV (aU (aU rfl rfl (aDb L2' (by omega))) (aU rfl aDP (aDq L2' (by omega))) tF)
  have rv:bM "list" fT (aB 16) aE (GR c n ls g3 g4 g5 g6 (some (I z)) g8 g9 g10 r (some (I k)) (some (.d (.list (rI (cz (inn ls k)))))) g14 (some (I j)) (some (.c o2))) M2=some (.d .none,M2.set o2 (cI os2.reverse)):=by
   refine mR rfl L2'.ty aN ?_;have:=L2';unfold Li at this;simp only[fT,this];rw[<- List.map_reverse]
  have e:=uZ t rv;obtain⟨a,mid,b,eo⟩:=ZW (os:=os2) (by omega);have nd:os2.Nodup:=by rw[O2.pm.nodup_iff];exact rY (aBc ls k)
  have ab:a≠b:=fun q=>by
   rw[eo]at nd;have:=(List.nodup_cons.mp nd).1;exact this (E2 _ (by rw[q];exact List.mem_singleton.mpr rfl))
  have ea:=MQ a mid b;rw[<- eo]at ea;rw[ea.1,ea.2]at e;by_cases q:b<a
  .rw[C5 q,A4 rfl]at e;refine⟨_,os2.reverse,e,R2.put nc nr,(L2'.set (ys:=os2.reverse)).1,XA.rg (os:=os2.reverse) ⟨(List.reverse_perm _).trans O2.pm,by rw[S0];exact O2.th⟩ hk ?_ sm⟩;have er:os2.reverse=b::(mid.reverse++[a]):=by rw[eo];simp
   have:=MQ b mid.reverse a;rw[<- er]at this;rw[this.1,this.2];exact q
  .rw[E1 q,B0 A9]at e;refine⟨_,os2,e,R2,L2',O2.rg hk ?_ sm⟩;rw[ea.1,ea.2];omega
 obtain⟨M3,os3,eD,R3,L3,rg⟩:=sD;have t5:gB (fOp gtI (fOp cH (fOp eW (aB 7) (fC (.int 16))) (fC (.int 4))) (fC (.int 0))) (GR c n ls g3 g4 g5 g6 (some (I z)) g8 g9 g10 r (some (I k)) (some (.d (.list (rI (cz (inn ls k)))))) g14 (some (I j)) (some (.c o2))) M3=some (decide (0<z / 16 % 4),M3):=bV (aU (iK (qM rfl (by decide) (by decide)) (by decide)) rfl tF)
 have tu:cM [.c o2] M3=some (.d (tR os3),M3):=by
  have:=L3;unfold Li at this;simp only[cM,this];rw[show os3.map (fun i=>I i)=(rI os3).map .d by rw[C8];rfl,iD];rfl
 have tt:bK (aA (aB 12) (aA (aF cM (aA (aB 16) aE)) aE)) (GR c n ls g3 g4 g5 g6 (some (I z)) g8 g9 g10 r (some (I k)) (some (.d (.list (rI (cz (inn ls k)))))) g14 (some (I j)) (some (.c o2))) M3=some (.d (rgD ((k:Int),os3)),M3):=by
  unfold bK;rw[aH rfl (aH (aO (aH rfl aN) tu) aN),A3];show(if 2<=sizeLine then some (CD.d (.tuple [.int (k:Int),tR os3]),M3)else none)=_;rw[A4 (sz (by decide))]
 have ap:bM "list" cD (aB 11) (aA (bK (aA (aB 12) (aA (aF cM (aA (aB 16) aE)) aE))) aE) (GR c n ls g3 g4 g5 g6 (some (I z)) g8 g9 g10 r (some (I k)) (some (.d (.list (rI (cz (inn ls k)))))) g14 (some (I j)) (some (.c o2))) M3=some (.d .none,M3.set r (.lst ((rs.map fun p=>.d (rgD p))++[.d (rgD ((k:Int),os3))]))):=mR rfl (PZ R3.rg) (aH tt aN) (zU R3.rg (by rw[A0];omega));have sE:=uZ t5 ap;refine⟨_,_,if decide (0<z / 16 % 4)=true then rs++[((k:Int),os3)]else rs,by rw[aR sA,aR sB,aR eC,aR eD];exact sE,⟨_,_,_,_,_,_,rfl⟩,?_,?_⟩
 .split
  .refine⟨R3.dk.put R3.ne,?_,R3.ne⟩;rw[E6 (List.getElem?_eq_some_iff.mp R3.rg).1,J0];rfl
  .exact R3
 .split
  .exact .inr ⟨os3,rfl,rg⟩
  .exact .inl rfl
theorem XY{c d:TF}{a b:Bool}(h:c γ M=some (a,M))(hd:d γ M=some (b,M)):mE c d γ M=some (a&&b,M):=by
 unfold mE;rw[h,A3];cases a with
 |false=>rfl
 |true=>rw[A4 rfl,hd];rfl
theorem NV{n:Int}{ls:List (List Int)}{g3 g4 g5 g6 g7 g8 g9 g10 g13 g14 g15 g16:Option CD}{rs:List (Int×List Int)}(R:RI c r M rs (m+1))(hl:ls.length<=40)(hw:∀l∈ls,l.length<=40)(hk:k<ls.length)(hr:rs.length<800):
 ∃γ' M2 rs',gJ (GR c n ls g3 g4 g5 g6 g7 g8 g9 g10 r (some (I k)) g13 g14 g15 g16) M=some (.nx γ',M2)/\(∃g7 g12 g13 g14 g15 g16,γ'=GR c n ls g3 g4 g5 g6 g7 g8 g9 g10 r g12 g13 g14 g15 g16)/\RI c r M2 rs' m/\(rs'=rs\/∃os,rs'=rs++[((k:Int),os)]/\RgP ls k os):=by
 have li:=yE ls k;have fz:eH (aF dJ (aA (aB 2) (aA (aB 12) aE))) (GR c n ls g3 g4 g5 g6 g7 g8 g9 g10 r (some (I k)) g13 g14 g15 g16) M=some (.d (.list (nP (inn ls k))),M++[.dead]):=CO (ls:=ls) (k:=k) (aO (aH rfl (aH rfl aN)) (NN hk (fun l h=>by have:=hw l h;omega) (by omega)))
 have it:bE (aB 13) (GR c n ls g3 g4 g5 g6 g7 g8 g9 g10 r (some (I k)) (some (.d (.list (nP (inn ls k))))) g14 g15 g16) (M++[.dead])=some ((inn ls k).map (fun j:Nat=>I j),M++[.dead]):=by
  rw[jA (f:=aB 13) (d:=.list (nP (inn ls k))) rfl rfl];refine D4 (fun x=>some (x,M++[Cell.dead])) ?_;show List.map CD.d (List.map (fun j:Nat=>PyData.int j) (inn ls k))=_;rw[C8];rfl
 have lcm:=qL (i:=1) (e:=aF bW (aA (fOp ixF (aB 0) (aB 1)) aE)) (γ0:=[some (.d (lR ls)),none]) (M:=M++[.dead]) (fun j:Nat=>I j) (fun j=>.int ((la ls j).length:Nat)) (inn ls k) fun j hj=>aO (aH (aU rfl rfl (qS (tK hj))) aN) wI
 have cm:jD (GR c n ls g3 g4 g5 g6 g7 g8 g9 g10 r (some (I k)) (some (.d (.list (nP (inn ls k))))) g14 g15 g16) (M++[.dead])=some (.d (.list ((inn ls k).map fun j=>.int ((la ls j).length:Nat))),M++[.dead]):=by
  unfold jD;exact lB it (by rw[A0];omega) lcm (by rw[A0];omega)
 have sm:=aO (F:=sumF) (aH cm aN) (sum_ints (f:=fun j=>(la ls j).length) (inn ls k));have hc:=R.dk.lt;have R1:RI c r (M++[.dead]) rs (m+1):=R.app;have s13:bG (eH (aF dJ (aA (aB 2) (aA (aB 12) aE)))) (hName 13) (GR c n ls g3 g4 g5 g6 g7 g8 g9 g10 r (some (I k)) g13 g14 g15 g16) M=some (.nx (GR c n ls g3 g4 g5 g6 g7 g8 g9 g10 r (some (I k)) (some (.d (.list (nP (inn ls k))))) g14 g15 g16),M++[.dead]):=bR (i:=13) fz;have s14:bG (aF sumF (aA jD aE)) (hName 14) (GR c n ls g3 g4 g5 g6 g7 g8 g9 g10 r (some (I k)) (some (.d (.list (nP (inn ls k))))) g14 g15 g16) (M++[.dead])=some (.nx (GR c n ls g3 g4 g5 g6 g7 g8 g9 g10 r (some (I k)) (some (.d (.list (nP (inn ls k))))) (some (I (((inn ls k).map fun j=>(la ls j).length).sum:Nat))) g15 g16),M++[.dead]):=bR (i:=14) sm;unfold gJ;rw[aR s13,aR s14]
 have t:mE (gB (fOp gtI (aF bW (aA (aB 13) aE)) (fC (.int 2)))) (gB (fOp (eqX false) (aB 14) (aF bW (aA (fOp ixF (aB 2) (aB 12)) aE)))) (GR c n ls g3 g4 g5 g6 g7 g8 g9 g10 r (some (I k)) (some (.d (.list (nP (inn ls k))))) (some (I (((inn ls k).map fun j=>(la ls j).length).sum:Nat))) g15 g16) (M++[.dead])=some (decide ((2:Int)<(inn ls k).length)&&((((inn ls k).map fun j=>(la ls j).length).sum:Nat)==(((la ls k).length:Nat):Int)),M++[.dead]):=by
  have l1:=fQ (r:=.list (nP (inn ls k))) (ds:=nP (inn ls k)) rfl (M++[.dead]);rw[A0]at l1;exact XY (bV (aU (aO (aH rfl aN) l1) rfl tF)) (bV (aU rfl (aO (aH (aU rfl rfl (qS hk)) aN) wI) xI))
 cases q:(decide ((2:Int)<(inn ls k).length)&&((((inn ls k).map fun j=>(la ls j).length).sum:Nat)==(((la ls k).length:Nat):Int)))with
 |false=>
  rw[q]at t;refine⟨GR c n ls g3 g4 g5 g6 g7 g8 g9 g10 r (some (I k)) (some (.d (.list (nP (inn ls k))))) (some (I (((inn ls k).map fun j=>(la ls j).length).sum:Nat))) g15 g16,M++[.dead],rs,?_,⟨g7,some (I k),_,_,g15,g16,rfl⟩,⟨R1.dk.le (by omega),R1.rg,R1.ne⟩,.inl rfl⟩;exact(fY t).trans rfl
 |true=>
  rw[q]at t;rw[B5,D9,Y3]at q;obtain⟨z,M1,e1,dk,o,rz⟩:=R1.dk.pop;have po:bM "list" fM (aB 0) aE (GR c n ls g3 g4 g5 g6 g7 g8 g9 g10 r (some (I k)) (some (.d (.list (nP (inn ls k))))) (some (I (((inn ls k).map fun j=>(la ls j).length).sum:Nat))) g15 g16) (M++[.dead])=some (I z,M1):=pop_at rfl R1.dk.ty e1;have R2:RI c r M1 rs m:=⟨dk,by rw[o.at_ _ R.ne];exact R1.rg,R.ne⟩;obtain⟨γ',M2,rs',h1,h2,h3,h4⟩:=QC (n:=n) (g3:=g3) (g4:=g4) (g5:=g5) (g6:=g6) (g8:=g8) (g9:=g9) (g10:=g10) (g14:=some (I (((inn ls k).map fun j=>(la ls j).length).sum:Nat))) (g15:=g15) (g16:=g16) (z:=z) R2 hl hk (by omega) hr (by omega);refine⟨γ',M2,rs',?_,h2,h3,h4⟩;refine(iC t).trans ?_;rw[aR (bR (i:=7) po)];exact h1
structure Rs(ls:List (List Int))(k:Nat)(rs:List (Int×List Int)):Prop where
 rg:∀r∈rs,RgP ls r.1 r.2
 up:Up (rs.map (·.1))
 lt:∀r∈rs,r.1<k
 ln:rs.length<=k
theorem KP{n:Int}{ls:List (List Int)}{g3 g4 g5 g6 g7 g8 g9 g10:Option CD}(R:RI c r M [] (m+ls.length))(hl:ls.length<=40)(hw:∀l∈ls,l.length<=40):
 ∃γ' M2 rs,jT (hName 12) gJ (kP 0 ls.length) (GR c n ls g3 g4 g5 g6 g7 g8 g9 g10 r none none none none none) M=some (.nx γ',M2)/\(∃g7 g12 g13 g14 g15 g16,γ'=GR c n ls g3 g4 g5 g6 g7 g8 g9 g10 r g12 g13 g14 g15 g16)/\RI c r M2 rs m/\Rs ls ls.length rs:=by
 obtain⟨γ',M2,e,rs,h1,h2,h3⟩:=rM (g:=hName 12) (b:=gJ) (n:=ls.length) (Inv:=fun k γ M=>∃rs,(∃g7 g12 g13 g14 g15 g16,γ=GR c n ls g3 g4 g5 g6 g7 g8 g9 g10 r g12 g13 g14 g15 g16)/\RI c r M rs (m+(ls.length-k))/\Rs ls k rs) (by
  intro k hk γ M ⟨rs,⟨g7,g12,g13,g14,g15,g16,eγ⟩,R,S⟩;subst eγ;obtain⟨γ',M2,rs',e,sh,R2,h⟩:=NV (m:=m+(ls.length-(k+1))) (n:=n) (g3:=g3) (g4:=g4) (g5:=g5) (g6:=g6) (g7:=g7) (g8:=g8) (g9:=g9) (g10:=g10) (g13:=g13) (g14:=g14) (g15:=g15) (g16:=g16) (by rw[show m+(ls.length-(k+1))+1=m+(ls.length-k)by omega];exact R) hl hw hk (by have:=S.ln;omega);refine⟨_,γ',M2,rfl,e,rs',sh,R2,?_⟩;rcases h with rfl|⟨os,rfl,rg⟩
  .exact⟨S.rg,S.up,fun r hr=>by have:=S.lt r hr;omega,by have:=S.ln;omega⟩
  .refine⟨fun r hr=>?_,?_,fun r hr=>?_,by rw[A7,B8];have:=S.ln;omega⟩
   .rcases List.mem_append.mp hr with hr|hr
    .exact S.rg r hr
    .rw[List.mem_singleton.mp hr];exact rg
   .rw[J0];refine List.pairwise_append.mpr ⟨S.up,Y2 _ _,fun x hx y hy=>?_⟩;obtain⟨p,hp,rfl⟩:=List.mem_map.mp hx;rw[List.mem_singleton.mp hy];exact S.lt p hp
   .rcases List.mem_append.mp hr with hr|hr
    .have:=S.lt r hr;omega
    .rw[List.mem_singleton.mp hr];show(k:Int)<_;omega) ls.length 0 (GR c n ls g3 g4 g5 g6 g7 g8 g9 g10 r none none none none none) M (Nat.zero_add _) ⟨[],⟨_,_,_,_,_,_,rfl⟩,R,⟨fun r h=>by simp at h,.nil,fun r h=>by simp at h,B3 _⟩⟩
 refine⟨γ',M2,rs,e,h1,?_,h3⟩;rw[Z2]at h2;exact h2
noncomputable abbrev chD(ls:List (List Int))(rs:List (Int×List Int)):PyData:=.tuple [.tuple (ls.map tR),.tuple (rs.map rgD)]
structure Ch(n:Int)(ls:List (List Int))(rs:List (Int×List Int)):Prop where
 ln:LnP n ls
 rp:RsP ls rs
 l1:ls.length<=33
 l2:rs.length<=33
theorem QA{ls:List (List Int)}{w lk:Nat}{g4 g5 g6 g7 g9:Option CD}(L:LnP n ls)(h32:ls.length<=32)(dk:Dk M c (m+1)):
 ∃ls2 M2,sIf (mE (gB (fOp gtI (aB 1) (fC (.int 3)))) (gB (fOp (eqX false) (fOp cH (bM "list" fM (aB 0) aE) (fC (.int 2))) (fC (.int 0))))) (sIf (gB (fOp (inD true) (aB 10) (aB 2))) (bG (aF jM (aA (fOp bO (aB 2) (eX (aA (aB 10) aE))) aE)) (hName 2)) bH) bH ([some (.c c),some (I n),some (.d (lR ls)),some (.c w),g4,g5,g6,g7,some (.c lk),g9,some (lT (cN n)),none,none,none,none,none,none]) M=some (.nx [some (.c c),some (I n),some (.d (lR ls2)),some (.c w),g4,g5,g6,g7,some (.c lk),g9,some (lT (cN n)),none,none,none,none,none,none],M2)/\Dk M2 c m/\LnP n ls2/\ls2.length<=33:=by
 have t1:gB (fOp gtI (aB 1) (fC (.int 3))) [some (.c c),some (I n),some (.d (lR ls)),some (.c w),g4,g5,g6,g7,some (.c lk),g9,some (lT (cN n)),none,none,none,none,none,none] M=some (decide (3<n),M):=bV (aU rfl rfl tF);by_cases hn:3<n
 .obtain⟨z,M1,e1,dk1,o,rz⟩:=dk.pop;have po:bM "list" fM (aB 0) aE [some (.c c),some (I n),some (.d (lR ls)),some (.c w),g4,g5,g6,g7,some (.c lk),g9,some (lT (cN n)),none,none,none,none,none,none] M=some (I z,M1):=pop_at rfl dk.ty e1
  have t2:mE (gB (fOp gtI (aB 1) (fC (.int 3)))) (gB (fOp (eqX false) (fOp cH (bM "list" fM (aB 0) aE) (fC (.int 2))) (fC (.int 0)))) [some (.c c),some (I n),some (.d (lR ls)),some (.c w),g4,g5,g6,g7,some (.c lk),g9,some (lT (cN n)),none,none,none,none,none,none] M=some (z % 2==0,M1):=by
   unfold mE;rw[t1,A3,C5 hn];exact(A4 rfl).trans (bV (aU (iK po (by decide)) rfl xI))
  cases q:(z % 2==0)with
  |false=>
   rw[q]at t2;exact⟨ls,M1,(fY t2).trans rfl,dk1,L,by omega⟩
  |true=>
   rw[q]at t2;have t3:gB (fOp (inD true) (aB 10) (aB 2)) [some (.c c),some (I n),some (.d (lR ls)),some (.c w),g4,g5,g6,g7,some (.c lk),g9,some (lT (cN n)),none,none,none,none,none,none] M1=some (!decide (cN n∈ls),M1):=bV (aU rfl rfl aBW);by_cases f:cN n∈ls
   .rw[C5 f]at t3;exact⟨ls,M1,(iC t2).trans ((fY t3).trans rfl),dk1,L,by omega⟩
   .rw[E1 f]at t3
    obtain⟨vs,pm,so,es⟩:=OT (ls:=ls++[cN n]) (M:=M1) (fun l hl=>by
     rcases List.mem_append.mp hl with hl|hl
     .exact(L.lk l hl).ne
     .rw[List.mem_singleton.mp hl];intro e;have:=IF n;rw[e,A0o]at this;omega) (by rw[A7,B8];omega)
    refine⟨vs,M1,(iC t2).trans ((iC t3).trans ?_),dk1,L.full hn f pm so,by rw[pm.length_eq,A7,B8];omega⟩
    have l1:eX (aA (aB 10) aE) [some (.c c),some (I n),some (.d (lR ls)),some (.c w),g4,g5,g6,g7,some (.c lk),g9,some (lT (cN n)),none,none,none,none,none,none] M1=some (.d (.list [tR (cN n)]),M1):=by
     show(if 1<=sizeLine then some (CD.d (.list [tR (cN n)]),M1)else none)=_;rw[A4 (sz (by decide))]
    have ad:bO (.d (lR ls)) (.d (.list [tR (cN n)])) M1=some (.d (lR (ls++[cN n])),M1):=by
     rw[add_list (by rw[A0,B8];omega)];refine D4 (fun x=>some (CD.d (.list x),M1)) ?_;rw[J0];rfl
    exact bR (i:=2) (aO (aH (aU rfl l1 ad) aN) es)
 .rw[E1 hn]at t1;refine⟨ls,M,(fY (show mE _ _ _ _=some (false,M)from ?_)).trans rfl,dk.le (by omega),L,by omega⟩;unfold mE;rw[t1];rfl
theorem aAo(h1:1<=n)(h9:n<=9)(dk:Dk M c (m+130)):∃ls rs M',lH [.c c,I n] M=some (.d (chD ls rs),M')/\Dk M' c m/\Ch n ls rs:=by
 have hc:=dk.lt;have s1:bG (dU aE) (hName 2) [some (.c c),some (I n),none,none,none,none,none,none,none,none,none,none,none,none,none,none,none] M=some (.nx [some (.c c),some (I n),some (.c M.length),none,none,none,none,none,none,none,none,none,none,none,none,none,none],M++[.lst []]):=bR (i:=2) (tL aN (F9 _))
 have rg:yS false (aA (fC (.int 1)) (aA (aB 1) aE)) [some (.c c),some (I n),some (.c M.length),none,none,none,none,none,none,none,none,none,none,none,none,none,none] (M++[.lst []])=some (lL (cN n),M++[.lst []]):=by
  show(if (cY 1=true/\cY n=true)/\(n-1).toNat<=sizeLine then(if false=true then some (CD.c (M++[Cell.lst []]).length,(M++[Cell.lst []])++[Cell.lst (kP 1 (n-1).toNat)])else some (CD.d (.list (DM 1 (n-1).toNat)),M++[Cell.lst []]))else none)=_;rw[A4 ⟨⟨rW (by omega) (by omega),rW (by omega) (by omega)⟩,sz (by omega)⟩,B0 A9,GN]
 have s2:bG (dU (aA (yS false (aA (fC (.int 1)) (aA (aB 1) aE))) aE)) (hName 3) [some (.c c),some (I n),some (.c M.length),none,none,none,none,none,none,none,none,none,none,none,none,none,none] (M++[.lst []])=some (.nx (GC c n M.length (M.length+1) none none none none),(M++[.lst []])++[.lst [lL (cN n)]]):=by
  have:=bR (i:=3) (tL (aH rg aN) (show 1<=900 by decide));rw[A7]at this;exact this
 have C0:CI c M.length (M.length+1) ((M++[.lst []])++[.lst [lL (cN n)]]) [] [cN n] ((m+34)+96):=by
  refine⟨dk.app.app,?_,?_,by omega,by omega,by omega⟩
  .rw[E3 (by rw[A7,B8];omega)];exact jR
  .have:=jR (M:=M++[.lst []]) (c:=.lst [lL (cN n)]);rw[A7]at this;exact this
 have D0:DI n [] [cN n]:=⟨fun l h=>by simp at h,fun l h=>by simp at h,fun t ht=>by rw[List.mem_singleton.mp ht];exact⟨MV n,fun p hp=>full_mem.mp hp⟩,fun t _ l h=>by simp at h,Y2 _ _⟩;obtain⟨g4,g5,g6,g7,M1,links,ws,e1,C1,D1,l32⟩:=HX h9 C0 D0 (B3 _);have r8:gZ (aA (fC (.int 8)) aE) (GC c n M.length (M.length+1) none none none none) ((M++[.lst []])++[.lst [lL (cN n)]])=some (kP 0 8,(M++[.lst []])++[.lst [lL (cN n)]]):=vN (J:=8) rfl (rW (by decide) (by decide));obtain⟨g9,M2,ls,e2,dk2,L2',h32⟩:=aBS (g4:=g4) (g5:=g5) (g6:=g6) (g7:=g7) C1 D1 l32
 have s10:bG (DV (aA (fC (.int 1)) (aA (aB 1) aE))) (hName 10) (GE c n (.d (lR ls)) (M.length+1) g4 g5 g6 g7 M.length g9) M2=some (.nx [some (.c c),some (I n),some (.d (lR ls)),some (.c (M.length+1)),g4,g5,g6,g7,some (.c M.length),g9,some (lT (cN n)),none,none,none,none,none,none],M2):=by
  refine bR (i:=10) (x:=lT (cN n)) ?_;show(if (cY 1=true/\cY n=true)/\(n-1).toNat<=sizeLine then some (CD.d (.tuple (DM 1 (n-1).toNat)),M2)else none)=_;rw[A4 ⟨⟨rW (by omega) (by omega),rW (by omega) (by omega)⟩,sz (by omega)⟩,GN]
 obtain⟨ls2,M3,e3,dk3,L3,h33⟩:=QA (w:=M.length+1) (lk:=M.length) (g4:=g4) (g5:=g5) (g6:=g6) (g7:=g7) (g9:=g9) (m:=m+33) L2' h32 dk2;have s11:bG (dU aE) (hName 11) [some (.c c),some (I n),some (.d (lR ls2)),some (.c (M.length+1)),g4,g5,g6,g7,some (.c M.length),g9,some (lT (cN n)),none,none,none,none,none,none] M3=some (.nx (GR c n ls2 (some (.c (M.length+1))) g4 g5 g6 g7 (some (.c M.length)) g9 (some (lT (cN n))) M3.length none none none none none),M3++[.lst []]):=bR (i:=11) (tL aN (F9 _));have R0:RI c M3.length (M3++[.lst []]) [] (m+ls2.length):=⟨dk3.app.le (by omega),jR,by have:=dk3.lt;omega⟩;obtain⟨γ',M4,rs,e4,⟨h7,h12,h13,h14,h15,h16,eγ⟩,R4,S4⟩:=KP (n:=n) (g3:=some (.c (M.length+1))) (g4:=g4) (g5:=g5) (g6:=g6) (g7:=g7) (g8:=some (.c M.length)) (g9:=g9) (g10:=some (lT (cN n))) R0 (by omega) fun l hl=>EL (L3.lk l hl).up (L3.lk l hl).io (by omega);subst eγ
 have it4:gZ (aA (aF bW (aA (aB 2) aE)) aE) (GR c n ls2 (some (.c (M.length+1))) g4 g5 g6 g7 (some (.c M.length)) g9 (some (lT (cN n))) M3.length none none none none none) (M3++[.lst []])=some (kP 0 ls2.length,M3++[.lst []]):=by
  rw[vN (J:=(ls2.length:Int)) (aH (aO (aH rfl aN) EN) aN) (rW (by omega) (by omega)),E4]
 have tu:cM [.c M3.length] M4=some (.d (.tuple (rs.map rgD)),M4):=by
  simp only[cM,R4.rg];rw[show(rs.map fun p=>CD.d (rgD p))=(rs.map rgD).map .d by rw[C8];rfl,iD];rfl
 refine⟨ls2,rs,M4,eG rfl ?_,R4.dk,⟨L3,⟨S4.rg,S4.up⟩,h33,by have:=S4.ln;omega⟩⟩;show aW _ _ [some (.c c),some (I n),none,none,none,none,none,none,none,none,none,none,none,none,none,none,none] M=_;rw[aR s1,aR s2,aR (dO r8 e1),aR (bR (i:=8) (x:=.c M.length) rfl)];show aW (bG (dU aE) (hName 2)) _ (GE c n (.c M.length) (M.length+1) g4 g5 g6 g7 M.length none) M1=_;rw[aR (bR (i:=2) (tL aN (F9 _)))];show aW _ _ (GE c n (.c M1.length) (M.length+1) g4 g5 g6 g7 M.length none) (M1++[.lst []])=_;rw[aR e2,aR s10,aR e3,aR s11,aR (dO it4 e4)];refine cP ?_;unfold bK;rw[aH (aO (aH rfl aN) (show cM [.d (lR ls2)] M4=some (.d (.tuple (ls2.map tR)),M4)from rfl)) (aH (aO (aH rfl aN) tu) aN),A3];show(if 2<=sizeLine then some (CD.d (chD ls2 rs),M4)else none)=_;rw[A4 (sz (by decide))]
noncomputable def Tm:Nat->PyData->Prop
 |0,d=>aM d=none
 |m+1,d=>∀ds,aM d=some ds->ds.length<64/\∀x∈ds,Tm m x
theorem Tm.wi:∀{m:Nat}{d:PyData}(j:Nat),Tm m d->Wi j d
 |_,_,0=>fun _=>trivial
 |0,d,j+1=>fun h=>fun ds hd=>by rw[show aM d=none from h]at hd;cases hd
 |m+1,d,j+1=>fun h=>fun ds hd=>⟨(h ds hd).1,fun x hx=>((h ds hd).2 x hx).wi j⟩
theorem Tm.up:∀{m:Nat}{d:PyData},Tm m d->Tm (m+1) d
 |0,d=>fun h=>fun ds hd=>by rw[show aM d=none from h]at hd;cases hd
 |m+1,d=>fun h=>fun ds hd=>⟨(h ds hd).1,fun x hx=>((h ds hd).2 x hx).up⟩
theorem Tm.upTo(h:Tm m d)(le:m<=k):Tm k d:=by
 induction le with
 |refl=>exact h
 |step _ ih=>exact ih.up
theorem hV{ds:List PyData}(hl:ds.length<64)(h:∀x∈ds,Tm m x):Tm (m+1) (.tuple ds):=fun es he=>by
 cases he;exact⟨hl,h⟩
theorem qV(m:Nat)(i:Int):Tm m (.int i):=Tm.upTo (m:=0) rfl (F9 _)
theorem pP(hl:l.length<64):Tm 1 (tR l):=hV (by rw[A0];exact hl) fun x hx=>by
 obtain⟨i,_,rfl⟩:=List.mem_map.mp hx;rfl
noncomputable def lsD:Nat->PyData->PyData
 |m+1,.tuple ds=>.list (ds.map (lsD m))
 |_,d=>d
theorem YF:∀(m:Nat)(d:PyData)(M:Sto),Tm m d->dA (m+1) [.d d] M=some (.d (lsD m d),M):=by
 have non:∀(m:Nat)(d:PyData)(M:Sto),(∀ds,d≠.tuple ds)->lsD m d=d/\dA (m+1) [.d d] M=some (.d d,M):=fun m d M h=>by
  cases d with
  |tuple ds=>exact absurd rfl (h ds)
  |_=>exact⟨by cases m<;>rfl,rfl⟩
 intro m
 induction m with
 |zero=>
  intro d M h;obtain⟨h1,h2⟩:=non 0 d M fun ds e=>by rw[e]at h;cases h
  rw[h1];exact h2
 |succ m ih=>
  intro d M h;by_cases q:∃ds,d=.tuple ds
  .obtain⟨ds,rfl⟩:=q;obtain⟨hl,hx⟩:=h ds rfl;have mp:=EC (i:=0) (cap:=[none]) (f:=aB 0) (e:=aF (dA (m+1)) (aA (aB 0) aE)) (γ:=[some (.d (.tuple ds))]) (M:=M) (h:=lsD m) rfl rfl (by omega) fun x hx'=>aO (aH rfl aN) (ih x M (hx x hx'));show fnF 1 1 (pC (dA (m+1))) [.d (.tuple ds)] M=_;refine eG rfl ?_;have t:cB (gB (xK "tuple" (aB 0))) [some (.d (.tuple ds))] M=some (false,M):=rfl;show aW _ _ [some (.d (.tuple ds))] M=_;rw[aR (show sIf _ _ _ [some (.d (.tuple ds))] M=some (.nx [some (.d (.tuple ds))],M)from by rw[fY t];rfl)];exact cP mp
  .obtain⟨h1,h2⟩:=non (m+1) d M fun ds e=>q ⟨ds,e⟩;rw[h1];exact h2
theorem ls_int{i:Int}:lsD m d=.int i↔d=.int i:=by
 cases d with
 |tuple ds=>
  cases m with
  |zero=>exact Iff.rfl
  |succ m=>exact⟨(fun h=>by cases h),(fun h=>by cases h)⟩
 |_=>cases m<;>exact Iff.rfl
theorem lZ(m:Nat)(d:PyData):aM (lsD m d)=aM d\/∃k ds,aM d=some ds/\aM (lsD m d)=some (ds.map (lsD k)):=by
 cases d with
 |tuple ds=>
  cases m with
  |zero=>exact .inl rfl
  |succ m=>exact .inr ⟨m,ds,rfl,rfl⟩
 |_=>cases m<;>exact .inl rfl
theorem MU(m:Nat):∀ds:List PyData,cR (ds.map (lsD m))=cR ds
 |[]=>rfl
 |d::ds=>by
  have ih:=MU m ds;by_cases q:∃i,d=.int i
  .obtain⟨i,rfl⟩:=q;rw[B6,show lsD m (.int i)=.int i from ls_int.mpr rfl];show(cR (ds.map (lsD m))).bind _=(cR ds).bind _;rw[ih]
  .have n1:∀{e:PyData}{es:List PyData},(¬∃i,e=.int i)->cR (e::es)=none:=fun{e es} h=>by
    cases e with
    |int i=>exact absurd ⟨i,rfl⟩ h
    |_=>rfl
   rw[B6,n1 q,n1 fun⟨i,h⟩=>q ⟨i,ls_int.mp h⟩]
theorem JG(m:Nat)(d:PyData):fJ (lsD m d)=fJ d:=by
 unfold fJ;rcases lZ m d with h|⟨k,ds,h1,h2⟩
 .rw[h]
 .rw[h1,h2];exact MU k ds
theorem IE(m:Nat)(d:PyData):nU (lsD m d)=nU d:=by
 unfold nU;rcases lZ m d with h|⟨k,ds,h1,h2⟩
 .rw[h]
 .rw[h1,h2];show DG fJ (ds.map (lsD k))=DG fJ ds;clear h1 h2
  induction ds with
  |nil=>rfl
  |cons x ds ih=>
   show(fJ (lsD k x)).bind _=(fJ x).bind _;rw[JG,ih]
theorem map_two{α β:Type}{f:α->β}{ds:List α}{x y:β}(h:ds.map f=[x,y]):∃a b,ds=[a,b]/\f a=x/\f b=y:=by
 have l:=D4 List.length h;rw[A0]at l;obtain⟨a,b,rfl⟩:=yB l;rw[B6,B6,List.map_nil,O0,O0]at h;exact⟨a,b,rfl,h.1,h.2.1⟩
theorem ZK(m:Nat)(d:PyData):fZ (lsD m d)=fZ d:=by
 rcases lZ m d with h|⟨k,ds,h1,h2⟩
 .unfold fZ;rw[h]
 .refine Option.ext fun r=>?_;rw[show(fZ (lsD m d)=some r)=(fZ (lsD m d)=some (r.1,r.2))from rfl,show(fZ d=some r)=(fZ d=some (r.1,r.2))from rfl,ringI_iff,ringI_iff,h1,h2];constructor
  .intro ⟨o,e,q⟩;obtain⟨a,b,rfl,e1,e2⟩:=map_two (D5 e);rw[ls_int.mp e1];exact⟨b,rfl,by rw[<- JG k,e2];exact q⟩
  .intro ⟨o,e,q⟩;cases e;exact⟨lsD k o,by rw[B6,B6,List.map_nil,show lsD k (.int r.1)=.int r.1 from ls_int.mpr rfl],by rw[JG];exact q⟩
theorem HC(m:Nat)(d:PyData):nH (lsD m d)=nH d:=by
 unfold nH;rcases lZ m d with h|⟨k,ds,h1,h2⟩
 .rw[h]
 .rw[h1,h2];show DG fZ (ds.map (lsD k))=DG fZ ds;clear h1 h2
  induction ds with
  |nil=>rfl
  |cons x ds ih=>
   show(fZ (lsD k x)).bind _=(fZ x).bind _;rw[ZK,ih]
theorem QX(n:Int)(m:Nat)(d:PyData):ChD n (lsD m d)↔ChD n d:=by
 rcases lZ m d with h|⟨k,ds,h1,h2⟩
 .unfold ChD;rw[h]
 .unfold ChD;rw[h1,h2];constructor
  .intro ⟨a,b,ls,rs,e,q1,q2,q3,q4⟩;obtain⟨x,y,rfl,e1,e2⟩:=map_two (D5 e);exact⟨x,y,ls,rs,rfl,by rw[<- IE k,e1];exact q1,q2,by rw[<- HC k,e2];exact q3,q4⟩
  .intro ⟨a,b,ls,rs,e,q1,q2,q3,q4⟩;cases e;exact⟨lsD k a,lsD k b,ls,rs,rfl,by rw[IE];exact q1,q2,by rw[HC];exact q3,q4⟩
theorem aBj:∀{m:Nat}{d:PyData}(k:Nat),Tm m d->Tm m (lsD k d)
 |0,d=>fun k h=>by
  rcases lZ k d with q|⟨j,ds,h1,h2⟩
  .exact q.trans h
  .rw[show aM d=none from h]at h1;cases h1
 |m+1,d=>fun k h=>fun ds hd=>by
  rcases lZ k d with q|⟨j,es,h1,h2⟩
  .exact h ds (q.symm.trans hd)
  .rw[h2]at hd;cases hd;refine⟨by rw[A0];exact(h es h1).1,fun x hx=>?_⟩;obtain⟨y,hy,rfl⟩:=List.mem_map.mp hx;exact aBj j ((h es h1).2 y hy)
theorem aFj{b:Bool}:eqX true (B b) (B b) M=some (B false,M):=by cases b<;>rfl
theorem HH{o:Int}{g:Option CD}(ho:o<=40)(h:Tm 5 d){x:PyData}(hx:Tm 5 x)(same:ChD o x↔ChD o d):∃L g',mI [some (I n),some (.d d),some (I o),some (B (pd (ChD o d))),some (.d x),g] M=some (.nx [some (I n),some (.d d),some (I o),some (B (pd (ChD o d))),some (.d x),g'],M++L):=by
 obtain⟨L,e⟩:=sW (M:=M) ho (hx.wi 4);rw[cA same]at e;refine⟨L,some (B (pd (ChD o d))),?_⟩;unfold mI;rw[aR (bR (i:=5) (aO (aH rfl (aH rfl aN)) e))];show sIf _ _ _ [some (I n),some (.d d),some (I o),some (B (pd (ChD o d))),some (.d x),some (B (pd (ChD o d)))] (M++L)=_
 have t:gOr (cB (gB (xK "bool" (aB 5)))) (gB (fOp (eqX true) (aB 5) (aB 3))) [some (I n),some (.d d),some (I o),some (B (pd (ChD o d))),some (.d x),some (B (pd (ChD o d)))] (M++L)=some (false,M++L):=by
  rw[pZ (show cB (gB (xK "bool" (aB 5))) [some (I n),some (.d d),some (I o),some (B (pd (ChD o d))),some (.d x),some (B (pd (ChD o d)))] (M++L)=some (false,M++L)from rfl)];exact bV (aU rfl rfl aFj)
 rw[fY t];rfl
theorem CF{o:Int}(ho:o<=40)(h:Tm 5 d):∃L g3' g4' g5',mC [some (I n),some (.d d),some (I o),g3,g4,g5] M=some (.nx [some (I n),some (.d d),some (I o),g3',g4',g5'],M++L):=by
 obtain⟨L1,e1⟩:=qZ (M:=M) ho (h.wi 4);obtain⟨L2,g2,e2⟩:=HH (n:=n) (g:=g5) (M:=M++L1) ho h h Iff.rfl;obtain⟨L3,g3',e3⟩:=HH (n:=n) (g:=g2) (M:=M++L1++L2) ho h (aBj 5 h) (QX o 5 d);refine⟨L1++L2++L3,some (B (pd (ChD o d))),some (.d (lsD 5 d)),g3',?_⟩
 have it:bE (eX (aA (aB 1) (aA (aF (dA 6) (aA (aB 1) aE)) aE))) [some (I n),some (.d d),some (I o),some (B (pd (ChD o d))),g4,g5] (M++L1)=some ([.d d,.d (lsD 5 d)],M++L1):=by
  have l:eX (aA (aB 1) (aA (aF (dA 6) (aA (aB 1) aE)) aE)) [some (I n),some (.d d),some (I o),some (B (pd (ChD o d))),g4,g5] (M++L1)=some (.d (.list [d,lsD 5 d]),M++L1):=by
   unfold eX;rw[aH rfl (aH (aO (aH rfl aN) (YF 5 d (M++L1) h)) aN),A3];show(if 2<=sizeLine then some (CD.d (.list [d,lsD 5 d]),M++L1)else none)=_;rw[A4 (sz (by decide))]
  exact jA l rfl
 unfold mC;rw[aR (bR (i:=3) (aO (aH rfl (aH rfl aN)) e1))];show jW _ _ _ [some (I n),some (.d d),some (I o),some (B (pd (ChD o d))),g4,g5] (M++L1)=_;refine dO it ?_;rw[eK (show hName 4 (.d d) [some (I n),some (.d d),some (I o),some (B (pd (ChD o d))),g4,g5] (M++L1)=some ([some (I n),some (.d d),some (I o),some (B (pd (ChD o d))),some (.d d),g5],M++L1)from rfl) e2,eK (show hName 4 (.d (lsD 5 d)) [some (I n),some (.d d),some (I o),some (B (pd (ChD o d))),some (.d d),g2] (M++L1++L2)=some ([some (I n),some (.d d),some (I o),some (B (pd (ChD o d))),some (.d (lsD 5 d)),g2],M++L1++L2)from rfl) e3,F7,F7,<- F7 L1];rfl
theorem LY(h1:1<=n)(h9:n<=9)(h:Tm 5 d):∃L,dB [I n,.d d] M=some (B true,M++L):=by
 have hm:=O8 n (show(0:Int)<9 by decide);obtain⟨L1,a3,a4,a5,e1⟩:=CF (n:=n) (o:=n) (d:=d) (g3:=none) (g4:=none) (g5:=none) (M:=M) (by omega) h;obtain⟨L2,b3,b4,b5,e2⟩:=CF (n:=n) (o:=1+n % 9) (d:=d) (g3:=a3) (g4:=a4) (g5:=a5) (M:=M++L1) (by omega) h;refine⟨L1++L2,eG rfl ?_⟩;show aW _ _ [some (I n),some (.d d),none,none,none,none] M=_
 have it:bE (eX (aA (aB 0) (aA (fOp bO (fC (.int 1)) (fOp cH (aB 0) (fC (.int 9)))) aE))) [some (I n),some (.d d),none,none,none,none] M=some ([I n,I (1+n % 9)],M):=by
  have l:eX (aA (aB 0) (aA (fOp bO (fC (.int 1)) (fOp cH (aB 0) (fC (.int 9)))) aE)) [some (I n),some (.d d),none,none,none,none] M=some (.d (.list [.int n,.int (1+n % 9)]),M):=by
   unfold eX;rw[aH rfl (aH (aU rfl (iK rfl (by decide)) yI) aN),A3];show(if 2<=sizeLine then some (CD.d (.list [.int n,.int (1+n % 9)]),M)else none)=_;rw[A4 (sz (by decide))]
  exact jA l rfl
 rw[aR (dO it (by rw[eK (show hName 2 (I n) [some (I n),some (.d d),none,none,none,none] M=some ([some (I n),some (.d d),some (I n),none,none,none],M)from rfl) e1,eK (show hName 2 (I (1+n % 9)) [some (I n),some (.d d),some (I n),a3,a4,a5] (M++L1)=some ([some (I n),some (.d d),some (I (1+n % 9)),a3,a4,a5],M++L1)from rfl) e2];rfl)),<- F7];rfl
noncomputable def tmB:Nat->PyData->Bool
 |0,d=>(aM d).isNone
 |m+1,d=>match aM d with
  |none=>true
  |some ds=>decide (ds.length<64)&&ds.all (tmB m)
theorem DZ:∀{m:Nat}{d:PyData},tmB m d=true->Tm m d
 |0,d=>fun h=>Option.isNone_iff_eq_none.mp h
 |m+1,d=>fun h=>fun ds hd=>by
  unfold tmB at h;rw[hd]at h;rw[B5,D9,U8]at h;exact⟨h.1,fun x hx=>DZ (h.2 x hx)⟩
noncomputable def xN:List PyData:=[.none,.bool true,.int 0,.int 3,.str "0",.tuple [],.list [],.dict [],.tuple [.int 0],.tuple [.int 1],.tuple [.int 1,.int 1],.tuple [.bool true],.tuple [.tuple [.int 1]],.tuple [.tuple [],.tuple []],.tuple [.str "1"],.tuple [.int (-1)]]
noncomputable def uR:PyData:=.tuple [.int 0,.tuple [.int 0,.int 1,.int 2]]
theorem XM:∀d∈xN++[uR],Tm 2 d:=fun d hd=>DZ (List.all_eq_true.mp (show(xN++[uR]).all (tmB 2)=true from rfl) d hd)
theorem WY:∃d L,bZ [I z] M=some (.d d,M++L)/\Tm 2 d:=by
 obtain⟨x,hd,hm⟩:=yF (ds:=(xN++[uR]).map CD.d) (k:=z) (m:=17) (by decide) rfl;obtain⟨d,hm2,rfl⟩:=List.mem_map.mp hm;refine⟨d,[.lst ((xN++[uR]).map .d)],eG rfl ?_,XM d hm2⟩;show aW _ _ [some (I z),none] M=_;have s1:bG (dU (aA (fC .none) (aA (fC (.bool true)) (aA (fC (.int 0)) (aA (fC (.int 3)) (aA (fC (.str "0")) (aA (bK aE) (aA (eX aE) (aA DW (aA uV (aA tV (aA uE (aA uB (aA uK (aA uC (aA uT (aA tZ aE))))))))))))))))) (hName 1) [some (I z),none] M=some (.nx [some (I z),some (.c M.length)],M++[.lst (xN.map .d)]):=bR (i:=1) (tL (show _=some (xN.map CD.d,M)from rfl) (show 16<=900 by decide))
 have s2:gA (bM "list" cD (aB 1) (aA uN aE)) [some (I z),some (.c M.length)] (M++[.lst (xN.map .d)])=some (.nx [some (I z),some (.c M.length)],M++[.lst ((xN++[uR]).map .d)]):=by
  have a:=zU (M:=M++[.lst (xN.map .d)]) (c:=M.length) (xs:=xN.map .d) (y:=.d uR) jR (show 16<900 by decide);rw[DP,show xN.map CD.d++[.d uR]=(xN++[uR]).map CD.d from rfl]at a;exact FU (mR rfl (PZ jR) (aH (x:=.d uR) rfl aN) a)
 rw[aR s1,aR s2];refine cP (aU rfl (iK rfl (by decide)) ?_);simp only[ixF,jR];rw[hd];rfl
theorem VX{M1:Sto}{x:PyData}(h:f γ M=some (.d x,M1)):bK (aA f aE) γ M=some (.d (.tuple [x]),M1):=by
 unfold bK;rw[aH h aN,A3];show(if 1<=sizeLine then some (CD.d (.tuple [x]),M1)else none)=_;rw[A4 (sz (by decide))]
theorem AO{M1 M2:Sto}{x y:PyData}(h:f γ M=some (.d x,M1))(h2:g γ M1=some (.d y,M2)):bK (aA f (aA g aE)) γ M=some (.d (.tuple [x,y]),M2):=by
 unfold bK;rw[aH h (aH h2 aN),A3];show(if 2<=sizeLine then some (CD.d (.tuple [x,y]),M2)else none)=_;rw[A4 (sz (by decide))]
theorem JI(h:f γ M=some (I k,M)):∃m:Int,aF oI (aA (fC (.int 1)) (aA f aE)) γ M=some (I m,M)/\0<m/\(0<k->m=k):=by
 refine⟨if (k:Int) > 1 then(k:Int)else 1,aO (aH rfl (aH h aN)) rfl,?_,fun hk=>?_⟩
 .split<;>omega
 .split<;>omega
theorem AG{b:Int}(h:f γ M=some (I z,M))(hg:g γ M=some (I b,M))(hb:0<b):fOp cH f g γ M=some (I (z % b),M):=by
 refine aU h hg ?_;show(ifS (pY z b) (.int (z % b))).bind _=_;rw[lE hb];rfl
theorem uY{M1:Sto}{x:PyData}{a:Nat}(h0:γ[i]?=some (some (.d (.tuple T))))(h4:γ[j]?=some (some (I a)))(hf:f γ M=some (.d x,M1))(hl:T.length<=64)(ha:a<T.length):
 fOp bO (fOp bO (fSl (aB i) aV (aY (aB j))) (bK (aA f aE))) (fSl (aB i) (aY (fOp bO (aB j) (fC (.int 1)))) aV) γ M=some (.d (.tuple ((T.take a++[x])++T.drop (a+1))),M1):=by
 have v0:∀{M:Sto},aB i γ M=some (.d (.tuple T),M):=hG h0;have v4:∀{M:Sto},aB j γ M=some (I a,M):=hG h4;have p4:∀{M:Sto},aY (aB j) γ M=some (some (a:Int),M):=fun{M}=>by unfold aY;rw[v4];rfl
 have p5:∀{M:Sto},aY (fOp bO (aB j) (fC (.int 1))) γ M=some (some ((a:Int)+1),M):=fun{M}=>by unfold aY;rw[aU v4 aCq yI];rfl
 have s1:fSl (aB i) aV (aY (aB j)) γ M=some (.d (.tuple (T.take a)),M):=by
  rw[nD v0 rfl p4 sl_tup,oF T a (by omega)]
 have s2:fSl (aB i) (aY (fOp bO (aB j) (fC (.int 1)))) aV γ M1=some (.d (.tuple (T.drop (a+1))),M1):=by
  rw[nD v0 p5 rfl sl_tup,show(a:Int)+1=((a+1:Nat):Int)from rfl,qG T (a+1) (by omega)]
 refine aU (aU s1 (VX hf) (mP ?_)) s2 (mP ?_)
 .rw[F6,B8];omega
 .rw[A7,F6,J7,B8];omega
theorem zQ{x:PyData}{a:Nat}(ha:a<T.length):((T.take a++[x])++T.drop (a+1)).length=T.length:=by
 rw[A7,A7,F6,J7,B8];omega
theorem zE{x y:PyData}{a:Nat}(h:y∈(T.take a++[x])++T.drop (a+1)):y=x\/y∈T:=by
 rcases List.mem_append.mp h with h|h
 .rcases List.mem_append.mp h with h|h
  .exact .inr (U5 h)
  .exact .inl (List.mem_singleton.mp h)
 .exact .inr (A0m h)
theorem HK{M:Sto}{a:Nat}(h0:γ[i]?=some (some (.d (.tuple T))))(h4:γ[j]?=some (some (I a)))(hl:T.length<=60)(ha:a<T.length):
 ∃U,fOp bO (aB i) (fSl (aB i) (aY (aB j)) (aY (fOp bO (aB j) (fC (.int 1))))) γ M=some (.d (.tuple U),M)/\U.length<=61/\∀x∈U,x∈T:=by
 have v0:∀{M:Sto},aB i γ M=some (.d (.tuple T),M):=hG h0;have v4:∀{M:Sto},aB j γ M=some (I a,M):=hG h4;have p4:∀{M:Sto},aY (aB j) γ M=some (some (a:Int),M):=fun{M}=>by unfold aY;rw[v4];rfl
 have p5:∀{M:Sto},aY (fOp bO (aB j) (fC (.int 1))) γ M=some (some ((a+1:Nat):Int),M):=fun{M}=>by unfold aY;rw[aU v4 aCq yI];rfl
 have s1:fSl (aB i) (aY (aB j)) (aY (fOp bO (aB j) (fC (.int 1)))) γ M=some (.d (.tuple ((T.drop a).take (a+1-a))),M):=by
  rw[nD v0 p4 p5 sl_tup,NA T a (a+1) (by omega) (by omega)]
 have l1:((T.drop a).take (a+1-a)).length<=1:=by rw[F6];omega
 refine⟨T++(T.drop a).take (a+1-a),aU v0 s1 (mP (by omega)),by rw[A7];omega,fun x hx=>?_⟩;rcases List.mem_append.mp hx with hx|hx
 .exact hx
 .exact A0m (U5 hx)
theorem LN(h:SeqAt.shaped (.tuple T)=true):eqX false (.d (.tuple T)) (.d (.tuple [])) M=some (B T.isEmpty,M):=by
 show(if (SeqAt.shaped (.tuple T)&&SeqAt.shaped (.tuple []))=true then some (CD.d (.bool (PyData.eqv (.tuple T) (.tuple []))),M)else none)=_;rw[h,show SeqAt.shaped (.tuple [])=true from rfl,A4 (show(true&&true)=true from rfl)];cases T<;>rfl
theorem nE{w j:Int}{b r:SF}(hγ:γ[3]?=some (some (I w)))(h:w=j)(hb:b γ M=some (.rt x,M')):aW (sIf (gB (fOp (eqX false) (aB 3) (fC (.int j)))) b bH) r γ M=some (.rt x,M'):=by
 refine jP ?_;rw[iC (bV (b:=true) (aU (hG hγ) rfl (by rw[xI,h,beq_self_eq_true])))];exact hb
theorem fL{w j:Int}{b r:SF}(hγ:γ[3]?=some (some (I w)))(h:w≠j):aW (sIf (gB (fOp (eqX false) (aB 3) (fC (.int j)))) b bH) r γ M=r γ M:=by
 refine aR ?_;rw[fY (bV (b:=false) (aU (hG hγ) rfl (by rw[xI,beq_eq_false_iff_ne.mpr h])))];rfl
theorem NT(ls:List (List Int)):SeqAt.shaped (.tuple (ls.map tR))=true:=by
 obtain⟨h1,h2⟩:=zK vD ls;unfold SeqAt.shaped;have e1:PyData.canLay0 (.tuple (ls.map tR))=true:=h1;have e2:PyData.depth (.tuple (ls.map tR))=PyData.depthAll (ls.map tR)+1:=rfl;rw[e1,e2,C5 (by omega)];rfl
theorem aAX{ls:List (List Int)}(hl:ls.length<64)(hw:∀l∈ls,l.length<64):Tm 2 (.tuple (ls.map tR)):=hV (by rw[A0];exact hl) fun x hx=>by
 obtain⟨l,h,rfl⟩:=List.mem_map.mp hx;exact pP (hw l h)
theorem VL{ls:List (List Int)}{a:Nat}:((ls.map tR).take a++[tR l])++(ls.map tR).drop (a+1)=((ls.take a++[l])++ls.drop (a+1)).map tR:=by
 rw[J0,J0,List.map_take,List.map_drop];rfl
theorem CC{α:Type}{T:List α}{x:α}{a:Nat}(ha:a<T.length):((T.take a++[x])++T.drop (a+1)).length=T.length:=by
 rw[A7,A7,F6,J7,B8];omega
theorem CW{α:Type}{T:List α}{x y:α}{a:Nat}(h:y∈(T.take a++[x])++T.drop (a+1)):y=x\/y∈T:=by
 rcases List.mem_append.mp h with h|h
 .rcases List.mem_append.mp h with h|h
  .exact .inr (U5 h)
  .exact .inl (List.mem_singleton.mp h)
 .exact .inr (A0m h)
theorem CB{ls:List (List Int)}{l:List Int}{a:Nat}(hl:ls.length<=33)(hw:∀l∈ls,l.length<=8)(ll:l.length<64)(ha:a<ls.length)(hf:f γ M=some (.d (.tuple (((ls.map tR).take a++[tR l])++(ls.map tR).drop (a+1))),M)):
 ∃d,aF cM (aA (aF mG (aA f aE)) aE) γ M=some (.d d,M)/\Tm 2 d:=by
 rw[VL]at hf;obtain⟨vs,pm,es⟩:=WM (ls:=(ls.take a++[l])++ls.drop (a+1)) (M:=M) (by rw[CC ha];omega);refine⟨.tuple (vs.map tR),aO (aH (aO (aH hf aN) es) aN) rfl,aAX (by rw[pm.length_eq,CC ha];omega) fun x hx=>?_⟩;rcases CW (pm.mem_iff.mp hx)with rfl|h
 .exact ll
 .have:=hw x h;omega
theorem EG{ls:List (List Int)}(h1:1<=n)(hl:ls.length<=33)(hw:∀l∈ls,l.length<=8):∃d L,eJ [.d (.tuple (ls.map tR)),I z,I n] M=some (.d d,M++L)/\Tm 3 d:=by
 have lt:aF bW (aA (aB 0) aE) [some (.d (.tuple (ls.map tR))),some (I z),some (I n),some (I (z % 7)),none,none,none,none] M=some (I ls.length,M):=by
  have:=fQ (r:=.tuple (ls.map tR)) (ds:=ls.map tR) rfl M;rw[A0]at this;exact aO (aH rfl aN) this
 obtain⟨mx,em,m0,mk⟩:=JI lt;obtain⟨a,ha⟩:∃a:Nat,z / 7 % mx=(a:Int):=⟨(z / 7 % mx).toNat,by have:=U2 (z / 7) (show mx≠0 by omega);omega⟩;have ha2:(a:Int)<mx:=by rw[<- ha];exact O8 _ m0
 have s3:bG (fOp cH (aB 1) (fC (.int 7))) (hName 3) [some (.d (.tuple (ls.map tR))),some (I z),some (I n),none,none,none,none,none] M=some (.nx [some (.d (.tuple (ls.map tR))),some (I z),some (I n),some (I (z % 7)),none,none,none,none],M):=bR (i:=3) (iK rfl (by decide))
 have s4:bG (fOp cH (fOp eW (aB 1) (fC (.int 7))) (aF oI (aA (fC (.int 1)) (aA (aF bW (aA (aB 0) aE)) aE)))) (hName 4) [some (.d (.tuple (ls.map tR))),some (I z),some (I n),some (I (z % 7)),none,none,none,none] M=some (.nx [some (.d (.tuple (ls.map tR))),some (I z),some (I n),some (I (z % 7)),some (I a),none,none,none],M):=by
  have:=bR (i:=4) (AG (qM (f:=aB 1) (z:=z) (b:=7) rfl (by decide) (by decide)) em m0);rw[ha]at this;exact this
 have s5:bG (fOp eW (aB 1) (fC (.int 64))) (hName 5) [some (.d (.tuple (ls.map tR))),some (I z),some (I n),some (I (z % 7)),some (I a),none,none,none] M=some (.nx [some (.d (.tuple (ls.map tR))),some (I z),some (I n),some (I (z % 7)),some (I a),some (I (z / 64)),none,none],M):=bR (i:=5) (qM rfl (by decide) (by decide));obtain⟨od,L,eo,ot⟩:=WY (z:=z / 64) (M:=M);have eo5:∀{γ:Ga},γ[5]?=some (some (I (z / 64)))->aF bZ (aA (aB 5) aE) γ M=some (.d od,M++L):=fun{γ} h=>aO (aH (hG h) aN) eo;have fin:∀{d:PyData}{L:Sto},eM [some (.d (.tuple (ls.map tR))),some (I z),some (I n),none,none,none,none,none] M=some (.rt (.d d),M++L)->Tm 3 d->∃d L,eJ [.d (.tuple (ls.map tR)),I z,I n] M=some (.d d,M++L)/\Tm 3 d:=fun{d L} h t=>⟨d,L,eG rfl h,t⟩
 have t1:gOr (gB (fOp (eqX false) (aB 3) (fC (.int 0)))) (gB (fOp (eqX false) (aB 0) (bK aE))) [some (.d (.tuple (ls.map tR))),some (I z),some (I n),some (I (z % 7)),some (I a),some (I (z / 64)),none,none] M=some ((z % 7==0) || (ls.map tR).isEmpty,M):=by
  have g1:gB (fOp (eqX false) (aB 3) (fC (.int 0))) [some (.d (.tuple (ls.map tR))),some (I z),some (I n),some (I (z % 7)),some (I a),some (I (z / 64)),none,none] M=some (z % 7==0,M):=bV (aU rfl rfl xI);cases q:(z % 7==0)with
  |true=>rw[q]at g1;exact AD g1
  |false=>
   rw[q]at g1;rw[pZ g1];exact bV (aU rfl (show bK aE _ M=some (.d (.tuple []),M)from rfl) (LN (NT ls)))
 cases q:((z % 7==0) || (ls.map tR).isEmpty)with
 |true=>
  rw[q]at t1;refine fin (d:=od) (L:=L) ?_ ot.up;unfold eM;rw[aR s3,aR s4,aR s5];exact jP (by rw[iC t1];exact cP (eo5 rfl))
 |false=>
  rw[q]at t1;rw[A0l]at q
  have ne:0<ls.length:=by
   cases ls with
   |nil=>simp at q
   |cons _ _=>simp
  have ma:=mk ne;have al:a<ls.length:=by omega
  have alT:a<(ls.map tR).length:=by rw[A0];exact al
  have lT33:(ls.map tR).length<=33:=by rw[A0];exact hl
  have mT:∀x∈ls.map tR,Tm 1 x:=fun x hx=>by
   obtain⟨l,h,rfl⟩:=List.mem_map.mp hx;exact pP (by have:=hw l h;omega)
  suffices H:∃d L,aW (sIf (gB (fOp (eqX false) (aB 3) (fC (.int 1)))) (bT (fOp bO (fSl (aB 0) aV (aY (aB 4))) (fSl (aB 0) (aY (fOp bO (aB 4) (fC (.int 1)))) aV))) bH) (aW (sIf (gB (fOp (eqX false) (aB 3) (fC (.int 2)))) (bT (fOp bO (aB 0) (fSl (aB 0) (aY (aB 4)) (aY (fOp bO (aB 4) (fC (.int 1))))))) bH) (aW (sIf (gB (fOp (eqX false) (aB 3) (fC (.int 3)))) (bT (QF (aB 0) (aY (fUn kS (fC (.int 1)))))) bH) (aW (sIf (gB (fOp (eqX false) (aB 3) (fC (.int 4)))) (bT (fOp bO (fOp bO (fSl (aB 0) aV (aY (aB 4))) (bK (aA (aF bZ (aA (aB 5) aE)) aE))) (fSl (aB 0) (aY (fOp bO (aB 4) (fC (.int 1)))) aV))) bH) (aW (bG (fOp ixF (aB 0) (aB 4)) (hName 6)) (aW (sIf (gB (fOp (eqX false) (aB 3) (fC (.int 5)))) (bT (aF cM (aA (aF mG (aA (fOp bO (fOp bO (fSl (aB 0) aV (aY (aB 4))) (bK (aA (fSl (aB 6) aV (aY (fUn kS (fC (.int 1))))) aE))) (fSl (aB 0) (aY (fOp bO (aB 4) (fC (.int 1)))) aV)) aE)) aE))) bH) (aW (bG (aF cM (aA (aF jN (aA (fOp bO (aB 6) (bK (aA (fOp cH (aB 5) (fOp bO (aB 2) (fC (.int 1)))) aE))) aE)) aE)) (hName 7)) (bT (aF cM (aA (aF mG (aA (fOp bO (fOp bO (fSl (aB 0) aV (aY (aB 4))) (bK (aA (aB 7) aE))) (fSl (aB 0) (aY (fOp bO (aB 4) (fC (.int 1)))) aV)) aE)) aE))))))))) [some (.d (.tuple (ls.map tR))),some (I z),some (I n),some (I (z % 7)),some (I a),some (I (z / 64)),none,none] M=some (.rt (.d d),M++L)/\Tm 3 d by
   obtain⟨d,L,e,t⟩:=H;refine fin (L:=L) ?_ t;unfold eM;rw[aR s3,aR s4,aR s5,aR (show sIf _ _ _ _ _=some (.nx [some (.d (.tuple (ls.map tR))),some (I z),some (I n),some (I (z % 7)),some (I a),some (I (z / 64)),none,none],M)from by rw[fY t1];rfl)];exact e
  by_cases w1:z % 7=1
  .refine⟨.tuple ((ls.map tR).take a++(ls.map tR).drop (a+1)),[],?_,(hV (by rw[A7,F6,J7];omega) fun x hx=>?_:Tm 2 _).up⟩
   .rw[E7];refine nE rfl w1 (cP (aU (nD rfl rfl rfl (show slF _ none (some (a:Int)) M=some (.d (.tuple ((ls.map tR).take a)),M)from ?_)) (nD rfl (show aY (fOp bO (aB 4) (fC (.int 1))) _ M=some (some ((a+1:Nat):Int),M)from rfl) rfl (show slF _ (some ((a+1:Nat):Int)) none M=some (.d (.tuple ((ls.map tR).drop (a+1))),M)from ?_)) (mP ?_)))
    .rw[sl_tup,oF _ _ (by omega)]
    .rw[sl_tup,qG _ _ (by omega)]
    .rw[F6,J7];omega
   .rcases List.mem_append.mp hx with hx|hx
    .exact mT x (U5 hx)
    .exact mT x (A0m hx)
  rw[fL rfl w1];by_cases w2:z % 7=2
  .obtain⟨U,eU,lU,mU⟩:=HK (T:=ls.map tR) (γ:=[some (.d (.tuple (ls.map tR))),some (I z),some (I n),some (I (z % 7)),some (I a),some (I (z / 64)),none,none]) (M:=M) (i:=0) (j:=4) (a:=a) rfl rfl (by omega) alT;refine⟨.tuple U,[],?_,(hV (by omega) fun x hx=>mT x (mU x hx):Tm 2 _).up⟩;rw[E7];exact nE rfl w2 (cP eU)
  rw[fL rfl w2];by_cases w3:z % 7=3
  .refine⟨.tuple (ls.map tR).reverse,[],?_,(hV (by rw[S0];omega) fun x hx=>mT x (List.mem_reverse.mp hx):Tm 2 _).up⟩;rw[E7];exact nE rfl w3 (cP rfl)
  rw[fL rfl w3];by_cases w4:z % 7=4
  .refine⟨_,L,nE rfl w4 (cP (uY (T:=ls.map tR) (i:=0) (j:=4) (a:=a) rfl rfl (eo5 rfl) (by omega) alT)),hV (by rw[zQ alT];omega) fun x hx=>?_⟩;rcases zE hx with rfl|h
   .exact ot
   .exact(mT x h).up
  rw[fL rfl w4,aR (show bG (fOp ixF (aB 0) (aB 4)) (hName 6) [some (.d (.tuple (ls.map tR))),some (I z),some (I n),some (I (z % 7)),some (I a),some (I (z / 64)),none,none] M=some (.nx [some (.d (.tuple (ls.map tR))),some (I z),some (I n),some (I (z % 7)),some (I a),some (I (z / 64)),some (lT (la ls a)),none],M)from bR (i:=6) (aU rfl rfl (iE (ds:=ls.map tR) rfl (aBu al))))];have lla:=hw _ (fG al);by_cases w5:z % 7=5
  .have sl:fSl (aB 6) aV (aY (fUn kS (fC (.int 1)))) [some (.d (.tuple (ls.map tR))),some (I z),some (I n),some (I (z % 7)),some (I a),some (I (z / 64)),some (lT (la ls a)),none] M=some (.d (tR (gN (la ls a) none (some (-1)))),M):=by
    refine nD rfl rfl (show aY (fUn kS (fC (.int 1))) _ M=some (some (-1),M)from rfl) ?_;rw[sl_tup,vJ]
   obtain⟨d,ed,td⟩:=CB (l:=gN (la ls a) none (some (-1))) hl hw (by have:=MR (la ls a) none (some (-1));omega) al (uY (T:=ls.map tR) (i:=0) (j:=4) (a:=a) rfl rfl sl (by omega) alT);refine⟨d,[],?_,td.up⟩;rw[E7];exact nE rfl w5 (cP ed)
  rw[fL rfl w5];have md:fOp cH (aB 5) (fOp bO (aB 2) (fC (.int 1))) [some (.d (.tuple (ls.map tR))),some (I z),some (I n),some (I (z % 7)),some (I a),some (I (z / 64)),some (lT (la ls a)),none] M=some (I (z / 64 % (n+1)),M):=AG rfl (aU rfl rfl yI) (by omega)
  have ad:fOp bO (aB 6) (bK (aA (fOp cH (aB 5) (fOp bO (aB 2) (fC (.int 1)))) aE)) [some (.d (.tuple (ls.map tR))),some (I z),some (I n),some (I (z % 7)),some (I a),some (I (z / 64)),some (lT (la ls a)),none] M=some (.d (tR (la ls a++[z / 64 % (n+1)])),M):=by
   rw[aU rfl (VX md) (mP (xs:=rI (la ls a)) (by rw[A0,B8];omega))];refine D4 (fun x=>some (CD.d (.tuple x),M)) ?_;show _=List.map PyData.int (la ls a++[z / 64 % (n+1)]);rw[J0];rfl
  have so:=yA (d:=tR (la ls a++[z / 64 % (n+1)])) (ns:=la ls a++[z / 64 % (n+1)]) (M:=M) rfl (by rw[A7,B8];omega);have s7:bG (aF cM (aA (aF jN (aA (fOp bO (aB 6) (bK (aA (fOp cH (aB 5) (fOp bO (aB 2) (fC (.int 1)))) aE))) aE)) aE)) (hName 7) [some (.d (.tuple (ls.map tR))),some (I z),some (I n),some (I (z % 7)),some (I a),some (I (z / 64)),some (lT (la ls a)),none] M=some (.nx [some (.d (.tuple (ls.map tR))),some (I z),some (I n),some (I (z % 7)),some (I a),some (I (z / 64)),some (lT (la ls a)),some (lT (dW (la ls a++[z / 64 % (n+1)])))],M):=bR (i:=7) (aO (aH (aO (aH ad aN) so) aN) rfl);rw[aR s7];obtain⟨d,ed,td⟩:=CB (l:=dW (la ls a++[z / 64 % (n+1)])) hl hw (by rw[(eQ _).length_eq,A7,B8];omega) al (uY (T:=ls.map tR) (γ:=[some (.d (.tuple (ls.map tR))),some (I z),some (I n),some (I (z % 7)),some (I a),some (I (z / 64)),some (lT (la ls a)),some (lT (dW (la ls a++[z / 64 % (n+1)])))]) (M:=M) (f:=aB 7) (i:=0) (j:=4) (a:=a) rfl rfl rfl (by omega) alT);refine⟨d,[],?_,td.up⟩;rw[E7];exact cP ed
theorem NQ(rs:List (Int×List Int)):SeqAt.shaped (.tuple (rs.map rgD))=true:=by
 have h:∀rs:List (Int×List Int),PyData.canLayAll0 (rs.map rgD)=true/\PyData.depthAll (rs.map rgD)<=2:=fun rs=>by
  induction rs with
  |nil=>exact⟨rfl,F9 _⟩
  |cons r rs ih=>
   have d:=vD r.2;constructor
   .show((true&&(PyData.canLay0 (tR r.2)&&true))&&PyData.canLayAll0 (rs.map rgD))=true;rw[d.1,ih.1];rfl
   .show max (max 0 (max (PyData.depth (tR r.2)) 0)+1) (PyData.depthAll (rs.map rgD))<=2;rw[d.2];have:=ih.2;omega
 obtain⟨h1,h2⟩:=h rs;unfold SeqAt.shaped;have e1:PyData.canLay0 (.tuple (rs.map rgD))=true:=h1;have e2:PyData.depth (.tuple (rs.map rgD))=PyData.depthAll (rs.map rgD)+1:=rfl;rw[e1,e2,C5 (by omega)];rfl
theorem gR{x y:PyData}(hx:Tm m x)(hy:Tm m y):Tm (m+1) (.tuple [x,y]):=hV (show 2<64 by decide) fun z hz=>by
 simp only[List.mem_cons,List.not_mem_nil,or_false]at hz;rcases hz with rfl|rfl
 .exact hx
 .exact hy
theorem NL{M1:Sto}{k m:Int}(hf:f γ M=some (.d (.list ds),M1))(hg:g γ M1=some (I (k % m),M1))(hm:0<m)(hl:(ds.length:Int)=m):∃d,d∈ds/\fOp ixF f g γ M=some (.d d,M1):=by
 obtain⟨d,h1,h2⟩:=yF (ds:=ds) (k:=k) hm hl;exact⟨d,h2,aU hf hg (iE (d:=.list ds) rfl h1)⟩
theorem DU{ls:List (List Int)}{rs:List (Int×List Int)}(hl:rs.length<=33)(hk:∀r∈rs,RgP ls r.1 r.2)(h33:ls.length<=33):∃d L,eE [.d (.tuple (rs.map rgD)),I z,.d (.tuple (ls.map tR))] M=some (.d d,M++L)/\Tm 4 d:=by
 have lt:aF bW (aA (aB 0) aE) [some (.d (.tuple (rs.map rgD))),some (I z),some (.d (.tuple (ls.map tR))),some (I (z % 7)),none,none,none,none,none,none,none] M=some (I rs.length,M):=by
  have:=fQ (r:=.tuple (rs.map rgD)) (ds:=rs.map rgD) rfl M;rw[A0]at this;exact aO (aH rfl aN) this
 have ll:∀{γ:Ga}{M:Sto},γ[2]?=some (some (.d (.tuple (ls.map tR))))->aF bW (aA (aB 2) aE) γ M=some (I ls.length,M):=fun{γ M} h=>by
  have:=fQ (r:=.tuple (ls.map tR)) (ds:=ls.map tR) rfl M;rw[A0]at this;exact aO (aH (hG h) aN) this
 obtain⟨mx,em,m0,mk⟩:=JI lt;obtain⟨a,ha⟩:∃a:Nat,z / 7 % mx=(a:Int):=⟨(z / 7 % mx).toNat,by have:=U2 (z / 7) (show mx≠0 by omega);omega⟩;have ha2:(a:Int)<mx:=by rw[<- ha];exact O8 _ m0
 have s3:bG (fOp cH (aB 1) (fC (.int 7))) (hName 3) [some (.d (.tuple (rs.map rgD))),some (I z),some (.d (.tuple (ls.map tR))),none,none,none,none,none,none,none,none] M=some (.nx [some (.d (.tuple (rs.map rgD))),some (I z),some (.d (.tuple (ls.map tR))),some (I (z % 7)),none,none,none,none,none,none,none],M):=bR (i:=3) (iK rfl (by decide))
 have s4:bG (fOp cH (fOp eW (aB 1) (fC (.int 7))) (aF oI (aA (fC (.int 1)) (aA (aF bW (aA (aB 0) aE)) aE)))) (hName 4) [some (.d (.tuple (rs.map rgD))),some (I z),some (.d (.tuple (ls.map tR))),some (I (z % 7)),none,none,none,none,none,none,none] M=some (.nx [some (.d (.tuple (rs.map rgD))),some (I z),some (.d (.tuple (ls.map tR))),some (I (z % 7)),some (I a),none,none,none,none,none,none],M):=by
  have:=bR (i:=4) (AG (qM (f:=aB 1) (z:=z) (b:=7) rfl (by decide) (by decide)) em m0);rw[ha]at this;exact this
 have s5:bG (fOp eW (aB 1) (fC (.int 64))) (hName 5) [some (.d (.tuple (rs.map rgD))),some (I z),some (.d (.tuple (ls.map tR))),some (I (z % 7)),some (I a),none,none,none,none,none,none] M=some (.nx [some (.d (.tuple (rs.map rgD))),some (I z),some (.d (.tuple (ls.map tR))),some (I (z % 7)),some (I a),some (I (z / 64)),none,none,none,none,none],M):=bR (i:=5) (qM rfl (by decide) (by decide))
 have odd:∀{γ:Ga}{M:Sto},γ[5]?=some (some (I (z / 64)))->∃od L,aF bZ (aA (aB 5) aE) γ M=some (.d od,M++L)/\Tm 2 od:=fun{γ M} h=>by
  obtain⟨od,L,eo,ot⟩:=WY (z:=z / 64) (M:=M);exact⟨od,L,aO (aH (hG h) aN) eo,ot⟩
 have fin:∀{d:PyData}{L:Sto},gF [some (.d (.tuple (rs.map rgD))),some (I z),some (.d (.tuple (ls.map tR))),none,none,none,none,none,none,none,none] M=some (.rt (.d d),M++L)->Tm 4 d->∃d L,eE [.d (.tuple (rs.map rgD)),I z,.d (.tuple (ls.map tR))] M=some (.d d,M++L)/\Tm 4 d:=fun{d L} h t=>⟨d,L,eG rfl h,t⟩
 have lr:∀r∈rs,r.2.length<=33:=fun r hr=>by
  have g:=hk r hr;have:=(eQ r.2).length_eq;rw[g.so,A0]at this;have:=yE ls r.1.toNat;omega
 have mT:∀x∈rs.map rgD,Tm 2 x:=fun x hx=>by
  obtain⟨r,h,rfl⟩:=List.mem_map.mp hx;exact gR (qV 1 _) (pP (by have:=lr r h;omega))
 have lT33:(rs.map rgD).length<=33:=by rw[A0];exact hl
 have t1:gOr (gB (fOp (eqX false) (aB 3) (fC (.int 0)))) (gB (fOp (eqX false) (aB 0) (bK aE))) [some (.d (.tuple (rs.map rgD))),some (I z),some (.d (.tuple (ls.map tR))),some (I (z % 7)),some (I a),some (I (z / 64)),none,none,none,none,none] M=some ((z % 7==0) || (rs.map rgD).isEmpty,M):=by
  have g1:gB (fOp (eqX false) (aB 3) (fC (.int 0))) [some (.d (.tuple (rs.map rgD))),some (I z),some (.d (.tuple (ls.map tR))),some (I (z % 7)),some (I a),some (I (z / 64)),none,none,none,none,none] M=some (z % 7==0,M):=bV (aU rfl rfl xI);cases q:(z % 7==0)with
  |true=>rw[q]at g1;exact AD g1
  |false=>
   rw[q]at g1;rw[pZ g1];exact bV (aU rfl (show bK aE _ M=some (.d (.tuple []),M)from rfl) (LN (NQ rs)))
 cases q:((z % 7==0) || (rs.map rgD).isEmpty)with
 |true=>
  rw[q]at t1;obtain⟨m2,em2,m20,_⟩:=JI (ll (γ:=[some (.d (.tuple (rs.map rgD))),some (I z),some (.d (.tuple (ls.map tR))),some (I (z % 7)),some (I a),some (I (z / 64)),none,none,none,none,none]) (M:=M) rfl);have t6:bK (aA (fOp cH (aB 5) (aF oI (aA (fC (.int 1)) (aA (aF bW (aA (aB 2) aE)) aE)))) (aA eZ aE)) [some (.d (.tuple (rs.map rgD))),some (I z),some (.d (.tuple (ls.map tR))),some (I (z % 7)),some (I a),some (I (z / 64)),none,none,none,none,none] M=some (.d (rgD (z / 64 % m2,[0,1,2])),M):=AO (AG rfl em2 m20) rfl;have s6:bG (bK (aA (fOp cH (aB 5) (aF oI (aA (fC (.int 1)) (aA (aF bW (aA (aB 2) aE)) aE)))) (aA eZ aE))) (hName 6) [some (.d (.tuple (rs.map rgD))),some (I z),some (.d (.tuple (ls.map tR))),some (I (z % 7)),some (I a),some (I (z / 64)),none,none,none,none,none] M=some (.nx [some (.d (.tuple (rs.map rgD))),some (I z),some (.d (.tuple (ls.map tR))),some (I (z % 7)),some (I a),some (I (z / 64)),some (.d (rgD (z / 64 % m2,[0,1,2]))),none,none,none,none],M):=bR (i:=6) t6;obtain⟨od,L,eo,ot⟩:=odd (γ:=[some (.d (.tuple (rs.map rgD))),some (I z),some (.d (.tuple (ls.map tR))),some (I (z % 7)),some (I a),some (I (z / 64)),some (.d (rgD (z / 64 % m2,[0,1,2]))),none,none,none,none]) (M:=M) rfl;have ad:fOp bO (aB 0) (bK (aA (aB 6) aE)) [some (.d (.tuple (rs.map rgD))),some (I z),some (.d (.tuple (ls.map tR))),some (I (z % 7)),some (I a),some (I (z / 64)),some (.d (rgD (z / 64 % m2,[0,1,2]))),none,none,none,none] (M++L)=some (.d (.tuple (rs.map rgD++[rgD (z / 64 % m2,[0,1,2])])),M++L):=aU rfl (VX rfl) (mP (by rw[B8];omega))
  have lst:eX (aA (aF bZ (aA (aB 5) aE)) (aA (fOp bO (aB 0) (bK (aA (aB 6) aE))) aE)) [some (.d (.tuple (rs.map rgD))),some (I z),some (.d (.tuple (ls.map tR))),some (I (z % 7)),some (I a),some (I (z / 64)),some (.d (rgD (z / 64 % m2,[0,1,2]))),none,none,none,none] M=some (.d (.list [od,.tuple (rs.map rgD++[rgD (z / 64 % m2,[0,1,2])])]),M++L):=by
   unfold eX;rw[aH eo (aH ad aN),A3];show(if 2<=sizeLine then some (CD.d (.list [od,.tuple (rs.map rgD++[rgD (z / 64 % m2,[0,1,2])])]),M++L)else none)=_;rw[A4 (sz (by decide))]
  obtain⟨d,hd,ed⟩:=NL lst (iK (qM (f:=aB 1) (z:=z) rfl (show(0:Int)<7 by decide) (by decide)) (show(0:Int)<2 by decide)) (by decide) rfl;refine fin (d:=d) (L:=L) ?_ ?_
  .unfold gF;rw[aR s3,aR s4,aR s5];exact jP (by rw[iC t1,aR s6];exact cP ed)
  .simp only[List.mem_cons,List.not_mem_nil,or_false]at hd;rcases hd with rfl|rfl
   .exact ot.upTo (by decide)
   .refine(hV (by rw[A7,B8];omega) fun x hx=>?_:Tm 3 _).up;rcases List.mem_append.mp hx with hx|hx
    .exact mT x hx
    .rw[List.mem_singleton.mp hx];exact gR (qV 1 _) (pP (show 3<64 by decide))
 |false=>
  rw[q]at t1;rw[A0l]at q
  have ne:0<rs.length:=by
   cases rs with
   |nil=>simp at q
   |cons _ _=>simp
  have ma:=mk ne;have al:a<rs.length:=by omega
  have alT:a<(rs.map rgD).length:=by rw[A0];exact al
  obtain⟨k,os,hm,er⟩:∃k os,(k,os)∈rs/\rs[a]?=some (k,os):=⟨rs[a].1,rs[a].2,S9 al,A8 al⟩;have g:=hk _ hm;have lo:=lr _ hm;have th:=g.three;have pos:0<ls.length:=by have:=g.k0;dsimp only at this;omega
  dsimp only at lo th
  have s7:bG (fOp ixF (aB 0) (aB 4)) (pA 2 (cT (hName 7) (cT (hName 8) nG))) [some (.d (.tuple (rs.map rgD))),some (I z),some (.d (.tuple (ls.map tR))),some (I (z % 7)),some (I a),some (I (z / 64)),none,none,none,none,none] M=some (.nx [some (.d (.tuple (rs.map rgD))),some (I z),some (.d (.tuple (ls.map tR))),some (I (z % 7)),some (I a),some (I (z / 64)),none,some (I k),some (lT os),none,none],M):=by
   have ix:fOp ixF (aB 0) (aB 4) [some (.d (.tuple (rs.map rgD))),some (I z),some (.d (.tuple (ls.map tR))),some (I (z % 7)),some (I a),some (I (z / 64)),none,none,none,none,none] M=some (.d (rgD (k,os)),M):=aU rfl rfl (iE (ds:=rs.map rgD) rfl (jC (by rw[C4,er];rfl)));unfold bG;rw[ix,A3];rfl
  have swp:∀{x:PyData}{L:Sto}{f:EF}{g9 g10:Option CD},f [some (.d (.tuple (rs.map rgD))),some (I z),some (.d (.tuple (ls.map tR))),some (I (z % 7)),some (I a),some (I (z / 64)),none,some (I k),some (lT os),g9,g10] M=some (.d x,M++L)->Tm 3 x->∃d,fOp bO (fOp bO (fSl (aB 0) aV (aY (aB 4))) (bK (aA f aE))) (fSl (aB 0) (aY (fOp bO (aB 4) (fC (.int 1)))) aV) [some (.d (.tuple (rs.map rgD))),some (I z),some (.d (.tuple (ls.map tR))),some (I (z % 7)),some (I a),some (I (z / 64)),none,some (I k),some (lT os),g9,g10] M=some (.d d,M++L)/\Tm 4 d:=fun{x L f g9 g10} h t=>by
   refine⟨_,uY (T:=rs.map rgD) (i:=0) (j:=4) (a:=a) rfl rfl h (by omega) alT,hV (by rw[zQ alT];omega) fun y hy=>?_⟩;rcases zE hy with rfl|hy
   .exact t
   .exact(mT y hy).up
  have t0:∀{γ:Ga}{f:EF}{x:PyData},f γ M=some (.d x,M)->f γ M=some (.d x,M++[]):=fun h=>by rw[E7];exact h
  have mdl:∀{g9 g10:Option CD},fOp cH (aB 5) (aF bW (aA (aB 2) aE)) [some (.d (.tuple (rs.map rgD))),some (I z),some (.d (.tuple (ls.map tR))),some (I (z % 7)),some (I a),some (I (z / 64)),none,some (I k),some (lT os),g9,g10] M=some (I (z / 64 % (ls.length:Int)),M):=AG rfl (ll rfl) (by omega)
  have hd:∀{r:SF}{d:PyData}{L:Sto},r [some (.d (.tuple (rs.map rgD))),some (I z),some (.d (.tuple (ls.map tR))),some (I (z % 7)),some (I a),some (I (z / 64)),none,some (I k),some (lT os),none,none] M=some (.rt (.d d),M++L)->aW (bG (fOp cH (aB 1) (fC (.int 7))) (hName 3)) (aW (bG (fOp cH (fOp eW (aB 1) (fC (.int 7))) (aF oI (aA (fC (.int 1)) (aA (aF bW (aA (aB 0) aE)) aE)))) (hName 4)) (aW (bG (fOp eW (aB 1) (fC (.int 64))) (hName 5)) (aW (sIf (gOr (gB (fOp (eqX false) (aB 3) (fC (.int 0)))) (gB (fOp (eqX false) (aB 0) (bK aE)))) (aW (bG (bK (aA (fOp cH (aB 5) (aF oI (aA (fC (.int 1)) (aA (aF bW (aA (aB 2) aE)) aE)))) (aA eZ aE))) (hName 6)) (bT (fOp ixF (eX (aA (aF bZ (aA (aB 5) aE)) (aA (fOp bO (aB 0) (bK (aA (aB 6) aE))) aE))) (fOp cH (fOp eW (aB 1) (fC (.int 7))) (fC (.int 2)))))) bH) (aW (bG (fOp ixF (aB 0) (aB 4)) (pA 2 (cT (hName 7) (cT (hName 8) nG)))) r)))) [some (.d (.tuple (rs.map rgD))),some (I z),some (.d (.tuple (ls.map tR))),none,none,none,none,none,none,none,none] M=some (.rt (.d d),M++L):=fun{r d L} h=>by
   rw[aR s3,aR s4,aR s5,aR (show sIf _ _ _ _ _=some (.nx [some (.d (.tuple (rs.map rgD))),some (I z),some (.d (.tuple (ls.map tR))),some (I (z % 7)),some (I a),some (I (z / 64)),none,none,none,none,none],M)from by rw[fY t1];rfl),aR s7];exact h
  by_cases w1:z % 7=1
  .obtain⟨U,eU,lU,mU⟩:=HK (T:=rs.map rgD) (γ:=[some (.d (.tuple (rs.map rgD))),some (I z),some (.d (.tuple (ls.map tR))),some (I (z % 7)),some (I a),some (I (z / 64)),none,some (I k),some (lT os),none,none]) (M:=M) (i:=0) (j:=4) (a:=a) rfl rfl (by omega) alT;exact fin (hd (nE rfl w1 (cP (t0 eU)))) (hV (by omega) fun x hx=>mT x (mU x hx):Tm 3 _).up
  by_cases w2:z % 7=2
  .obtain⟨d,ed,td⟩:=swp (g9:=none) (g10:=none) (t0 (AO mdl (show aB 8 _ M=some (lT os,M)from rfl))) (gR (qV 2 _) (pP (by omega)).up);exact fin (hd ((fL rfl w1).trans (nE rfl w2 (cP ed)))) td
  by_cases w3:z % 7=3
  .have rv:QF (aB 8) (aY (fUn kS (fC (.int 1)))) [some (.d (.tuple (rs.map rgD))),some (I z),some (.d (.tuple (ls.map tR))),some (I (z % 7)),some (I a),some (I (z / 64)),none,some (I k),some (lT os),none,none] M=some (lT os.reverse,M):=by
    show some (CD.d (.tuple (rI os).reverse),M)=_;rw[<- List.map_reverse]
   obtain⟨d,ed,td⟩:=swp (g9:=none) (g10:=none) (t0 (AO (show aB 7 _ M=some (I k,M)from rfl) rv)) (gR (qV 2 _) (pP (by rw[S0];omega)).up);exact fin (hd ((fL rfl w1).trans ((fL rfl w2).trans (nE rfl w3 (cP ed))))) td
  by_cases w4:z % 7=4
  .have sl:fSl (aB 8) aV (aY (fUn kS (fC (.int 1)))) [some (.d (.tuple (rs.map rgD))),some (I z),some (.d (.tuple (ls.map tR))),some (I (z % 7)),some (I a),some (I (z / 64)),none,some (I k),some (lT os),none,none] M=some (lT (gN os none (some (-1))),M):=by
    refine nD rfl rfl (show aY (fUn kS (fC (.int 1))) _ M=some (some (-1),M)from rfl) ?_;rw[sl_tup,vJ]
   obtain⟨d,ed,td⟩:=swp (g9:=none) (g10:=none) (t0 (AO (show aB 7 _ M=some (I k,M)from rfl) sl)) (gR (qV 2 _) (pP (by have:=MR os none (some (-1));omega)).up);exact fin (hd ((fL rfl w1).trans ((fL rfl w2).trans ((fL rfl w3).trans (nE rfl w4 (cP ed)))))) td
  by_cases w5:z % 7=5
  .have b1:fSl (aB 8) aV (aY (fC (.int 1))) [some (.d (.tuple (rs.map rgD))),some (I z),some (.d (.tuple (ls.map tR))),some (I (z % 7)),some (I a),some (I (z / 64)),none,some (I k),some (lT os),none,none] M=some (.d (.tuple ((rI os).take 1)),M):=by
    refine nD rfl rfl (show aY (fC (.int 1)) _ M=some (some ((1:Nat):Int),M)from rfl) ?_;rw[sl_tup,oF _ _ (by rw[A0];omega)]
   have b2:fSl (aB 8) (aY (fC (.int 2))) aV [some (.d (.tuple (rs.map rgD))),some (I z),some (.d (.tuple (ls.map tR))),some (I (z % 7)),some (I a),some (I (z / 64)),none,some (I k),some (lT os),none,none] M=some (.d (.tuple ((rI os).drop 2)),M):=by
    refine nD rfl (show aY (fC (.int 2)) _ M=some (some ((2:Nat):Int),M)from rfl) rfl ?_;rw[sl_tup,qG _ _ (by rw[A0];omega)]
   have l8:(rI os).length=os.length:=A0 ..;have ad:=aU (aU b1 (VX mdl) (mP (by rw[F6,B8,l8];omega))) b2 (mP (M:=M) (by rw[A7,F6,B8,J7,l8];omega));have s9:bG (fOp bO (fOp bO (fSl (aB 8) aV (aY (fC (.int 1)))) (bK (aA (fOp cH (aB 5) (aF bW (aA (aB 2) aE))) aE))) (fSl (aB 8) (aY (fC (.int 2))) aV)) (hName 9) [some (.d (.tuple (rs.map rgD))),some (I z),some (.d (.tuple (ls.map tR))),some (I (z % 7)),some (I a),some (I (z / 64)),none,some (I k),some (lT os),none,none] M=some (.nx [some (.d (.tuple (rs.map rgD))),some (I z),some (.d (.tuple (ls.map tR))),some (I (z % 7)),some (I a),some (I (z / 64)),none,some (I k),some (lT os),some (.d (.tuple (((rI os).take 1++[.int (z / 64 % (ls.length:Int))])++(rI os).drop 2))),none],M):=bR (i:=9) ad
   have tb:Tm 1 (.tuple (((rI os).take 1++[.int (z / 64 % (ls.length:Int))])++(rI os).drop 2)):=hV (by rw[A7,A7,F6,B8,J7,l8];omega) fun x hx=>by
    have it:∀x∈rI os,Tm 0 x:=fun x hx=>by
     obtain⟨i,_,rfl⟩:=List.mem_map.mp hx;rfl
    rcases CW (a:=1) hx with rfl|h
    .rfl
    .exact it x h
   obtain⟨d,ed,td⟩:=swp (f:=bK (aA (aB 7) (aA (aB 9) aE))) (g9:=some (.d (.tuple (((rI os).take 1++[.int (z / 64 % (ls.length:Int))])++(rI os).drop 2)))) (g10:=none) (t0 (AO rfl rfl)) (gR (qV 2 _) tb.up);exact fin (hd ((fL rfl w1).trans ((fL rfl w2).trans ((fL rfl w3).trans ((fL rfl w4).trans (nE rfl w5 (by rw[aR s9];exact cP ed))))))) td
  obtain⟨o1,L1,e1,t1'⟩:=odd (γ:=[some (.d (.tuple (rs.map rgD))),some (I z),some (.d (.tuple (ls.map tR))),some (I (z % 7)),some (I a),some (I (z / 64)),none,some (I k),some (lT os),none,none]) (M:=M) rfl;obtain⟨o2,L2,e2,t2'⟩:=odd (γ:=[some (.d (.tuple (rs.map rgD))),some (I z),some (.d (.tuple (ls.map tR))),some (I (z % 7)),some (I a),some (I (z / 64)),none,some (I k),some (lT os),none,none]) (M:=M++L1) rfl;obtain⟨o3,L3,e3,t3'⟩:=odd (γ:=[some (.d (.tuple (rs.map rgD))),some (I z),some (.d (.tuple (ls.map tR))),some (I (z % 7)),some (I a),some (I (z / 64)),none,some (I k),some (lT os),none,none]) (M:=M++L1++L2) rfl
  have lst:eX (aA (aF bZ (aA (aB 5) aE)) (aA (bK (aA (aB 7) (aA (aF bZ (aA (aB 5) aE)) aE))) (aA (bK (aA (aF bZ (aA (aB 5) aE)) (aA (aB 8) aE))) aE))) [some (.d (.tuple (rs.map rgD))),some (I z),some (.d (.tuple (ls.map tR))),some (I (z % 7)),some (I a),some (I (z / 64)),none,some (I k),some (lT os),none,none] M=some (.d (.list [o1,.tuple [.int k,o2],.tuple [o3,tR os]]),M++L1++L2++L3):=by
   unfold eX;rw[aH e1 (aH (AO rfl e2) (aH (AO e3 rfl) aN)),A3];show(if 3<=sizeLine then some (CD.d (.list [o1,.tuple [.int k,o2],.tuple [o3,tR os]]),M++L1++L2++L3)else none)=_;rw[A4 (sz (by decide))]
  obtain⟨x,hx,ex⟩:=NL lst (iK (qM (f:=aB 5) (z:=z / 64) rfl (show(0:Int)<17 by decide) (by decide)) (show(0:Int)<3 by decide)) (by decide) rfl
  have tx:Tm 3 x:=by
   simp only[List.mem_cons,List.not_mem_nil,or_false]at hx;rcases hx with rfl|rfl|rfl
   .exact t1'.up
   .exact gR (qV 2 _) t2'
   .exact gR t3' (pP (by omega)).up
  have s10:=bR (i:=10) ex;have sw:=uY (T:=rs.map rgD) (γ:=[some (.d (.tuple (rs.map rgD))),some (I z),some (.d (.tuple (ls.map tR))),some (I (z % 7)),some (I a),some (I (z / 64)),none,some (I k),some (lT os),none,some (.d x)]) (M:=M++L1++L2++L3) (f:=aB 10) (x:=x) (i:=0) (j:=4) (a:=a) rfl rfl rfl (by omega) alT;refine fin (L:=L1++L2++L3) (hd ((fL rfl w1).trans ((fL rfl w2).trans ((fL rfl w3).trans ((fL rfl w4).trans ((fL rfl w5).trans ?_)))))) (hV (ds:=((rs.map rgD).take a++[x])++(rs.map rgD).drop (a+1)) (m:=3) (by rw[zQ alT];omega) fun y hy=>?_)
  .rw[aR s10,<- F7,<- F7];exact cP sw
  .rcases zE hy with rfl|hy
   .exact tx
   .exact(mT y hy).up
noncomputable abbrev lkD(ls:List (List Int)):PyData:=.tuple (ls.map tR)
noncomputable abbrev rkD(rs:List (Int×List Int)):PyData:=.tuple (rs.map rgD)
theorem QJ(ls:List (List Int)):nU (lkD ls)=some ls:=by
 refine linksI_iff.mpr ⟨ls.map tR,rfl,?_⟩;rw[C8];exact Z5 fun l _=>rowI_iff.mpr rfl
theorem UU(rs:List (Int×List Int)):nH (rkD rs)=some rs:=by
 refine ringsI_iff.mpr ⟨rs.map rgD,rfl,?_⟩;rw[C8];exact Z5 fun r _=>ringI_iff.mpr ⟨tR r.2,rfl,rowI_iff.mpr rfl⟩
theorem Ch.chD{ls:List (List Int)}{rs:List (Int×List Int)}(h:Ch n ls rs):ChD n (.tuple [lkD ls,rkD rs]):=⟨lkD ls,rkD rs,ls,rs,rfl,QJ ls,h.ln,UU rs,h.rp⟩
structure Tms(ls:List (List Int))(rs:List (Int×List Int)):Prop where
 a:Tm 2 (lkD ls)
 b:Tm 3 (rkD rs)
theorem Ch.tms{ls:List (List Int)}{rs:List (Int×List Int)}(h:Ch n ls rs)(hn:n<=9):Tms ls rs:=by
 have l1:=h.l1;have l2:=h.l2;have hw:∀l∈ls,l.length<=8:=fun l hl=>DX (h.ln.lk l hl).up (h.ln.lk l hl).io hn;refine⟨aAX (by omega) fun l hl=>by have:=hw l hl;omega,hV (by rw[A0];omega) fun x hx=>?_⟩;obtain⟨r,hr,rfl⟩:=List.mem_map.mp hx;refine gR (qV 1 _) (pP ?_);have g:=h.rp.rg r hr;have:=(eQ r.2).length_eq;rw[g.so,A0]at this;have:=yE ls r.1.toNat;omega
noncomputable abbrev GW(s:CD)(c:Nat)(g2:Option CD)(n:Int)(ls:List (List Int))(rs:List (Int×List Int))(g6 g7:Option CD):Ga:=[some s,some (.c c),g2,some (I n),some (.d (lkD ls)),some (.d (rkD rs)),g6,g7]
theorem DC{M1:Sto}(h:fa γ M=some ([I n,.d d],M1))(h1:1<=n)(h9:n<=9)(t:Tm 5 d):∃L,sIf (cB (gB (aF dB fa))) (bT (fC (.bool false))) bH γ M=some (.nx γ,M1++L):=by
 obtain⟨L,e⟩:=LY (M:=M1) h1 h9 t;refine⟨L,?_⟩
 have g:cB (gB (aF dB fa)) γ M=some (false,M1++L):=by
  unfold cB;rw[bV (aO h e)];rfl
 rw[fY g];rfl
theorem PL{ls:List (List Int)}{rs:List (Int×List Int)}(h1:1<=n)(h9:n<=9)(C:Ch n ls rs)(dk:Dk M c (m+2)):∃M2,xS (GW s c g2 n ls rs g6 g7) M=some (.nx (GW s c g2 n ls rs g6 g7),M2)/\Dk M2 c m:=by
 have T:=C.tms h9;have hw:∀l∈ls,l.length<=8:=fun l hl=>DX (C.ln.lk l hl).up (C.ln.lk l hl).io h9;obtain⟨z1,M1,p1,dk1,_,_⟩:=dk.pop;obtain⟨d1,L1,b1,t1⟩:=EG (n:=n) (z:=z1) (M:=M1) h1 C.l1 hw;have po1:bM "list" fM (aB 1) aE (GW s c g2 n ls rs g6 g7) M=some (I z1,M1):=pop_at rfl dk.ty p1;obtain⟨X1,e1⟩:=DC (fa:=aA (aB 3) (aA (bK (aA (aF eJ (aA (aB 4) (aA (bM "list" fM (aB 1) aE) (aA (aB 3) aE)))) (aA (aB 5) aE))) aE)) (γ:=GW s c g2 n ls rs g6 g7) (M:=M) (aH rfl (aH (AO (aO (aH rfl (aH po1 (aH rfl aN))) b1) rfl) aN)) h1 h9 (gR (t1.upTo (by decide)) (T.b.upTo (by decide)));have dk2:Dk (M1++L1++X1) c (m+1):=dk1.app.app;obtain⟨z2,M2,p2,dk3,_,_⟩:=dk2.pop;obtain⟨d2,L2,b2,t2⟩:=DU (z:=z2) (M:=M2) C.l2 C.rp.rg C.l1;have po2:bM "list" fM (aB 1) aE (GW s c g2 n ls rs g6 g7) (M1++L1++X1)=some (I z2,M2):=pop_at rfl dk2.ty p2;obtain⟨X2,e2⟩:=DC (fa:=aA (aB 3) (aA (bK (aA (aB 4) (aA (aF eE (aA (aB 5) (aA (bM "list" fM (aB 1) aE) (aA (aB 4) aE)))) aE))) aE)) (γ:=GW s c g2 n ls rs g6 g7) (M:=M1++L1++X1) (aH rfl (aH (AO rfl (aO (aH rfl (aH po2 (aH rfl aN))) b2)) aN)) h1 h9 (gR (T.a.upTo (by decide)) t2);refine⟨M2++L2++X2,?_,dk3.app.app⟩;unfold xS;rw[aR e1];exact e2
theorem RT(dk:Dk M c (m+139)):∃h3 h4 h5 h6 h7 M2,yD [some s,some (.c c),g2,g3,g4,g5,g6,g7] M=some (.nx [some s,some (.c c),g2,h3,h4,h5,h6,h7],M2)/\Dk M2 c m:=by
 obtain⟨z,M1,p1,dk1,_,rz⟩:=dk.pop;have po:bM "list" fM (aB 1) aE [some s,some (.c c),g2,g3,g4,g5,g6,g7] M=some (I z,M1):=pop_at rfl dk.ty p1;have hm0:=U2 z (show(9:Int)≠0 by decide);have hm1:=O8 z (show(0:Int)<9 by decide);have s3:bG (fOp bO (fC (.int 1)) (fOp cH (bM "list" fM (aB 1) aE) (fC (.int 9)))) (hName 3) [some s,some (.c c),g2,g3,g4,g5,g6,g7] M=some (.nx [some s,some (.c c),g2,some (I (1+z % 9)),g4,g5,g6,g7],M1):=bR (i:=3) (aU rfl (iK po (by decide)) yI);generalize 1+z % 9=n at s3;obtain⟨n,h1,h9,s3⟩:∃n:Int,1<=n/\n<=9/\bG (fOp bO (fC (.int 1)) (fOp cH (bM "list" fM (aB 1) aE) (fC (.int 9)))) (hName 3) [some s,some (.c c),g2,g3,g4,g5,g6,g7] M=some (.nx [some s,some (.c c),g2,some (I n),g4,g5,g6,g7],M1):=⟨1+z % 9,by omega,by omega,bR (i:=3) (aU rfl (iK po (by decide)) yI)⟩;obtain⟨ls,rs,M2,ec,dk2,C⟩:=aAo (m:=m+8) h1 h9 (by rw[show m+8+130=m+138 by omega];exact dk1);have T:=C.tms h9
 have s4:bG (aF lH (aA (aB 1) (aA (aB 3) aE))) (pA 2 (cT (hName 4) (cT (hName 5) nG))) [some s,some (.c c),g2,some (I n),g4,g5,g6,g7] M1=some (.nx (GW s c g2 n ls rs g6 g7),M2):=by
  unfold bG;rw[aO (aH rfl (aH rfl aN)) ec,A3];rfl
 have pr:∀{g6 g7:Option CD}{M:Sto},aA (aB 3) (aA (bK (aA (aB 4) (aA (aB 5) aE))) aE) (GW s c g2 n ls rs g6 g7) M=some ([I n,.d (.tuple [lkD ls,rkD rs])],M):=aH rfl (aH (AO rfl rfl) aN);have tp:Tm 5 (.tuple [lkD ls,rkD rs]):=(gR T.a.up T.b).up;obtain⟨L3,e3⟩:=qZ (n:=n) (d:=.tuple [lkD ls,rkD rs]) (M:=M2) (by omega) (tp.wi 4);rw[kT C.chD]at e3;obtain⟨L4,e4⟩:=LY (n:=n) (d:=.tuple [lkD ls,rkD rs]) (M:=M2++L3) h1 h9 tp
 have s5:sIf (gOr (cB (gB (aF dG (aA (aB 3) (aA (bK (aA (aB 4) (aA (aB 5) aE))) aE))))) (cB (gB (aF dB (aA (aB 3) (aA (bK (aA (aB 4) (aA (aB 5) aE))) aE)))))) (bT (fC (.bool false))) bH (GW s c g2 n ls rs g6 g7) M2=some (.nx (GW s c g2 n ls rs g6 g7),M2++L3++L4):=by
  have g1:cB (gB (aF dG (aA (aB 3) (aA (bK (aA (aB 4) (aA (aB 5) aE))) aE)))) (GW s c g2 n ls rs g6 g7) M2=some (false,M2++L3):=by
   unfold cB;rw[bV (aO pr e3)];rfl
  have g2':cB (gB (aF dB (aA (aB 3) (aA (bK (aA (aB 4) (aA (aB 5) aE))) aE)))) (GW s c g2 n ls rs g6 g7) (M2++L3)=some (false,M2++L3++L4):=by
   unfold cB;rw[bV (aO pr e4)];rfl
  rw[fY ((pZ g1).trans g2')];rfl
 have it:gZ (aA (fC (.int 3)) aE) (GW s c g2 n ls rs g6 g7) (M2++L3++L4)=some (kP 0 3,M2++L3++L4):=vN (J:=3) rfl (rW (by decide) (by decide))
 obtain⟨γ',M5,e5,⟨g6',eγ⟩,dk5⟩:=rM (g:=hName 6) (b:=xS) (n:=3) (Inv:=fun k γ M=>(∃g6,γ=GW s c g2 n ls rs g6 g7)/\Dk M c (m+2+2*(3-k))) (by
  intro k hk γ M ⟨⟨g6,eγ⟩,dk⟩;subst eγ;obtain⟨M2,e,dk2⟩:=PL (s:=s) (g2:=g2) (g6:=some (I (k:Nat))) (g7:=g7) (m:=m+2+2*(3-(k+1))) h1 h9 C (by rw[show m+2+2*(3-(k+1))+2=m+2+2*(3-k)by omega];exact dk);exact⟨_,_,M2,rfl,e,⟨_,rfl⟩,dk2⟩) 3 0 (GW s c g2 n ls rs g6 g7) (M2++L3++L4) rfl ⟨⟨_,rfl⟩,dk2.app.app⟩
 subst eγ;obtain⟨z6,M6,p6,dk6,_,_⟩:=(show Dk M5 c (m+1+1)from dk5).pop;obtain⟨od,L6,eo,ot⟩:=WY (z:=z6) (M:=M6);have po6:bM "list" fM (aB 1) aE (GW s c g2 n ls rs g6' g7) M5=some (I z6,M6):=pop_at rfl dk5.ty p6;have dk7:Dk (M6++L6) c (m+1):=dk6.app;obtain⟨z7,M7,p7,dk8,_,_⟩:=dk7.pop;have po7:bM "list" fM (aB 1) aE (GW s c g2 n ls rs g6' g7) (M6++L6)=some (I z7,M7):=pop_at rfl dk7.ty p7
 have lst:eX (aA (bK (aA (aB 4) aE)) (aA (bK (aA (aB 4) (aA (aB 5) (aA (bK aE) aE)))) (aA (bK (aA (aB 5) (aA (aB 4) aE))) (aA (aF bZ (aA (bM "list" fM (aB 1) aE) aE)) aE)))) (GW s c g2 n ls rs g6' g7) M5=some (.d (.list [.tuple [lkD ls],.tuple [lkD ls,rkD rs,.tuple []],.tuple [rkD rs,lkD ls],od]),M6++L6):=by
  have t3:bK (aA (aB 4) (aA (aB 5) (aA (bK aE) aE))) (GW s c g2 n ls rs g6' g7) M5=some (.d (.tuple [lkD ls,rkD rs,.tuple []]),M5):=by
   show(if 3<=sizeLine then some (CD.d (.tuple [lkD ls,rkD rs,.tuple []]),M5)else none)=_;rw[A4 (sz (by decide))]
  unfold eX;rw[aH (VX rfl) (aH t3 (aH (AO rfl rfl) (aH (aO (aH po6 aN) eo) aN))),A3];show(if 4<=sizeLine then some (CD.d (.list [.tuple [lkD ls],.tuple [lkD ls,rkD rs,.tuple []],.tuple [rkD rs,lkD ls],od]),M6++L6)else none)=_;rw[A4 (sz (by decide))]
 obtain⟨d,hd1,hd2⟩:=yF (ds:=[PyData.tuple [lkD ls],.tuple [lkD ls,rkD rs,.tuple []],.tuple [rkD rs,lkD ls],od]) (k:=z7) (m:=4) (by decide) rfl;have ix:=aU lst (iK po7 (show(0:Int)<4 by decide)) (iE (M:=M7) (d:=.list [PyData.tuple [lkD ls],.tuple [lkD ls,rkD rs,.tuple []],.tuple [rkD rs,lkD ls],od]) rfl hd1)
 have td:Tm 5 d:=by
  simp only[List.mem_cons,List.not_mem_nil,or_false]at hd2;rcases hd2 with rfl|rfl|rfl|rfl
  .exact Tm.upTo (m:=3) (hV (show 1<64 by decide) fun x hx=>by rw[List.mem_singleton.mp hx];exact T.a) (by decide)
  .refine Tm.upTo (m:=4) (hV (show 3<64 by decide) fun x hx=>?_) (by decide);simp only[List.mem_cons,List.not_mem_nil,or_false]at hx;rcases hx with rfl|rfl|rfl
   .exact T.a.up
   .exact T.b
   .exact Tm.upTo (m:=1) (hV (show 0<64 by decide) fun x hx=>by simp at hx) (by decide)
  .exact Tm.upTo (m:=4) (gR T.b T.a.up) (by decide)
  .exact ot.upTo (by decide)
 have s7:bG (fOp ixF (eX (aA (bK (aA (aB 4) aE)) (aA (bK (aA (aB 4) (aA (aB 5) (aA (bK aE) aE)))) (aA (bK (aA (aB 5) (aA (aB 4) aE))) (aA (aF bZ (aA (bM "list" fM (aB 1) aE) aE)) aE))))) (fOp cH (bM "list" fM (aB 1) aE) (fC (.int 4)))) (hName 7) (GW s c g2 n ls rs g6' g7) M5=some (.nx (GW s c g2 n ls rs g6' (some (.d d))),M7):=bR (i:=7) ix;obtain⟨L8,e8⟩:=DC (fa:=aA (aB 3) (aA (aB 7) aE)) (γ:=GW s c g2 n ls rs g6' (some (.d d))) (M:=M7) (aH rfl (aH rfl aN)) h1 h9 td;refine⟨some (I n),some (.d (lkD ls)),some (.d (rkD rs)),g6',some (.d d),M7++L8,?_,dk8.app⟩;unfold yD;rw[aR s3,aR s4,aR s5,aR (dO it e5),aR s7];exact e8
theorem main(ns:List Int)(hl:ns.length<=63):∃M',F_law [.d (.list (ns.map .int))] []=some (.d (.bool true),M'):=by
 obtain⟨c,M1,e1,dk1⟩:=aCI ns;have ch0:ChD 1 (.tuple [.tuple [],.tuple []]):=⟨.tuple [],.tuple [],[],[],rfl,rfl,⟨fun l h=>by simp at h,.nil,fun a h=>by simp at h⟩,rfl,⟨fun r h=>by simp at h,.nil⟩⟩;have t0:Tm 2 (.tuple [.tuple [],.tuple []]):=DZ rfl;have t1:Tm 1 (.tuple []):=DZ rfl;obtain⟨L2,e2⟩:=sW (n:=1) (d:=.tuple [.tuple [],.tuple []]) (M:=M1) (by decide) (t0.wi 4);rw[kT ch0]at e2;obtain⟨L3,e3⟩:=sW (n:=1) (d:=.tuple []) (M:=M1++L2) (by decide) (t1.wi 4);rw[gI fun⟨a,b,_,_,h,_⟩=>by cases h]at e3;have s1:bG (aF mX (aA (aB 0) (aA (fC (.int 480)) aE))) (hName 1) [some (.d (.list (ns.map .int))),none,none,none,none,none,none,none] []=some (.nx [some (.d (.list (ns.map .int))),some (.c c),none,none,none,none,none,none],M1):=bR (i:=1) (aO (aH rfl (aH rfl aN)) e1)
 have s2:sIf (gOr (cB (gB (aF fS (aA (fC (.int 1)) (aA xU aE))))) (gB (aF fS (aA (fC (.int 1)) (aA (bK aE) aE))))) (bT (fC (.bool false))) bH [some (.d (.list (ns.map .int))),some (.c c),none,none,none,none,none,none] M1=some (.nx [some (.d (.list (ns.map .int))),some (.c c),none,none,none,none,none,none],M1++L2++L3):=by
  have g1:cB (gB (aF fS (aA (fC (.int 1)) (aA xU aE)))) [some (.d (.list (ns.map .int))),some (.c c),none,none,none,none,none,none] M1=some (false,M1++L2):=by
   unfold cB;rw[bV (aO (aH rfl (aH (SR _ _) aN)) e2)];rfl
  have g2:gB (aF fS (aA (fC (.int 1)) (aA (bK aE) aE))) [some (.d (.list (ns.map .int))),some (.c c),none,none,none,none,none,none] (M1++L2)=some (false,M1++L2++L3):=bV (aO (aH rfl (aH (show bK aE _ (M1++L2)=some (.d (.tuple []),M1++L2)from rfl) aN)) e3);rw[fY ((pZ g1).trans g2)];rfl
 have it:gZ (aA (fC (.int 3)) aE) [some (.d (.list (ns.map .int))),some (.c c),none,none,none,none,none,none] (M1++L2++L3)=some (kP 0 3,M1++L2++L3):=vN (J:=3) rfl (rW (by decide) (by decide))
 obtain⟨γ',M5,e5,⟨g2,g3,g4,g5,g6,g7,eγ⟩,_⟩:=rM (g:=hName 2) (b:=yD) (n:=3) (Inv:=fun k γ M=>(∃g2 g3 g4 g5 g6 g7,γ=[some (.d (.list (ns.map .int))),some (.c c),g2,g3,g4,g5,g6,g7])/\Dk M c (139*(3-k))) (by
  intro k hk γ M ⟨⟨g2,g3,g4,g5,g6,g7,eγ⟩,dk⟩;subst eγ;obtain⟨h3,h4,h5,h6,h7,M2,e,dk2⟩:=RT (s:=.d (.list (ns.map .int))) (g2:=some (I (k:Nat))) (g3:=g3) (g4:=g4) (g5:=g5) (g6:=g6) (g7:=g7) (m:=139*(3-(k+1))) (by rw[show 139*(3-(k+1))+139=139*(3-k)by omega];exact dk);exact⟨_,_,M2,rfl,e,⟨_,_,_,_,_,_,rfl⟩,dk2⟩) 3 0 [some (.d (.list (ns.map .int))),some (.c c),none,none,none,none,none,none] (M1++L2++L3) rfl ⟨⟨_,_,_,_,_,_,rfl⟩,dk1.app.app.le (by decide)⟩
 subst eγ;refine⟨M5,eG rfl ?_⟩;show aW _ _ [some (.d (.list (ns.map .int))),none,none,none,none,none,none,none] []=_;rw[aR s1,aR s2,aR (dO it e5)];rfl
end Q43
end
end
open PySem PySem.W PyProof.Rows
set_option maxRecDepth 100000 in
set_option maxHeartbeats 0 in
theorem PySem.Challenge.cw_cutstree_k43_charts_told_holds : PySem.Challenge.rw_cutstree_k43_charts_told.Holds := by
 refine Q43.k_top ?_
 k_fill
 refine L2.law_walk2 (l:=PySem.Challenge.rw_cutstree_k43_charts_told) (F:=Q43.F_law) (k:=9) (p:="_law_script") (xd:="straight_within") (by decide +kernel) rfl rfl ⟨fun _=>rfl,by decide,by decide,rfl⟩ (fun w h Y=>by first|exact PySem.W.kIn_of Y|exact PySem.W.km_in_of Y) (by decide +kernel) (by decide +kernel) ?T Q43.main
 case T=>
  intro w mg h KX G;refine Q43.fn_law2 (K:=_) (mg:=mg) ?TT
  refine' Q43.txt_mk KX G ?v0 ?v1 ?v2 ?v3 ?v4 ?v5 ?v6 ?v7 ?v8 ?v9 ?v10 ?v11 ?v12 ?v13 ?v14 ?v15 ?v16 ?v17 ?v18 ?v19 ?v20 ?v21 ?v22 ?v23 ?v24 ?v25 ?v26 ?v27 ?v28 ?v29 ?v30 ?v31 ?v32 ?v33 ?v34 ?v35 ?v36 ?v37 ?v38 ?v39 ?v40 ?v41 ?v42 ?v43 ?v44 ?v45 ?v46 ?v47 ?otb ?ctb
  (case v0|v1|v2|v3|v4|v5|v6|v7|v8|v9|v10|v11|v12|v13|v14=>k_is)
  (case v15|v16|v17|v18|v19|v20|v21|v22|v23|v24|v25|v26|v27|v28|v29|v30|v31|v32|v33|v34|v35|v36|v37|v38|v39|v40|v41|v42|v43|v44|v45|v46|v47=>exact L2.def_mk KX G (by k_is) (by k_is) (by k_is) (by k_is))
  (case otb=>kernel_rfl)
  (case ctb=>kernel_rfl)