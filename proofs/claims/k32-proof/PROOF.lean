import PyProof.Rows.All
import OpenK.KLine
import OpenK.KWalk
import OpenK.KMore
import OpenK.KOwn
import OpenK.KRaise
import KE.KSortTup
import PyProof.EqAt
import PyProof.EqKinds
import PyProof.TupleCall
import KE.KIsAll
import PyProof.ExcArgsOwn
import PyProof.NsDelKeeps
import KE.KTryMore
import PyProof.InstStoreFacts
import PyProof.ExcInit
import PyProof.ExcClass2
import PyProof.Rows.ListMul
import PyProof.Draws
import PyProof.EnumMake
import PyProof.Rows.EnumRows
import KE.KItemsList
import PyProof.DictCompW
import PyProof.ListRange
import PyProof.ZipIter
import PyProof.AttrMissHeap
import KE.KDictOf
import KE.KUnpack
import PySem.Challenge.RW_cutstree_k32_least_by_tree
set_option Elab.async false
section
set_option maxRecDepth 100000
set_option maxHeartbeats 0
namespace Q32
open PySem
noncomputable def qv:Program:={ PySem.Challenge.rw_cutstree_k32_least_by_tree.prog with main:={ PySem.Challenge.rw_cutstree_k32_least_by_tree.prog.main with body:=((((((PySem.Challenge.rw_cutstree_k32_least_by_tree.prog.main.body.eraseIdx 27).eraseIdx 25).eraseIdx 18).eraseIdx 12).eraseIdx 4).eraseIdx 0) } }
end Q32
open PySem PySem.W PyProof.Rows
local macro_rules | `(tactic| o_head $H) => `(tactic| (
 refine holds_open (r:=PySem.Challenge.rw_cutstree_k32_least_by_tree.row) (q:=Q32.qv) (loose:=[]) (Xt:=fun s=>xlAt Q32.qv [] s&&recOk (RowW.records (OpenRow.toRowW PySem.Challenge.rw_cutstree_k32_least_by_tree.row)) s) (XP:=XL Q32.qv []) (Yf:=Hook.obs $H) (Ya:=Hook.val $H) (YP:=Hook.says $H) (N:=6100) ?hl (Hook.of $H) (Hook.keeps $H) (fun s e=>xl_of s (Bool.and_eq_true_iff.mp e).1) XL.keeps (by rfl) (by rfl) (by rfl) (fun s e=>recFacts_of (Bool.and_eq_true_iff.mp e).2) (by rfl) (by first|assumption|decide +kernel) (by decide +kernel) ⟨rfl,rfl,rfl,rfl,rfl,by decide +kernel⟩ ?hw ?hc
 (case hl=>intro w;kernel_rfl)))
open_top Q32.k_top for PySem.Challenge.rw_cutstree_k32_least_by_tree
end
section
set_option linter.all false
set_option maxRecDepth 100000
set_option maxHeartbeats 4000000
noncomputable abbrev Fg:=PySem.W.Frag
noncomputable section
abbrev A2:=@Option.bind_some
abbrev A3:=@List.length_map
abbrev A4:=@PySem.wpAny_bind
abbrev A6:=@PySem.Heap.get?_push_of_some
abbrev A7:=@if_pos
abbrev A8:=@List.getD_eq_getElem?_getD
abbrev A9:=@List.getElem?_eq_getElem
abbrev B0:=@if_neg
abbrev B1:=@Nat.le_refl
abbrev B2:=@Bool.false_ne_true
abbrev B3:=@List.mem_cons_of_mem
abbrev B4:=@List.length_append
abbrev B5:=@List.mem_cons_self
abbrev B6:=@List.map_cons
abbrev B7:=@PySem.wpAny_pure
abbrev B8:=@PySem.Heap.lt_size
abbrev B9:=@List.getElem?_append_right
abbrev C0:=@Nat.lt_of_lt_of_le
abbrev C1:=@decide_eq_false
abbrev C2:=@Bool.and_eq_true
abbrev C3:=@List.getElem?_map
abbrev C4:=@List.size_toArray
abbrev C5:=@List.mem_append_right
abbrev C6:=@List.append_assoc
abbrev C7:=@List.length_singleton
abbrev C8:=@decide_eq_true
abbrev C9:=@List.length_cons
abbrev D0:=@List.mem_append_left
abbrev D1:=@Nat.ne_of_lt
abbrev D2:=@PySem.Heap.get?_push_size
abbrev D3:=@List.map_append
abbrev D4:=@List.mem_singleton
abbrev D5:=@Option.some.inj
abbrev D6:=@List.append_nil
abbrev D7:=@of_decide_eq_true
abbrev D8:=@List.lookup_cons
abbrev D9:=@PySem.wpAny_newObj_type
abbrev E1:=@PyProof.Rows.callWith_type1
abbrev E2:=@PySem.W.mg_none_of
abbrev E3:=@PySem.PassesOwn.never
abbrev E4:=@PySem.sizeLine_eq
abbrev E5:=@List.mem_of_getElem?
abbrev E6:=@Array.getD_eq_getD_getElem?
abbrev E7:=@List.set_append_right
abbrev E8:=@PySem.mem_of_lookup
abbrev E9:=@congrArg
abbrev F0:=@Int.toNat_natCast
abbrev F4:=@List.getElem?_append_left
abbrev F5:=@Nat.sub_self
abbrev F6:=@Nat.lt_irrefl
abbrev F7:=@List.reverse_cons
abbrev F8:=@PyProof.Rows.slot_tuple_getitem
abbrev F9:=@Nat.zero_le
abbrev I0:=@List.getElem?_of_mem
abbrev J0:=@Nat.le_trans
abbrev J1:=@List.getElem?_set_self
abbrev J2:=@List.length_take
abbrev J3:=@List.getElem_mem
abbrev J4:=@PySem.wpAny_field
abbrev J5:=@of_decide_eq_false
abbrev J6:=@List.map_singleton
abbrev J7:=@List.getElem?_set_ne
abbrev J8:=@Nat.add_sub_cancel_left
abbrev J9:=@Ne.symm
abbrev L4:=@PySem.wpAny_holding
abbrev L5:=@PySem.wpAny_mono
abbrev L8:=@PySem.SeqAt.canLay_of_shaped
abbrev L9:=@Nat.lt_succ_self
abbrev O0:=@Nat.le_add_right
abbrev O1:=@Int.emod_lt_of_pos
abbrev O2:=@Bool.and_false
abbrev O3:=@List.length_set
abbrev O4:=@List.map_map
abbrev O5:=@PySem.wpAny_truthy_bool
abbrev O6:=@List.any_cons
abbrev O7:=@List.getElem_inj
abbrev O8:=@List.length_drop
abbrev O9:=@List.getElem_map
abbrev S0:=@PySem.Heap.get?_update_other
abbrev S1:=@List.drop_eq_getElem_cons
abbrev S2:=@Bool.eq_iff_iff
abbrev S3:=@Int.emod_nonneg
abbrev S4:=@List.filterMap_cons
abbrev S5:=@PySem.wpAny_loadPart'
abbrev S6:=@List.length_reverse
abbrev S7:=@List.map_congr_left
abbrev S8:=@PySem.boot_len
abbrev S9:=@List.map_nil
abbrev U0:=@PySem.Heap.get?_update_ne
abbrev U1:=@PySem.wpAny_callSpecial?_slot
abbrev U2:=@List.foldl_cons
abbrev U3:=@List.all_cons
abbrev U4:=@Array.getElem?_toList
abbrev U5:=@List.length_range
abbrev U6:=@PySem.wpAny_Call_Name_kw
abbrev U7:=@PySem.Obj.data_mapFields
abbrev U8:=@PySem.wpAny_passesOwn
abbrev U9:=@Bool.false_and
abbrev Y0:=@Nat.le_succ
abbrev Y1:=@List.nodup_iff_pairwise_ne
abbrev Y2:=@beq_eq_false_iff_ne
abbrev Y3:=@List.getElem?_take_of_lt
abbrev Y4:=@PySem.F.slot_tuple_iterator_next
abbrev Y5:=@Bool.true_and
abbrev Y6:=@List.zip_cons_cons
abbrev Y7:=@PySem.wpAny_call_entry
abbrev Y8:=@List.getElem?_replicate
abbrev Y9:=@List.nodup_append
abbrev Z0:=@List.getElem?_eq_none
abbrev Z3:=@beq_iff_eq
abbrev Z4:=@List.mem_of_mem_take
abbrev Z5:=@PyProof.Rows.get?_update_seq
abbrev Z6:=@Array.length_toList
abbrev Z7:=@PySem.Heap.get?_update_self
abbrev Z8:=@List.getElem?_range
abbrev Z9:=@Nat.le_of_lt
abbrev A0a:=@PySem.PyData.eqvAll.eq_def
abbrev A0b:=@Int.natCast_nonneg
abbrev A0c:=@PySem.wpAny_execs_nil
abbrev A0d:=@PySem.codeAny_mono
abbrev A0e:=@PySem.wpAny_typeOf
abbrev A0f:=@PySem.Heap.size_push
abbrev A0g:=@PySem.wpAny_pyIter_tuple
abbrev A0h:=@PySem.wpAny_setField
abbrev A0i:=@PyProof.Rows.boot_tuple
namespace L2
variable{H:Hp}{s:Shared}{σ:St}{K:Fg}{A:Around}{pos:Pos}
open PySem PySem.Spec PyProof.Rows
noncomputable abbrev Key:=Sum Int Str
noncomputable def tG:Key->Value->Bool
 |.inl k,v=>Value.isInt k v
 |.inr x,v=>Value.isStrOf x v
noncomputable def aHt(w:World):Key->Int
 |.inl k=>hashInt k
 |.inr x=>hashStr w x
theorem cD:∀{k:Key}{v:Value},tG k v=true->(∃i t,k=Sum.inl i/\v=Value.int i t)\/(∃x t,k=Sum.inr x/\v=Value.str x t)
 |.inl i,v=>fun h=>by
  obtain⟨t,e⟩:=Value.isInt_shape (k:=i) (v:=v) h;exact .inl ⟨i,t,rfl,e⟩
 |.inr x,v=>fun h=>by
  obtain⟨t,e⟩:=Value.isStrOf_shape (x:=x) (v:=v) h;exact .inr ⟨x,t,rfl,e⟩
theorem NZ(i:Int)(t:Tok):tG (.inl i) (.int i t)=true:=by simp[tG,Value.isInt]
theorem MR(x:Str)(t:Tok):tG (.inr x) (.str x t)=true:=by simp[tG,Value.isStrOf]
theorem aDM(a b:Int):decide ((Sum.inl a:Key)=Sum.inl b)=(a==b):=by
 by_cases e:a=b
 .subst e;simp
 .have h:¬(Sum.inl a:Key)=Sum.inl b:=fun q=>e (Sum.inl.inj q);rw[C1 h];exact(beq_eq_false_iff_ne.mpr e).symm
theorem aDm(a b:Str):decide ((Sum.inr a:Key)=Sum.inr b)=decide (a=b):=by
 by_cases e:a=b
 .subst e;simp
 .have h:¬(Sum.inr a:Key)=Sum.inr b:=fun q=>e (Sum.inr.inj q);rw[C1 h,C1 e]
theorem aDt(a:Int)(b:Str):decide ((Sum.inl a:Key)=Sum.inr b)=false:=C1 (fun q=>nomatch q)
theorem aCN(a:Str)(b:Int):decide ((Sum.inr a:Key)=Sum.inl b)=false:=C1 (fun q=>nomatch q)
noncomputable def cO(prog:Program)(w:World):PySem.KeyKind prog w Key where
 is:=tG
 hash:=aHt w
 inj:=fun v a b ha hb=>by
  rcases cD ha with⟨i,t,rfl,rfl⟩|⟨x,t,rfl,rfl⟩
  .rcases cD hb with⟨j,u,rfl,e⟩|⟨y,u,rfl,e⟩
   .injection e with e1 _;rw[e1]
   .exact nomatch e
  .rcases cD hb with⟨j,u,rfl,e⟩|⟨y,u,rfl,e⟩
   .exact nomatch e
   .injection e with e1 _;rw[e1]
 byValue:=fun k v h=>by
  rcases cD h with⟨i,t,rfl,rfl⟩|⟨x,t,rfl,rfl⟩<;>rfl
 pyHash:=fun hv h=>by
  rcases cD hv with⟨i,t,rfl,rfl⟩|⟨x,t,rfl,rfl⟩
  .exact wpAny_pyHash_int h
  .exact wpAny_pyHash_str h
 eqBool:=fun hu hv h=>by
  rcases cD hu with⟨i,t,rfl,rfl⟩|⟨x,t,rfl,rfl⟩
  .rcases cD hv with⟨j,u,rfl,rfl⟩|⟨y,u,rfl,rfl⟩
   .rw[aDM]at h;exact wpAny_eqBool_int h
   .rw[aDt]at h;exact SeqAt.EqAt.int_str i t y u _ _ _ _ h
  .rcases cD hv with⟨j,u,rfl,rfl⟩|⟨y,u,rfl,rfl⟩
   .rw[aCN]at h;exact SeqAt.EqAt.str_int x t j u _ _ _ _ h
   .rw[aDm]at h;exact wpAny_eqBool_str h
 «strs»:=fun k x t v h=>by
  rcases cD h with⟨i,u,rfl,e⟩|⟨y,u,rfl,e⟩
  .exact nomatch e
  .injection e with e1 _
   subst e1;cases v<;>rfl
theorem HA(prog:Program)(w:World)(k:Key)(v:Value):(cO prog w).is k v=tG k v:=rfl
theorem CF(prog:Program)(w:World)(i:Int)(t:Tok):(cO prog w).is (.inl i) (.int i t)=true:=NZ i t
theorem EU(prog:Program)(w:World)(x:Str)(t:Tok):(cO prog w).is (.inr x) (.str x t)=true:=MR x t
inductive V where
 |non|bl (b:Bool)|int (i:Int)|str (x:Str)|byt (b:Array UInt8)|flt (b:UInt64)|ref (a:Addr)|ty (n:String)
 deriving DecidableEq
noncomputable def RelV:V->Value->Prop
 |.non,u=>u=Value.none
 |.bl b,u=>u=Value.bool b
 |.int i,u=>∃t,u=Value.int i t
 |.str x,u=>∃t,u=Value.str x t
 |.byt b,u=>∃t,u=Value.bytes b t
 |.flt b,u=>∃t,u=Value.float b t
 |.ref a,u=>u=Value.ref a
 |.ty n,u=>u=Value.type n
noncomputable abbrev aV:List V->List Value->Prop:=Paired RelV
theorem aV.length{xs:List V}{us:List Value}(r:aV xs us):xs.length=us.length:=Paired.length r
theorem aV.get:∀{xs:List V}{us:List Value}{i:Nat}{x:V},aV xs us->xs[i]?=some x->∃u,us[i]?=some u/\RelV x u
 |_,_,_,_,.nil=>fun e=>by simp at e
 |_,_,0,_,.cons r _=>fun e=>by simp at e;subst e;exact⟨_,rfl,r⟩
 |_,_,i+1,x,.cons _ t=>fun e=>by
  obtain⟨u,h1,h2⟩:=aV.get (i:=i) (x:=x) t (by simpa using e);exact⟨u,by simpa using h1,h2⟩
theorem aV.set{x:V}{u:Value}(r:RelV x u):∀{xs:List V}{us:List Value}(i:Nat),aV xs us->aV (xs.set i x) (us.set i u)
 |_,_,_,.nil=>.nil
 |_,_,0,.cons _ t=>.cons r t
 |_,_,i+1,.cons q t=>.cons q (aV.set r i t)
theorem aV.append:∀{xs ys:List V}{us ws:List Value},aV xs us->aV ys ws->aV (xs++ys) (us++ws)
 |_,_,_,_,.nil=>fun s=>s
 |_,_,_,_,.cons r t=>fun s=>.cons r (aV.append t s)
theorem aV.take:∀{xs:List V}{us:List Value}(n:Nat),aV xs us->aV (xs.take n) (us.take n)
 |_,_,0,_=>.nil
 |_,_,_+1,.nil=>.nil
 |_,_,n+1,.cons r t=>.cons r (aV.take n t)
theorem aV.drop:∀{xs:List V}{us:List Value}(n:Nat),aV xs us->aV (xs.drop n) (us.drop n)
 |_,_,0,r=>r
 |_,_,_+1,.nil=>.nil
 |_,_,n+1,.cons _ t=>aV.drop n t
noncomputable def LF:Option V->Option Value->Prop
 |some v,some u=>RelV v u
 |none,none=>True
 |_,_=>False
noncomputable def KV{κ:Type}:List (κ×V)->List (κ×Value)->Prop:=Paired fun(p:κ×V)(q:κ×Value)=>p.1=q.1/\RelV p.2 q.2
noncomputable def kV:Key->V
 |.inl i=>.int i
 |.inr x=>.str x
inductive HO where
 |lst (xs:List V)
 |tup (xs:List V)
 |dK (kvs:List (Key×V))|dT (kvs:List (List Key×V))
 |set (S:Int->Bool) (n:Nat)
 |ins (C dx:Addr) (fs:List (Str×V))
 |own (x:Addr)
 |xd (fs:List (Str×V))
 |met (f x:Addr)
 |rng (lo hi:Int)
 |frz (o:Obj) (u:HO)
 |tbl (ps:Array Value)
 |ext (φ:Heap->Prop)
noncomputable abbrev Hp:=Addr->Option HO
noncomputable def upd(H:Hp)(a:Addr)(o:HO):Hp:=fun b=>if b=a then some o else H b
theorem aN{a:Addr}{o:HO}:upd H a o a=some o:=by unfold upd;rw[A7 rfl]
theorem aM{a b:Addr}{o:HO}(h:b≠a):upd H a o b=H b:=by unfold upd;rw[B0 h]
theorem aFQ{a b:Addr}{o u:HO}(h:H a=some o)(h':H b=some u)(d:o≠u):a≠b:=by
 intro e;subst e;rw[h]at h';exact d (D5 h')
theorem aQ{a b:Addr}{o:HO}(h:H a=some o)(h':H b=none):a≠b:=by
 intro e;subst e;rw[h]at h';cases h'
section
variable(P:Program)(w:World)
noncomputable def dG(H:Hp)(h:Heap)(a:Addr):HO->Prop
 |.lst xs=>xs.length<=sizeLine/\∃(its:List Value)(n:Nat),aV xs its/\h.get? a=some { cls:=.type "list",data:=.seq its.toArray n }
 |.tup xs=>xs.length<=sizeLine/\∃its:List Value,aV xs its/\IsTup h a its.toArray
 |.dK kvs=>kvs.length<=sizeLine/\(a==sysModules)=false/\∃vs,KV kvs vs/\h.DictOf (cO P w) a vs
 |.dT kvs=>kvs.length<=sizeLine/\(a==sysModules)=false/\∃xs:List (List Key×Addr×Value),
  Paired (fun(p:List Key×V)(q:List Key×Addr×Value)=>p.1=q.1/\H q.2.1=some (.tup (p.1.map kV))/\RelV p.2 q.2.2) kvs xs /\
  ∃o es ep,h.get? a=some o/\o.ExactDict/\o.data=.dict es ep/\es.toList=xs.map (entryOfKey (tupleKind (cO P w)))/\(xs.map (·.1)).Nodup
 |.set S n=>h.SetOf (intKind P w) a S n
 |.ins C dx fs=>H dx=some (.own a)/\fs.length<=1000/\dx≠a/\h.get? a=some (PySem.W.instObj C dx) /\
  ∃mA,h.Ns1 dx mA/\(∀f,LF (fs.lookup f) (mA f))/\PySem.Within mA (fs.map (·.1))
 |.own _=>∃o,h.get? a=some o
 |.xd fs=>∃mA,h.Ns1 a mA/\∀f,LF (fs.lookup f) (mA f)
 |.rng lo hi=>∃t u v,h.get? a=some { cls:=.type "range",data:=.fields #[.int lo t,.int hi u,.int 1 v] }
 |.frz o u=>h.get? a=some o/\dG H h a u
 |.tbl ps=>h.get? a=some { cls:=.none,data:=.fields ps }
 |.met f x=>h.get? a=some (PySem.W.methodObj (.ref f) (.ref x))
 |.ext φ=>φ h/\(∃o,h.get? a=some o)/\∀h1 h2:Heap,φ h1->(∀o,h1.get? a=some o->h2.get? a=some o)->φ h2
noncomputable def HOk(H:Hp)(h:Heap):Prop:=∀a o,H a=some o->dG P w H h a o
end
section
variable{P:Program}{w:World}{H H':Hp}{h h':Heap}{a:Addr}{o:HO}
theorem dG.lt(x:dG P w H h a o):a<h.objs.size:=by
 cases o with
 |lst xs=>obtain⟨_,_,_,_,e⟩:=x;exact B8 e
 |tup xs=>obtain⟨_,_,_,p⟩:=x;exact p.lt
 |dK kvs=>obtain⟨_,_,_,_,o,_,_,e,_⟩:=x;exact B8 e
 |dT kvs=>obtain⟨_,_,_,_,o,_,_,e,_⟩:=x;exact B8 e
 |set S n=>obtain⟨o,_,_,_,e,_⟩:=x;exact B8 e
 |ins C dx fs=>obtain⟨_,_,_,e,_⟩:=x;exact B8 e
 |own y=>obtain⟨_,e⟩:=x;exact B8 e
 |xd fs=>obtain⟨_,⟨_,_,_,e,_⟩,_⟩:=x;exact B8 e
 |rng lo hi=>obtain⟨_,_,_,e⟩:=x;exact B8 e
 |frz ob u=>obtain⟨e,_⟩:=x;exact B8 e
 |tbl ps=>exact B8 (show h.get? a=some _ from x)
 |met f y=>exact B8 (show h.get? a=some _ from x)
 |ext φ=>obtain⟨_,⟨_,e⟩,_⟩:=x;exact B8 e
theorem Paired.mapP{α β:Type}{F G:α->β->Prop}:∀{l₁:List α}{l₂:List β},Paired F l₁ l₂->(∀a b,F a b->G a b)->Paired G l₁ l₂
 |_,_,.nil=>fun _=>.nil
 |_,_,.cons r t=>fun f=>.cons (f _ _ r) (Paired.mapP t f)
theorem dG.stay(x:dG P w H h a o)(k:∀b u,(b=a\/H b=some (.own a))->h.get? b=some u->h'.get? b=some u)
 (ho:∀b,H b=some (.own a)->H' b=some (.own a)) (ht:∀b xs,H b=some (.tup xs)->H' b=some (.tup xs)):dG P w H' h' a o:=by
 induction o with
 |lst xs=>obtain⟨z,its,n,r,e⟩:=x;exact⟨z,its,n,r,k _ _ (.inl rfl) e⟩
 |tup xs=>obtain⟨z,its,r,ob,e,c⟩:=x;exact⟨z,its,r,ob,k _ _ (.inl rfl) e,c⟩
 |dK kvs=>obtain⟨z,y,vs,r,ob,es,ep,e,c⟩:=x;exact⟨z,y,vs,r,ob,es,ep,k _ _ (.inl rfl) e,c⟩
 |dT kvs=>
  obtain⟨z,y,xs,r,ob,es,ep,e,c⟩:=x;exact⟨z,y,xs,Paired.mapP r fun p q z=>⟨z.1,ht _ _ z.2.1,z.2.2⟩,ob,es,ep,k _ _ (.inl rfl) e,c⟩
 |set S n=>obtain⟨ob,es,ep,t,e,c⟩:=x;exact⟨ob,es,ep,t,k _ _ (.inl rfl) e,c⟩
 |ins C dx fs=>
  obtain⟨d,z,ne,e,mA,⟨od,es,ep,e2,c⟩,r⟩:=x;exact⟨ho _ d,z,ne,k _ _ (.inl rfl) e,mA,⟨od,es,ep,k _ _ (.inr d) e2,c⟩,r⟩
 |own y=>obtain⟨ob,e⟩:=x;exact⟨ob,k _ _ (.inl rfl) e⟩
 |xd fs=>obtain⟨mA,⟨od,es,ep,e,c⟩,r⟩:=x;exact⟨mA,⟨od,es,ep,k _ _ (.inl rfl) e,c⟩,r⟩
 |rng lo hi=>obtain⟨t,u,v,e⟩:=x;exact⟨t,u,v,k _ _ (.inl rfl) e⟩
 |frz ob u ih=>obtain⟨e,q⟩:=x;exact⟨k _ _ (.inl rfl) e,ih q⟩
 |tbl ps=>
  have e:h.get? a=some { cls:=.none,data:=.fields ps }:=x;show h'.get? a=some { cls:=.none,data:=.fields ps };exact k a _ (.inl rfl) e
 |met f y=>
  have e:h.get? a=some (PySem.W.methodObj (.ref f) (.ref y)):=x;show h'.get? a=some (PySem.W.methodObj (.ref f) (.ref y));exact k a _ (.inl rfl) e
 |ext φ=>obtain⟨p,⟨o,e⟩,st⟩:=x;exact⟨st _ _ p fun o q=>k _ _ (.inl rfl) q,⟨o,k _ _ (.inl rfl) e⟩,st⟩
theorem HOk.lt(x:HOk P w H h)(e:H a=some o):a<h.objs.size:=(x a o e).lt
theorem HOk.fresh(x:HOk P w H h)(e:h.objs.size<=a):H a=none:=by
 cases q:H a with
 |none=>rfl
 |some u=>exact absurd (C0 (x.lt q) e) (F6 _)
theorem HOk.kept(x:HOk P w H h)(k:∀b u,h.get? b=some u->h'.get? b=some u):HOk P w H h':=fun a o e=>
 (x a o e).stay (fun b u _ q=>k b u q) (fun _ q=>q) fun _ _ q=>q
theorem HOk.laid(x:HOk P w H h)(k:∀b u,h.get? b=some u->h'.get? b=some u)(hp:h.objs.size<=a)(new:dG P w (upd H a o) h' a o):HOk P w (upd H a o) h':=fun b u e=>by
 have hn:=x.fresh hp;by_cases hb:b=a
 .subst hb;rw[aN]at e;cases e;exact new
 .rw[aM hb]at e;exact(x b u e).stay (fun c v _ q=>k c v q) (fun c q=>by rw[aM (aQ q hn)];exact q) fun c xs q=>by rw[aM (aQ q hn)];exact q
end
noncomputable def Rd(H:Hp)(a:Addr)(u:HO):Prop:=H a=some u\/∃o,H a=some (.frz o u)
theorem Rd.ok{P:Program}{w:World}{h:Heap}{a:Addr}{u:HO}(r:Rd H a u)(x:HOk P w H h):dG P w H h a u:=by
 rcases r with r|⟨o,r⟩
 .exact x a u r
 .obtain⟨_,q⟩:=x a _ r;exact q
noncomputable def Mut:Option HO->Prop
 |some (.lst _)=>True
 |some (.dK _)=>True
 |some (.dT _)=>True
 |some (.set _ _)=>True
 |some (.ins _ _ _)=>True
 |some (.ext _)=>True
 |_=>False
section
variable{P:Program}{w:World}{H:Hp}{h h':Heap}{x e:Addr}{o':HO}
theorem HOk.write(ok:HOk P w H h)(mu:Mut (H x))(he:e=x\/H e=some (.own x))(k:∀b u,b≠e->h.get? b=some u->h'.get? b=some u)(heo:∃u,h'.get? e=some u)
 (new:dG P w (upd H x o') h' x o'):HOk P w (upd H x o') h':=fun b u q=>by
 have nown:∀c y,H c=some (.own y)->c≠x:=fun c y r z=>by subst z;rw[r]at mu;exact mu
 have ntup:∀c xs,H c=some (.tup xs)->c≠x:=fun c xs r z=>by subst z;rw[r]at mu;exact mu
 by_cases hb:b=x
 .subst hb;rw[aN]at q;cases q;exact new
 .rw[aM hb]at q;by_cases hbe:b=e
  .have q':H b=some (.own x):=by
    rcases he with z|z
    .exact absurd (hbe.trans z) hb
    .rw[hbe];exact z
   rw[q]at q';cases q';obtain⟨v,hv⟩:=heo;exact⟨v,by rw[hbe];exact hv⟩
  .refine(ok b u q).stay (fun c v hc r=>k c v ?_ r) (fun c r=>by rw[aM (nown c b r)];exact r) fun c xs r=>by rw[aM (ntup c xs r)];exact r
   rcases hc with rfl|hc
   .exact hbe
   .rintro rfl;rcases he with z|z
    .exact nown c b hc z
    .rw[hc]at z;cases z;exact hb rfl
end
structure Un(fs ex:List Addr)(H H':Hp)(h h':Heap):Prop where
 keep:∀b o,h.get? b=some o->H b=none->b∉fs->b∉ex->h'.get? b=some o
 slot:∀b o,h.get? b=some o->H b=none->b∈fs->b∉ex->∃sl,h'.get? b=some { o with slots:=sl }
 free:∀b o,h.get? b=some o->H b=none->b∉ex->H' b=none
 there:∀b o,h.get? b=some o->b∉ex->∃o',h'.get? b=some o'
 tups:∀b xs,H b=some (.tup xs)->H' b=some (.tup xs)
 frzs:∀b o u,H b=some (.frz o u)->H' b=some (.frz o u)
 tbls:∀b ps,H b=some (.tbl ps)->∃more,H' b=some (.tbl (ps++more))
section
variable{fs fs' ex ex':List Addr}{H H1 H2:Hp}{h h1 h2 h':Heap}{a x e:Addr}{o:HO}
theorem Un.any(u:Un fs ex H H1 h h1){b:Addr}{ob:Obj}(q:h.get? b=some ob)(n:H b=none)(hx:b∉ex):∃sl,h1.get? b=some { ob with slots:=sl }:=by
 by_cases hb:b∈fs
 .exact u.slot b ob q n hb hx
 .exact⟨ob.slots,u.keep b ob q n hb hx⟩
theorem Un.kept(k:∀b u,h.get? b=some u->h'.get? b=some u):Un fs ex H H h h':=
 ⟨fun b ob q _ _ _=>k b ob q,fun b ob q _ _ _=>⟨ob.slots,k b ob q⟩,fun _ _ _ n _=>n,fun b ob q _=>⟨ob,k b ob q⟩,fun _ _ q=>q,fun _ _ _ q=>q,fun _ ps q=>⟨#[],by rw[q];simp⟩⟩
theorem Un.refl:Un fs ex H H h h:=Un.kept fun _ _ q=>q
theorem Un.laid(k:∀b u,h.get? b=some u->h'.get? b=some u)(hp:h.objs.size<=a)(hn:H a=none):Un fs ex H (upd H a o) h h' where
 keep:=fun b u q _ _ _=>k b u q
 slot:=fun b u q _ _ _=>⟨u.slots,k b u q⟩
 free:=fun b u q n _=>by rw[aM (D1 (C0 (B8 q) hp))];exact n
 there:=fun b u q _=>⟨u,k b u q⟩
 tups:=fun b xs q=>by rw[aM (aQ q hn)];exact q
 frzs:=fun b u xs q=>by rw[aM (aQ q hn)];exact q
 tbls:=fun b ps q=>⟨#[],by rw[aM (aQ q hn),q];simp⟩
theorem Un.write(mu:Mut (H x))(he:e=x\/H e=some (.own x))(k:∀b u,b≠e->h.get? b=some u->h'.get? b=some u)(heo:∃u,h'.get? e=some u):Un fs ex H (upd H x o) h h':=by
 have hx:∀b,H b=none->b≠x:=fun b n z=>by subst z;rw[n]at mu;exact mu
 have hb:∀b,H b=none->b≠e:=fun b n z=>by
  subst z;rcases he with r|r
  .exact hx b n r
  .rw[n]at r;cases r
 have hm:∀b u,H b=some u->¬Mut (some u)->b≠x:=fun b u q nm z=>by subst z;rw[q]at mu;exact nm mu
 refine⟨fun b u q n _ _=>k b u (hb b n) q,fun b u q n _ _=>⟨u.slots,k b u (hb b n) q⟩,fun b u q n _=>by rw[aM (hx b n)];exact n,fun b u q _=>?_,
  fun b xs q=>by rw[aM (hm b _ q fun z=>z)];exact q,fun b u xs q=>by rw[aM (hm b _ q fun z=>z)];exact q,fun b ps q=>⟨#[],by rw[aM (hm b _ q fun z=>z),q];simp⟩⟩
 by_cases hbe:b=e
 .subst hbe;exact heo
 .exact⟨u,k b u hbe q⟩
end
noncomputable def trk(h:Heap)(H:Hp):List Addr:=(List.range h.objs.size).filter fun a=>(H a).isSome
noncomputable def AG(h:Heap)(H:Hp):Heap:=PySem.W.hideAll h (trk h H)
theorem MZ(h:Heap)(H:Hp):(AG h H).objs.size=h.objs.size:=PySem.W.hideAll_size _ _
theorem WK{h:Heap}{b:Addr}{o:Obj}(e:h.get? b=some o)(n:H b=none):(AG h H).get? b=some o:=
 PySem.W.hideAll_get _ e fun hm=>by
  have q:(H b).isSome=true:=(List.mem_filter.mp hm).2;rw[n]at q;simp at q
theorem aAT{h:Heap}{b:Addr}{o:Obj}(e:(AG h H).get? b=some o):h.get? b=some o/\H b=none:=by
 have e':h.get? b=some o:=PySem.W.of_hideAll (trk h H) e;refine⟨e',?_⟩;cases q:H b with
 |none=>rfl
 |some x=>
  have hm:b∈trk h H:=List.mem_filter.mpr ⟨List.mem_range.mpr (B8 e'),by simp[q]⟩;have z:(AG h H).get? b=none:=PySem.W.hideAll_none (trk h H) hm;rw[z]at e;cases e
noncomputable def jU(g h:Heap)(L:Addr):List (Addr×Obj):=(List.range h.objs.size).filterMap fun a=>if a=L\/(g.get? a).isSome=true then none else(h.get? a).map fun o=>(a,o)
theorem jO{g h:Heap}{L a:Addr}{o:Obj}(h1:a≠L)(h2:g.get? a=none)(h3:h.get? a=some o):(a,o)∈jU g h L:=
 List.mem_filterMap.mpr ⟨a,List.mem_range.mpr (B8 h3),by simp[h1,h2,h3]⟩
theorem vK{g h:Heap}{L:Addr}{p:Addr×Obj}(hp:p∈jU g h L):p.1≠L/\g.get? p.1=none/\h.get? p.1=some p.2:=by
 obtain⟨b,_,e⟩:=List.mem_filterMap.mp hp;split at e
 .cases e
 .rename_i hn;cases q:h.get? b with
  |none=>rw[q]at e;simp at e
  |some u=>
   rw[q]at e;simp only[Option.map_some,Option.some.injEq]at e;subst e;refine⟨fun z=>hn (.inl z),?_,q⟩;show g.get? b=none;cases r:g.get? b with
   |none=>rfl
   |some v=>exact(hn (.inr (by simp[r]))).elim
noncomputable def rest(g h:Heap)(L d:Addr):List (Addr×Obj):=(jU g h L).filter fun p=>decide (p.1≠d)
theorem FL{g h:Heap}{L:Addr}:News g L h (jU g h L):=fun p hp=>let⟨a,b,c⟩:=vK hp;⟨c,a,b⟩
structure Mod(K:Fg)(mg:Str->Option Value)(base:Heap):Prop where
 kin:K.In base
 glob:base.Ns mainGlobals mg
 blt:∃mb,base.Ns builtinsNs mb/\∀x:Str,x≠"__name__"->mb x=bootBuiltins x
 nolimit:base.NoLimit
 sysm:∃o es ep,base.get? sysModules=some o/\o.data=.dict es ep
structure Cx where
 prog:Program
 w:World
 K:Fg
 mg:Str->Option Value
 base:Heap
 A:Around
 N:List Str
 s₀:Shared
 H₀:Hp
 env:Env
 outer:List Env
 stack:List Env
 ex:List Addr
 fn:Str->Bool
 calm:Bool
 pn:List (Addr×Obj)
 xe:Value->Shared->Prop
noncomputable def frs(l:List Env):List Addr:=l.filterMap (·.frame)
noncomputable abbrev Cx.fs(X:Cx):List Addr:=frs X.outer
noncomputable def Vis(sc:Scope)(x:Str):Prop:=sc.names.lookup x=some .local\/sc.names.lookup x=some .cell\/sc.names.lookup x=some .free
noncomputable def Loc(sc:Scope)(x:Str):Prop:=sc.names.lookup x=some .local\/sc.names.lookup x=some .cell
noncomputable def Look(env:Env)(h:Heap)(m:Str->Option Value)(x:Str)(u:Value):Prop:=
 (env.kindOf x=some .local/\m x=some u)\/((env.kindOf x=some .cell\/env.kindOf x=some .free)/\∃c,env.cells.lookup x=some c/\h.IsCell c (some u))
structure Cx.Ok(X:Cx):Prop where
 mod:Mod X.K X.mg X.base
 kind:X.env.scope.kind=.function
 glob:X.env.globals=mainGlobals
 blt:X.env.builtins=builtinsNs
 above:X.s₀.heap.objs.size<=X.env.locals
 inj:∀x y c,X.env.cells.lookup x=some c->X.env.cells.lookup y=some c->x=y
 has:∀x,(X.env.kindOf x=some .cell\/X.env.kindOf x=some .free)->∃c,X.env.cells.lookup x=some c
 cab:∀x c,X.fn x=true->X.env.cells.lookup x=some c->X.s₀.heap.objs.size<=c
 hd:X.calm=true->X.A.handled=none
 frames:X.A.frames=some X.stack
 stk:X.stack=X.outer\/(X.stack=X.env::X.outer/\X.env.frame=some X.env.locals)
 exf:∀b∈X.ex,b≠X.env.locals/\∀x c,X.env.cells.lookup x=some c->c≠b
 bs:∀b o,X.base.get? b=some o->X.s₀.heap.get? b=some o/\X.H₀ b=none
 bsz:X.base.objs.size<=X.s₀.heap.objs.size
 noex:∀b o,X.base.get? b=some o->b∉X.ex
 exfs:∀b∈X.ex,b∉X.fs
 funs:X.s₀.heap.FunFrames X.base X.outer
 frf:∀b∈X.fs,X.H₀ b=none
structure Inv(X:Cx)(pins:List (Addr×Obj))(σ:List (Option V))(H:Hp)(s:Shared):Prop where
 ok:X.Ok
 os:s.os=X.s₀.os
 bare:AllBare s.gens
 base:Un X.fs X.ex X.H₀ H X.s₀.heap s.heap
 loc:∃m,s.heap.Ns X.env.locals m/\∀(i:Nat)(x:Str)(v:V),X.N[i]?=some x->σ[i]?=some (some v)->Vis X.env.scope x->∃u,RelV v u/\Look X.env s.heap m x u
 cell:∀x c,X.env.cells.lookup x=some c->∃v,s.heap.IsCell c v
 free:H X.env.locals=none
 freeC:∀x c,X.env.cells.lookup x=some c->H c=none
 pin:∀p∈X.pn++pins,s.heap.get? p.1=some p.2/\H p.1=none/\p.1≠X.env.locals/\p.1∉X.fs/\∀v,p.2.data≠.cell v
 hok:HOk X.prog X.w H s.heap
 len:σ.length=X.N.length
section
variable{X:Cx}{pins:List (Addr×Obj)}{σ:List (Option V)}{H H':Hp}{s:Shared}{h':Heap}
theorem Cx.Ok.nofr(ok:X.Ok){b:Addr}{o:Obj}(e:X.base.get? b=some o):b∉X.fs:=fun hb=>by
 have:=(ok.funs.mem hb).1;rw[e]at this;cases this
theorem Inv.bs(I:Inv X pins σ H s):∀b o,X.base.get? b=some o->s.heap.get? b=some o/\H b=none:=fun b o e=>
 ⟨I.base.keep b o (I.ok.bs b o e).1 (I.ok.bs b o e).2 (I.ok.nofr e) (I.ok.noex b o e),I.base.free b o (I.ok.bs b o e).1 (I.ok.bs b o e).2 (I.ok.noex b o e)⟩
theorem Inv.bk(I:Inv X pins σ H s):∀b o,X.base.get? b=some o->s.heap.get? b=some o:=fun b o e=>(I.bs b o e).1
theorem Inv.mod(I:Inv X pins σ H s):Mod X.K X.mg X.base:=I.ok.mod
theorem Inv.kIn(I:Inv X pins σ H s):X.K.In s.heap:=I.ok.mod.kin.keeps I.bk
theorem Inv.fr(I:Inv X pins σ H s):∃m,Fr X.base X.env.locals s.heap m:=
 let⟨m,hn,_⟩:=I.loc
 ⟨m,hn,I.bk,J0 I.ok.bsz I.ok.above⟩
theorem Inv.lt(I:Inv X pins σ H s):X.env.locals<s.heap.objs.size:=let⟨_,hn,_⟩:=I.loc;hn.lt
theorem Inv.sz(I:Inv X pins σ H s):X.s₀.heap.objs.size<=s.heap.objs.size:=J0 I.ok.above (Z9 I.lt)
theorem Inv.nofs(I:Inv X pins σ H s){a:Addr}(h:s.heap.objs.size<=a):a∉X.fs:=fun hb=>by
 obtain⟨_,o,ho,_⟩:=I.ok.funs.mem hb;exact absurd (C0 (B8 ho) (J0 I.sz h)) (F6 _)
theorem Inv.cne(I:Inv X pins σ H s):∀x c,X.env.cells.lookup x=some c->c≠X.env.locals:=fun x c e z=>by
 obtain⟨v,o,ho,hd⟩:=I.cell x c e;obtain⟨m,⟨o',es,ep,ho',hd',_⟩,_⟩:=I.loc;rw[z,ho']at ho;cases ho;rw[hd']at hd;cases hd
theorem Inv.funs(I:Inv X pins σ H s):s.heap.FunFrames X.base X.outer:=by
 have all:∀(l:List Env),(∀b∈frs l,b∈X.fs)->X.s₀.heap.FunFrames X.base l->s.heap.FunFrames X.base l:=by
  intro l
  induction l with
  |nil=>intro _ _;trivial
  |cons env r ih=>
   intro hs hl;obtain⟨hk,⟨L,o,hf,hn,ho,hd⟩,hr⟩:=hl;have hL:L∈X.fs:=hs L (by unfold frs;rw[S4,hf];exact B5);obtain⟨sl,e⟩:=I.base.slot L o ho (I.ok.frf L hL) hL fun z=>I.ok.exfs L z hL;exact⟨hk,⟨L,_,hf,hn,e,hd⟩,ih (fun b hb=>hs b (by unfold frs;rw[S4,hf];exact B3 _ hb)) hr⟩
 exact all X.outer (fun _ hb=>hb) I.ok.funs
theorem Inv.stack(I:Inv X pins σ H s):s.heap.FunFrames X.base X.stack:=by
 rcases I.ok.stk with e|⟨e,hf⟩
 .rw[e];exact I.funs
 .rw[e];obtain⟨m,hn,_⟩:=I.loc;refine .cons (by rw[I.ok.kind];decide) hf hn ?_ I.funs;exact Heap.get?_none_of_le (J0 I.ok.bsz I.ok.above)
theorem Inv.stkSub(I:Inv X pins σ H s):∀b∈frs X.stack,b∈X.env.locals::X.fs:=fun b hb=>by
 rcases I.ok.stk with e|⟨e,hf⟩
 .rw[e]at hb;exact B3 _ hb
 .rw[e]at hb;unfold frs at hb;rw[S4,hf]at hb;exact hb
theorem Inv.stkFree(I:Inv X pins σ H s):∀b∈frs X.stack,H b=none:=fun b hb=>by
 rcases List.mem_cons.mp (I.stkSub b hb)with e|hb
 .rw[e];exact I.free
 .obtain⟨_,o,ho,_⟩:=I.ok.funs.mem hb;exact I.base.free b o ho (I.ok.frf b hb) fun z=>I.ok.exfs b z hb
theorem Inv.step{g':Array GenState}{t':Nat}{d':Drawn}{ch:List Addr}(I:Inv X pins σ H s)
 (hch:∀b∈ch,(b∈X.ex\/X.s₀.heap.objs.size<=b)/\b≠X.env.locals/\(∀x c,X.env.cells.lookup x=some c->c≠b)/\∀p∈X.pn++pins,p.1≠b)
 (keep:∀b o,b≠X.env.locals->b∉X.fs->b∉ch->s.heap.get? b=some o->H b=none->h'.get? b=some o)
 (slot:∀b o,b≠X.env.locals->b∈X.fs->b∉ch->s.heap.get? b=some o->H b=none->∃sl,h'.get? b=some { o with slots:=sl }) (free:∀b o,b∉ch->s.heap.get? b=some o->H b=none->H' b=none)
 (there:∀b o,b∉ch->s.heap.get? b=some o->∃o',h'.get? b=some o')
 (tups:∀b xs,H b=some (.tup xs)->H' b=some (.tup xs)) (frzs:∀b o u,H b=some (.frz o u)->H' b=some (.frz o u)) (tbls:∀b ps,H b=some (.tbl ps)->∃more,H' b=some (.tbl (ps++more)))
 (ns:∀m,s.heap.Ns X.env.locals m->h'.Ns X.env.locals m) (hok:HOk X.prog X.w H' h') (hg:AllBare g'):
 Inv X pins σ H' { s with heap:=h',gens:=g',drawn:=d',toks:=t' }:=by
 have neL:∀b o,X.s₀.heap.get? b=some o->b≠X.env.locals:=fun b o e=>D1 (C0 (B8 e) I.ok.above)
 have neC:∀b o,X.s₀.heap.get? b=some o->b∉X.ex->b∉ch:=fun b o e hx hb=>by
  rcases (hch b hb).1 with z|z
  .exact hx z
  .exact absurd (C0 (B8 e) z) (F6 _)
 have cellK:∀x c,X.env.cells.lookup x=some c->∀v,s.heap.IsCell c v->h'.IsCell c v:=fun x c e v ⟨o,ho,hd⟩=>by
  have nch:c∉ch:=fun z=>(hch c z).2.2.1 x c e rfl;by_cases hc:c∈X.fs
  .obtain⟨sl,q⟩:=slot c o (I.cne x c e) hc nch ho (I.freeC x c e);exact⟨_,q,hd⟩
  .exact⟨o,keep c o (I.cne x c e) hc nch ho (I.freeC x c e),hd⟩
 refine⟨I.ok,I.os,hg,⟨fun b o e n hb hx=>?_,fun b o e n hb hx=>?_,fun b o e n hx=>?_,fun b o e hx=>?_,fun b xs e=>tups b xs (I.base.tups b xs e),fun b o xs e=>frzs b o xs (I.base.frzs b o xs e),fun b ps e=>?_⟩,?_,fun x c e=>?_,?_,fun x c e=>?_,fun p hp=>?_,hok,I.len⟩
 .exact keep b o (neL b o e) hb (neC b o e hx) (I.base.keep b o e n hb hx) (I.base.free b o e n hx)
 .obtain⟨sl,e1⟩:=I.base.slot b o e n hb hx;obtain⟨sl',e2⟩:=slot b _ (neL b o e) hb (neC b o e hx) e1 (I.base.free b o e n hx);exact⟨sl',e2⟩
 .obtain⟨o',e1⟩:=I.base.there b o e hx;exact free b o' (neC b o e hx) e1 (I.base.free b o e n hx)
 .obtain⟨o',e1⟩:=I.base.there b o e hx;exact there b o' (neC b o e hx) e1
 .obtain⟨m1,e1⟩:=I.base.tbls b ps e;obtain⟨m2,e2⟩:=tbls b _ e1;exact⟨m1++m2,by rw[e2,Array.append_assoc]⟩
 .obtain⟨m,hn,hl⟩:=I.loc;refine⟨m,ns m hn,fun i x v e1 e2 e3=>?_⟩;obtain⟨u,r,l⟩:=hl i x v e1 e2 e3;refine⟨u,r,?_⟩;rcases l with l|⟨k,c,e,z⟩
  .exact .inl l
  .exact .inr ⟨k,c,e,cellK x c e _ z⟩
 .obtain⟨v,z⟩:=I.cell x c e;exact⟨v,cellK x c e v z⟩
 .obtain⟨m,⟨o,_,_,ho,_⟩,_⟩:=I.loc;exact free _ o (fun z=>(hch _ z).2.1 rfl) ho I.free
 .obtain⟨v,o,ho,hd⟩:=I.cell x c e;exact free c o (fun z=>(hch c z).2.2.1 x c e rfl) ho (I.freeC x c e)
 .obtain⟨e,n,ne,nf,d⟩:=I.pin p hp;have nch:p.1∉ch:=fun z=>(hch p.1 z).2.2.2 p hp rfl;exact⟨keep p.1 p.2 ne nf nch e n,free p.1 p.2 nch e n,ne,nf,d⟩
theorem Inv.un{t':Nat}(I:Inv X pins σ H s)(u:Un X.fs [] H H' s.heap h')(hok:HOk X.prog X.w H' h'):Inv X pins σ H' { s with heap:=h',toks:=t' }:=by
 obtain⟨m,⟨o,es,ep,ho,r⟩,_⟩:=id I.loc;obtain⟨sl,hL⟩:=u.any ho I.free (by simp)
 exact I.step (g':=s.gens) (d':=s.drawn) (ch:=[]) (fun _ z=>nomatch z) (fun b o _ hb _ e n=>u.keep b o e n hb (by simp)) (fun b o _ hb _ e n=>u.slot b o e n hb (by simp)) (fun b o _ e n=>u.free b o e n (by simp)) (fun b o _ e=>u.there b o e (by simp)) u.tups u.frzs u.tbls (fun m' hm=>by
  obtain⟨o',es',ep',ho',r'⟩:=hm;rw[ho]at ho';cases ho';exact⟨_,es',ep',hL,r'⟩) hok I.bare
theorem Inv.call{g':Array GenState}{t':Nat}{d':Drawn}{ch:List Addr}(I:Inv X pins σ H s)(u:Un (frs X.stack) ch H H' s.heap h')(hok:HOk X.prog X.w H' h')(hg:AllBare g')
 (hch:∀b∈ch,(b∈X.ex\/X.s₀.heap.objs.size<=b)/\b≠X.env.locals/\(∀x c,X.env.cells.lookup x=some c->c≠b)/\∀p∈X.pn++pins,p.1≠b):
 Inv X pins σ H' { s with heap:=h',gens:=g',drawn:=d',toks:=t' }:=by
 obtain⟨m,⟨o,es,ep,ho,r⟩,_⟩:=id I.loc;obtain⟨sl,hL⟩:=u.any ho I.free fun z=>(hch _ z).2.1 rfl
 exact I.step (ch:=ch) hch (fun b o hL hb hc e n=>u.keep b o e n (fun z=>(List.mem_cons.mp (I.stkSub b z)).elim hL hb) hc) (fun b o _ _ hc e n=>u.any e n hc) (fun b o hc e n=>u.free b o e n hc) (fun b o hc e=>u.there b o e hc) u.tups u.frzs u.tbls (fun m' hm=>by
  obtain⟨o',es',ep',ho',r'⟩:=hm;rw[ho]at ho';cases ho';exact⟨_,es',ep',hL,r'⟩) hok hg
theorem Inv.turned{t':Nat}{it:Addr}(I:Inv X pins σ H s)(k:∀b o,b≠it->s.heap.get? b=some o->h'.get? b=some o)(hn:H it=none)(hL:it≠X.env.locals)
 (h1:it∈X.ex\/X.s₀.heap.objs.size<=it) (h2:∀x c,X.env.cells.lookup x=some c->c≠it) (h3:∀p∈X.pn++pins,p.1≠it):Inv X pins σ H { s with heap:=h',toks:=t' }:=by
 have nit:∀b u,H b=some u->b≠it:=fun b u e z=>by rw[z,hn]at e;cases e
 refine I.step (g':=s.gens) (d':=s.drawn) (ch:=[it]) (fun b hb=>?_) (fun b o _ _ hc e _=>k b o (fun z=>hc (by simp[z])) e) (fun b o _ _ hc e _=>⟨o.slots,k b o (fun z=>hc (by simp[z])) e⟩) (fun _ _ _ _ n=>n)
  (fun b o hc e=>⟨o,k b o (fun z=>hc (by simp[z])) e⟩) (fun _ _ e=>e) (fun _ _ _ e=>e) (fun b ps e=>⟨#[],by rw[e];simp⟩) (fun m hm=>?_) (fun b u e=>?_) I.bare
 .have e:b=it:=by simpa using hb
  subst e;exact⟨h1,hL,h2,h3⟩
 .obtain⟨o,es,ep,ho,r⟩:=hm;exact⟨o,es,ep,k _ o (J9 hL) ho,r⟩
 .refine(I.hok b u e).stay (fun c v hc q=>k c v ?_ q) (fun _ q=>q) fun _ _ q=>q;rcases hc with z|z
  .rw[z];exact nit b u e
  .exact nit c _ z
theorem Inv.tok(I:Inv X pins σ H s)(t:Nat):Inv X pins σ H { s with toks:=t }:=I.un (h':=s.heap) (t':=t) Un.refl I.hok
theorem Inv.kept{t':Nat}(I:Inv X pins σ H s)(k:∀b u,s.heap.get? b=some u->h'.get? b=some u):Inv X pins σ H { s with heap:=h',toks:=t' }:=I.un (Un.kept k) (I.hok.kept k)
theorem Inv.laid{a:Addr}{o:HO}{t':Nat}(I:Inv X pins σ H s)(k:∀b u,s.heap.get? b=some u->h'.get? b=some u)(hp:s.heap.objs.size<=a)(new:dG X.prog X.w (upd H a o) h' a o):
 Inv X pins σ (upd H a o) { s with heap:=h',toks:=t' }:=I.un (Un.laid k hp (I.hok.fresh hp)) (I.hok.laid k hp new)
theorem Inv.write{x e:Addr}{o:HO}{t':Nat}(I:Inv X pins σ H s)(mu:Mut (H x))(he:e=x\/H e=some (.own x))(k:∀b u,b≠e->s.heap.get? b=some u->h'.get? b=some u)(heo:∃u,h'.get? e=some u)
 (new:dG X.prog X.w (upd H x o) h' x o):Inv X pins σ (upd H x o) { s with heap:=h',toks:=t' }:=I.un (Un.write mu he k heo) (I.hok.write mu he k heo new)
theorem Inv.pins_of{pins':List (Addr×Obj)}(I:Inv X pins σ H s)(h:∀p∈pins',s.heap.get? p.1=some p.2/\H p.1=none/\p.1≠X.env.locals/\p.1∉X.fs/\∀v,p.2.data≠.cell v):Inv X pins' σ H s:=
 ⟨I.ok,I.os,I.bare,I.base,I.loc,I.cell,I.free,I.freeC,fun p hp=>(List.mem_append.mp hp).elim (fun z=>I.pin p (D0 _ z)) (h p),I.hok,I.len⟩
theorem vA{N:List Str}(hN:N.Nodup){i j:Nat}{x:Str}(a:N[i]?=some x)(b:N[j]?=some x):i=j:=by
 obtain⟨h1,e1⟩:=List.getElem?_eq_some_iff.mp a;obtain⟨h2,e2⟩:=List.getElem?_eq_some_iff.mp b;exact(O7 hN).mp (e1.trans e2.symm)
theorem zD{M:Model}{A:Around}{E:Value->Shared->Prop}{i:Nat}{x:Str}{v:V}{u:Value}{Q:Unit->Shared->Prop}(I:Inv X pins σ H s)(hN:X.N.Nodup)(hi:X.N[i]?=some x)(hx:Loc X.env.scope x)(r:RelV v u)
 (h:∀s',Inv X pins (σ.set i (some v)) H s'->(∃a,Heap.SameBut a s.heap s'.heap/\(a=X.env.locals\/X.env.cells.lookup x=some a))->Q () s') (hf:X.fn x=true\/X.env.scope.names.lookup x=some .local:=by first|exact .inl rfl|exact .inr rfl|assumption):wpAny M A (storeName X.env x u) Q E s:=by
 obtain⟨m,hn,hl⟩:=id I.loc;have hcls:(X.env.scope.kind==.class || (X.env.scope.kind==.module&&X.env.locals != X.env.globals))=false:=by rw[I.ok.kind];rfl
 have hiσ:i<σ.length:=by rw[I.len];exact(List.getElem?_eq_some_iff.mp hi).1
 have cne:=I.cne
 have tracked:∀{a:Addr}{h':Heap},(∃o,s.heap.get? a=some o/\H a=none)->Heap.SameBut a s.heap h'->HOk X.prog X.w H h':=fun{a h'} ha hs b ob e=>by
  obtain⟨_,_,hfree⟩:=ha;refine(I.hok b ob e).stay (fun c w' hc q=>(hs.2 c ?_).trans q) (fun _ q=>q) fun _ _ q=>q;rintro rfl;rcases hc with rfl|hc
  .rw[hfree]at e;cases e
  .rw[hfree]at hc;cases hc
 rcases hx with hk|hk
 .refine wpAny_storeName_local hk hn (fun h' hn' hs=>?_) hcls;obtain⟨oL,_,_,hoL,_⟩:=id hn;refine h _ ⟨I.ok,I.os,I.bare,⟨fun b o e n hb hx=>?_,fun b o e n hb hx=>?_,I.base.free,fun b o e hx=>?_,I.base.tups,I.base.frzs,I.base.tbls⟩,⟨_,hn',fun j y v' e1 e2 e3=>?_⟩,fun y c e=>?_,I.free,I.freeC,fun p hp=>?_,tracked ⟨oL,hoL,I.free⟩ hs,by simpa using I.len⟩ ⟨_,hs,.inl rfl⟩
  .exact(hs.2 b (D1 (C0 (B8 e) I.ok.above))).trans (I.base.keep b o e n hb hx)
  .obtain⟨sl,e1⟩:=I.base.slot b o e n hb hx;exact⟨sl,(hs.2 b (D1 (C0 (B8 e) I.ok.above))).trans e1⟩
  .obtain⟨o',e1⟩:=I.base.there b o e hx;exact⟨o',(hs.2 b (D1 (C0 (B8 e) I.ok.above))).trans e1⟩
  .by_cases hj:j=i
   .subst hj;rw[hi]at e1;cases e1;rw[J1 hiσ]at e2;cases e2;exact⟨u,r,.inl ⟨hk,by simp⟩⟩
   .rw[J7 (J9 hj)]at e2;obtain⟨u',r',q⟩:=hl j y v' e1 e2 e3;refine⟨u',r',?_⟩;rcases q with⟨k,e⟩|⟨k,c,e,z⟩
    .refine .inl ⟨k,?_⟩;have:y≠x:=fun e=>hj (vA hN e1 (e▸hi));simp[this,e]
    .exact .inr ⟨k,c,e,z.sameBut hs (cne y c e)⟩
  .obtain⟨w',z⟩:=I.cell y c e;exact⟨w',z.sameBut hs (cne y c e)⟩
  .obtain⟨e,n,ne,nf,d⟩:=I.pin p hp;exact⟨(hs.2 p.1 ne).trans e,n,ne,nf,d⟩
 .have hfn:X.fn x=true:=by
   rcases hf with z|z
   .exact z
   .rw[z]at hk;cases hk
  obtain⟨c,hc⟩:=I.ok.has x (.inl hk);obtain⟨w',z⟩:=I.cell x c hc;refine wpAny_storeName_cell I.ok.kind hk hc z (fun h' hc' hs=>?_);obtain⟨oc,hoc,hocd⟩:=id z;refine h { s with heap:=h' } ⟨I.ok,I.os,I.bare,⟨fun b o e n hb hx=>?_,fun b o e n hb hx=>?_,I.base.free,fun b o e hx=>?_,I.base.tups,I.base.frzs,I.base.tbls⟩,⟨m,hn.sameBut hs (J9 (cne x c hc)),fun j y v' e1 e2 e3=>?_⟩,fun y c' e=>?_,I.free,I.freeC,fun p hp=>?_,tracked ⟨oc,hoc,I.freeC x c hc⟩ hs,by simpa using I.len⟩ ⟨c,hs,.inr hc⟩
  .exact(hs.2 b (D1 (C0 (B8 e) (I.ok.cab x c hfn hc)))).trans (I.base.keep b o e n hb hx)
  .obtain⟨sl,e1⟩:=I.base.slot b o e n hb hx;exact⟨sl,(hs.2 b (D1 (C0 (B8 e) (I.ok.cab x c hfn hc)))).trans e1⟩
  .obtain⟨o',e1⟩:=I.base.there b o e hx;exact⟨o',(hs.2 b (D1 (C0 (B8 e) (I.ok.cab x c hfn hc)))).trans e1⟩
  .by_cases hj:j=i
   .subst hj;rw[hi]at e1;cases e1;rw[J1 hiσ]at e2;cases e2;exact⟨u,r,.inr ⟨.inl hk,c,hc,hc'⟩⟩
   .rw[J7 (J9 hj)]at e2;obtain⟨u',r',q⟩:=hl j y v' e1 e2 e3;refine⟨u',r',?_⟩;rcases q with q|⟨k,c',e,z'⟩
    .exact .inl q
    .refine .inr ⟨k,c',e,z'.sameBut hs ?_⟩;rintro rfl;exact hj (vA hN e1 (I.ok.inj _ _ _ e hc▸hi))
  .by_cases hcc:c'=c
   .subst hcc;exact⟨_,hc'⟩
   .obtain⟨w2,z2⟩:=I.cell y c' e;exact⟨w2,z2.sameBut hs hcc⟩
  .obtain⟨e,n,ne,nf,d⟩:=I.pin p hp;refine⟨(hs.2 p.1 ?_).trans e,n,ne,nf,d⟩;intro q;rw[q,hoc]at e;have q':oc=p.2:=D5 e;exact d w' (by rw[<- q'];exact hocd)
theorem nW{M:Model}{A:Around}{E:Value->Shared->Prop}{i:Nat}{x:Str}{v:V}{u:Value}{Q:Unit->Shared->Prop}(I:Inv X pins σ H s)(hN:X.N.Nodup)(hi:X.N[i]?=some x)(hx:Loc X.env.scope x)(r:RelV v u)
 (h:∀s',Inv X pins (σ.set i (some v)) H s'->Q () s') (hf:X.fn x=true\/X.env.scope.names.lookup x=some .local:=by first|exact .inl rfl|exact .inr rfl|assumption):wpAny M A (storeName X.env x u) Q E s:=
 zD I hN hi hx r (fun s' I' _=>h s' I') hf
theorem Inv.call'{s':Shared}{ch:List Addr}(I:Inv X pins σ H s)(ho:s'.os=s.os)(u:Un (frs X.stack) ch H H' s.heap s'.heap)(hok:HOk X.prog X.w H' s'.heap)(hg:AllBare s'.gens)
 (hch:∀b∈ch,(b∈X.ex\/X.s₀.heap.objs.size<=b)/\b≠X.env.locals/\(∀x c,X.env.cells.lookup x=some c->c≠b)/\∀p∈X.pn++pins,p.1≠b):Inv X pins σ H' s':=by
 obtain⟨h',g',d',t',o'⟩:=s';have e:o'=s.os:=ho;subst e;exact I.call (g':=g') (t':=t') (d':=d') u hok hg hch
end
noncomputable abbrev XK:=Value->Option Addr->Hp->Prop
noncomputable abbrev St:=List (Option V)
noncomputable abbrev VK:=V->Hp->Prop
noncomputable abbrev TE:=St->Hp->VK->Prop
noncomputable abbrev TT:=St->Hp->(Bool->Hp->Prop)->Prop
noncomputable abbrev TA:=St->Hp->(List V->Hp->Prop)->Prop
structure Ends where
 nx:St->Hp->Prop
 rt:VK
 bk:St->Hp->Prop:=fun _ _=>False
 ct:St->Hp->Prop:=fun _ _=>False
noncomputable abbrev TS:=Ends->St->Hp->Prop
noncomputable def EP(X:Cx)(pins:List (Addr×Obj))(σ:St)(Q:VK)(u:Value)(s':Shared):Prop:=∃v H',Inv X pins σ H' s'/\RelV v u/\Q v H'
noncomputable def TP(X:Cx)(pins:List (Addr×Obj))(σ:St)(Q:Bool->Hp->Prop)(b:Bool)(s':Shared):Prop:=∃H',Inv X pins σ H' s'/\Q b H'
noncomputable def AP(X:Cx)(pins:List (Addr×Obj))(σ:St)(Q:List V->Hp->Prop)(us:List Value)(s':Shared):Prop:=∃vs H',Inv X pins σ H' s'/\aV vs us/\Q vs H'
noncomputable def SP(X:Cx)(pins:List (Addr×Obj))(D:Ends)(f:Flow)(s':Shared):Prop:=
 match f with
 |.next=>∃σ' H',Inv X pins σ' H' s'/\D.nx σ' H'
 |.brk=>∃σ' H',Inv X pins σ' H' s'/\D.bk σ' H'
 |.cont=>∃σ' H',Inv X pins σ' H' s'/\D.ct σ' H'
 |.ret u=>∃v σ' H',Inv X pins σ' H' s'/\RelV v u/\D.rt v H'
noncomputable def PE(X:Cx)(e:Expr)(t:TE):Prop:=
 ∀(pins:List (Addr×Obj))(s:Shared)(σ:St)(H:Hp)(Q:VK),Inv X pins σ H s->t σ H Q->wpAny (model X.prog X.w) X.A (eval e X.env) (EP X pins σ Q) X.xe s
noncomputable def PT(X:Cx)(e:Expr)(t:TT):Prop:=
 ∀(pins:List (Addr×Obj))(s:Shared)(σ:St)(H:Hp)(Q:Bool->Hp->Prop),Inv X pins σ H s->t σ H Q->wpAny (model X.prog X.w) X.A (isTrue e X.env (eval e X.env)) (TP X pins σ Q) X.xe s
noncomputable def PW(X:Cx)(e:Expr)(t:TT):Prop:=
 ∀(whole:Sem Value)(pins:List (Addr×Obj))(s:Shared)(σ:St)(H:Hp)(Q:Bool->Hp->Prop),Inv X pins σ H s->t σ H Q->wpAny (model X.prog X.w) X.A (isTrue e X.env whole) (TP X pins σ Q) X.xe s
theorem PW.pt{X:Cx}{e:Expr}{t:TT}(h:PW X e t):PT X e t:=h _
noncomputable def PA(X:Cx)(es:List Expr)(t:TA):Prop:=
 ∀(pos:Pos)(pins:List (Addr×Obj))(s:Shared)(σ:St)(H:Hp)(Q:List V->Hp->Prop),Inv X pins σ H s->t σ H Q->wpAny (model X.prog X.w) X.A (spliced (backTo pos (starEach es X.env))) (AP X pins σ Q) X.xe s
noncomputable def PS(X:Cx)(st:Stmt)(t:TS):Prop:=
 ∀(pins:List (Addr×Obj))(s:Shared)(σ:St)(H:Hp)(D:Ends),Inv X pins σ H s->t D σ H->wpAny (model X.prog X.w) X.A (exec st X.env) (SP X pins D) X.xe s
noncomputable def PSs(X:Cx)(st:List Stmt)(t:TS):Prop:=
 ∀(pins:List (Addr×Obj))(s:Shared)(σ:St)(H:Hp)(D:Ends),Inv X pins σ H s->t D σ H->wpAny (model X.prog X.w) X.A (execs st X.env) (SP X pins D) X.xe s
theorem thn{α:Type}{t:Sem α}{Q Q':α->Shared->Prop}{M:Model}{E:Value->Shared->Prop}{s:Shared}(h:wpAny M A t Q E s)(hQ:∀a s,Q a s->Q' a s):wpAny M A t Q' E s:=L5 h hQ fun _ _ x=>x
section
variable{X:Cx}
theorem bin{a b:Expr}{ta tb:TE}(ha:PE X a ta)(hb:PE X b tb){pins:List (Addr×Obj)}{R:V->V->Hp->Prop}(I:Inv X pins σ H s)(h:ta σ H fun x H1=>tb σ H1 fun y H2=>R x y H2)
 {α:Type} {Q:α->Shared->Prop} {f:Value->Value->Sem α}
 (hf:∀v u s2 x y H2,Inv X pins σ H2 s2->RelV x v->RelV y u->R x y H2->wpAny (model X.prog X.w) X.A (f v u) Q X.xe s2):
 wpAny (model X.prog X.w) X.A (eval a X.env) (fun v s₁=>wpAny (model X.prog X.w) X.A (eval b X.env) (fun u s₂=>wpAny (model X.prog X.w) X.A (f v u) Q X.xe s₂) X.xe s₁) X.xe s:=by
 refine thn (ha pins s σ H _ I h) fun v s1 ⟨x,H1,I1,r1,q1⟩=>?_;refine thn (hb pins s1 σ H1 _ I1 q1) fun u s2 ⟨y,H2,I2,r2,q2⟩=>?_;exact hf v u s2 x y H2 I2 r1 r2 q2
noncomputable def aHd(i:Nat):TE:=fun σ H Q=>∃v,σ[i]?=some (some v)/\Q v H
noncomputable def tC(v:V):TE:=fun _ H Q=>Q v H
theorem aEy{i:Nat}{x:Str}(hN:X.N[i]?=some x)(hv:Vis X.env.scope x)(hd:(x==("__debug__":Str))=false:=by decide)(hcd:(x==("__classdict__":Str))=false:=by decide):PE X (.Name x pos) (aHd i):=by
 intro pins s σ H Q I h;obtain⟨v,e,h⟩:=h;obtain⟨m,hn,hl⟩:=I.loc;obtain⟨u,r,l⟩:=hl i x v hN e hv;have fin:EP X pins σ Q u s:=⟨v,H,I,r,h⟩;rcases l with⟨hk,hm⟩|⟨hk,c,hc,hcell⟩
 .exact wpAny_Name (wpAny_loadName_local I.ok.kind hk hn hm fin) hd
 .rcases hk with hk|hk
  .exact wpAny_Name (wpAny_loadName_cell I.ok.kind hk hc hcell fin) hd
  .exact wpAny_Name (wpAny_loadName_free I.ok.kind hk hc hcell fin hcd) hd
theorem aDv{i j pos}:PE X (.Constant (.int i) j pos) (tC (.int i)):=fun _ _ _ H _ I h=>wpAny_Constant_int ⟨.int i,H,I.tok _,⟨_,rfl⟩,h⟩
theorem aFW{b j pos}:PE X (.Constant (.bool b) j pos) (tC (.bl b)):=fun _ _ _ H _ I h=>Constant_bool ⟨.bl b,H,I,rfl,h⟩
theorem aEm{j pos}:PE X (.Constant .none j pos) (tC .non):=fun _ _ _ H _ I h=>Constant_none ⟨.non,H,I,rfl,h⟩
theorem aDz{x j pos}:PE X (.Constant (.str x) j pos) (tC (.str x)):=fun _ _ _ H _ I h=>Calls.Constant_str ⟨.str x,H,I.tok _,⟨_,rfl⟩,h⟩
noncomputable def Gl(X:Cx)(x:Str):Prop:=X.env.kindOf x=some .globalImplicit
theorem qP{E:Value->Shared->Prop}{pins:List (Addr×Obj)}{x:Str}{u:Value}{pos:Pos}{Q:Value->Shared->Prop}(I:Inv X pins σ H s)(hg:Gl X x)(hm:X.mg x=some u)(h:Q u s)
 (hd:(x==("__debug__":Str))=false:=by decide):wpAny (model X.prog X.w) X.A (eval (.Name x pos) X.env) Q E s:=
 Calls.Name_function_global I.ok.kind hg (Calls.loadGlobal_global (by rw[I.ok.glob];exact I.mod.glob.keeps I.bk) hm h) hd
theorem hZ{E:Value->Shared->Prop}{pins:List (Addr×Obj)}{x:Str}{u:Value}{pos:Pos}{Q:Value->Shared->Prop}(I:Inv X pins σ H s)(hg:Gl X x)(hm:X.mg x=none)(hv:bootBuiltins x=some u)(h:Q u s)
 (hn:x≠"__name__":=by decide) (hd:(x==("__debug__":Str))=false:=by decide):wpAny (model X.prog X.w) X.A (eval (.Name x pos) X.env) Q E s:=by
 obtain⟨mb,h1,h2⟩:=I.mod.blt;exact Calls.Name_function_global I.ok.kind hg (Calls.loadGlobal_builtin (by rw[I.ok.glob];exact I.mod.glob.keeps I.bk) hm (by rw[I.ok.blt];exact h1.keeps I.bk) ((h2 x hn).trans hv) h) hd
theorem IT{x:Str}{v:V}{u:Value}(hg:Gl X x)(hm:X.mg x=some u)(r:RelV v u)(hd:(x==("__debug__":Str))=false:=by decide):PE X (.Name x pos) (tC v):=
 fun _ _ _ H _ I h=>qP I hg hm ⟨v,H,I,r,h⟩ hd
theorem uG{x:Str}{v:V}{u:Value}(hg:Gl X x)(hm:X.mg x=none)(hv:bootBuiltins x=some u)(r:RelV v u)(hn:x≠"__name__":=by decide)(hd:(x==("__debug__":Str))=false:=by decide):PE X (.Name x pos) (tC v):=
 fun _ _ _ H _ I h=>hZ I hg hm hv ⟨v,H,I,r,h⟩ hn hd
variable{a b:Expr}{ta tb:TE}{pos:Pos}
noncomputable def PC(X:Cx)(op:CmpOp)(a b:Expr)(t:TE):Prop:=
 ∀(pins:List (Addr×Obj))(s:Shared)(σ:St)(H:Hp)(Q:VK),Inv X pins σ H s->t σ H Q->
  wpAny (model X.prog X.w) X.A (eval a X.env) (fun v s₁=>wpAny (model X.prog X.w) X.A (eval b X.env) (fun u s₂=>wpAny (model X.prog X.w) X.A (compareOp op v u) (EP X pins σ Q) X.xe s₂) X.xe s₁) X.xe s
theorem WT(b:Expr){op:CmpOp}(h:op≠.In)(h2:op≠.NotIn):behindInMarks op b=false:=by
 have e1:(op==CmpOp.In)=false:=by cases op<;>first|rfl|exact absurd rfl h
 have e2:(op==CmpOp.NotIn)=false:=by cases op<;>first|rfl|exact absurd rfl h2
 cases b<;>simp[behindInMarks,e1,e2]
noncomputable def tB(t:TE):TT:=fun σ H Q=>t σ H fun x H1=>∃c,x=.bl c/\Q c H1
theorem VZ{op:CmpOp}{t:TE}(h:PC X op a b t)(h1:behindInMarks op b=false:=by first|exact WT _ (by decide) (by decide)|rfl):PT X (.Compare a [op] [b] pos) (tB t):=by
 intro pins s σ H Q I hw;refine wpAny_isTrue_Compare1 (thn (h pins s σ H _ I hw) fun v s1 h1=>thn h1 fun u s2 h2=>thn h2 fun c s3 ⟨x,H1,I1,r1,q1⟩=>?_) h1;obtain⟨d,rfl,q⟩:=q1;cases r1;exact O5 ⟨H1,I1,q⟩
theorem aDP{e:Expr}{t:TE}(h:PE X e t)(he:∀whole,isTrue e X.env whole=(do let v <- whole;standAt e.pos;holding [v] (truthy v)):=by intro _;rfl):PT X e (tB t):=by
 intro pins s σ H Q I hw;refine isTrue_plain (thn (h pins s σ H _ I hw) fun v s1 ⟨x,H1,I1,r1,q1⟩=>?_) (he _);obtain⟨d,rfl,q⟩:=q1;cases r1;exact O5 ⟨H1,I1,q⟩
variable{tA tB':TT}{rest:List Expr}
noncomputable def aGx(t u:TT):TT:=fun σ H Q=>t σ H fun c H1=>if c=true then u σ H1 Q else Q false H1
noncomputable def tOr(t u:TT):TT:=fun σ H Q=>t σ H fun c H1=>if c=true then Q true H1 else u σ H1 Q
noncomputable def aGJ(t:TT):TT:=fun σ H Q=>t σ H fun c H1=>Q (!c) H1
theorem aAJ(ha:PT X a tA):PW X (.BoolOp .And [a] pos) tA:=by
 intro wh pins s σ H Q I h;refine isTrue_and (thn (ha pins s σ H Q I h) fun c s1 e=>?_);cases c with
 |true=>exact isTrue_and_nil e
 |false=>exact e
theorem aEU(ha:PT X a tA):PW X (.BoolOp .Or [a] pos) tA:=by
 intro wh pins s σ H Q I h;refine isTrue_or (thn (ha pins s σ H Q I h) fun c s1 e=>?_);cases c with
 |false=>exact isTrue_or_nil e
 |true=>exact e
theorem aCH(ha:PT X a tA)(hb:PW X (.BoolOp .And (b::rest) pos) tB'):PW X (.BoolOp .And (a::b::rest) pos) (aGx tA tB'):=by
 intro wh pins s σ H Q I h;refine isTrue_and (thn (ha pins s σ H _ I h) fun c s1 ⟨H1,I1,q1⟩=>?_);cases c with
 |true=>exact hb wh pins s1 σ H1 Q I1 q1
 |false=>exact⟨H1,I1,q1⟩
theorem aGg(ha:PT X a tA)(hb:PW X (.BoolOp .Or (b::rest) pos) tB'):PW X (.BoolOp .Or (a::b::rest) pos) (tOr tA tB'):=by
 intro wh pins s σ H Q I h;refine isTrue_or (thn (ha pins s σ H _ I h) fun c s1 ⟨H1,I1,q1⟩=>?_);cases c with
 |true=>exact⟨H1,I1,q1⟩
 |false=>exact hb wh pins s1 σ H1 Q I1 q1
theorem aDE(ha:PT X a tA):PT X (.UnaryOp .Not a pos) (aGJ tA):=by
 intro pins s σ H Q I h;exact isTrue_not (ha pins s σ H (fun c H1=>Q (!c) H1) I h)
noncomputable def aBA(ta tb:TE):TE:=fun σ H Q=>ta σ H fun x H1=>∃c,x=.bl c/\if c=true then tb σ H1 Q else Q (.bl false) H1
noncomputable def aBD(ta:TE):TE:=fun σ H Q=>ta σ H fun x H1=>∃c,x=.bl c/\Q (.bl (!c)) H1
theorem aDr{op}{t:TE}(h:PE X a t):PE X (.BoolOp op [a] pos) t:=fun pins s σ H Q I hw=>BoolOp_one (h pins s σ H Q I hw)
theorem aEF(ha:PE X a ta)(hb:PE X (.BoolOp .And (b::rest) pos) tb):PE X (.BoolOp .And (a::b::rest) pos) (aBA ta tb):=by
 intro pins s σ H Q I h;refine BoolOp_and (thn (ha pins s σ H _ I h) fun v s1 ⟨x,H1,I1,r1,q1⟩=>?_);obtain⟨c,rfl,q1⟩:=q1;cases r1;refine O5 ?_;cases c with
 |true=>exact hb pins s1 σ H1 Q I1 q1
 |false=>exact⟨.bl false,H1,I1,rfl,q1⟩
theorem aCW(ha:PE X a ta):PE X (.UnaryOp .Not a pos) (aBD ta):=by
 intro pins s σ H Q I h;refine UnaryOp_ (thn (ha pins s σ H _ I h) fun v s1 ⟨x,H1,I1,r1,q1⟩=>?_);obtain⟨c,rfl,q1⟩:=q1;cases r1;exact not_of (O5 ⟨.bl (!c),H1,I1,rfl,q1⟩)
end
noncomputable def SqL(K:Fg)(H:Hp)(a:Addr)(xs:List V):Prop:=
 Rd H a (.lst xs) \/
  ∃(o:Obj)(its:Array Value)(n:Nat),K.lookup a=some o/\o.cls=.type "list"/\o.dict=none/\o.data=.seq its n/\its.size<=sizeLine/\aV xs its.toList
noncomputable def SqT(K:Fg)(H:Hp)(a:Addr)(xs:List V):Prop:=
 Rd H a (.tup xs) \/
  ∃(o:Obj)(its:Array Value)(n:Nat),K.lookup a=some o/\o.cls=.type "tuple"/\o.data=.seq its n/\its.size<=sizeLine/\aV xs its.toList
noncomputable def aHo:Value->Option V
 |.none=>some .non
 |.bool b=>some (.bl b)
 |.int i _=>some (.int i)
 |.str x _=>some (.str x)
 |.bytes b _=>some (.byt b)
 |.float b _=>some (.flt b)
 |.ref a=>some (.ref a)
 |.type n=>some (.ty n)
 |_=>none
theorem RelV.abs{x:V}{u:Value}(r:RelV x u):aHo u=some x:=by
 cases x with
 |non=>cases r;rfl
 |bl _=>cases r;rfl
 |int _=>obtain⟨t,rfl⟩:=r;rfl
 |str _=>obtain⟨t,rfl⟩:=r;rfl
 |byt _=>obtain⟨t,rfl⟩:=r;rfl
 |flt _=>obtain⟨t,rfl⟩:=r;rfl
 |ref _=>cases r;rfl
 |ty _=>cases r;rfl
theorem RelV.inj{x y:V}{u:Value}(r:RelV x u)(q:RelV y u):x=y:=D5 (r.abs.symm.trans q.abs)
theorem aV.inj:∀{xs ys:List V}{us:List Value},aV xs us->aV ys us->xs=ys
 |_,_,_,.nil,.nil=>rfl
 |_,_,_,.cons r t,.cons r' t'=>by rw[r.inj r',aV.inj t t']
section
variable{X:Cx}{pins:List (Addr×Obj)}{σ:St}{H:Hp}{s:Shared}{a:Addr}{xs ys:List V}
theorem SqL.of(h:H a=some (.lst xs)):SqL K H a xs:=.inl (.inl h)
theorem SqT.of(h:H a=some (.tup xs)):SqT K H a xs:=.inl (.inl h)
theorem Inv.list(I:Inv X pins σ H s)(h:SqL X.K H a xs):∃its:List Value,aV xs its/\PlainL s.heap a its.toArray/\xs.length<=sizeLine:=by
 rcases h with h|⟨o,its,n,hk,hc,hd,hs,hz,r⟩
 .obtain⟨z,its,n,r,e⟩:=h.ok I.hok;exact⟨its,r,⟨_,n,e,rfl,rfl,rfl⟩,z⟩
 .refine⟨its.toList,r,⟨o,n,I.kIn a o hk,hc,hd,by simpa using hs⟩,?_⟩;have e:=r.length;simp only[Array.length_toList]at e;omega
theorem Inv.tuple(I:Inv X pins σ H s)(h:SqT X.K H a xs):∃its:List Value,aV xs its/\IsTup s.heap a its.toArray/\xs.length<=sizeLine:=by
 rcases h with h|⟨o,its,n,hk,hc,hs,hz,r⟩
 .obtain⟨z,its,r,p⟩:=h.ok I.hok;exact⟨its,r,p,z⟩
 .refine⟨its.toList,r,⟨o,I.kIn a o hk,hc,n,by simpa using hs⟩,?_⟩;have e:=r.length;simp only[Array.length_toList]at e;omega
theorem Inv.list_inj(I:Inv X pins σ H s)(h:SqL X.K H a xs)(h':SqL X.K H a ys):xs=ys:=by
 obtain⟨its,r,⟨o,n,e,_,_,d⟩,_⟩:=I.list h;obtain⟨its',r',⟨o',n',e',_,_,d'⟩,_⟩:=I.list h';rw[e]at e';cases e';rw[d]at d';injection d' with d1 _
 have:its=its':=by simpa using E9 Array.toList d1
 subst this;exact r.inj r'
theorem Inv.tuple_inj(I:Inv X pins σ H s)(h:SqT X.K H a xs)(h':SqT X.K H a ys):xs=ys:=by
 obtain⟨its,r,⟨o,e,_,n,d⟩,_⟩:=I.tuple h;obtain⟨its',r',⟨o',e',_,n',d'⟩,_⟩:=I.tuple h';rw[e]at e';cases e';rw[d]at d';injection d' with d1 _
 have:its=its':=by simpa using E9 Array.toList d1
 subst this;exact r.inj r'
end
noncomputable abbrev Cx.wish(X:Cx)(E:Value->Shared->Prop):Cx:={ X with xe:=E }
noncomputable abbrev Cx.nox(X:Cx):Cx:=X.wish fun _ _=>False
theorem Cx.Ok.wish{X:Cx}(ok:X.Ok)(E:Value->Shared->Prop):(X.wish E).Ok:=
 ⟨ok.mod,ok.kind,ok.glob,ok.blt,ok.above,ok.inj,ok.has,ok.cab,ok.hd,ok.frames,ok.stk,ok.exf,ok.bs,ok.bsz,ok.noex,ok.exfs,ok.funs,ok.frf⟩
theorem Cx.Ok.unwish{X:Cx}{E:Value->Shared->Prop}(ok:(X.wish E).Ok):X.Ok:=
 ⟨ok.mod,ok.kind,ok.glob,ok.blt,ok.above,ok.inj,ok.has,ok.cab,ok.hd,ok.frames,ok.stk,ok.exf,ok.bs,ok.bsz,ok.noex,ok.exfs,ok.funs,ok.frf⟩
section
variable{X:Cx}{pins:List (Addr×Obj)}{σ:St}{H:Hp}{s:Shared}{E:Value->Shared->Prop}
theorem Inv.wish(I:Inv X pins σ H s)(E:Value->Shared->Prop):Inv (X.wish E) pins σ H s:=⟨I.ok.wish E,I.os,I.bare,I.base,I.loc,I.cell,I.free,I.freeC,I.pin,I.hok,I.len⟩
theorem Inv.unwish(I:Inv (X.wish E) pins σ H s):Inv X pins σ H s:=⟨I.ok.unwish,I.os,I.bare,I.base,I.loc,I.cell,I.free,I.freeC,I.pin,I.hok,I.len⟩
theorem SP.unwish{D:Ends}{f:Flow}{s':Shared}(h:SP (X.wish E) pins D f s'):SP X pins D f s':=by
 cases f with
 |next=>obtain⟨σ',H',I,q⟩:=h;exact⟨σ',H',I.unwish,q⟩
 |brk=>obtain⟨σ',H',I,q⟩:=h;exact⟨σ',H',I.unwish,q⟩
 |cont=>obtain⟨σ',H',I,q⟩:=h;exact⟨σ',H',I.unwish,q⟩
 |ret u=>obtain⟨v,σ',H',I,r,q⟩:=h;exact⟨v,σ',H',I.unwish,r,q⟩
theorem PSs.nox{st:List Stmt}{t:TS}(h:PSs X.nox st t):PSs X st t:=fun pins s σ H D I hw=>
 L5 (h pins s σ H D (I.wish _) hw) (fun _ _ q=>q.unwish) fun _ _ z=>False.elim z
end
section
variable{X:Cx}{st:Stmt}{rest:List Stmt}{t u:TS}{e:Expr}{te:TE}{pos:Pos}
noncomputable def aCf:TS:=fun D σ H=>D.nx σ H
noncomputable def aCw(t u:TS):TS:=fun D σ H=>t { D with nx:=u D } σ H
theorem ZT:PSs X [] aCf:=fun _ _ σ H _ I h=>A0c ⟨σ,H,I,h⟩
theorem CN(h1:PS X st t)(h2:PSs X rest u):PSs X (st::rest) (aCw t u):=by
 intro pins s σ H D I h;refine wpAny_execs_cons (thn (h1 pins s σ H { D with nx:=u D } I h) fun f s1 q=>?_);cases f with
 |next=>
  obtain⟨σ',H',I',q⟩:=q;exact h2 pins s1 σ' H' D I' q
 |ret v=>exact q
 |brk=>exact q
 |cont=>exact q
theorem IV(h1:PS X st t):PSs X [st] t:=by
 intro pins s σ H D I h;refine wpAny_execs_cons (thn (h1 pins s σ H D I h) fun f s1 q=>?_);cases f with
 |next=>exact A0c q
 |ret v=>exact q
 |brk=>exact q
 |cont=>exact q
theorem Inv.quiet{pins:List (Addr×Obj)}(I:Inv X pins σ H s):interactive X.env=false:=by simp[interactive,I.ok.kind]
noncomputable def RM(te:TE):TS:=fun D σ H=>te σ H fun _ H1=>D.nx σ H1
theorem KH(he:PE X e te)(hs:swapsWith e none pos.line X.env=pure false:=by rfl):PS X (.Expr e pos) (RM te):=by
 intro pins s σ H D I h;exact wpAny_Expr_any (thn (he pins s σ H _ I h) fun v s1 ⟨x,H1,I1,r1,q1⟩=>⟨σ,H1,I1,q1⟩) I.quiet hs
noncomputable def aFS(te:TE):TS:=fun D σ H=>te σ H D.rt
theorem aEh(he:PE X e te):PS X (.Return (some e) pos) (aFS te):=by
 intro pins s σ H D I h;exact wpAny_Return_some (thn (he pins s σ H _ I h) fun v s1 ⟨x,H1,I1,r1,q1⟩=>⟨x,σ,H1,I1,r1,q1⟩)
noncomputable def aCr(c:TT)(t u:TS):TS:=fun D σ H=>c σ H fun b H1=>if b=true then t D σ H1 else u D σ H1
theorem aCg{c:Expr}{a b:List Stmt}{tc:TT}(hc:PT X c tc)(ha:PSs X a t)(hb:PSs X b u):PS X (.If c a b pos) (aCr tc t u):=by
 intro pins s σ H D I h;refine wpAny_If (thn (hc pins s σ H _ I h) fun d s1 ⟨H1,I1,q1⟩=>?_);cases d with
 |true=>exact ha pins s1 σ H1 D I1 q1
 |false=>exact hb pins s1 σ H1 D I1 q1
end
noncomputable abbrev TG:=V->St->Hp->(St->Hp->Prop)->Prop
noncomputable abbrev TGs:=List V->St->Hp->(St->Hp->Prop)->Prop
noncomputable def PG(X:Cx)(target:Expr)(t:TG):Prop:=
 ∀(pins:List (Addr×Obj))(s:Shared)(σ:St)(H:Hp)(v:V)(u:Value)(Q:St->Hp->Prop),Inv X pins σ H s->RelV v u->t v σ H Q->
  wpAny (model X.prog X.w) X.A (assign target X.env u) (fun _ s'=>∃σ' H',Inv X pins σ' H' s'/\Q σ' H') X.xe s
noncomputable def PGs(X:Cx)(ts:List Expr)(t:TGs):Prop:=
 ∀(pins:List (Addr×Obj))(s:Shared)(σ:St)(H:Hp)(vs:List V)(us:List Value)(Q:St->Hp->Prop),Inv X pins σ H s->aV vs us->t vs σ H Q->
  wpAny (model X.prog X.w) X.A (assignInOrder ((assignEach ts X.env).map (·.2)) us) (fun _ s'=>∃σ' H',Inv X pins σ' H' s'/\Q σ' H') X.xe s
noncomputable abbrev aAM:=V->V->V->Hp->(Hp->Prop)->Prop
noncomputable def aDL(X:Cx)(t:aAM):Prop:=
 ∀(pins:List (Addr×Obj))(s:Shared)(σ:St)(H:Hp)(o i v:V)(ov iv u:Value)(Q:Hp->Prop),Inv X pins σ H s->RelV o ov->RelV i iv->RelV v u->t o i v H Q->
  wpAny (model X.prog X.w) X.A (setItem ov iv u) (fun _ s'=>∃H',Inv X pins σ H' s'/\Q H') X.xe s
section
variable{X:Cx}{pos:Pos}
noncomputable def ES(i:Nat):TG:=fun v σ H Q=>Q (σ.set i (some v)) H
theorem aAc{i:Nat}{x:Str}(hN:X.N.Nodup)(hi:X.N[i]?=some x)(hx:Loc X.env.scope x)(hf:X.fn x=true\/X.env.scope.names.lookup x=some .local:=by first|exact .inl rfl|exact .inr rfl|assumption):PG X (.Name x pos) (ES i):=by
 intro pins s σ H v u Q I r h;exact wpAny_assign_Name (nW I hN hi hx r (fun s' I'=>⟨_,H,I',h⟩) hf)
noncomputable def aGV:TGs:=fun vs σ H Q=>vs=[]/\Q σ H
noncomputable def aBT(t:TG)(u:TGs):TGs:=fun vs σ H Q=>∃v r,vs=v::r/\t v σ H fun σ' H'=>u r σ' H' Q
theorem ZK:PGs X [] aGV:=by
 intro pins s σ H vs us Q I r h;obtain⟨e,h⟩:=h;subst e;cases r;exact assignInOrder_nil ⟨σ,H,I,h⟩
theorem UV{e:Expr}{es:List Expr}{t:TG}{u:TGs}(h1:PG X e t)(h2:PGs X es u)
 (hs:(assignEach (e::es) X.env).map (·.2)=assign e X.env::(assignEach es X.env).map (·.2):=by rfl):PGs X (e::es) (aBT t u):=by
 intro pins s σ H vs us Q I r h;obtain⟨v,vr,e1,h⟩:=h;subst e1;cases r with
 |cons r rr=>
  rw[hs];refine assignInOrder_cons (thn (h1 pins s σ H _ _ _ I r h) fun _ s1 ⟨σ1,H1,I1,q1⟩=>?_);exact h2 pins s1 σ1 H1 _ _ Q I1 rr q1
noncomputable def aDW(K:Fg)(n:Nat)(t:TGs):TG:=fun v σ H Q=>∃a xs,v=.ref a/\SqT K H a xs/\xs.length=n/\t xs σ H Q
theorem aEz{es:List Expr}{k:Nat}{t:TGs}{n:Nat}(hc:X.calm=true)(h:PGs X es t)
 (hn:(assignEach es X.env).length=n:=by rfl) (hst:(assignEach es X.env).findIdx? (·.1)=none:=by rfl):PG X (.Tuple es k pos) (aDW X.K n t):=by
 intro pins s σ H v u Q I r hw;obtain⟨a,xs,e1,hq,hl,hw⟩:=hw;subst e1;cases r;obtain⟨its,rv,ht,hz⟩:=I.tuple hq;refine assign_Tuple_tuple (I.ok.hd hc) ht (by simp[hn,<- hl,rv.length]) hst fun h' hx=>?_;have I1:Inv X pins σ H { s with heap:=h' }:=I.kept (t':=s.toks) fun b o e=>hx b o (D1 (B8 e)) e;exact h pins _ σ H xs _ Q I1 (by simpa using rv) hw
noncomputable def aGr(to ti:TE)(t:aAM):TG:=fun v σ H Q=>to σ H fun o H1=>ti σ H1 fun i H2=>t o i v H2 fun H3=>Q σ H3
theorem aCG{o i:Expr}{to ti:TE}{t:aAM}(ho:PE X o to)(hi:PE X i ti)(hs:aDL X t)
 (ha:∀v,assign (.Subscript o i pos) X.env v=(do
  let ov <- holding [v] (eval o X.env);let iv <- holding [v,ov] (eval i X.env)
  standAt pos
  holding [v,ov,iv] (setItem ov iv v)
  release [v,ov,iv] []):=by intro _;rfl):PG X (.Subscript o i pos) (aGr to ti t):=by
 intro pins s σ H v u Q I r h;rw[ha];refine A4 (L4 (thn (ho pins s σ H _ I h) fun ov s1 ⟨x,H1,I1,r1,q1⟩=>?_));refine A4 (L4 (thn (hi pins s1 σ H1 _ I1 q1) fun iv s2 ⟨y,H2,I2,r2,q2⟩=>?_));refine A4 (wpAny_standAt (A4 (L4 (thn (hs pins s2 σ H2 x y v ov iv u _ I2 r1 r2 r q2) fun _ s3 ⟨H3,I3,q3⟩=>?_))));exact wpAny_release ⟨σ,H3,I3,q3⟩
noncomputable def aAD(te:TE)(g:TG):TS:=fun D σ H=>te σ H fun x H1=>g x σ H1 D.nx
theorem aEZ{tg e:Expr}{te:TE}{g:TG}(he:PE X e te)(hg:PG X tg g)(hs:swapsWithSole [tg] e pos.line X.env=pure false:=by rfl)(hw:swappedStores [tg] e X.env=pure none:=by rfl)
 (h1:(assignEach [tg] X.env).map (·.2)=[assign tg X.env]:=by rfl):PS X (.Assign [tg] e pos) (aAD te g):=by
 intro pins s σ H D I h;refine wpAny_Assign_stores (thn (he pins s σ H _ I h) fun v s1 ⟨x,H1,I1,r1,q1⟩=>?_) hs hw;rw[h1];exact thn (hg pins s1 σ H1 x v _ I1 r1 q1) fun _ s2 q=>q
theorem aDV{i:Nat}{x:Str}{e:Expr}{te:TE}{pos':Pos}(hN:X.N.Nodup)(hi:X.N[i]?=some x)(hx:Loc X.env.scope x)(he:PE X e te)(hs:swapsWith e (some (.Name x pos')) pos.line X.env=pure false:=by rfl)(hf:X.fn x=true\/X.env.scope.names.lookup x=some .local:=by first|exact .inl rfl|exact .inr rfl|assumption):
 PS X (.Assign [.Name x pos'] e pos) (aAD te (ES i)):=by
 intro pins s σ H D I h;refine wpAny_Assign_Name (thn (he pins s σ H _ I h) fun v s1 ⟨y,H1,I1,r1,q1⟩=>?_) hs;exact nW I1 hN hi hx r1 (fun s2 I2=>⟨_,H1,I2,q1⟩) hf
noncomputable def aGm(i j:Nat)(ta:TA):TS:=fun D σ H=>ta σ H fun vs H1=>∃v w,vs=[v,w]/\D.nx ((σ.set i (some v)).set j (some w)) H1
theorem aCV{i j:Nat}{x y:Str}{a b:Expr}{ta:TA}{px py pt:Pos}{kt k2 pt2}(hc:X.calm=true)(hN:X.N.Nodup)(hi:X.N[i]?=some x)(hj:X.N[j]?=some y)(hij:i≠j)
 (hx:X.env.scope.names.lookup x=some .local) (hy:X.env.scope.names.lookup y=some .local) (ha:PA X [a,b] ta)
 (hw:swappedStores [.Tuple [.Name x px,.Name y py] kt pt] (.Tuple [a,b] k2 pt2) X.env=pure (some [x,y]))
 (hs:swapsWithSole [.Tuple [.Name x px,.Name y py] kt pt] (.Tuple [a,b] k2 pt2) pos.line X.env=pure false:=by rfl):
 PS X (.Assign [.Tuple [.Name x px,.Name y py] kt pt] (.Tuple [a,b] k2 pt2) pos) (aGm i j ta):=by
 intro pins s σ H D I h;rw[exec_Assign_arm];refine A4 (wpAny_standAt ?_);rw[hs];refine A4 (B7 ?_);rw[B0 (by decide)];refine A4 (Tuple_ (thn (ha _ pins s σ H _ I h) fun us s1 ⟨vs,H1,I1,r1,q1⟩=>?_));obtain⟨v,w,e1,q1⟩:=q1;subst e1
 obtain⟨u1,u2,rfl,rv,rw'⟩:∃u1 u2,us=[u1,u2]/\RelV v u1/\RelV w u2:=by
  cases r1 with
  |cons p q=>
   cases q with
   |cons p' q'=>
    cases q';exact⟨_,_,rfl,p,p'⟩
 refine D9 ?_ (by show 2<=sizeLine;decide);have I2:Inv X pins σ H1 { s1 with heap:=s1.heap.push { cls:=.type "tuple",data:=.seq [u1,u2].toArray } }:=I1.kept (t':=s1.toks) fun b o e=>A6 _ e;rw[hw];refine A4 (B7 ?_);show wpAny (model X.prog X.w) X.A (do rule "assign.swapped-stores";let items <- unpackItems (.ref s1.heap.objs.size) 2 none;assignInOrder [fun v=>bindName X.env y v,fun v=>bindName X.env x v] items.reverse;pure Flow.next) _ _ _;refine A4 (wpAny_rule (A4 (unpackItems_tuple (items:=#[u1,u2]) (I.ok.hd hc) (IsTup.new s1.heap _) fun h' hx'=>?_)));have I3:=I2.kept (h':=h') (t':=s1.toks) fun b o e=>hx' b o (D1 (B8 e)) e;show wpAny _ _ (assignInOrder [fun v=>bindName X.env y v,fun v=>bindName X.env x v] [u2,u1] >>= fun _=>pure Flow.next) _ _ _;refine A4 (assignInOrder_cons (wpAny_bindName (nW I3 hN hj (.inl hy) rw' (fun s2 I4=>?_) (.inr hy))));refine assignInOrder_cons (wpAny_bindName (nW I4 hN hi (.inl hx) rv (fun s3 I5=>assignInOrder_nil (B7 ?_)) (.inr hx)));rw[List.set_comm _ _ (J9 hij)]at I5;exact⟨_,H1,I5,q1⟩
end
section
variable{X:Cx}{pos:Pos}
noncomputable def WX(c:TT)(tb:TS):TS:=fun D σ H=>∃W:Nat->St->Hp->Prop,(∃m,W m σ H)/\∀m σ H,W m σ H->
 c σ H fun b H1=>if b=true then ∃N:St->Hp->Prop,(∀σ' H',N σ' H'->∃m',m'<m/\W m' σ' H')/\tb { D with nx:=N,ct:=N,bk:=D.nx } σ H1 else D.nx σ H1
theorem RX{c:Expr}{body:List Stmt}{tc:TT}{tb:TS}(hp:PassesOwn (model X.prog X.w) X.A X.env X.xe)(hc:PT X c tc)(hb:PSs X body tb):PS X (.While c body [] pos) (WX tc tb):=by
 intro pins s σ H D I h;obtain⟨W,⟨m0,w0⟩,turn⟩:=h;refine wpAny_While (codeAny_whileLoop (fun n s'=>∃σ' H',Inv X pins σ' H' s'/\W n σ' H') ?_ m0 ⟨σ,H,I,w0⟩);rintro n s1 ⟨σ1,H1,I1,w1⟩;refine U8 hp (thn (hc pins s1 σ1 H1 _ I1 (turn n σ1 H1 w1)) fun b s2 ⟨H2,I2,q2⟩=>?_);cases b with
 |true=>
  obtain⟨N,hN,q2⟩:=q2;rw[A7 rfl];refine U8 hp (thn (hb pins s2 σ1 H2 _ I2 q2) fun f s3 q3=>?_);cases f with
  |next=>
   obtain⟨σ3,H3,I3,n3⟩:=q3;obtain⟨m',hm,w3⟩:=hN σ3 H3 n3;exact⟨m',hm,σ3,H3,I3,w3⟩
  |cont=>
   obtain⟨σ3,H3,I3,n3⟩:=q3;obtain⟨m',hm,w3⟩:=hN σ3 H3 n3;exact⟨m',hm,σ3,H3,I3,w3⟩
  |brk=>exact q3
  |ret v=>exact q3
 |false=>
  rw[B0 B2];exact A0c ⟨σ1,H2,I2,q2⟩
end
structure It where
 go:Nat->Hp->Prop
 yld:Nat->Hp->V->Hp->Prop
 stop:Nat->Hp->Prop
noncomputable def qU(X:Cx)(pins:List (Addr×Obj))(H:Hp)(b:Addr):Prop:=
 H b=none/\b≠X.env.locals/\b∉X.fs/\(b∈X.ex\/X.s₀.heap.objs.size<=b)/\(∀x c,X.env.cells.lookup x=some c->c≠b)/\∀p∈X.pn++pins,p.1≠b
theorem Inv.fpOk{X:Cx}{pins:List (Addr×Obj)}{H':Hp}{b:Addr}(I:Inv X pins σ H s)(hb:s.heap.objs.size<=b)(hn:H' b=none):qU X pins H' b:=by
 refine⟨hn,Nat.ne_of_gt (C0 I.lt hb),I.nofs hb,.inr (J0 I.sz hb),fun x c e z=>?_,fun p hp z=>?_⟩
 .obtain⟨v,q⟩:=I.cell x c e;exact absurd (C0 q.lt (by rw[z];exact hb)) (F6 _)
 .exact absurd (C0 (B8 (I.pin p hp).1) (by rw[z];exact hb)) (F6 _)
structure Turn(P:Program)(w:World)(K:Fg)(tg:Expr)(J:It)(fp:List Addr)(it:Addr)(tn:Nat->Heap->Prop):Prop where
 mem:it∈fp
 obj:∀i h,tn i h->∀b∈fp,∃o,h.get? b=some o/\∀v,o.data≠.cell v
 keep:∀i h h',tn i h->(∀b∈fp,∀o,h.get? b=some o->h'.get? b=some o)->tn i h'
 item:∀(X:Cx),X.prog=P->X.w=w->X.K=K->X.calm=true->∀(i:Nat)(pins:List (Addr×Obj))(s:Shared)(σ:St)(H:Hp)(E:Value->Shared->Prop),Inv X pins σ H s->(∀b∈fp,qU X pins H b)->tn i s.heap->J.go i H->
  wpAny (model P w) X.A (pyNext (.ref it)) (fun r s1=>∃u,r=some u /\
   wpAny (model P w) X.A (letOwnedTupleGo tg (.ref it) u) (fun _ s2=>∃x H',Inv X pins σ H' s2/\RelV x u/\J.yld i H x H'/\tn (i+1) s2.heap/\∀b∈fp,H' b=none) E s1) E s
 done:∀(X:Cx),X.prog=P->X.w=w->X.K=K->X.calm=true->∀(i:Nat)(pins:List (Addr×Obj))(s:Shared)(σ:St)(H:Hp)(E:Value->Shared->Prop),Inv X pins σ H s->(∀b∈fp,qU X pins H b)->tn i s.heap->J.stop i H->
  wpAny (model P w) X.A (pyNext (.ref it)) (fun r s1=>r=none/\Inv X pins σ H s1) E s
 self:∀(A:Around)(i:Nat)(s:Shared)(Q:Value->Shared->Prop)(E:Value->Shared->Prop),tn i s.heap->Q (.ref it) s->wpAny (model P w) A (pyIter (.ref it)) Q E s
noncomputable abbrev TI:=St->Hp->(It->Hp->Prop)->Prop
noncomputable def PIE(X:Cx)(pins:List (Addr×Obj))(σ:St)(tg:Expr)(R:It->Hp->Prop)(itv:Value)(s2:Shared):Prop:=
 ∃(it:Addr)(fp:List Addr)(tn:Nat->Heap->Prop)(J:It)(H':Hp),itv=.ref it/\Inv X pins σ H' s2/\Turn X.prog X.w X.K tg J fp it tn/\tn 0 s2.heap/\(∀b∈fp,qU X pins H' b)/\R J H'
noncomputable def PI(X:Cx)(tg iter:Expr)(wi:TI):Prop:=
 ∀(pins:List (Addr×Obj))(s:Shared)(σ:St)(H:Hp)(R:It->Hp->Prop),Inv X pins σ H s->wi σ H R->
  wpAny (model X.prog X.w) X.A (eval iter X.env) (fun v s1=>wpAny (model X.prog X.w) X.A (pyIter v) (PIE X pins σ tg R) X.xe s1) X.xe s
theorem TB{M:Model}{A:Around}{E:Value->Shared->Prop}{tg:Expr}{it:Addr}{u:Value}{o:Obj}{n:String}{vs:Array Value}{Q:Unit->Shared->Prop}(ho:s.heap.get? it=some o)(hc:o.cls=.type n)(hd:o.data=.fields vs)
 (hn:["enumerate","zip","dict_itemiterator","dict_reverseitemiterator","odict_iterator","itertools.zip_longest","itertools.pairwise"].contains n=false) (hQ:Q () s):wpAny M A (letOwnedTupleGo tg (.ref it) u) Q E s:=by
 unfold letOwnedTupleGo
 cases tg<;>first
  |exact B7 hQ
  |(cases u<;>first
   |exact B7 hQ
   | (refine A4 (wpAny_load ho ?_)
      rw[hc,hd];show wpAny M A (if (["enumerate","zip","dict_itemiterator","dict_reverseitemiterator","odict_iterator","itertools.zip_longest","itertools.pairwise"].contains n&&vs[0]?==some (rawInt _))=true then _ else _) Q E s;rw[B0 (by intro h;rw[hn,U9]at h;cases h)];exact B7 hQ))
noncomputable def Itl(K:Fg)(a:Addr):It:=
 ⟨fun i H=>∃xs x,SqL K H a xs/\xs[i]?=some x,fun i H x H'=>H'=H/\∀xs,SqL K H a xs->xs[i]?=some x,fun i H=>∃xs,SqL K H a xs/\xs.length<=i⟩
noncomputable def Itt(K:Fg)(a:Addr):It:=
 ⟨fun i H=>∃xs x,SqT K H a xs/\xs[i]?=some x,fun i H x H'=>H'=H/\∀xs,SqT K H a xs->xs[i]?=some x,fun i H=>∃xs,SqT K H a xs/\xs.length<=i⟩
noncomputable def Itr(lo:Int)(n:Nat):It:=⟨fun i _=>i<n,fun i H x H'=>H'=H/\x=.int (lo+i),fun i _=>n<=i⟩
theorem OD{P:Program}{w:World}{tg:Expr}(a it:Addr):Turn P w K tg (Itl K a) [it] it (fun i h=>h.IsListIter it a i) where
 mem:=by simp
 obj:=fun i h st b hb=>by
  have e:b=it:=by simpa using hb
  subst e;obtain⟨o,e,c,d⟩:=st;exact⟨o,e,fun v z=>by rw[d]at z;cases z⟩
 keep:=fun i h h' st k=>st.at fun o e=>k it (by simp) o e
 item:=by
  intro X hP hw hK hc i pins s σ H E I hf st hg;subst hP hw hK;obtain⟨xs,x,hq,hx⟩:=hg;obtain⟨its,rv,p,hz⟩:=I.list hq;obtain⟨u,hu,ru⟩:=rv.get hx;obtain⟨f0,f1,f2,f3,f4,f5⟩:=hf it (by simp);refine wpAny_pyNext_list_item st p.isList (x:=u) (by simpa using hu) fun h' st' sb=>?_;have I1:Inv X pins σ H { s with heap:=h' }:=I.turned (t':=s.toks) (fun b o hb e=>(sb.2 b hb).trans e) f0 f1 f3 f4 f5;obtain⟨o,e,c,d⟩:=id st';exact⟨u,rfl,TB (s:={ s with heap:=h' }) e c d (by decide) ⟨x,H,I1,ru,⟨rfl,fun ys hy=>by rw[I.list_inj hy hq];exact hx⟩,st',fun b hb=>(hf b hb).1⟩⟩
 done:=by
  intro X hP hw hK hc i pins s σ H E I hf st hg;subst hP hw hK;obtain⟨xs,hq,hx⟩:=hg;obtain⟨its,rv,p,hz⟩:=I.list hq;obtain⟨f0,f1,f2,f3,f4,f5⟩:=hf it (by simp);have hl:=rv.length;exact wpAny_pyNext_list_end (I.ok.hd hc) st p.isList (by simp;omega) fun h' eb=>⟨rfl,I.turned (t':=s.toks) (fun b o hb e=>eb b o hb e) f0 f1 f3 f4 f5⟩
 self:=fun _ _ _ _ _ st h=>wpAny_pyIter_listiter st h
theorem HC{P:Program}{w:World}{tg:Expr}(a it:Addr):Turn P w K tg (Itt K a) [it] it (fun i h=>h.IsTupleIter it a i) where
 mem:=by simp
 obj:=fun i h st b hb=>by
  have e:b=it:=by simpa using hb
  subst e;obtain⟨o,e,c,d⟩:=st;exact⟨o,e,fun v z=>by rw[d]at z;cases z⟩
 keep:=fun i h h' st k=>st.at fun o e=>k it (by simp) o e
 item:=by
  intro X hP hw hK hc i pins s σ H E I hf st hg;subst hP hw hK;obtain⟨xs,x,hq,hx⟩:=hg;obtain⟨its,rv,p,hz⟩:=I.tuple hq;obtain⟨u,hu,ru⟩:=rv.get hx;obtain⟨f0,f1,f2,f3,f4,f5⟩:=hf it (by simp);refine wpAny_pyNext_tuple_item st (show s.heap.IsTuple a its.toArray from p) (x:=u) (by simpa using hu) fun h' st' sb=>?_;have I1:Inv X pins σ H { s with heap:=h' }:=I.turned (t':=s.toks) (fun b o hb e=>(sb.2 b hb).trans e) f0 f1 f3 f4 f5;obtain⟨o,e,c,d⟩:=id st';exact⟨u,rfl,TB (s:={ s with heap:=h' }) e c d (by decide) ⟨x,H,I1,ru,⟨rfl,fun ys hy=>by rw[I.tuple_inj hy hq];exact hx⟩,st',fun b hb=>(hf b hb).1⟩⟩
 done:=by
  intro X hP hw hK hc i pins s σ H E I hf st hg;subst hP hw hK;obtain⟨xs,hq,hx⟩:=hg;obtain⟨its,rv,p,hz⟩:=I.tuple hq;obtain⟨f0,f1,f2,f3,f4,f5⟩:=hf it (by simp);have hl:=rv.length;exact wpAny_pyNext_tuple_end (I.ok.hd hc) st (show s.heap.IsTuple a its.toArray from p) (by simp;omega) fun h' eb=>⟨rfl,I.turned (t':=s.toks) (fun b o hb e=>eb b o hb e) f0 f1 f3 f4 f5⟩
 self:=fun _ _ _ _ _ st h=>wpAny_pyIter_tupleiter st h
theorem GY{P:Program}{w:World}{tg:Expr}(it:Addr)(lo:Int)(n:Nat):Turn P w K tg (Itr lo n) [it] it (fun i h=>IsRangeIter h it (lo+(i:Nat)*1) ((n:Int)-(i:Nat)) 1) where
 mem:=by simp
 obj:=fun i h st b hb=>by
  have e:b=it:=by simpa using hb
  subst e
  exact⟨_,st,fun v z=>by
   have z':Data.fields _=Data.cell v:=z;cases z'⟩
 keep:=fun i h h' st k=>k it (by simp) _ st
 item:=by
  intro X hP hw hK hc i pins s σ H E I hf st hg;subst hP hw hK;obtain⟨f0,f1,f2,f3,f4,f5⟩:=hf it (by simp);have W:=Walks.range (prog:=X.prog) (w:=X.w) (I.ok.hd hc) it lo 1 n;refine W.item i s _ _ hg st fun v h' tk hv st' kk=>?_;obtain⟨t,rfl⟩:=hv;have I1:Inv X pins σ H { s with heap:=h',toks:=tk }:=I.turned (fun b o hb e=>kk b o (by simpa using hb) e) f0 f1 f3 f4 f5;refine⟨_,rfl,TB (s:={ s with heap:=h',toks:=tk }) (n:="range_iterator") st' rfl rfl (by decide) ⟨.int (lo+i),H,I1,⟨t,?_⟩,⟨rfl,rfl⟩,st',fun b hb=>(hf b hb).1⟩⟩;rw[Int.mul_one]
 done:=by
  intro X hP hw hK hc i pins s σ H E I hf st hg;subst hP hw hK;obtain⟨f0,f1,f2,f3,f4,f5⟩:=hf it (by simp);exact wpAny_pyNext_range_end (I.ok.hd hc) st (by have:n<=i:=hg;omega) fun h' eb=>⟨rfl,I.turned (t':=s.toks) (fun b o hb e=>eb b o hb e) f0 f1 f3 f4 f5⟩
 self:=fun _ _ _ _ _ st h=>wpAny_pyIter_rangeiter st h
section
variable{X:Cx}{tg:Expr}
theorem DU{pins:List (Addr×Obj)}{R:It->Hp->Prop}{E:Value->Shared->Prop}{lo hi:Int}{t u v:Tok}{tk:Nat}(I:Inv X pins σ H s)(h1:-(2 ^ 62)<=lo)(h2:lo<2 ^ 62)(h3:-(2 ^ 62)<=hi)(h4:hi<2 ^ 62)
 (q:R (Itr lo (hi-lo).toNat) H):wpAny (model X.prog X.w) X.A (pyIter (.ref s.heap.objs.size)) (PIE X pins σ tg R) E { s with heap:=s.heap.push { cls:=.type "range",data:=.fields #[.int lo t,.int hi u,.int 1 v] },toks:=tk }:=by
 refine wpAny_pyIter_range (IsRange.new ..) (small_one h1 h2 h3 h4) ?_;have I1:Inv X pins σ H { s with heap:=s.heap.push { cls:=.type "range",data:=.fields #[.int lo t,.int hi u,.int 1 v] },toks:=tk }:=I.kept fun b o e=>A6 _ e
 refine⟨(s.heap.push { cls:=.type "range",data:=.fields #[.int lo t,.int hi u,.int 1 v] }).objs.size,[(s.heap.push { cls:=.type "range",data:=.fields #[.int lo t,.int hi u,.int 1 v] }).objs.size],_,_,H,rfl,
  I1.kept (t':=tk) fun b o e=>A6 _ e,GY _ lo (hi-lo).toNat,?_,fun b hb=>?_,q⟩
 .have e1:lo+((0:Nat):Int)*1=lo:=by simp
  have e2:(((hi-lo).toNat:Nat):Int)-((0:Nat):Int)=Builtin.Range.rangeSize lo hi 1:=by rw[rangeSize_one];split<;>omega
  show IsRangeIter _ _ (lo+((0:Nat):Int)*1) ((((hi-lo).toNat:Nat):Int)-((0:Nat):Int)) 1;rw[e1,e2];exact D2 _ rfl
 .have e:b=(s.heap.push { cls:=.type "range",data:=.fields #[.int lo t,.int hi u,.int 1 v] }).objs.size:=by simpa using hb
  subst e;exact I1.fpOk (B1 _) (I1.hok.fresh (B1 _))
noncomputable def aCi(ta:TA):TI:=fun σ H R=>ta σ H fun vs H1=>∃j:Int,vs=[.int j]/\-(2 ^ 62)<=j/\j<2 ^ 62/\R (Itr 0 j.toNat) H1
noncomputable def aBF(ta:TA):TI:=fun σ H R=>ta σ H fun vs H1=>∃i j:Int,vs=[.int i,.int j]/\(-(2 ^ 62)<=i/\i<2 ^ 62/\-(2 ^ 62)<=j/\j<2 ^ 62)/\R (Itr i (j-i).toNat) H1
theorem LJ{a:Expr}{ta:TA}{p:Pos}(hg:Gl X "range")(hm:X.mg "range"=none)(ha:PA X [a] ta)(hs:starEach [a] X.env=[(false,eval a X.env)]:=by rfl):PI X tg (.Call (.Name "range" p) [a] [] pos) (aCi ta):=by
 intro pins s σ H R I h;refine Call_ (hZ I hg hm boot_range (E1 (thn (ha pos pins s σ H _ I h) fun us s1 ⟨vs,H1,I1,r1,q1⟩=>?_) hs rfl));obtain⟨j,e,q1,q2,q⟩:=q1;subst e;cases r1 with
 |cons r rr=>
  cases rr;obtain⟨t,rfl⟩:=r;exact call_range_1 (DU I1 (by omega) (by omega) q1 q2 (by simpa using q))
theorem NI{a b:Expr}{ta:TA}{p pos:Pos}(hg:Gl X "range")(hm:X.mg "range"=none)(ha:PA X [a,b] ta)(hs:starEach [a,b] X.env=[(false,eval a X.env),(false,eval b X.env)]:=by rfl)(hs2:starEach [b] X.env=[(false,eval b X.env)]:=by rfl):
 PI X tg (.Call (.Name "range" p) [a,b] [] pos) (aBF ta):=by
 intro pins s σ H R I h;refine Call_ (hZ I hg hm boot_range (E1 (thn (ha pos pins s σ H _ I h) fun us s1 ⟨vs,H1,I1,r1,q1⟩=>?_) (by rw[hs,hs2]) (by rw[hs2];rfl)));obtain⟨i,j,e,⟨q1,q2,q3,q4⟩,q⟩:=q1;subst e;cases r1 with
 |cons r rr=>
  cases rr with
  |cons r' rr=>
   cases rr;obtain⟨t,rfl⟩:=r;obtain⟨t',rfl⟩:=r';exact call_range_2 (DU I1 q1 q2 q3 q4 q)
noncomputable def aDC(wi:TI)(g:TG)(tb:TS):TS:=fun D σ H=>wi σ H fun J H1=>∃W:Nat->Nat->St->Hp->Prop,(∃m,W 0 m σ H1)/\∀i m σ H,W i m σ H->
 (J.stop i H/\D.nx σ H)\/(J.go i H/\∃N:St->Hp->Prop,(∀σ' H',N σ' H'->∃m',m'<m/\W (i+1) m' σ' H')/\∀x H',J.yld i H x H'->g x σ H' fun σ2 H2=>tb { D with nx:=N,ct:=N,bk:=D.nx } σ2 H2)
noncomputable def uI(fp:List Addr)(h:Heap):List (Addr×Obj):=fp.filterMap fun b=>(h.get? b).map fun o=>(b,o)
theorem lO{fp:List Addr}{h:Heap}{b:Addr}{o:Obj}(hb:b∈fp)(e:h.get? b=some o):(b,o)∈uI fp h:=List.mem_filterMap.mpr ⟨b,hb,by rw[e];rfl⟩
theorem NW{fp:List Addr}{h:Heap}{p:Addr×Obj}(hp:p∈uI fp h):p.1∈fp/\h.get? p.1=some p.2:=by
 obtain⟨b,hb,e⟩:=List.mem_filterMap.mp hp;cases q:h.get? b with
 |none=>rw[q]at e;cases e
 |some o=>
  rw[q]at e;have e':(b,o)=p:=D5 e;subst e';exact⟨hb,q⟩
theorem Inv.pinned{pins:List (Addr×Obj)}{fp:List Addr}(I:Inv X pins σ H s)(hf:∀b∈fp,qU X pins H b)(ho:∀b∈fp,∃o,s.heap.get? b=some o/\∀v,o.data≠.cell v):Inv X (pins++uI fp s.heap) σ H s:=
 I.pins_of fun p hp=>(List.mem_append.mp hp).elim (fun z=>I.pin p (C5 _ z)) fun z=>by
  obtain⟨hb,e⟩:=NW z;obtain⟨f0,f1,f2,_⟩:=hf p.1 hb;obtain⟨o,e',d⟩:=ho p.1 hb;rw[e]at e';cases e';exact⟨e,f0,f1,f2,d⟩
theorem Inv.unpinned{pins pl:List (Addr×Obj)}(I:Inv X (pins++pl) σ H s):Inv X pins σ H s:=I.pins_of fun p hp=>I.pin p (C5 _ (D0 _ hp))
theorem QW{iter:Expr}{body:List Stmt}{wi:TI}{g:TG}{tb:TS}{pos:Pos}(hp:PassesOwn (model X.prog X.w) X.A X.env X.xe)(hc:X.calm=true)(hi:PI X tg iter wi)(hg:PG X tg g)(hb:PSs X body tb)
 (hs:∀x,foldedSetIterable iter X.env x=pure x:=by intro _;rfl):PS X (.For tg iter body [] pos) (aDC wi g tb):=by
 intro pins s σ H D I h;refine wpAny_For (thn (hi pins s σ H _ I h) fun v s1 h1=>thn h1 fun itv s2 h2=>?_) hs;obtain⟨it,fp,tn,J,H2,e,I2,T,st2,f2,W,⟨m0,w0⟩,turn⟩:=h2;subst e;have stat:∀{H':Hp},(∀b∈fp,H' b=none)->∀b∈fp,qU X pins H' b:=fun hn b hb=>⟨hn b hb,(f2 b hb).2⟩;refine codeAny_forLoop_any (fun n s'=>∃i σ' H',Inv X pins σ' H' s'/\tn i s'.heap/\(∀b∈fp,H' b=none)/\W i n σ' H') ?_ m0 ⟨0,σ,H2,I2,st2,fun b hb=>(f2 b hb).1,w0⟩;rintro n s3 ⟨i,σ3,H3,I3,st3,fr3,w3⟩;rcases turn i n σ3 H3 w3 with⟨stop,qn⟩|⟨go,N,hN,step⟩
 .refine U8 hp (thn (T.done X rfl rfl rfl hc i pins s3 σ3 H3 X.xe I3 (stat fr3) st3 stop) fun r s4 ⟨hr,I4⟩=>?_);subst hr;exact A0c ⟨σ3,H3,I4,qn⟩
 .refine U8 hp (thn (T.item X rfl rfl rfl hc i pins s3 σ3 H3 X.xe I3 (stat fr3) st3 go) fun r s4 ⟨u,hr,h4⟩=>?_);subst hr;refine U8 hp (thn h4 fun _ s5 ⟨x,H5,I5,r5,y5,st5,fr5⟩=>?_);have I5':=I5.pinned (stat fr5) (T.obj _ _ st5);refine U8 hp (thn (hg _ s5 σ3 H5 x u _ I5' r5 (step x H5 y5)) fun _ s6 ⟨σ6,H6,I6,q6⟩=>?_);refine U8 hp (thn (hb _ s6 σ6 H6 _ I6 q6) fun f s7 q7=>?_)
  have again:∀{σ7:St}{H7:Hp},Inv X (pins++uI fp s5.heap) σ7 H7 s7->N σ7 H7->∃m,m<n/\∃i σ' H',Inv X pins σ' H' s7/\tn i s7.heap/\(∀b∈fp,H' b=none)/\W i m σ' H':=fun{σ7 H7} I7 n7=>by
   obtain⟨m',hm,w7⟩:=hN σ7 H7 n7;refine⟨m',hm,i+1,σ7,H7,I7.unpinned,T.keep _ _ _ st5 fun b hb o e=>(I7.pin (b,o) (C5 _ (C5 _ (lO hb e)))).1,fun b hb=>?_,w7⟩;obtain⟨o,e,d⟩:=T.obj _ _ st5 b hb;exact(I7.pin (b,o) (C5 _ (C5 _ (lO hb e)))).2.1
  cases f with
  |next=>obtain⟨σ7,H7,I7,n7⟩:=q7;exact again I7 n7
  |cont=>obtain⟨σ7,H7,I7,n7⟩:=q7;exact again I7 n7
  |brk=>obtain⟨σ7,H7,I7,q7⟩:=q7;exact⟨σ7,H7,I7.unpinned,q7⟩
  |ret v=>obtain⟨x7,σ7,H7,I7,r7,q7⟩:=q7;exact⟨x7,σ7,H7,I7.unpinned,r7,q7⟩
end
noncomputable abbrev R2:=V->V->Hp->VK->Prop
noncomputable def OpR(X:Cx)(f:Value->Value->Sem Value)(r:R2):Prop:=
 ∀(pins:List (Addr×Obj))(s:Shared)(σ:St)(H:Hp)(x y:V)(v u:Value)(Q:VK),Inv X pins σ H s->RelV x v->RelV y u->r x y H Q->
  wpAny (model X.prog X.w) X.A (f v u) (EP X pins σ Q) X.xe s
noncomputable def UnR(X:Cx)(f:Value->Sem Value)(r:V->Hp->VK->Prop):Prop:=
 ∀(pins:List (Addr×Obj))(s:Shared)(σ:St)(H:Hp)(x:V)(v:Value)(Q:VK),Inv X pins σ H s->RelV x v->r x H Q->
  wpAny (model X.prog X.w) X.A (f v) (EP X pins σ Q) X.xe s
noncomputable def dO(X:Cx)(f:Value)(r:List V->Hp->VK->Prop):Prop:=
 ∀(pins:List (Addr×Obj))(s:Shared)(σ:St)(H:Hp)(xs:List V)(us:List Value)(Q:VK),Inv X pins σ H s->aV xs us->r xs H Q->
  wpAny (model X.prog X.w) X.A (call f us) (EP X pins σ Q) X.xe s
noncomputable def aHq(X:Cx)(r:V->Hp->(Bool->Hp->Prop)->Prop):Prop:=
 ∀(pins:List (Addr×Obj))(s:Shared)(σ:St)(H:Hp)(x:V)(v:Value)(Q:Bool->Hp->Prop),Inv X pins σ H s->RelV x v->r x H Q->
  wpAny (model X.prog X.w) X.A (truthy v) (TP X pins σ Q) X.xe s
noncomputable def tOp(r:R2)(ta tb:TE):TE:=fun σ H Q=>ta σ H fun x H1=>tb σ H1 fun y H2=>r x y H2 Q
noncomputable def tUn(r:V->Hp->VK->Prop)(ta:TE):TE:=fun σ H Q=>ta σ H fun x H1=>r x H1 Q
noncomputable def rI(C:Int->Int->Prop)(g:Int->Int->V):R2:=fun x y H Q=>∃i j,x=.int i/\y=.int j/\C i j/\Q (g i j) H
noncomputable def rI0(g:Int->Int->V):R2:=fun x y H Q=>∃i j,x=.int i/\y=.int j/\Q (g i j) H
noncomputable def rU(g:Int->V):V->Hp->VK->Prop:=fun x H Q=>∃i,x=.int i/\Q (g i) H
section
variable{X:Cx}{a b c:Expr}{ta tb tc:TE}{pos:Pos}
theorem aFs(ha:PE X a ta)(hb:PE X b tb){pins:List (Addr×Obj)}{R:V->V->Hp->Prop}(I:Inv X pins σ H s)
 (h:ta σ H fun x H1=>tb σ H1 fun y H2=>R x y H2) {Q:Value->Shared->Prop} {f:Value->Value->Sem Value}
 (hf:∀v u s2 x y H2,Inv X pins σ H2 s2->RelV x v->RelV y u->R x y H2->wpAny (model X.prog X.w) X.A (f v u) Q X.xe s2):
 wpAny (model X.prog X.w) X.A (eval a X.env) (fun v s₁=>wpAny (model X.prog X.w) X.A (eval b X.env) (fun u s₂=>wpAny (model X.prog X.w) X.A (f v u) Q X.xe s₂) X.xe s₁) X.xe s:=by
 refine thn (ha pins s σ H _ I h) fun v s1 ⟨x,H1,I1,r1,q1⟩=>?_;refine thn (hb pins s1 σ H1 _ I1 q1) fun u s2 ⟨y,H2,I2,r2,q2⟩=>?_;exact hf v u s2 x y H2 I2 r1 r2 q2
theorem aGT{op:Operator}{r:R2}(ho:OpR X (binaryOp op) r)(ha:PE X a ta)(hb:PE X b tb):PE X (.BinOp a op b pos) (tOp r ta tb):=by
 intro pins s σ H Q I h;exact wpAny_BinOp (aFs ha hb I h fun v u s2 x y H2 I2 rx ry q=>ho pins s2 σ H2 x y v u Q I2 rx ry q)
theorem aGd{op:UnaryOp}{r:V->Hp->VK->Prop}(ho:UnR X (unaryOp op) r)(ha:PE X a ta):PE X (.UnaryOp op a pos) (tUn r ta):=by
 intro pins s σ H Q I h;exact UnaryOp_ (thn (ha pins s σ H _ I h) fun v s1 ⟨x,H1,I1,r1,q1⟩=>ho pins s1 σ H1 x v Q I1 r1 q1)
theorem opI{f:Value->Value->Sem Value}{C:Int->Int->Prop}{g:Int->Int->Int}
 (rule:∀(i j:Int)(t u:Tok)(s:Shared)(Q:Value->Shared->Prop)(E:Value->Shared->Prop),C i j->Q (.int (g i j) s.toks) { s with toks:=s.toks+1 }->wpAny (model X.prog X.w) X.A (f (.int i t) (.int j u)) Q E s):
 OpR X f (rI C fun i j=>.int (g i j)):=by
 intro pins s σ H x y v u Q I rx ry h;obtain⟨i,j,rfl,rfl,hc,q⟩:=h;obtain⟨t,rfl⟩:=rx;obtain⟨t',rfl⟩:=ry;exact rule i j t t' s _ _ hc ⟨.int (g i j),H,I.tok _,⟨_,rfl⟩,q⟩
theorem aHk{f:Value->Value->Sem Value}{g:Int->Int->Int}
 (rule:∀(i j:Int)(t u:Tok)(s:Shared)(Q:Value->Shared->Prop)(E:Value->Shared->Prop),Q (.int (g i j) s.toks) { s with toks:=s.toks+1 }->wpAny (model X.prog X.w) X.A (f (.int i t) (.int j u)) Q E s):
 OpR X f (rI0 fun i j=>.int (g i j)):=by
 intro pins s σ H x y v u Q I rx ry h;obtain⟨i,j,rfl,rfl,q⟩:=h;obtain⟨t,rfl⟩:=rx;obtain⟨t',rfl⟩:=ry;exact rule i j t t' s _ _ ⟨.int (g i j),H,I.tok _,⟨_,rfl⟩,q⟩
theorem YR{f:Value->Value->Sem Value}{g:Int->Int->Bool}
 (rule:∀(i j:Int)(t u:Tok)(s:Shared)(Q:Value->Shared->Prop)(E:Value->Shared->Prop),Q (.bool (g i j)) s->wpAny (model X.prog X.w) X.A (f (.int i t) (.int j u)) Q E s):
 OpR X f (rI0 fun i j=>.bl (g i j)):=by
 intro pins s σ H x y v u Q I rx ry h;obtain⟨i,j,rfl,rfl,q⟩:=h;obtain⟨t,rfl⟩:=rx;obtain⟨t',rfl⟩:=ry;exact rule i j t t' s _ _ ⟨.bl (g i j),H,I,rfl,q⟩
noncomputable def aGX(i j:Int):Prop:=0<=j/\j<=1000000/\i.natAbs<2 ^ 64
noncomputable def aDy(i j:Int):Prop:=(-(2 ^ 64)<i/\i<2 ^ 64)\/(-(2 ^ 64)<j/\j<2 ^ 64)
theorem aDy.ok{i j:Int}(h:aDy i j):IntMulOk i j:=by
 rcases h with⟨h1,h2⟩|⟨h1,h2⟩
 .exact .of_left (intBits_le_64 h1 h2)
 .exact .of_right (intBits_le_64 h1 h2)
theorem op_add:OpR X (binaryOp .Add) (rI0 fun i j=>.int (i+j)):=aHk fun _ _ _ _ _ _ _ q=>add_int q
theorem aDq:OpR X (binaryOp .Sub) (rI0 fun i j=>.int (i-j)):=aHk fun _ _ _ _ _ _ _ q=>sub_int q
theorem aFe:OpR X (binaryOp .Mod) (rI (fun _ j=>0<j) fun i j=>.int (i % j)):=opI fun i j _ _ _ _ _ hc q=>by
 have h1:(0:Int)<j:=hc;exact mod_int' (by omega) (by rw[Int.fmod_eq_emod_of_nonneg i (by omega)];exact q)
theorem aCA:OpR X (binaryOp .Pow) (rI aGX fun i j=>.int (i ^ j.toNat)):=opI fun _ _ _ _ _ _ _ hc q=>pow_int_small hc.1 hc.2.1 hc.2.2 q
theorem unI{f:Value->Sem Value}{g:Int->Int}
 (rule:∀(i:Int)(t:Tok)(s:Shared)(Q:Value->Shared->Prop)(E:Value->Shared->Prop),Q (.int (g i) s.toks) { s with toks:=s.toks+1 }->wpAny (model X.prog X.w) X.A (f (.int i t)) Q E s):
 UnR X f (rU fun i=>.int (g i)):=by
 intro pins s σ H x v Q I rx h;obtain⟨i,rfl,q⟩:=h;obtain⟨t,rfl⟩:=rx;exact rule i t s _ _ ⟨.int (g i),H,I.tok _,⟨_,rfl⟩,q⟩
theorem aDO:UnR X (unaryOp .USub) (rU fun i=>.int (-i)):=unI fun _ _ _ _ _ q=>neg_int q
end
noncomputable def aHj:V->V->Bool
 |.non,.non=>true|.non,.int _=>true|.int _,.non=>true|.non,.bl _=>true|.bl _,.non=>true|.non,.str _=>true|.str _,.non=>true
 |.int _,.int _=>true|.bl _,.bl _=>true|.str _,.str _=>true|.byt _,.byt _=>true
 |.int _,.str _=>true|.str _,.int _=>true|.bl _,.str _=>true|.str _,.bl _=>true
 |_,_=>false
noncomputable def rEq:R2:=fun x y H Q=>aHj x y=true/\Q (.bl (decide (x=y))) H
noncomputable def rNe:R2:=fun x y H Q=>aHj x y=true/\Q (.bl (!decide (x=y))) H
theorem KU{i j:Int}:decide (V.int i=V.int j)=(i==j):=by
 rw[S2];simp
theorem WA{i j:Bool}:decide (V.bl i=V.bl j)=(i==j):=by
 rw[S2];simp
theorem JB{i j:Str}:decide (V.str i=V.str j)=(i==j):=by
 rw[S2];simp
theorem IS{i j:Array UInt8}:decide (V.byt i=V.byt j)=(i.toList==j.toList):=by
 rw[S2];cases i;cases j;simp
section
variable{X:Cx}{a b c:Expr}{ta tb tc:TE}{pos:Pos}
theorem bX{pins:List (Addr×Obj)}{Q:VK}{k k':Bool}(I:Inv X pins σ H s)(q:Q (.bl k) H)(e:k=k'):EP X pins σ Q (.bool k') s:=by
 subst e;exact⟨.bl k,H,I,rfl,q⟩
theorem op_eq:OpR X (compareOp .Eq) rEq:=by
 intro pins s σ H x y v u Q I rx ry h;obtain⟨hs,q⟩:=h;cases x with
 |non=>
  cases rx;cases y with
  |non=>cases ry;exact PySem.EqNone.eq_none_none (bX I q (by simp))
  |bl j=>cases ry;exact PySem.EqNone.eq_none_bool (bX I q (by simp))
  |int j=>obtain⟨t',rfl⟩:=ry;exact PySem.EqNone.eq_none_int (bX I q (by simp))
  |str j=>obtain⟨t',rfl⟩:=ry;exact PySem.EqNone.eq_none_str (bX I q (by simp))
  |_=>exact absurd (show false=true from hs) B2
 |bl i=>
  cases rx;cases y with
  |non=>cases ry;exact PySem.EqNone.eq_bool_none (bX I q (by simp))
  |bl j=>cases ry;exact eq_bool (bX I q WA)
  |str j=>obtain⟨t',rfl⟩:=ry;exact PySem.EqMixed.eq_bool_str (bX I q (by simp))
  |_=>exact absurd (show false=true from hs) B2
 |int i=>
  obtain⟨t,rfl⟩:=rx;cases y with
  |non=>cases ry;exact PySem.EqNone.eq_int_none (bX I q (by simp))
  |int j=>obtain⟨t',rfl⟩:=ry;exact eq_int (bX I q KU)
  |str j=>obtain⟨t',rfl⟩:=ry;exact PySem.EqMixed.eq_int_str (bX I q (by simp))
  |_=>exact absurd (show false=true from hs) B2
 |str i=>
  obtain⟨t,rfl⟩:=rx;cases y with
  |non=>cases ry;exact PySem.EqNone.eq_str_none (bX I q (by simp))
  |bl j=>cases ry;exact PySem.EqMixed.eq_str_bool (bX I q (by simp))
  |int j=>obtain⟨t',rfl⟩:=ry;exact PySem.EqMixed.eq_str_int (bX I q (by simp))
  |str j=>obtain⟨t',rfl⟩:=ry;exact eq_str (bX I q JB)
  |_=>exact absurd (show false=true from hs) B2
 |byt i=>
  obtain⟨t,rfl⟩:=rx;cases y with
  |byt j=>obtain⟨t',rfl⟩:=ry;exact PySem.W.eq_bytes (bX I q IS)
  |_=>exact absurd (show false=true from hs) B2
 |_=>cases y<;>exact absurd (show false=true from hs) B2
theorem op_ne:OpR X (compareOp .NotEq) rNe:=by
 intro pins s σ H x y v u Q I rx ry h;obtain⟨hs,q⟩:=h;cases x with
 |non=>
  cases rx;cases y with
  |non=>cases ry;exact PySem.EqNone.ne_none_none (bX I q (by simp))
  |bl j=>cases ry;exact PySem.EqNone.ne_none_bool (bX I q (by simp))
  |int j=>obtain⟨t',rfl⟩:=ry;exact PySem.EqNone.ne_none_int (bX I q (by simp))
  |str j=>obtain⟨t',rfl⟩:=ry;exact PySem.EqNone.ne_none_str (bX I q (by simp))
  |_=>exact absurd (show false=true from hs) B2
 |bl i=>
  cases rx;cases y with
  |non=>cases ry;exact PySem.EqNone.ne_bool_none (bX I q (by simp))
  |bl j=>cases ry;exact ne_bool (bX I q (E9 not WA))
  |str j=>obtain⟨t',rfl⟩:=ry;exact PySem.EqMixed.ne_bool_str (bX I q (by simp))
  |_=>exact absurd (show false=true from hs) B2
 |int i=>
  obtain⟨t,rfl⟩:=rx;cases y with
  |non=>cases ry;exact PySem.EqNone.ne_int_none (bX I q (by simp))
  |int j=>obtain⟨t',rfl⟩:=ry;exact ne_int (bX I q (E9 not KU))
  |str j=>obtain⟨t',rfl⟩:=ry;exact PySem.EqMixed.ne_int_str (bX I q (by simp))
  |_=>exact absurd (show false=true from hs) B2
 |str i=>
  obtain⟨t,rfl⟩:=rx;cases y with
  |non=>cases ry;exact PySem.EqNone.ne_str_none (bX I q (by simp))
  |bl j=>cases ry;exact PySem.EqMixed.ne_str_bool (bX I q (by simp))
  |int j=>obtain⟨t',rfl⟩:=ry;exact PySem.EqMixed.ne_str_int (bX I q (by simp))
  |str j=>obtain⟨t',rfl⟩:=ry;exact ne_str (bX I q (E9 not JB))
  |_=>exact absurd (show false=true from hs) B2
 |byt i=>
  obtain⟨t,rfl⟩:=rx;cases y with
  |byt j=>obtain⟨t',rfl⟩:=ry;exact PySem.W.ne_bytes (bX I q (E9 not IS))
  |_=>exact absurd (show false=true from hs) B2
 |_=>cases y<;>exact absurd (show false=true from hs) B2
theorem op_lt:OpR X (compareOp .Lt) (rI0 fun i j=>.bl (decide (i<j))):=YR fun _ _ _ _ _ _ _ q=>lt_int q
theorem aFN:OpR X (compareOp .LtE) (rI0 fun i j=>.bl (decide (i<=j))):=YR fun _ _ _ _ _ _ _ q=>le_int q
theorem aGi:OpR X (compareOp .Gt) (rI0 fun i j=>.bl (decide (j<i))):=YR fun _ _ _ _ _ _ _ q=>gt_int q
theorem aFG:OpR X (compareOp .GtE) (rI0 fun i j=>.bl (decide (j<=i))):=YR fun _ _ _ _ _ _ _ q=>ge_int q
theorem OpR.or{f:Value->Value->Sem Value}{r r':R2}(h:OpR X f r)(h':OpR X f r'):OpR X f (fun x y H Q=>r x y H Q\/r' x y H Q):=by
 intro pins s σ H x y v u Q I rx ry q;rcases q with q|q
 .exact h pins s σ H x y v u Q I rx ry q
 .exact h' pins s σ H x y v u Q I rx ry q
theorem YH{op:CmpOp}{r:R2}(ho:OpR X (compareOp op) r)(ha:PE X a ta)(hb:PE X b tb)(hm:behindInMarks op b=false):PE X (.Compare a [op] [b] pos) (tOp r ta tb):=by
 intro pins s σ H Q I h;exact wpAny_Compare1 (aFs ha hb I h fun v u s2 x y H2 I2 rx ry q=>ho pins s2 σ H2 x y v u Q I2 rx ry q) hm
noncomputable def aBM(t:TE):TT:=fun σ H Q=>t σ H fun x H'=>∃k,x=.bl k/\Q k H'
theorem aAj{op:CmpOp}{r:R2}(ho:OpR X (compareOp op) r)(ha:PE X a ta)(hb:PE X b tb)(hm:behindInMarks op b=false):PT X (.Compare a [op] [b] pos) (aBM (tOp r ta tb)):=by
 intro pins s σ H Q I h
 refine wpAny_isTrue_Compare1 (thn (ha pins s σ H _ I h) fun v s1 ⟨x,H1,I1,r1,q1⟩=>thn (hb pins s1 σ H1 _ I1 q1) fun u s2 ⟨y,H2,I2,r2,q2⟩=>
  thn (ho pins s2 σ H2 x y v u _ I2 r1 r2 q2) fun c s3 ⟨z,H3,I3,r3,k,e,q3⟩=>?_) hm
 subst e;cases r3;exact O5 ⟨H3,I3,q3⟩
noncomputable def QG(r r':R2)(ta tb tc:TE):TE:=fun σ H Q=>ta σ H fun x H1=>tb σ H1 fun y H2=>r x y H2 fun z H3=>∃k,z=.bl k /\
 (if k=true then tc σ H3 fun w' H4=>r' y w' H4 Q else Q (.bl false) H3)
theorem RA{op op':CmpOp}{r r':R2}(ho:OpR X (compareOp op) r)(ho':OpR X (compareOp op') r')(ha:PE X a ta)(hb:PE X b tb)(hc:PE X c tc)
 (hm:lastMarks [op,op'] [b,c]=false:=by with_unfolding_all rfl):PE X (.Compare a [op,op'] [b,c] pos) (QG r r' ta tb tc):=by
 intro pins s σ H Q I h
 refine Compare_chain (thn (ha pins s σ H _ I h) fun v s1 ⟨x,H1,I1,r1,q1⟩=>chain_link (thn (hb pins s1 σ H1 _ I1 q1) fun u s2 ⟨y,H2,I2,r2,q2⟩=>
  thn (ho pins s2 σ H2 x y v u _ I2 r1 r2 q2) fun d s3 ⟨z,H3,I3,r3,k,e,q3⟩=>?_)) hm
 subst e;cases r3;refine O5 ?_;cases k with
 |false=>exact ite_ff ⟨.bl false,H3,I3,rfl,q3⟩
 |true=>exact ite_tt (chain_last (thn (hc pins s3 σ H3 _ I3 q3) fun w' s4 ⟨z',H4,I4,r4,q4⟩=>ho' pins s4 σ H4 y z' u w' Q I4 r2 r4 q4))
noncomputable def ZZ(K:Fg)(x:V)(H:Hp)(k:Bool):Prop:=
 match x with
 |.non=>k=false
 |.bl b=>k=b
 |.int i=>k=(i != 0)
 |.str y=>y.length<=sizeLine/\k=((y.length:Int) != 0)
 |.byt y=>y.size<=sizeLine/\k=((y.size:Int) != 0)
 |.ref p=>(∃xs,SqL K H p xs/\k=!xs.isEmpty)\/(∃xs,SqT K H p xs/\k=!xs.isEmpty)\/∃kvs,H p=some (.dK kvs)/\k=!kvs.isEmpty
 |_=>False
theorem HW{κ:Type}{kvs:List (κ×V)}{vs:List (κ×Value)}(r:KV kvs vs):(!vs.isEmpty)=!kvs.isEmpty:=by
 cases r<;>rfl
theorem vO{xs:List V}{its:List Value}(r:aV xs its):(!its.toArray.isEmpty)=!xs.isEmpty:=by
 cases r<;>simp
theorem sH:(sizeLine:Nat)<2 ^ 63:=by rw[E4];decide
theorem aEG:aHq X (fun x H Q=>∃k,ZZ X.K x H k/\Q k H):=by
 intro pins s σ H x v Q I rx h;obtain⟨k,e,q⟩:=h;have hl:=sH;have hs:sizeLine=16777216:=E4;cases x with
 |non=>
  cases rx;have e':k=false:=e;subst e';exact truthy_none ⟨H,I,q⟩
 |bl b=>
  cases rx;have e':k=b:=e;subst e';exact O5 ⟨H,I,q⟩
 |int i=>
  obtain⟨t,rfl⟩:=rx;have e':k=(i != 0):=e;subst e';exact PySem.P.truthy_int ⟨H,I,q⟩
 |str y=>
  obtain⟨t,rfl⟩:=rx;obtain⟨hy,e'⟩:y.length<=sizeLine/\k=((y.length:Int) != 0):=e;subst e';exact PySem.P.truthy_str (by omega) ⟨H,I.tok _,q⟩
 |byt y=>
  obtain⟨t,rfl⟩:=rx;obtain⟨hy,e'⟩:y.size<=sizeLine/\k=((y.size:Int) != 0):=e;subst e';exact PySem.W.truthy_bytes (by omega) ⟨H,I.tok _,q⟩
 |ref p=>
  cases rx;have e':(∃xs,SqL X.K H p xs/\k=!xs.isEmpty)\/(∃xs,SqT X.K H p xs/\k=!xs.isEmpty)\/∃kvs,H p=some (.dK kvs)/\k=!kvs.isEmpty:=e;rcases e' with⟨xs,hx,e'⟩|⟨xs,hx,e'⟩|⟨kvs,hx,e'⟩
  .subst e';obtain⟨its,r,pl,hz⟩:=I.list hx;have hlen:=r.length;exact wpAny_truthy_list pl.isList (by simp only[List.size_toArray];omega) ⟨H,I.tok _,by rw[vO r];exact q⟩
  .subst e';obtain⟨its,r,pl,hz⟩:=I.tuple hx;have hlen:=r.length;exact truthy_tuple pl (by simp only[List.size_toArray];omega) ⟨H,I.tok _,by rw[vO r];exact q⟩
  .subst e';obtain⟨hz,hS,vs,r,m⟩:kvs.length<=sizeLine/\(p==sysModules)=false/\∃vs,KV kvs vs/\s.heap.DictOf (cO X.prog X.w) p vs:=I.hok p _ hx;have hlen:kvs.length=vs.length:=Paired.length r;exact wpAny_truthy_dict hS m (by omega) ⟨H,I.tok _,by rw[HW r];exact q⟩
 |_=>exact(show False from e).elim
theorem QU(ha:PE X a ta)(he:∀whole,isTrue a X.env whole=(do let v <- whole;standAt a.pos;holding [v] (truthy v))):
 PT X a (fun σ H Q=>ta σ H fun x H'=>∃k,ZZ X.K x H' k/\Q k H'):=by
 intro pins s σ H Q I h;exact isTrue_plain (thn (ha pins s σ H _ I h) fun v s1 ⟨x,H1,I1,r1,q1⟩=>aEG pins s1 σ H1 x v Q I1 r1 q1) (he _)
theorem vals1{x:V}{us:List Value}(r:aV [x] us):∃u,us=[u]/\RelV x u:=by
 cases r with
 |cons r1 r2=>cases r2;exact⟨_,rfl,r1⟩
theorem vals2{x y:V}{us:List Value}(r:aV [x,y] us):∃u w',us=[u,w']/\RelV x u/\RelV y w':=by
 cases r with
 |cons r1 r2=>
  cases r2 with
  |cons r3 r4=>cases r4;exact⟨_,_,rfl,r1,r3⟩
theorem NU:dO X (.type "int") (fun xs H Q=>(∃i,xs=[.int i]/\Q (.int i) H)\/∃k,xs=[.bl k]/\Q (.int (if k then 1 else 0)) H):=by
 intro pins s σ H xs us Q I r h;rcases h with⟨i,rfl,q⟩|⟨k,rfl,q⟩
 .obtain⟨u,rfl,t,rfl⟩:=vals1 r;exact call_int_int ⟨.int i,H,I,⟨_,rfl⟩,q⟩
 .obtain⟨u,rfl,r1⟩:=vals1 r;cases r1;exact call_int_bool ⟨.int (if k then 1 else 0),H,I.tok _,⟨_,rfl⟩,q⟩
end
structure dF(k:Nat)(A:Around)(q:Bool:=true):Prop where
 hd:q=true->A.handled=none
 dp:A.depth+3*k+5<recursionLimit
 un:A.units+16*k+200<cLine
 gd:A.guards=some []
theorem dF.mono{j k:Nat}{q:Bool}(r:dF k A q)(h:j<=k):dF j A q:=⟨r.hd,by have:=r.dp;omega,by have:=r.un;omega,r.gd⟩
theorem dF.deeper{k:Nat}{q:Bool}(r:dF (k+1) A q)(env:Env):dF k (A.deeper env) q:=
 ⟨r.hd,by have:=r.dp;show A.depth+1+3*k+5<_;omega,by have:=r.un;show A.units+3+16*k+200<_;omega,r.gd⟩
theorem dF.depth{k:Nat}{q:Bool}(r:dF k A q):A.depth<recursionLimit:=by have:=r.dp;omega
theorem dF.units{k:Nat}{q:Bool}(r:dF k A q):A.units+64<cLine:=by have:=r.un;omega
noncomputable def NX:TA:=fun _ H Q=>Q [] H
noncomputable def oW(ta:TE)(tr:TA):TA:=fun σ H Q=>ta σ H fun x H1=>tr σ H1 fun xs H2=>Q (x::xs) H2
section
variable{X:Cx}{e:Expr}{es:List Expr}{te:TE}{t:TA}{pos:Pos}
theorem xD:PA X [] NX:=fun _ _ _ _ H Q I h=>Calls.spliced_nil ⟨[],H,I,.nil,h⟩
theorem iQ(ha:PE X e te)(hr:PA X es t)(hs:starEach (e::es) X.env=(false,eval e X.env)::starEach es X.env:=by rfl):PA X (e::es) (oW te t):=by
 intro pos pins s σ H Q I h;rw[hs];show wpAny _ _ (spliced ((false,eval e X.env)::backTo pos (starEach es X.env))) _ _ s;refine Calls.spliced_cons (thn (ha pins s σ H _ I h) fun u s1 ⟨x,H1,I1,r1,q1⟩=>?_);exact thn (hr pos pins s1 σ H1 _ I1 q1) fun us s2 ⟨xs,H2,I2,r2,q2⟩=>⟨x::xs,H2,I2,.cons r1 r2,q2⟩
noncomputable def aES(t:TA):TE:=fun σ H Q=>t σ H fun xs H1=>xs.length<=sizeLine/\∀p,H1 p=none->Q (.ref p) (upd H1 p (.tup xs))
noncomputable def aCP(t:TA):TE:=fun σ H Q=>t σ H fun xs H1=>xs.length<=sizeLine/\∀p,H1 p=none->Q (.ref p) (upd H1 p (.lst xs))
theorem RG{x1}(h:PA X es t):PE X (.Tuple es x1 pos) (aES t):=by
 intro pins s σ H Q I hq;refine wpAny_Tuple_spliced (thn (h pos pins s σ H _ I hq) fun us s1 ⟨xs,H1,I1,r,z,q⟩=>⟨by rw[<- r.length];exact z,?_⟩);have hf:H1 s1.heap.objs.size=none:=I1.hok.fresh (B1 _);refine⟨.ref s1.heap.objs.size,upd H1 s1.heap.objs.size (.tup xs),I1.laid (t':=s1.toks) (fun b u e=>A6 _ e) (B1 _) ?_,rfl,q _ hf⟩;exact⟨z,us,r,⟨_,D2 _ rfl,rfl,_,rfl⟩⟩
theorem UD(h:PA X es t):PE X (.List es pos) (aCP t):=by
 intro pins s σ H Q I hq;refine wpAny_List_spliced (thn (h pos pins s σ H _ I hq) fun us s1 ⟨xs,H1,I1,r,z,q⟩=>⟨by rw[<- r.length];exact z,?_⟩);have hf:H1 s1.heap.objs.size=none:=I1.hok.fresh (B1 _);refine⟨.ref s1.heap.objs.size,upd H1 s1.heap.objs.size (.lst xs),I1.laid (t':=s1.toks) (fun b u e=>A6 _ e) (B1 _) ?_,rfl,q _ hf⟩;exact⟨z,us,0,r,D2 _ rfl⟩
end
noncomputable abbrev Sp:=List V->Hp->VK->XK->Prop
noncomputable abbrev CXT:=List Env->Hp->Shared->XK->Value->Shared->Prop
structure aAL(P:Program)(w:World)(K:Fg)(mg:Str->Option Value)(base:Heap)(A:Around)(outer:List Env)(s:Shared)(H:Hp):Prop where
 frames:A.frames=some outer
 mod:Mod K mg base
 bs:∀b o,base.get? b=some o->s.heap.get? b=some o/\H b=none
 bsz:base.objs.size<=s.heap.objs.size
 funs:s.heap.FunFrames base outer
 frf:∀b∈frs outer,H b=none
 hok:HOk P w H s.heap
 bare:AllBare s.gens
noncomputable def CE(outer:List Env)(P:Program)(w:World)(H:Hp)(s:Shared)(Q:VK)(u:Value)(s':Shared):Prop:=
 ∃v H',s'.os=s.os/\AllBare s'.gens/\Un (frs outer) [] H H' s.heap s'.heap/\HOk P w H' s'.heap/\RelV v u/\Q v H'
noncomputable def CR(CX:CXT)(outer:List Env)(P:Program)(w:World)(H:Hp)(s:Shared)(Q:VK)(E:XK)(r:Result)(s':Shared):Prop:=
 match r with
 |.ok (.ret u)=>CE outer P w H s Q u s'
 |.ok _=>False
 |.error e=>CX outer H s E e s'
structure oQ(P:Program)(w:World)(K:Fg)(mg:Str->Option Value)(base:Heap)(CX:CXT)(k:Nat)(f:Addr)(fd:FuncData)(ps:List Str)(sp:Sp)(q:Bool:=true):Prop where
 len:∀vs H Q E,sp vs H Q E->vs.length=ps.length
 run:∀(A:Around)(outer:List Env)(s:Shared)(H:Hp)(args:Args)(us:List Value)(vs:List V)(Q:VK)(E:XK),dF k A q->aAL P w K mg base A outer s H->BindsTo s fd args (ps.zip us)->aV vs us->sp vs H Q E->
  codeAny (model P w) A (.call (.ref f) args) (CR CX outer P w H s Q E) s
section
variable{X:Cx}{pins:List (Addr×Obj)}{σ:St}{H:Hp}{s s':Shared}
theorem Inv.env0(I:Inv X pins σ H s):aAL X.prog X.w X.K X.mg X.base X.A X.stack s H:=
 ⟨I.ok.frames,I.ok.mod,I.bs,J0 I.ok.bsz I.sz,I.stack,I.stkFree,I.hok,I.bare⟩
theorem Inv.after{Q:VK}{u:Value}(I:Inv X pins σ H s)(h:CE X.stack X.prog X.w H s Q u s'):EP X pins σ Q u s':=by
 obtain⟨v,H',os,bare,un,hok,r,q⟩:=h;obtain⟨hh,g,d,t,os'⟩:=s';obtain rfl:os'=s.os:=os;exact⟨v,H',I.call (h':=hh) (g':=g) (d':=d) (t':=t) (ch:=[]) un hok bare (fun b z=>absurd z (by simp)),r,q⟩
end
noncomputable def RV(sp:Sp)(dvs:List V)(E:XK)(t:TA):TE:=fun σ H Q=>t σ H fun vs H1=>sp (vs++dvs) H1 Q E
noncomputable def Binds(K:Fg)(fd:FuncData)(ps:List Str)(ds:List Value):Prop:=
 ∀(s:Shared)(us:List Value),K.In s.heap->(us++ds).length=ps.length->BindsTo s fd ⟨us,[]⟩ (ps.zip (us++ds))
theorem Binds.all{fd:FuncData}{ps:List Str}(h:∀us:List Value,us.length=ps.length->bindArgs fd ⟨us,[]⟩=pure (ps.zip us)):Binds K fd ps []:=fun s us _ hl=>by
 rw[D6]at hl ⊢;exact .of_eq (h us hl)
noncomputable def GB(CX:CXT)(X:Cx)(E:XK):Prop:=∀(pins:List (Addr×Obj))(σ:St)(H:Hp)(s:Shared)(e:Value)(s':Shared),Inv X pins σ H s->CX X.stack H s E e s'->X.xe e s'
section
variable{X:Cx}{CX:CXT}{k:Nat}{f C:Addr}{fd:FuncData}{ps:List Str}{sp:Sp}{dvs:List V}{ds:List Value}{E:XK}{x m:Str}{p pos apos:Pos}{e o:Expr}{es:List Expr}{ta:TE}{t:TA}
theorem aCZ{pins:List (Addr×Obj)}{σ:St}{H:Hp}{s:Shared}{Q:VK}{us:List Value}{vs:List V}{q:Bool}(F:oQ X.prog X.w X.K X.mg X.base CX k f fd ps sp q)(hr:dF k X.A q)(hb:Binds X.K fd ps ds)(hd:aV dvs ds)(hx:GB CX X E)
 (I:Inv X pins σ H s) (r:aV vs us) (h:sp (vs++dvs) H Q E):wpAny (model X.prog X.w) X.A (call (.ref f) us) (EP X pins σ Q) X.xe s:=by
 have r2:aV (vs++dvs) (us++ds):=r.append hd;have hl:(us++ds).length=ps.length:=by rw[<- r2.length];exact F.len _ _ _ _ h
 refine wpAny_call (A0d (F.run X.A X.stack s H ⟨us,[]⟩ (us++ds) (vs++dvs) Q E hr I.env0 (hb s us I.kIn hl) r2 h) fun r s' hq=>?_);cases r with
 |error e=>exact hx pins σ H s e s' I hq
 |ok fl=>
  cases fl with
  |ret u=>exact I.after hq
  |next=>exact False.elim hq
  |brk=>exact False.elim hq
  |cont=>exact False.elim hq
theorem LD{q:Bool}(F:oQ X.prog X.w X.K X.mg X.base CX k f fd ps sp q)(hr:dF k X.A q)(hg:Gl X x)(hm:X.mg x=some (.ref f))(hk:PySem.W.keepIn X.K (.ref f)=true)(hb:Binds X.K fd ps ds)(hd:aV dvs ds)(hx:GB CX X E)
 (ha:PA X (e::es) t) (hdb:(x==("__debug__":Str))=false:=by decide) (he:starEach (e::es) X.env=(false,eval e X.env)::starEach es X.env:=by rfl) (hpl:(backTo pos (starEach es X.env)).any (·.1)=false:=by rfl):
 PE X (.Call (.Name x p) (e::es) [] pos) (RV sp dvs E t):=by
 intro pins s σ H Q I h;refine U6 (qP I hg hm ?_ hdb);refine PySem.W.callWith_K (h₀:=X.base) I.ok.mod.kin hk (thn (ha pos pins s σ H _ I h) fun us s1 ⟨vs,H1,I1,r,q⟩=>⟨I1.kIn,?_⟩) he hpl;exact aCZ F hr hb hd hx I1 r q
end
structure aT(N P:List Str)(sc:Scope):Prop where
 kind:sc.kind=.function
 co:sc.isCoroutine=false
 gen:sc.isGenerator=false
 nd:N.Nodup
 pre:N.take P.length=P
 par:∀x∈P,sc.names.lookup x=some .local\/sc.names.lookup x=some .cell
 nofree:∀y∈sc.names,y.2≠.free
theorem yS{kindOf:Str->Option NameKind}{x:Str}:∀{binds:List (Str×Value)}{m:Str->Option Value},(∀v,(x,v)∉binds)->bindL kindOf binds m x=m x
 |[],_=>fun _=>rfl
 |(n,v)::r,m=>fun h=>by
  unfold bindL;rw[yS fun w hw=>h w (B3 _ hw)];split
  .have:x≠n:=by rintro rfl;exact h v B5
   simp[this]
  .rfl
theorem zM{kindOf:Str->Option NameKind}{x:Str}:∀{binds:List (Str×Value)}{m:Str->Option Value},(∀v,(x,v)∉binds)->bindC kindOf binds m x=m x
 |[],_=>fun _=>rfl
 |(n,v)::r,m=>fun h=>by
  unfold bindC;rw[zM fun w hw=>h w (B3 _ hw)];split
  .rfl
  .have:x≠n:=by rintro rfl;exact h v B5
   simp[this]
theorem yX{kindOf:Str->Option NameKind}{x:Str}{v:Value}:∀{P:List Str}{vs:List Value}{i:Nat}{m:Str->Option Value},P.Nodup->P[i]?=some x->vs[i]?=some v->kindOf x=some .local->
 bindL kindOf (P.zip vs) m x=some v
 |[],_,_,_=>fun _ h _ _=>by simp at h
 |_::_,[],_,_=>fun _ _ h _=>by simp at h
 |p::P,w::vs,0,m=>fun nd h1 h2 hk=>by
  simp at h1 h2;subst h1;subst h2;show bindL kindOf ((p,w)::P.zip vs) m p=_;unfold bindL;rw[yS fun v hv=>(List.nodup_cons.mp nd).1 (List.of_mem_zip hv).1,A7 hk];simp
 |p::P,w::vs,i+1,m=>fun nd h1 h2 hk=>by
  show bindL kindOf ((p,w)::P.zip vs) m x=_;unfold bindL;exact yX (i:=i) (List.nodup_cons.mp nd).2 (by simpa using h1) (by simpa using h2) hk
theorem zP{kindOf:Str->Option NameKind}{x:Str}{v:Value}:∀{P:List Str}{vs:List Value}{i:Nat}{m:Str->Option Value},P.Nodup->P[i]?=some x->vs[i]?=some v->kindOf x≠some .local->
 bindC kindOf (P.zip vs) m x=some v
 |[],_,_,_=>fun _ h _ _=>by simp at h
 |_::_,[],_,_=>fun _ _ h _=>by simp at h
 |p::P,w::vs,0,m=>fun nd h1 h2 hk=>by
  simp at h1 h2;subst h1;subst h2;show bindC kindOf ((p,w)::P.zip vs) m p=_;unfold bindC;rw[zM fun v hv=>(List.nodup_cons.mp nd).1 (List.of_mem_zip hv).1,B0 hk];simp
 |p::P,w::vs,i+1,m=>fun nd h1 h2 hk=>by
  show bindC kindOf ((p,w)::P.zip vs) m x=_;unfold bindC;exact zP (i:=i) (List.nodup_cons.mp nd).2 (by simpa using h1) (by simpa using h2) hk
noncomputable def start(N:List Str)(vs:List V):St:=vs.map some++List.replicate (N.length-vs.length) none
noncomputable def lP(CX:CXT)(P:Program)(w:World)(K:Fg)(mg:Str->Option Value)(base:Heap)(N:List Str)(qual:Str)(scope:Scope)(f:Addr)(cd:Value)(A:Around)(outer:List Env)(s:Shared)(H:Hp)(E:XK)(q:Bool:=true):Cx where
 prog:=P
 w:=w
 K:=K
 mg:=mg
 base:=base
 A:=A.deeper (envOfC qual scope s.heap.objs.size f cd)
 N:=N
 s₀:=s
 H₀:=H
 env:=envOfC qual scope s.heap.objs.size f cd
 outer:=outer
 stack:=envOfC qual scope s.heap.objs.size f cd::outer
 ex:=[]
 calm:=q
 fn:=fun _=>true
 pn:=[]
 xe:=fun e s'=>wpAny (model P w) (A.deeper (envOfC qual scope s.heap.objs.size f cd)) (leaving (envOfC qual scope s.heap.objs.size f cd) e) (fun _ s''=>CX outer H s E e s'') (fun e' s''=>CX outer H s E e' s'') s'
theorem ET{sc:Scope}{n:Nat}{x:Str}(h:sc.names.lookup x=some .cell):∃c,(cellsFrom n sc.names []).lookup x=some c:=by
 have q:=PySem.W.cellsFrom_some sc.names n [] (.inl h);exact Option.isSome_iff_exists.mp q
theorem LL{CX:CXT}{P:Program}{w:World}{K:Fg}{mg:Str->Option Value}{base:Heap}{N ps:List Str}{qual:Str}{scope:Scope}{f:Addr}{cd:Value}{A:Around}{outer:List Env}{s s1:Shared}{H:Hp}{E:XK}{us:List Value}{vs:List V}{q:Bool}
 (S:aT N ps scope) (hd:q=true->A.handled=none) (e0:aAL P w K mg base A outer s H) (hl:vs.length=ps.length) (r:aV vs us)
 (x:InCallC s s.heap.objs.size (bindL (envOfC qual scope s.heap.objs.size f cd).kindOf (ps.zip us) fun _=>none) (cellsFrom (s.heap.objs.size+1) scope.names []) (bindC (envOfC qual scope s.heap.objs.size f cd).kindOf (ps.zip us) fun _=>none) s1):
 Inv (lP CX P w K mg base N qual scope f cd A outer s H E q) [] (start N vs) H s1:=by
 have hpl:ps.length<=N.length:=by have:=E9 List.length S.pre;rw[J2]at this;omega
 obtain⟨h1,tk,rfl,hk⟩:=x.done;have noA:∀b:Addr,b∉(lP CX P w K mg base N qual scope f cd A outer s H E q).ex:=fun b z=>absurd (show b∈([]:List Addr)from z) (by simp)
 refine⟨⟨e0.mod,S.kind,rfl,rfl,B1 _,fun y z c h1 h2=>?_,fun y hy=>?_,fun y c _ h=>?_,hd,Around.frames_deeper e0.frames,.inr ⟨rfl,rfl⟩,fun b z=>absurd z (noA b),e0.bs,e0.bsz,fun b _ _=>noA b,fun b z=>absurd z (noA b),e0.funs,e0.frf⟩,
  rfl,e0.bare,Un.kept hk,⟨_,x.toInCall.ns,fun i y v h1 h2 h3=>?_⟩,fun y c h=>⟨_,x.cell y c h⟩,e0.hok.fresh (B1 _),fun y c h=>?_,fun p hp=>absurd (show p∈([]:List (Addr×Obj))from hp) (by simp),e0.hok.kept hk,?_⟩
 .exact name_of_addr x.apart (E8 h1) (E8 h2)
 .have hy:scope.names.lookup y=some .cell\/scope.names.lookup y=some .free:=hy;rcases hy with hy|hy
  .exact ET hy
  .exact absurd rfl (S.nofree _ (E8 hy))
 .exact Z9 (x.above y c (E8 h))
 .have hi:i<vs.length:=by
   unfold start at h2;by_cases hi:i<vs.length
   .exact hi
   .rw[B9 (by simpa using hi)]at h2;rw[Y8]at h2;split at h2<;>cases h2
  have ha:vs[i]?=some v:=by
   unfold start at h2;rw[F4 (by simpa using hi),C3]at h2;cases e:vs[i]? with
   |none=>rw[e]at h2;cases h2
   |some a=>rw[e]at h2;cases h2;rfl
  obtain⟨u,hu,rv⟩:=r.get ha
  have hp:ps[i]?=some y:=by
   rw[<- S.pre,Y3 (by omega)];exact h1
  have ndP:ps.Nodup:=by rw[<- S.pre];exact S.nd.sublist (List.take_sublist _ _)
  refine⟨u,rv,?_⟩;rcases S.par y (E5 hp)with k|k
  .exact .inl ⟨k,yX ndP hp hu k⟩
  .obtain⟨c,e⟩:=ET (n:=s.heap.objs.size+1) k;refine .inr ⟨.inl k,c,e,?_⟩;have q:=x.cell y c e;rw[zP ndP hp hu (by show scope.names.lookup y≠_;rw[k];decide)]at q;exact q
 .exact e0.hok.fresh (Z9 (x.above y c (E8 h)))
 .unfold start;show _=N.length;rw[B4,A3,List.length_replicate];omega
theorem aCa{CX:CXT}{P:Program}{w:World}{K:Fg}{mg:Str->Option Value}{base:Heap}{k:Nat}{f:Addr}{name qual:Str}{params:Arguments}{body:List Stmt}{scope:Scope}{dV kV doc pm cdv ct oc:Value}{an od:Option Addr}
 {osl:Array (Option Value)} {N ps:List Str} {sp:Sp} {q:Bool} (lk:K.lookup f=some ⟨oc,od,.func (PySem.W.fnOf name qual params body scope dV kV doc pm an cdv ct),osl⟩) (hcd:PySem.W.codeIn K cdv qual=true) (S:aT N ps scope)
 (len:∀vs H Q E,sp vs H Q E->vs.length=ps.length)
 (hbody:∀(A:Around)(outer:List Env)(s:Shared)(H:Hp)(vs:List V)(Q:VK)(E:XK),dF k (A.deeper (envOfC qual scope s.heap.objs.size f cdv)) q->sp vs H Q E->
  ∃t,PSs (lP CX P w K mg base N qual scope f cdv A outer s H E q) body t/\t { nx:=fun _ H'=>Q .non H',rt:=Q } (start N vs) H):
 oQ P w K mg base CX (k+1) f (PySem.W.fnOf name qual params body scope dV kV doc pm an cdv ct) ps sp q:=by
 refine⟨len,fun A outer s H args us vs Q E hr e0 hb r hsp=>?_⟩;have hl:=len _ _ _ _ hsp;have KX:K.In s.heap:=e0.mod.kin.keeps fun b o e=>(e0.bs b o e).1;have lim:s.heap.NoLimit:=e0.mod.nolimit.keeps fun b o e=>(e0.bs b o e).1
 have hkind:∀y∈ps.zip us,scope.names.lookup y.1=some .local\/(scope.names.lookup y.1=some .cell/\((cellsFrom (s.heap.objs.size+1) scope.names []).lookup y.1).isSome=true):=fun⟨n,v⟩ hy=>by
  rcases S.par n (List.of_mem_zip hy).1 with q|q
  .exact .inl q
  .exact .inr ⟨q,PySem.W.cellsFrom_some _ _ _ (.inl q)⟩
 refine codeAny_call_function hr.depth (KX _ _ lk) rfl S.co S.gen rfl (PySem.W.codeRec_of KX hcd) (hb _ _ _ _ ?_);refine wpAny_newFunctionEnv_cells S.kind hkind fun env he s1 x=>?_;subst he;refine⟨lim.keeps x.toInCall.keep,codeAny_func ?_⟩;obtain⟨t,ht,hq⟩:=hbody A outer s H vs Q E (hr.deeper _) hsp;have I:Inv (lP CX P w K mg base N qual scope f cdv A outer s H E q) [] (start N vs) H s1:=LL S hr.hd e0 hl r x;refine L5 (ht [] s1 (start N vs) H _ I hq) (fun fl s' hs=>?_) fun e s' hs=>hs
 have fin:∀{σ':St}{H':Hp}{v:V}{u:Value},Inv (lP CX P w K mg base N qual scope f cdv A outer s H E q) [] σ' H' s'->RelV v u->Q v H'->CE outer P w H s Q u s':=
  fun{σ' H' v u} J rv q=>⟨v,H',J.os,J.bare,J.base,J.hok,rv,q⟩
 cases fl with
 |ret u=>
  obtain⟨v,σ',H',J,rv,q⟩:=hs;exact fin J rv q
 |next=>
  obtain⟨σ',H',J,q⟩:=hs;exact fin (v:=V.non) (u:=Value.none) J rfl q
 |brk=>
  obtain⟨_,_,_,q⟩:=hs;exact False.elim q
 |cont=>
  obtain⟨_,_,_,q⟩:=hs;exact False.elim q
section
variable{X:Cx}{x:Str}{p pos:Pos}{e:Expr}{es:List Expr}{t:TA}{id T:String}{r:List V->Hp->VK->Prop}
noncomputable def tCB(r:List V->Hp->VK->Prop)(t:TA):TE:=fun σ H Q=>t σ H fun vs H1=>r vs H1 Q
theorem qM(hc:dO X (.builtin id) r)(hg:Gl X x)(hm:X.mg x=none)(hv:bootBuiltins x=some (.builtin id))(ha:PA X (e::es) t)(hn:x≠"__name__":=by decide)(hdb:(x==("__debug__":Str))=false:=by decide)
 (he:starEach (e::es) X.env=(false,eval e X.env)::starEach es X.env:=by rfl) (hpl:(backTo pos (starEach es X.env)).any (·.1)=false:=by rfl):PE X (.Call (.Name x p) (e::es) [] pos) (tCB r t):=by
 intro pins s σ H Q I h;refine U6 (hZ I hg hm hv ?_ hn hdb);exact PyProof.Rows.callWith_builtin1 (thn (ha pos pins s σ H _ I h) fun us s1 ⟨vs,H1,I1,r1,q1⟩=>hc pins s1 σ H1 vs us Q I1 r1 q1) he hpl
theorem OB(hc:dO X (.type T) r)(hg:Gl X x)(hm:X.mg x=none)(hv:bootBuiltins x=some (.type T))(ha:PA X (e::es) t)(hn:x≠"__name__":=by decide)(hdb:(x==("__debug__":Str))=false:=by decide)
 (he:starEach (e::es) X.env=(false,eval e X.env)::starEach es X.env:=by rfl) (hpl:(backTo pos (starEach es X.env)).any (·.1)=false:=by rfl):PE X (.Call (.Name x p) (e::es) [] pos) (tCB r t):=by
 intro pins s σ H Q I h;refine U6 (hZ I hg hm hv ?_ hn hdb);exact E1 (thn (ha pos pins s σ H _ I h) fun us s1 ⟨vs,H1,I1,r1,q1⟩=>hc pins s1 σ H1 vs us Q I1 r1 q1) he hpl
end
end L2
namespace HT
open PySem PyProof.Rows
noncomputable def lexLt:List Int->List Int->Bool
 |[],[]=>false
 |[],_::_=>true
 |_::_,[]=>false
 |x::xs,y::ys=>if x=y then lexLt xs ys else decide (x<y)
theorem lexLt_cons(x y:Int)(xs ys:List Int):lexLt (x::xs) (y::ys)=if x=y then lexLt xs ys else decide (x<y):=rfl
theorem xP:lexLt [] []=false:=rfl
theorem xE(y:Int)(ys:List Int):lexLt [] (y::ys)=true:=rfl
theorem wJ(x:Int)(xs:List Int):lexLt (x::xs) []=false:=rfl
theorem UN(A:Around)(s:Shared)(a:Int)(t:Tok)(c:Int)(u:Tok):∃e,SeqAt.EqAt A s (.int a t) (.int c u) e/\(e=true↔a=c):=
 ⟨(a==c),SeqAt.EqAt.int_int a t c u,by simp⟩
theorem rcLt_int(A:Around)(s:Shared)(a:Int)(t:Tok)(c:Int)(u:Tok)(prog:Program)(w:World)(E:Value->Shared->Prop)(Q:Value->Shared->Prop)(h:Q (.bool (decide (a<c))) s):
 wpAny (model prog w) A (richCompare .Lt (.int a t) (.int c u)) Q E s:=
 (PyProof.Rows.lt_int h:wpAny (model prog w) A (compareOp .Lt (.int a t) (.int c u)) Q E s)
section
open PySem.SeqAt
open PySem.AutoSeq1 (wpAny_loadPart')
open PySem.MeetsSeq PySem.MeetsSeq2 PySem.MeetsSeq3
theorem xV(l b:Addr)(items items2:Array Value)(n n2:Nat)(dd dd2:Option Addr)(sl sl2:Array (Option Value))(ns ms:List Int)(hi:IntsAre items.toList ns)(hj:IntsAre items2.toList ms):
 Meets (Builtin.«tuple.__lt__» ⟨[.ref l,.ref b],[]⟩)
  (fun _ R s=>s.heap.get? l=some { cls:=.type "tuple",dict:=dd,data:=.seq items n,slots:=sl }/\s.heap.get? b=some { cls:=.type "tuple",dict:=dd2,data:=.seq items2 n2,slots:=sl2 } /\
   R (.ok (.ret (.bool (lexLt ns ms)))) s):=
 .of_wp fun prog w A R s h=>by
  obtain⟨hp,g,d,tk,os⟩:=s;obtain⟨hl,hb,h⟩:=h;have f2:=AutoSeq1.sub_tuple_tuple;have z1:items.size=ns.length:=by rw[<- hi.length];simp
  have z2:items2.size=ms.length:=by rw[<- hj.length];simp
  wp_walk using S5 hl,S5 hb,wpAny_forIn_list _ (fun rest b s'=>b.1=none/\s'=⟨hp,g,d,tk,os⟩/\∃(vs ws:List Value)(ns' ms':List Int),rest=vs.zip ws /\
   IntsAre vs ns'/\IntsAre ws ms'/\ns'.length+items2.size=ms'.length+items.size/\R (.ok (.ret (.bool (lexLt ns' ms')))) ⟨hp,g,d,tk,os⟩) _
  case turn=>
   rintro⟨y,x⟩ rest b s' ⟨hb',rfl,vs,ws,ns',ms',hz,hvi,hwi,hlen,hR⟩;cases hvi with
   |nil=>rw[List.zip_nil_left]at hz;cases hz
   |cons a t hvi'=>
    cases hwi with
    |nil=>rw[List.zip_nil_right]at hz;cases hz
    |cons c u hwi'=>
     rw[Y6]at hz;injection hz with hyx hrest
     injection hyx with hy hx
     subst hy hx;rw[lexLt_cons]at hR;simp only[List.length_cons]at hlen;obtain⟨e,he,hiff⟩:=UN A.in1 ⟨hp,g,d,tk,os⟩ a t c u;refine A4 (he prog w _ _ ?_);cases e with
     |true=>
      rw[A7 (hiff.mp rfl)]at hR
      wp_walk
      exact⟨rfl,rfl,_,_,_,_,hrest,hvi',hwi',by omega,hR⟩
     |false=>
      rw[B0 (fun q=>absurd (hiff.mpr q) B2)]at hR;have hri:=rcLt_int A.in1 ⟨hp,g,d,tk,os⟩ a t c u prog w
      wp_walk using hri
      exact⟨_,rfl,by simpa using hR⟩
  case fin=>
   rintro⟨b1,b2⟩ s' ⟨hb',rfl,vs,ws,ns',ms',hz,hvi,hwi,hlen,hR⟩;simp only at hb';subst hb'
   have hv:lexLt ns' ms'=decide (items.size<items2.size):=by
    cases hvi with
    |nil=>
     cases hwi with
     |nil=>
      simp only[List.length_nil]at hlen;rw[xP];exact(C1 (by omega)).symm
     |cons c u hw=>
      simp only[List.length_nil,List.length_cons]at hlen;rw[xE];exact(C8 (by omega)).symm
    |cons a t hv=>
     cases hwi with
     |nil=>
      simp only[List.length_nil,List.length_cons]at hlen;rw[wJ];exact(C1 (by omega)).symm
     |cons c u hw=>
      rw[Y6]at hz;cases hz
   rw[hv]at hR
   wp_walk
   exact⟨_,rfl,by simpa[Builtin.Tuple.tupleCompareSizes]using hR⟩
  case h=>
   exact⟨rfl,rfl,items.toList,items2.toList,ns,ms,rfl,hi,hj,by omega,h⟩
end
section
variable{prog:Program}{w:World}{A:Around}{E:Value->Shared->Prop}{s:Shared}
theorem lt_tupInts{l b:Addr}{items items2:Array Value}{ns ms:List Int}{Q:Value->Shared->Prop}(hl:IsTup s.heap l items)(hb:IsTup s.heap b items2)(hi:IntsAre items.toList ns)(hj:IntsAre items2.toList ms)
 (hu:A.units<cLine) (h:Q (.bool (lexLt ns ms)) s):wpAny (model prog w) A (compareOp .Lt (.ref l) (.ref b)) Q E s:=by
 obtain⟨⟨cls,dd,data,sl⟩,ho,hc,n,hd⟩:=id hl;obtain⟨⟨cls2,dd2,data2,sl2⟩,ho2,hc2,n2,hd2⟩:=id hb;simp only at hc hd hc2 hd2;subst hc hd hc2 hd2
 exact richCompare_meets_room (op:=.Lt) ⟨_,ho,rfl⟩ ⟨_,ho2,rfl⟩ PySem.F.slot_tuple_lt PySem.F.entry_tuple_lt (PySem.F.args_tuple_lt_2 _ _) (xV l b items items2 n n2 dd dd2 sl sl2 ns ms hi hj)
  ⟨ho,ho2,show Value.bool (lexLt ns ms)≠Value.notImplemented/\Q (.bool (lexLt ns ms)) s from⟨(fun x=>nomatch x),h⟩⟩ hu
theorem cat_tup{t b:Addr}{vs ws:List Value}{Q:Value->Shared->Prop}(ht:IsTup s.heap t vs.toArray)(hb:IsTup s.heap b ws.toArray)(hv:vs≠[])
 (h1:ws=[]->Q (.ref t) s) (h2:ws≠[]->Q (.ref s.heap.objs.size) { s with heap:=s.heap.push { cls:=.type "tuple",data:=.seq (vs++ws).toArray } })
 (hsz:vs.length+ws.length<=sizeLine):wpAny (model prog w) A (binaryOp .Add (.ref t) (.ref b)) Q E s:=by
 obtain⟨⟨cls,dd,data,sl⟩,ho,hc,n,hd⟩:=id ht;obtain⟨⟨cls2,dd2,data2,sl2⟩,ho2,hc2,n2,hd2⟩:=id hb;simp only at hc hd hc2 hd2;subst hc hd hc2 hd2;have e:vs.toArray++ws.toArray=(vs++ws).toArray:=by simp
 by_cases hw:ws=[]
 .exact concat_meets ⟨_,ho,rfl⟩ ⟨_,ho2,rfl⟩ noFill_tuple_add seq_tuple_add PySem.F.slot_tuple_add PySem.F.entry_tuple_add (PySem.F.args_tuple_add_2 _ _)
   (tuple_addW1 t b vs.toArray ws.toArray n n2 dd dd2 sl sl2 (by simpa using hv) (by simp[hw])) ⟨ho,ho2,h1 hw⟩
 .refine concat_meets ⟨_,ho,rfl⟩ ⟨_,ho2,rfl⟩ noFill_tuple_add seq_tuple_add PySem.F.slot_tuple_add PySem.F.entry_tuple_add (PySem.F.args_tuple_add_2 _ _)
   (tuple_addW2 t b vs.toArray ws.toArray n n2 dd dd2 sl sl2 (by simpa using hv) (by simpa using hw) (by rw[C4,C4];exact hsz)) ⟨ho,ho2,?_⟩
  rw[e];exact h2 hw
noncomputable def sIx(n d:Nat):Option Int->Nat
 |none=>d
 |some v=>if v<0 then(v+(n:Int)).toNat else min v.toNat n
theorem sIx_none(n d:Nat):sIx n d none=d:=rfl
theorem sIx_nat(n d k:Nat):sIx n d (some (k:Int))=min k n:=by
 show(if (k:Int)<0 then((k:Int)+(n:Int)).toNat else min (k:Int).toNat n)=min k n;rw[B0 (by omega),F0]
theorem aER(n d:Nat)(hd:d<=n)(o:Option Int):sIx n d o<=n:=by
 cases o with
 |none=>exact hd
 |some v=>
  show(if v<0 then(v+(n:Int)).toNat else min v.toNat n)<=n;by_cases hv:v<0
  .rw[A7 hv];omega
  .rw[B0 hv];exact Nat.min_le_right _ _
theorem KW(v:Int)(n d:Nat):(if v<0 then max (v+(n:Int)) 0 else min v (n:Int))=((sIx n d (some v):Nat):Int):=by
 show(if v<0 then max (v+(n:Int)) 0 else min v (n:Int))=(((if v<0 then(v+(n:Int)).toNat else min v.toNat n):Nat):Int);by_cases hv:v<0
 .simp only[if_pos hv];omega
 .simp only[if_neg hv];omega
theorem HQ(lo hi:Option Int)(n:Nat):Builtin.Slice.sliceAdjust lo hi 1 (n:Int)=(((sIx n 0 lo:Nat):Int),((sIx n n hi:Nat):Int)):=by
 have h1:¬((1:Int)<0):=by omega
 unfold Builtin.Slice.sliceAdjust;simp only[h1,if_false];refine Prod.ext ?_ ?_
 .cases lo with
  |none=>rfl
  |some v=>exact KW v n 0
 .cases hi with
  |none=>rfl
  |some v=>exact KW v n n
theorem HG(i j:Nat):Builtin.Slice.slicePlaces (i:Int) (j:Int) 1=j-i:=by
 unfold Builtin.Slice.slicePlaces;have h1:(1:Int) > 0:=by omega
 simp only[h1,if_true,Int.ediv_one];split<;>omega
theorem qA{v:Value}{o:Option Int}{Q:Option Int->Shared->Prop}(p:IsPart v o)(h:Q o s):wpAny (model prog w) A (Builtin.Slice.slicePartIndex v) Q E s:=by
 cases p with
 |none=>exact slicePart_none h
 |int i t=>exact slicePart_int h
theorem kX{sl:Addr}{vl vu:Value}{lo hi:Option Int}{n:Nat}{Q:Int×Int×Nat->Shared->Prop}(hs:s.heap.IsSliceOf sl vl vu .none)(pl:IsPart vl lo)(pu:IsPart vu hi)
 (h:Q (((sIx n 0 lo:Nat):Int),1,sIx n n hi-sIx n 0 lo) s):wpAny (model prog w) A (Builtin.Slice.sliceApplied (.ref sl) (pure (n:Int))) Q E s:=by
 obtain⟨os,hos,hcs,hds⟩:=id hs;unfold Builtin.Slice.sliceApplied Builtin.Slice.sliceFields;refine A4 (A4 (J4 hos hds (x:=vl) rfl (A4 (J4 hos hds (x:=vu) rfl (A4 (J4 hos hds (x:=.none) rfl (B7 ?_)))))));refine A4 (slicePart_none ?_);show wpAny _ _ (if ((1:Int)==0)=true then _ else _) _ _ s;rw[B0 (by decide)];refine A4 (qA pl (A4 (qA pu (A4 (B7 ?_)))));show wpAny _ _ (match Builtin.Slice.sliceAdjust lo hi 1 (n:Int)with|(lo,hi)=>pure (lo,(1:Int),Builtin.Slice.slicePlaces lo hi 1)) _ _ s;rw[HQ lo hi n];show wpAny _ _ (pure (((sIx n 0 lo:Nat):Int),(1:Int),Builtin.Slice.slicePlaces ((sIx n 0 lo:Nat):Int) ((sIx n n hi:Nat):Int) 1)) _ _ s;rw[HG];exact B7 h
theorem UM(xs:Array Value)(i k:Nat):((List.range k).filterMap fun(m:Nat)=>xs[((i:Int)+(m:Int)*1).toNat]?).toArray=((xs.toList.drop i).take k).toArray:=by
 have e:(fun(m:Nat)=>xs[((i:Int)+(m:Int)*1).toNat]?)=fun m=>xs[i+m]?:=by
  funext m;have:((i:Int)+(m:Int)*1).toNat=i+m:=by omega
  rw[this]
 rw[e];have:=pick_run xs i k;rw[List.filterMap_map]at this;have e2:((fun x=>xs[x]?) ∘ fun x=>i+x)=fun m=>xs[i+m]?:=rfl;rw[e2]at this;rw[this]
theorem getItem_tuple_cut{t sl:Addr}{items:Array Value}{vl vu:Value}{lo hi:Option Int}{Q:Value->Shared->Prop}(ht:IsTup s.heap t items)(hs:s.heap.IsSliceOf sl vl vu .none)(pl:IsPart vl lo)(pu:IsPart vu hi)
 (hw:¬(sIx items.size 0 lo=0/\sIx items.size items.size hi=items.size))
 (h:Q (.ref s.heap.objs.size) { s with heap:=s.heap.push { cls:=.type "tuple",data:=.seq ((items.toList.drop (sIx items.size 0 lo)).take (sIx items.size items.size hi-sIx items.size 0 lo)).toArray } })
 (hsz:items.size<=sizeLine):wpAny (model prog w) A (getItem (.ref t) (.ref sl)) Q E s:=by
 have htake:sizeOk (.seq ((items.toList.drop (sIx items.size 0 lo)).take (sIx items.size items.size hi-sIx items.size 0 lo)).toArray):=by
  show((items.toList.drop (sIx items.size 0 lo)).take (sIx items.size items.size hi-sIx items.size 0 lo)).toArray.size<=sizeLine;rw[C4,J2,O8,Z6];omega
 have hj:sIx items.size items.size hi<=items.size:=aER _ _ (B1 _) hi;obtain⟨os,hos,hcs,hds⟩:=id hs;have hTs:s.TypeIs (.ref sl) "slice":=⟨os,hos,hcs⟩;unfold getItem
 try with_reducible refine L4 ?_
 first|refine A4 (B7 ?_)|skip
 refine A4 (wpAny_sequenceKey ht.typeIs (by decide) ?_)
 refine A4 (U1 (name:=Str.ofString "__getitem__") ht.typeIs F8
  (Y7 F8 ht.typeIs entry_tuple_getitem ?_ (args_tuple_getitem _ _)))
 show wpAny _ _ (Builtin.Tuple.tupleItemsOf (.ref t) >>= _) _ _ s;refine A4 (tupleItemsOf_ ht ?_);refine A4 (A0e hTs ?_);rw[A7 (by decide)];refine A4 (kX hs pl pu ?_)
 have hno:¬((((sIx items.size 0 lo:Nat):Int)==0&&(1:Int)==1&&(sIx items.size items.size hi-sIx items.size 0 lo)==items.size)=true):=by
  intro q;rw[C2,C2]at q;have q1:((sIx items.size 0 lo:Nat):Int)=0:=eq_of_beq q.1.1;have q2:sIx items.size items.size hi-sIx items.size 0 lo=items.size:=eq_of_beq q.2;exact hw ⟨by omega,by omega⟩
 show wpAny _ _ (if (((sIx items.size 0 lo:Nat):Int)==0&&(1:Int)==1&&(sIx items.size items.size hi-sIx items.size 0 lo)==items.size)=true then _ else _) _ _ s;rw[B0 hno,UM]
 first
  |exact A4 (m:=Builtin.Tuple.tupleExact _) (D9 (B7 ⟨_,rfl,B7 h⟩) htake)
  |exact A4 (m:=Builtin.Tuple.tupleExact _) (D9 (A4 (B7 (B7 ⟨_,rfl,B7 h⟩))) htake)
  |exact A4 (A4 (m:=Builtin.Tuple.tupleExact _) (D9 (B7 (B7 ⟨_,rfl,B7 h⟩)) htake))
  |exact A4 (A4 (m:=Builtin.Tuple.tupleExact _) (D9 (B7 ⟨_,rfl,B7 h⟩) htake))
end
end HT
namespace L2
variable{H:Hp}{σ:St}{s:Shared}{pos:Pos}
open PySem PySem.Spec PyProof.Rows
noncomputable abbrev TO:=St->Hp->(Option Int->Hp->Prop)->Prop
noncomputable def PO(X:Cx)(e:Option Expr)(t:TO):Prop:=
 ∀(pins:List (Addr×Obj))(s:Shared)(σ:St)(H:Hp)(Q:Option Int->Hp->Prop),Inv X pins σ H s->t σ H Q->
  wpAny (model X.prog X.w) X.A (evalPart e X.env) (fun u s'=>∃o H',Inv X pins σ H' s'/\IsPart u o/\Q o H') X.xe s
noncomputable def IX:TO:=fun _ H Q=>Q none H
noncomputable def aBW(t:TE):TO:=fun σ H Q=>t σ H fun x H1=>∃i,x=.int i/\Q (some i) H1
theorem intsAre_of{ns:List Int}:∀{us:List Value},aV (ns.map V.int) us->IntsAre us ns:=by
 induction ns with
 |nil=>intro us r;rw[S9]at r;cases r;exact .nil
 |cons n ns ih=>
  intro us r;rw[B6]at r;cases r with
  |cons r1 r2=>
   obtain⟨t,e⟩:=r1;subst e;exact .cons n t (ih r2)
section
variable{X:Cx}{e:Expr}{te:TE}{lo hi:Option Expr}{tl th:TO}{pos p2:Pos}
theorem aBu:PO X none IX:=by
 intro pins s σ H Q I h;rw[evalPart_none];exact B7 ⟨none,H,I,.none,h⟩
theorem aAe(h:PE X e te):PO X (some e) (aBW te):=by
 intro pins s σ H Q I hw;rw[evalPart_some];refine thn (h pins s σ H _ I hw) fun u s1 ⟨x,H1,I1,r1,q1⟩=>?_;obtain⟨i,rfl,q⟩:=q1;obtain⟨t,rfl⟩:=r1;exact⟨some i,H1,I1,.int i t,q⟩
noncomputable def SlR(X:Cx)(r:V->Option Int->Option Int->Hp->VK->Prop):Prop:=
 ∀(pins:List (Addr×Obj))(s:Shared)(σ:St)(H:Hp)(x:V)(v vl vu:Value)(lo hi:Option Int)(sl:Addr)(Q:VK),Inv X pins σ H s->RelV x v->s.heap.IsSliceOf sl vl vu .none->IsPart vl lo->IsPart vu hi->r x lo hi H Q->
  ∃T id,typeLookup (.type T) "__getitem__"=pure (some (.builtin id))/\s.TypeIs v T/\wpAny (model X.prog X.w) X.A (getItem v (.ref sl)) (EP X pins σ Q) X.xe s
theorem SlR.or{r r':V->Option Int->Option Int->Hp->VK->Prop}(h:SlR X r)(h':SlR X r'):SlR X (fun x lo hi H Q=>r x lo hi H Q\/r' x lo hi H Q):=by
 intro pins s σ H x v vl vu lo hi sl Q I rx hs pl pu q;rcases q with q|q
 .exact h pins s σ H x v vl vu lo hi sl Q I rx hs pl pu q
 .exact h' pins s σ H x v vl vu lo hi sl Q I rx hs pl pu q
noncomputable def tSl(r:V->Option Int->Option Int->Hp->VK->Prop)(te:TE)(tl th:TO):TE:=fun σ H Q=>te σ H fun x H1=>tl σ H1 fun l H2=>th σ H2 fun u H3=>r x l u H3 Q
theorem RO{r:V->Option Int->Option Int->Hp->VK->Prop}(hr:SlR X r)(he:PE X e te)(hl:PO X lo tl)(hu:PO X hi th):PE X (.Subscript e (.Slice lo hi none p2) pos) (tSl r te tl th):=by
 intro pins s σ H Q I h;refine Subscript_ (thn (he pins s σ H _ I h) fun v s1 ⟨x,H1,I1,r1,q1⟩=>?_);refine wpAny_Slice (thn (hl pins s1 σ H1 _ I1 q1) fun vl s2 ⟨l,H2,I2,pl,q2⟩=>thn (hu pins s2 σ H2 _ I2 q2) fun vu s3 ⟨u,H3,I3,pu,q3⟩=>?_);rw[evalPart_none];refine B7 ?_;have I4:Inv X pins σ H3 { s3 with heap:=s3.heap.push { cls:=.type "slice",data:=.fields #[vl,vu,.none] } }:=I3.kept (t':=s3.toks) fun b ob q=>A6 _ q;obtain⟨T,id,hT,ht,hg⟩:=hr pins { s3 with heap:=s3.heap.push { cls:=.type "slice",data:=.fields #[vl,vu,.none] } } σ H3 x v vl vu l u s3.heap.objs.size Q I4 r1 (Heap.IsSliceOf.new ..) pl pu q3;show wpAny (model X.prog X.w) X.A (subscriptTail e (.Slice lo hi none p2) v (.ref s3.heap.objs.size)) (EP X pins σ Q) X.xe { s3 with heap:=s3.heap.push { cls:=.type "slice",data:=.fields #[vl,vu,.none] } };exact tail_any (ops:=[.ref s3.heap.objs.size,v]) ht hT hg (by with_unfolding_all rfl)
noncomputable def sI(xs:List V)(lo hi:Option Int):List V:=(xs.drop (HT.sIx xs.length 0 lo)).take (HT.sIx xs.length xs.length hi-HT.sIx xs.length 0 lo)
theorem sS(xs:List V)(lo hi:Option Int):(sI xs lo hi).length<=xs.length:=by
 unfold sI;rw[J2,O8];omega
noncomputable def aGp(K:Fg):V->Option Int->Option Int->Hp->VK->Prop:=fun x lo hi H Q=>∃a xs,x=.ref a/\SqT K H a xs /\
 ¬(HT.sIx xs.length 0 lo=0/\HT.sIx xs.length xs.length hi=xs.length)/\∀p,H p=none->Q (.ref p) (upd H p (.tup (sI xs lo hi)))
theorem sl_tup:SlR X (aGp X.K):=by
 intro pins s σ H x v vl vu lo hi sl Q I rx hs pl pu h;obtain⟨a,xs,rfl,hx,hw,q⟩:=h;cases rx;obtain⟨its,r,ht,hz⟩:=I.tuple hx;have hlen:its.toArray.size=xs.length:=by rw[C4];exact r.length.symm
 refine⟨"tuple",_,PyProof.Rows.slot_tuple_getitem.lookup,ht.typeIs,?_⟩;refine HT.getItem_tuple_cut ht hs pl pu (by rw[hlen];exact hw) ?_ (by rw[hlen];exact hz);rw[hlen];refine⟨.ref s.heap.objs.size,_,I.laid (t':=s.toks) (o:=.tup (sI xs lo hi)) (fun b ob q=>A6 _ q) (B1 _) ?_,rfl,q _ (I.hok.fresh (B1 _))⟩;exact⟨J0 (sS xs lo hi) hz,_,(r.drop (HT.sIx xs.length 0 lo)).take (HT.sIx xs.length xs.length hi-HT.sIx xs.length 0 lo),IsTup.new _ _⟩
noncomputable def SH(K:Fg):R2:=fun x y H Q=>∃a b xs ys,x=.ref a/\y=.ref b/\SqT K H a xs/\SqT K H b ys/\xs≠[]/\xs.length+ys.length<=sizeLine /\
 (ys=[]->Q (.ref a) H)/\(ys≠[]->∀p,H p=none->Q (.ref p) (upd H p (.tup (xs++ys))))
theorem aV.nil_iff{xs:List V}{us:List Value}(r:aV xs us):us=[]↔xs=[]:=by
 cases r with
 |nil=>simp
 |cons _ _=>simp
theorem aAo:OpR X (binaryOp .Add) (SH X.K):=by
 intro pins s σ H x y v u Q I rx ry h;obtain⟨a,b,xs,ys,rfl,rfl,ha,hb,hx,hz,q1,q2⟩:=h;cases rx;cases ry;obtain⟨its,r1,p1,_⟩:=I.tuple ha;obtain⟨its2,r2,p2,_⟩:=I.tuple hb;refine HT.cat_tup p1 p2 (fun z=>hx (r1.nil_iff.mp z)) (fun z=>⟨.ref a,H,I,rfl,q1 (r2.nil_iff.mp z)⟩) (fun z=>?_) (by rw[<- r1.length,<- r2.length];exact hz);refine⟨.ref s.heap.objs.size,_,I.laid (t':=s.toks) (o:=.tup (xs++ys)) (fun b ob q=>A6 _ q) (B1 _) ?_,rfl,q2 (fun w=>z (r2.nil_iff.mpr w)) _ (I.hok.fresh (B1 _))⟩;exact⟨by rw[B4];exact hz,_,r1.append r2,IsTup.new _ _⟩
end
noncomputable def ixN(n:Nat)(i:Int):Option Nat:=if 0<=i then(if i<n then some i.toNat else none)else if -(n:Int)<=i then some (i+n).toNat else none
noncomputable def atI{α:Type}(xs:List α)(i:Int):Option α:=(ixN xs.length i).bind fun j=>xs[j]?
theorem JY{n:Nat}{i:Int}{j:Nat}(h:ixN n i=some j):seqIndex? i n=some j/\j<n/\-(n:Int)<=i/\i<n:=by
 unfold ixN at h;by_cases h0:0<=i
 .rw[A7 h0]at h;by_cases h1:i<n
  .rw[A7 h1]at h;have e:i.toNat=j:=D5 h;exact⟨by rw[seqIndex_of h0 h1,e],by omega,by omega,h1⟩
  .rw[B0 h1]at h;cases h
 .rw[B0 h0]at h;by_cases h1:-(n:Int)<=i
  .rw[A7 h1]at h;have e:(i+n).toNat=j:=D5 h;exact⟨by rw[seqIndex_neg (by omega) h1,e],by omega,h1,by omega⟩
  .rw[B0 h1]at h;cases h
theorem AL{α:Type}{xs:List α}{i:Int}{v:α}(h:atI xs i=some v):∃j,seqIndex? i xs.length=some j/\xs[j]?=some v/\j<xs.length/\-(xs.length:Int)<=i/\i<xs.length:=by
 unfold atI at h;cases e:ixN xs.length i with
 |none=>rw[e]at h;cases h
 |some j=>
  rw[e]at h;obtain⟨h1,h2,h3,h4⟩:=JY e;exact⟨j,h1,h,h2,h3,h4⟩
theorem gR{α:Type}{xs:List α}{j:Nat}{v:α}(h:xs[j]?=some v):atI xs (j:Int)=some v:=by
 have hj:j<xs.length:=(List.getElem?_eq_some_iff.mp h).1
 have e:ixN xs.length (j:Int)=some j:=by
  unfold ixN;rw[A7 (by omega),A7 (by omega)];simp
 unfold atI;rw[e];exact h
noncomputable def JD(b:Expr):Prop:=∀o i,subscripted b false o i=operate [o,i] (getItem o i)
noncomputable def IxR(X:Cx)(r:R2):Prop:=
 ∀(value slice:Expr)(pins:List (Addr×Obj))(s:Shared)(σ:St)(H:Hp)(x y:V)(v u:Value)(Q:VK),Inv X pins σ H s->RelV x v->RelV y u->r x y H Q->
  subscripted slice false v u=operate [v,u] (getItem v u)->wpAny (model X.prog X.w) X.A (subscriptTail value slice v u) (EP X pins σ Q) X.xe s
noncomputable def MtR(X:Cx)(id:String)(r:V->List V->Hp->VK->Prop):Prop:=
 ∀(pins:List (Addr×Obj))(s:Shared)(σ:St)(H:Hp)(x:V)(xs:List V)(v:Value)(us:List Value)(Q:VK),Inv X pins σ H s->RelV x v->aV xs us->r x xs H Q->
  wpAny (model X.prog X.w) X.A (call (.builtin id) (v::us)) (EP X pins σ Q) X.xe s
section
variable{X:Cx}{a b:Expr}{ta tb:TE}{pos:Pos}
theorem IxR.or{r r':R2}(h:IxR X r)(h':IxR X r'):IxR X (fun x y H Q=>r x y H Q\/r' x y H Q):=by
 intro value slice pins s σ H x y v u Q I rx ry q hs;rcases q with q|q
 .exact h value slice pins s σ H x y v u Q I rx ry q hs
 .exact h' value slice pins s σ H x y v u Q I rx ry q hs
theorem aFE{r:R2}(hr:IxR X r)(ha:PE X a ta)(hb:PE X b tb)(hs:JD b):PE X (.Subscript a b pos) (tOp r ta tb):=by
 intro pins s σ H Q I h;exact Subscript_ (aFs ha hb I h fun v u s2 x y H2 I2 rx ry q=>hr a b pins s2 σ H2 x y v u Q I2 rx ry q (hs _ _))
noncomputable def aFR(K:Fg):R2:=fun x y H Q=>∃p xs i v,x=.ref p/\y=.int i/\SqL K H p xs/\atI xs i=some v/\Q v H
noncomputable def aGk(K:Fg):R2:=fun x y H Q=>∃p xs i v,x=.ref p/\y=.int i/\SqT K H p xs/\atI xs i=some v/\Q v H
noncomputable def aFJ:R2:=fun x y H Q=>∃z i c,x=.str z/\y=.int i/\z.length<=sizeLine/\atI z.cps.toList i=some c/\Q (.str ⟨#[c]⟩) H
theorem ix_list:IxR X (aFR X.K):=by
 intro value slice pins s σ H x y v u Q I rx ry h hs;obtain⟨p,xs,i,z,rfl,rfl,hq,he,q⟩:=h;cases rx;obtain⟨t,rfl⟩:=ry;obtain⟨its,r,pl,hz⟩:=I.list hq;obtain⟨j,h1,h2,h3,h4,h5⟩:=AL he;obtain⟨w,ew,rw'⟩:=r.get h2;have hl:=r.length;have hn:=sH;have fin:EP X pins σ Q w s:=⟨z,H,I,rw',q⟩;by_cases h0:0<=i
 .have hj:i.toNat=j:=by
   rw[seqIndex_of h0 h5]at h1;exact D5 h1
  exact item_listR pl.isList h0 (by omega) (by rw[hj];simpa using ew) fin hs
 .have hj:(i+(its.toArray.size:Int)).toNat=j:=by
   rw[seqIndex_neg (by omega) h4]at h1;rw[C4,<- hl];exact D5 h1
  exact subscriptTail_builtinR (x:=w) pl.isList.typeIs slot_list_getitem.lookup
   (wpAny_getItem_list_neg (Q:=fun r s'=>r=w/\EP X pins σ Q r s') pl.isList (by omega) (by rw[C4]<;>omega) (by omega) (by rw[hj];simpa using ew) ⟨rfl,fin⟩) hs
theorem ix_tup:IxR X (aGk X.K):=by
 intro value slice pins s σ H x y v u Q I rx ry h hs;obtain⟨p,xs,i,z,rfl,rfl,hq,he,q⟩:=h;cases rx;obtain⟨t,rfl⟩:=ry;obtain⟨its,r,pl,hz⟩:=I.tuple hq;obtain⟨j,h1,h2,h3,h4,h5⟩:=AL he;obtain⟨w,ew,rw'⟩:=r.get h2;have hl:=r.length;have hn:=sH;have fin:EP X pins σ Q w s:=⟨z,H,I,rw',q⟩
 exact subscriptTail_builtinR (x:=w) pl.typeIs slot_tuple_getitem.lookup
  (getItem_tuple (j:=j) (Q:=fun r s'=>r=w/\EP X pins σ Q r s') pl (by omega) (by omega) (by rw[C4,<- hl];exact h1) (by simpa using ew) ⟨rfl,fin⟩) hs
theorem aCS:IxR X aFJ:=by
 intro value slice pins s σ H x y v u Q I rx ry h hs;obtain⟨z,i,c,rfl,rfl,hz,he,q⟩:=h;obtain⟨t,rfl⟩:=rx;obtain⟨t',rfl⟩:=ry;obtain⟨j,h1,h2,h3,h4,h5⟩:=AL he;have hl:z.cps.toList.length=z.length:=by simp[Str.length]
 rw[hl]at h1 h4 h5;have hn:=sH
 exact tail_any (typeIs_str s z t) slot_str_getitem.lookup (getItem_str (c:=c) (by
  have e1:decide (i < -(2 ^ 63:Int))=false:=C1 (by omega);have e2:decide (i>=2 ^ 63)=false:=C1 (by omega);rw[e1,e2,Bool.or_false]) (by rw[h1];simpa using h2) ⟨.str ⟨#[c]⟩,H,I.tok _,⟨_,rfl⟩,q⟩) hs
noncomputable def rIx(K:Fg):R2:=fun x y H Q=>aFR K x y H Q\/aGk K x y H Q\/aFJ x y H Q
theorem aDF:IxR X (rIx X.K):=ix_list.or (ix_tup.or aCS)
theorem GP(its:List Value)(n j:Nat)(u:Value):Obj.mapSeq (·.setIfInBounds j u) { cls:=.type "list",data:=.seq its.toArray n }={ cls:=.type "list",data:=.seq (its.set j u).toArray n }:=by
 simp[Obj.mapSeq]
theorem Inv.lst{pins:List (Addr×Obj)}{p:Addr}{xs:List V}(I:Inv X pins σ H s)(h:H p=some (.lst xs)):
 ∃(its:List Value)(n:Nat),aV xs its/\s.heap.get? p=some { cls:=.type "list",data:=.seq its.toArray n }/\xs.length<=sizeLine:=by
 obtain⟨z,its,n,r,e⟩:=I.hok p _ h;exact⟨its,n,r,e,z⟩
theorem Inv.lstUpd{pins:List (Addr×Obj)}{p:Addr}{xs ys:List V}{its its':List Value}{n n':Nat}{f:Obj->Obj}(I:Inv X pins σ H s)(h:H p=some (.lst xs))
 (ho:s.heap.get? p=some { cls:=.type "list",data:=.seq its.toArray n }) (hf:f { cls:=.type "list",data:=.seq its.toArray n }={ cls:=.type "list",data:=.seq its'.toArray n' }) (r:aV ys its') (hz:ys.length<=sizeLine) (t:Nat):
 Inv X pins σ (upd H p (.lst ys)) { s with heap:=s.heap.update p f,toks:=t }:=by
 have e:(s.heap.update p f).get? p=some { cls:=.type "list",data:=.seq its'.toArray n' }:=by
  rw[Z7 f ho (by rw[hf]<;>rfl),hf]
 refine I.write (x:=p) (e:=p) (by rw[h];trivial) (.inl rfl) (fun b u hb q=>(S0 _ _ (J9 hb)).trans q) ⟨_,e⟩ ?_;exact⟨hz,its',n',r,e⟩
noncomputable def aBB:V->V->V->Hp->(Hp->Prop)->Prop:=fun o i v H Q=>∃p xs k j,o=.ref p/\i=.int k/\H p=some (.lst xs)/\ixN xs.length k=some j/\Q (upd H p (.lst (xs.set j v)))
theorem set_list:aDL X aBB:=by
 intro pins s σ H o i v ov iv u Q I ro ri rv h;obtain⟨p,xs,k,j,rfl,rfl,hp,hj,q⟩:=h;cases ro;obtain⟨t,rfl⟩:=ri;obtain⟨its,n,r,ho,hz⟩:=I.lst hp;obtain⟨h1,h2,h3,h4⟩:=JY hj;have hl:=r.length;have hn:=sH
 have I':Inv X pins σ (upd H p (.lst (xs.set j v))) { s with heap:=s.heap.update p (Obj.mapSeq (·.setIfInBounds j u)) }:=
  I.lstUpd hp ho (GP its n j u) (r.set rv j) (by rw[O3];exact hz) s.toks
 by_cases h0:0<=k
 .have hk:k.toNat=j:=by
   rw[seqIndex_of h0 h4]at h1;exact D5 h1
  exact PySem.W.ki_setAt ho h0 (by omega) (by rw[C4,<- hl];exact h4) (by rw[hk];exact⟨_,I',q⟩)
 .have hk:(k+(its.toArray.size:Int)).toNat=j:=by
   rw[seqIndex_neg (by omega) h3]at h1;rw[C4,<- hl];exact D5 h1
  exact PySem.W.ki_setBack ho (by omega) (by rw[C4,<- hl];exact h3) (by omega) (by rw[hk];exact⟨_,I',q⟩)
theorem BQ(lo hi:Option Int)(n:Nat):(sliceBounds lo hi none n).1=((HT.sIx n 0 lo:Nat):Int)/\(sliceBounds lo hi none n).2.1=((HT.sIx n n hi:Nat):Int)/\(sliceBounds lo hi none n).2.2=1:=by
 refine⟨?_,?_,rfl⟩
 .cases lo with
  |none=>simp[sliceBounds,HT.sIx]
  |some i=>
   simp only[sliceBounds,HT.sIx,Option.getD_none,show(1:Int) > 0 by decide,if_true];by_cases h:i<0
   .simp only[h,if_true]<;>omega
   .simp only[h,if_false]<;>omega
 .cases hi with
  |none=>simp[sliceBounds,HT.sIx]
  |some i=>
   simp only[sliceBounds,HT.sIx,Option.getD_none,show(1:Int) > 0 by decide,if_true];by_cases h:i<0
   .simp only[h,if_true]<;>omega
   .simp only[h,if_false]<;>omega
theorem xH(its:List Value)(lo hi:Option Int):slicePick its.toArray lo hi none=((its.drop (HT.sIx its.length 0 lo)).take (HT.sIx its.length its.length hi-HT.sIx its.length 0 lo)).toArray:=by
 obtain⟨h1,h2,h3⟩:=BQ lo hi its.toArray.size;unfold slicePick;rw[h1,h2,h3];simp only[sliceRange_one,pick_run,List.size_toArray]<;>rfl
noncomputable def aGN(K:Fg):V->Option Int->Option Int->Hp->VK->Prop:=fun x lo hi H Q=>∃a xs,x=.ref a/\SqL K H a xs/\∀p,H p=none->Q (.ref p) (upd H p (.lst (sI xs lo hi)))
theorem sl_list:SlR X (aGN X.K):=by
 intro pins s σ H x v vl vu lo hi sl Q I rx hs pl pu h;obtain⟨a,xs,rfl,hx,q⟩:=h;cases rx;obtain⟨its,r,ht,hz⟩:=I.list hx;have hlen:=r.length;refine⟨"list",_,slot_list_getitem.lookup,ht.isList.typeIs,?_⟩;refine wpAny_getItem_list_slice ht.isList hs pl pu .none (by simp) ?_ (by rw[C4]<;>omega);rw[xH,<- hlen];refine⟨.ref s.heap.objs.size,_,I.laid (t':=s.toks) (o:=.lst (sI xs lo hi)) (fun b ob q=>A6 _ q) (B1 _) ?_,rfl,q _ (I.hok.fresh (B1 _))⟩;exact⟨J0 (sS xs lo hi) hz,_,0,(r.drop (HT.sIx xs.length 0 lo)).take (HT.sIx xs.length xs.length hi-HT.sIx xs.length 0 lo),D2 _ rfl⟩
theorem AY:dO X (.builtin "len") (fun xs H Q=>∃p ys,xs=[.ref p]/\(SqL X.K H p ys\/SqT X.K H p ys)/\Q (.int ys.length) H):=by
 intro pins s σ H xs us Q I r h;obtain⟨p,ys,rfl,hq,q⟩:=h;obtain⟨u,rfl,rx⟩:=vals1 r;cases rx;have hn:=sH;rcases hq with hq|hq
 .obtain⟨its,r',pl,hz⟩:=I.list hq;have hlen:=r'.length;exact Calls.call_len_list pl.isList (by simp only[List.size_toArray]<;>omega) ⟨.int ys.length,H,I.tok _,⟨s.toks+1,by rw[C4,hlen]⟩,q⟩
 .obtain⟨its,r',pl,hz⟩:=I.tuple hq;have hlen:=r'.length;exact len_tuple pl (by simp only[List.size_toArray]<;>omega) ⟨.int ys.length,H,I.tok _,⟨s.toks+1,by rw[C4,hlen]⟩,q⟩
theorem AI:dO X (.type "list") (fun xs H Q=>∃p ys,xs=[.ref p]/\(SqL X.K H p ys\/SqT X.K H p ys)/\∀l,H l=none->Q (.ref l) (upd H l (.lst ys))):=by
 intro pins s σ H xs us Q I r h;obtain⟨p,ys,rfl,hq,q⟩:=h;obtain⟨u,rfl,rx⟩:=vals1 r;cases rx
 have fin:∀(its:List Value),aV ys its->ys.length<=sizeLine->∀(h':Heap)(c':Nat),(∀b o',s.heap.get? b=some o'->h'.get? b=some o')->
  h'.get? s.heap.objs.size=some { cls:=.type "list",dict:=none,data:=.seq its.toArray c',slots:=#[] }->EP X pins σ Q (.ref s.heap.objs.size) { s with heap:=h' }:=fun its r' hz h' c' kp e=>
  ⟨.ref s.heap.objs.size,_,I.laid (t':=s.toks) kp (B1 _) (show dG X.prog X.w _ h' _ (.lst ys)from⟨hz,its,c',r',e⟩),rfl,q _ (I.hok.fresh (B1 _))⟩
 rcases hq with hq|hq
 .obtain⟨its,r',pl,hz⟩:=I.list hq;have hlen:=r'.length;obtain⟨o,ho,hc,n,hd⟩:=pl.isList;exact call_list_seq p (.inl rfl) ho hc hd (fun h' c' kp e=>fin its r' hz h' c' kp e) (by simp only[List.size_toArray]<;>omega)
 .obtain⟨its,r',pl,hz⟩:=I.tuple hq;have hlen:=r'.length;obtain⟨o,ho,hc,n,hd⟩:=pl;exact call_list_seq p (.inr rfl) ho hc hd (fun h' c' kp e=>fin its r' hz h' c' kp e) (by simp only[List.size_toArray]<;>omega)
theorem xQ:dO X (.type "tuple") (fun xs H Q=>∃p ys,xs=[.ref p]/\((SqL X.K H p ys/\∀l,H l=none->Q (.ref l) (upd H l (.tup ys)))\/(SqT X.K H p ys/\Q (.ref p) H))):=by
 intro pins s σ H xs us Q I r h;obtain⟨p,ys,rfl,h⟩:=h;obtain⟨u,rfl,rx⟩:=vals1 r;cases rx;rcases h with⟨hq,q⟩|⟨hq,q⟩
 .obtain⟨its,r',pl,hz⟩:=I.list hq;have hlen:=r'.length;refine call_tuple_list pl.isList (fun h' kp=>?_) (by simp only[List.size_toArray]<;>omega);have I1:Inv X pins σ H { s with heap:=h' }:=I.kept (t':=s.toks) kp
  have I2:Inv X pins σ (upd H h'.objs.size (.tup ys)) { s with heap:=h'.push { cls:=.type "tuple",data:=.seq its.toArray } }:=
   I1.laid (t':=s.toks) (fun b o e=>A6 _ e) (B1 _) (show dG X.prog X.w _ _ _ (.tup ys)from⟨hz,its,r',IsTup.new _ _⟩)
  exact⟨.ref h'.objs.size,_,I2,rfl,q _ (I1.hok.fresh (B1 _))⟩
 .obtain⟨its,r',pl,hz⟩:=I.tuple hq;exact call_tuple_same pl ⟨.ref p,H,I,rfl,q⟩
noncomputable def tyV(K:Fg)(T:String)(x:V)(H:Hp):Prop:=match x with
 |.str _=>T="str"
 |.int _=>T="int"
 |.ref p=>(T="list"/\∃xs,SqL K H p xs)\/(T="tuple"/\∃o,K.lookup p=some o/\o.cls=.type "tuple"/\o.dict=none) \/
  (T="dict"/\((∃kvs,H p=some (.dK kvs))\/∃kvs,H p=some (.dT kvs)))\/(T="set"/\∃S n,H p=some (.set S n))
 |_=>False
theorem XR{pins:List (Addr×Obj)}{T:String}{x:V}{v:Value}(I:Inv X pins σ H s)(r:RelV x v)(ty:tyV X.K T x H):
 s.TypeIs v T/\∀a,v=.ref a->∃ob,s.heap.get? a=some ob/\ob.dict=none:=by
 cases x with
 |str z=>
  obtain⟨t,rfl⟩:=r;cases (show T="str" from ty);exact⟨typeIs_str s z t,fun _ e=>nomatch e⟩
 |int i=>
  obtain⟨t,rfl⟩:=r;cases (show T="int" from ty);exact⟨typeIs_int s i t,fun _ e=>nomatch e⟩
 |ref p=>
  cases r;rcases ty with⟨rfl,xs,hq⟩|⟨rfl,o,hk,hc,hd⟩|⟨rfl,hk⟩|⟨rfl,S,n,hk⟩
  .obtain⟨its,_,pl,_⟩:=I.list hq;refine⟨pl.isList.typeIs,fun a e=>?_⟩;cases e;obtain⟨o,n,e,c,hd,_⟩:=pl;exact⟨o,e,hd⟩
  .refine⟨⟨o,I.kIn p o hk,hc⟩,fun a e=>?_⟩;cases e;exact⟨o,I.kIn _ o hk,hd⟩
  .have z:∃o,s.heap.get? p=some o/\o.ExactDict:=by
    rcases hk with⟨kvs,hk⟩|⟨kvs,hk⟩
    .obtain⟨_,_,_,_,o,_,_,e,ex,_⟩:=I.hok p _ hk;exact⟨o,e,ex⟩
    .obtain⟨_,_,_,_,o,_,_,e,ex,_⟩:=I.hok p _ hk;exact⟨o,e,ex⟩
   obtain⟨o,e,ex⟩:=z;refine⟨⟨o,e,ex.1⟩,fun a e2=>?_⟩;cases e2;exact⟨o,e,ex.2.1⟩
  .obtain⟨o,_,_,_,e,ex,_⟩:=I.hok p _ hk;refine⟨⟨o,e,ex.1⟩,fun a e2=>?_⟩;cases e2;exact⟨o,e,ex.2.1⟩
 |_=>exact False.elim ty
noncomputable def aGs(K:Fg)(T:String)(r:V->List V->Hp->VK->Prop)(to:TE):TE:=fun σ H Q=>to σ H fun x H1=>tyV K T x H1/\r x [] H1 Q
noncomputable def tBM(K:Fg)(T:String)(r:V->List V->Hp->VK->Prop)(to:TE)(t:TA):TE:=fun σ H Q=>to σ H fun x H1=>tyV K T x H1/\t σ H1 fun xs H2=>r x xs H2 Q
variable{o e:Expr}{es:List Expr}{to:TE}{t:TA}{name:Str}{apos cpos:Pos}{T id:String}{r:V->List V->Hp->VK->Prop}
theorem OY(pa:PlainAttrs T)(slot:Slot T name id)(hty:typeOf (.builtin id)=pure (.type "method_descriptor"))(hm:MtR X id r)(ho:PE X o to)
 (hbase:attributeBase o name X.env (eval o X.env)=eval o X.env:=by rfl) (hline:(apos.endLine==cpos.line)=true:=by rfl):PE X (.Call (.Attribute o name apos) [] [] cpos) (aGs X.K T r to):=by
 intro pins s σ H Q I h;refine wpAny_Call_method0_late hbase hline (thn (ho pins s σ H _ I h) fun v s1 ⟨x,H1,I1,r1,ty,q1⟩=>?_);obtain⟨h1,h2⟩:=XR I1 r1 ty;exact⟨T,id,pa,slot,hty,h1,h2,Calls.callWith_builtin rfl (PySem.evalArgs_none (hm pins s1 σ H1 x [] v [] Q I1 r1 .nil q1))⟩
theorem aHa(pa:PlainAttrs T)(slot:Slot T name id)(hty:typeOf (.builtin id)=pure (.type "method_descriptor"))(hm:MtR X id r)(ho:PE X o to)(ha:PA X (e::es) t)
 (hbase:attributeBase o name X.env (eval o X.env)=eval o X.env:=by rfl)
 (hfew:((backTo cpos (starEach (e::es) X.env)).all (fun x=>!x.1)&&(backToKw cpos (keywordEach [] X.env)).all (fun x=>x.1.isSome)
  && decide ((e::es).length+([]:List Keyword).length+(if ([]:List Keyword).isEmpty then 0 else 1)<30))=true:=by rfl)
 (hline:(apos.endLine==cpos.line)=true:=by rfl) (hs:starEach (e::es) X.env=(false,eval e X.env)::starEach es X.env:=by rfl) (hplain:(backTo cpos (starEach es X.env)).any (·.1)=false:=by rfl):
 PE X (.Call (.Attribute o name apos) (e::es) [] cpos) (tBM X.K T r to t):=by
 intro pins s σ H Q I h;refine wpAny_Call_method_late hbase hfew hline rfl (thn (ho pins s σ H _ I h) fun v s1 ⟨x,H1,I1,r1,ty,q1⟩=>?_);obtain⟨h1,h2⟩:=XR I1 r1 ty;refine⟨T,id,pa,slot,hty,h1,h2,?_⟩;have hA:=ha cpos pins s1 σ H1 _ I1 q1;rw[hs]at hA ⊢;refine Calls.callWith_builtin (by show(false || (backTo cpos (starEach es X.env)).any (·.1))=false;rw[hplain]<;>rfl) (Calls.evalArgs_plain ?_);exact thn hA fun us s2 ⟨vs,H2,I2,r2,q2⟩=>hm pins s2 σ H2 x vs v us Q I2 r1 r2 q2
end
noncomputable def MtM(X:Cx)(id:String)(r:V->List V->Hp->VK->Prop):Prop:=
 ∀(pins:List (Addr×Obj))(s:Shared)(σ:St)(H:Hp)(x:V)(xs:List V)(v:Value)(us:List Value)(Q:VK),Inv X pins σ H s->RelV x v->aV xs us->r x xs H Q->
  wpAny (model X.prog X.w) X.A (call (.builtin id) (v::us)) (EP X pins σ Q) X.xe s
theorem aV.one:∀{x:V}{us:List Value},aV [x] us->∃u,us=[u]/\RelV x u
 |_,_,.cons r .nil=>⟨_,rfl,r⟩
theorem aV.zero:∀{us:List Value},aV [] us->us=[]
 |_,.nil=>rfl
theorem aV.dropLast{xs:List V}{us:List Value}(h:aV xs us):aV xs.dropLast us.dropLast:=by
 induction h with
 |nil=>exact .nil
 |cons r t ih=>
  cases t with
  |nil=>exact .nil
  |cons q t'=>exact .cons r ih
theorem aV.reverse{xs:List V}{us:List Value}(h:aV xs us):aV xs.reverse us.reverse:=by
 induction h with
 |nil=>exact .nil
 |cons r t ih=>rw[F7,F7];exact aV.append ih (.cons r .nil)
theorem IE{α:Type}(l:List α):l.eraseIdx (l.length-1)=l.dropLast:=by
 induction l with
 |nil=>rfl
 |cons a r ih=>
  cases r with
  |nil=>rfl
  |cons b r=>
   have e:(a::b::r).length-1=((b::r).length-1)+1:=by
    have h1:(a::b::r).length=r.length+2:=rfl;have h2:(b::r).length=r.length+1:=rfl;omega
   rw[e,List.eraseIdx_cons_succ,ih]
   all_goals rfl
section
variable{X:Cx}{pins:List (Addr×Obj)}{σ:St}{H:Hp}{s:Shared}{l b:Addr}{xs ys zs:List V}
theorem Inv.lset{its its':List Value}{n:Nat}{f:Array Value->Array Value}{t':Nat}(I:Inv X pins σ H s)(hH:H l=some (.lst xs))
 (e:s.heap.get? l=some { cls:=.type "list",data:=.seq its.toArray n }) (hf:f its.toArray=its'.toArray) (hv:aV ys its') (hz:ys.length<=sizeLine):
 Inv X pins σ (upd H l (.lst ys)) { s with heap:=s.heap.update l (Obj.mapSeq f),toks:=t' }:=by
 have q:=PySem.IsL.update e f;rw[hf]at q;refine I.write (x:=l) (e:=l) (by rw[hH];exact trivial) (.inl rfl) (fun b' u hb hu=>(S0 s.heap (Obj.mapSeq f) (J9 hb)).trans hu) ⟨_,q⟩ ?_;exact⟨hz,its',_,hv,q⟩
theorem Inv.lnew{its:List Value}{t':Nat}(I:Inv X pins σ H s)(hv:aV ys its)(hz:ys.length<=sizeLine):
 Inv X pins σ (upd H s.heap.objs.size (.lst ys)) { s with heap:=s.heap.push { cls:=.type "list",data:=.seq its.toArray },toks:=t' }:=
 I.laid (fun _ _ q=>A6 _ q) (B1 _) ⟨hz,its,0,hv,D2 _ rfl⟩
theorem Inv.fresh(I:Inv X pins σ H s):H s.heap.objs.size=none:=I.hok.fresh (B1 _)
theorem Inv.lstM(I:Inv X pins σ H s)(hH:H l=some (.lst xs)):xs.length<=sizeLine/\∃(its:List Value)(n:Nat),aV xs its/\xs.length=its.length/\s.heap.get? l=some { cls:=.type "list",data:=.seq its.toArray n }:=by
 obtain⟨z,its,n,r,e⟩:=I.hok l _ hH;exact⟨z,its,n,r,r.length,e⟩
end
section
variable{X:Cx}
noncomputable def IM:V->List V->Hp->VK->Prop:=fun x vs H Q=>∃l xs y,x=.ref l/\vs=[y]/\H l=some (.lst xs)/\xs.length<sizeLine/\Q .non (upd H l (.lst (xs++[y])))
theorem OW:MtM X "list.append" IM:=by
 intro pins s σ H x vs v us Q I rx rv h;obtain⟨l,xs,y,rfl,rfl,hH,hz,q⟩:=h;cases rx;obtain⟨u,rfl,ru⟩:=rv.one;obtain⟨z,its,n,r,hl,e⟩:=I.lstM hH;refine call_meets F.slot_list_append ⟨_,e,rfl⟩ F.entry_list_append (F.args_list_append_2 _ _) (PySem.list_append l its.toArray n u (by rw[C4];omega)) ⟨e,?_⟩;refine⟨.non,_,I.lset (its':=its++[u]) hH e (by simp) (r.append (.cons ru .nil)) ?_,rfl,q⟩;rw[B4,C7];omega
noncomputable def aGH:V->List V->Hp->VK->Prop:=fun x vs H Q=>∃l xs y,x=.ref l/\vs=[]/\H l=some (.lst xs)/\xs[xs.length-1]?=some y/\Q y (upd H l (.lst xs.dropLast))
theorem aEH:MtM X "list.pop" aGH:=by
 intro pins s σ H x vs v us Q I rx rv h;obtain⟨l,xs,y,rfl,rfl,hH,hy,q⟩:=h;cases rx;have hus:=rv.zero;subst hus;obtain⟨z,its,n,r,hl,e⟩:=I.lstM hH;obtain⟨u,hu,ru⟩:=r.get hy
 have hy':its.toArray[its.toArray.size-1]?=some u:=by
  show its.toArray[its.length-1]?=some u;rw[<- U4,<- hl];exact hu
 refine call_meets F.slot_list_pop ⟨_,e,rfl⟩ F.entry_list_pop (F.args_list_pop_1 _) (MeetsSeq.list_pop_last l its.toArray n u hy' (by rw[C4];omega)) ⟨e,?_⟩;refine⟨y,_,I.lset (its':=its.dropLast) hH e ?_ r.dropLast ?_,ru,q⟩
 .show its.toArray.eraseIdxIfInBounds (its.toArray.size-1)=its.dropLast.toArray;rw[C4,List.eraseIdxIfInBounds_toArray,IE]
 .rw[List.length_dropLast];omega
noncomputable def DG:V->List V->Hp->VK->Prop:=fun x vs H Q=>∃l xs,x=.ref l/\vs=[]/\H l=some (.lst xs)/\Q .non (upd H l (.lst xs.reverse))
theorem FY:MtM X "list.reverse" DG:=by
 intro pins s σ H x vs v us Q I rx rv h;obtain⟨l,xs,rfl,rfl,hH,q⟩:=h;cases rx;have hus:=rv.zero;subst hus;obtain⟨z,its,n,r,hl,e⟩:=I.lstM hH;refine call_meets F.slot_list_reverse ⟨_,e,rfl⟩ F.entry_list_reverse (F.args_list_reverse_1 _) (AutoSeq1.list_reverse_list_0 l its.toArray n (by rw[C4];omega)) ⟨e,?_⟩;refine⟨.non,_,I.lset (its':=its.reverse) hH e (by simp) r.reverse ?_,rfl,q⟩;rw[S6];omega
end
section
variable{κ:Type}[DecidableEq κ]
noncomputable def gH(kvs:List (κ×V))(k:κ):Option V:=(kvs.find? fun kv=>decide (kv.1=k)).map (·.2)
noncomputable def putK(kvs:List (κ×V))(k:κ)(v:V):List (κ×V):=
 if (kvs.any fun kv=>decide (kv.1=k))=true then kvs.map (fun kv=>if kv.1=k then(kv.1,v)else kv)else kvs++[(k,v)]
theorem wI{p:κ×V}{r:List (κ×V)}{k:κ}(e:p.1=k):gH (p::r) k=some p.2:=by simp[gH,List.find?_cons,e]
theorem vS{p:κ×V}{r:List (κ×V)}{k:κ}(e:¬p.1=k):gH (p::r) k=gH r k:=by simp[gH,List.find?_cons,e]
theorem uQ(k:κ):∀kvs:List (κ×V),(kvs.any fun kv=>decide (kv.1=k))=(gH kvs k).isSome
 |[]=>rfl
 |p::r=>by
  rw[O6];by_cases e:p.1=k
  .simp only[wI e,decide_eq_true e,Bool.true_or,Option.isSome_some]
  .rw[vS e,C1 e,Bool.false_or];exact uQ k r
theorem mS(kvs:List (κ×V))(k:κ)(v:V):(putK kvs k v).length<=kvs.length+1:=by
 unfold putK;split
 .rw[A3];omega
 .rw[B4,C9,List.length_nil];omega
theorem UL{kvs:List (κ×V)}{k:κ}(v:V)(h:gH kvs k=none):putK kvs k v=kvs++[(k,v)]:=by
 unfold putK;rw[uQ,h];exact B0 (by decide)
theorem LF.isSome_eq{o:Option V}{u:Option Value}(r:LF o u):o.isSome=u.isSome:=by
 cases o with
 |none=>cases u with
  |none=>rfl
  |some _=>exact(show False from r).elim
 |some _=>cases u with
  |none=>exact(show False from r).elim
  |some _=>rfl
theorem KV.val{kvs:List (κ×V)}{vs:List (κ×Value)}(r:KV kvs vs)(k:κ):LF (gH kvs k) (valueAt vs k):=by
 unfold KV at r
 induction r with
 |nil=>exact True.intro
 |@cons p q ps qs h t ih=>
  obtain⟨h1,h2⟩:=h;by_cases e:p.1=k
  .have e':q.1=k:=h1.symm.trans e;have b:valueAt (q::qs) k=some q.2:=by simp[valueAt,List.find?_cons,e']
   rw[wI e,b];exact h2
  .have e':¬q.1=k:=fun z=>e (h1.trans z);have b:valueAt (q::qs) k=valueAt qs k:=by simp[valueAt,List.find?_cons,e']
   rw[vS e,b];exact ih
theorem KV.any{kvs:List (κ×V)}{vs:List (κ×Value)}(r:KV kvs vs)(k:κ):(kvs.any fun kv=>decide (kv.1=k))=vs.any fun kv=>decide (kv.1=k):=by
 unfold KV at r
 induction r with
 |nil=>rfl
 |cons h t ih=>rw[O6,O6,ih,h.1]
theorem KV.repl{kvs:List (κ×V)}{vs:List (κ×Value)}(r:KV kvs vs)(k:κ){y:V}{u:Value}(ry:RelV y u):
 KV (kvs.map fun kv=>if kv.1=k then(kv.1,y)else kv) (vs.map fun kv=>if kv.1=k then(kv.1,u)else kv):=by
 unfold KV at r ⊢
 induction r with
 |nil=>exact .nil
 |@cons p q ps qs h t ih=>
  rw[B6,B6];refine .cons ?_ ih;obtain⟨h1,h2⟩:=h;by_cases e:p.1=k
  .rw[A7 e,A7 (h1.symm.trans e)];exact⟨h1,ry⟩
  .rw[B0 e,B0 (fun z=>e (h1.trans z))];exact⟨h1,h2⟩
theorem KV.put{kvs:List (κ×V)}{vs:List (κ×Value)}(r:KV kvs vs)(k:κ){y:V}{u:Value}(ry:RelV y u):KV (putK kvs k y) (stored vs k u):=by
 unfold putK stored;rw[r.any k];by_cases e:(vs.any fun kv=>decide (kv.1=k))=true
 .rw[A7 e,A7 e];exact r.repl k ry
 .rw[B0 e,B0 e];exact Paired.snoc r ⟨rfl,ry⟩
theorem KV.keys{kvs:List (κ×V)}{vs:List (κ×Value)}(r:KV kvs vs):kvs.map (·.1)=vs.map (·.1):=by
 unfold KV at r
 induction r with
 |nil=>rfl
 |cons h t ih=>rw[B6,B6,ih,h.1]
theorem KV.length{kvs:List (κ×V)}{vs:List (κ×Value)}(r:KV kvs vs):kvs.length=vs.length:=Paired.length r
end
theorem FD{P:Program}{w:World}{k:Key}{u:Value}(r:RelV (kV k) u):(cO P w).is k u=true:=by
 cases k with
 |inl i=>obtain⟨t,e⟩:=(show ∃t,u=Value.int i t from r);subst e;exact CF P w i t
 |inr x=>obtain⟨t,e⟩:=(show ∃t,u=Value.str x t from r);subst e;exact EU P w x t
theorem yP{P:Program}{w:World}:∀{ks:List Key}{us:List Value},aV (ks.map kV) us->ItemsAre (cO P w) ks us
 |[],_=>fun r=>by rw[S9]at r;cases r;exact .nil
 |k::ks,_=>fun r=>by
  rw[B6]at r;cases r with
  |cons h t=>exact .cons (FD h) (yP t)
noncomputable abbrev KT(H:Hp):List (List Key×V)->List (List Key×Addr×Value)->Prop:=Paired fun p q=>p.1=q.1/\H q.2.1=some (.tup (p.1.map kV))/\RelV p.2 q.2.2
theorem KT.val{kvs:List (List Key×V)}{xs:List (List Key×Addr×Value)}(r:KT H kvs xs)(k:List Key):LF (gH kvs k) ((atKey xs k).map (·.2)):=by
 induction r with
 |nil=>exact True.intro
 |@cons p q ps qs h t ih=>
  obtain⟨h1,_,h2⟩:=h;by_cases e:p.1=k
  .have e':q.1=k:=h1.symm.trans e;have b:atKey (q::qs) k=some q.2:=by simp[atKey,List.find?_cons,e']
   rw[wI e,b];exact h2
  .have e':¬q.1=k:=fun z=>e (h1.trans z);have b:atKey (q::qs) k=atKey qs k:=by simp[atKey,List.find?_cons,e']
   rw[vS e,b];exact ih
theorem KT.repl{kvs:List (List Key×V)}{xs:List (List Key×Addr×Value)}(r:KT H kvs xs)(k:List Key){y:V}{u:Value}(ry:RelV y u):
 KT H (kvs.map fun kv=>if kv.1=k then(kv.1,y)else kv) (xs.map (putAt k u)):=by
 induction r with
 |nil=>exact .nil
 |@cons p q ps qs h t ih=>
  rw[B6,B6];refine .cons ?_ ih;obtain⟨h1,h2,h3⟩:=h;unfold putAt;by_cases e:p.1=k
  .rw[A7 e,A7 (h1.symm.trans e)];exact⟨h1,h2,ry⟩
  .rw[B0 e,B0 (fun z=>e (h1.trans z))];exact⟨h1,h2,h3⟩
theorem KT.put{kvs:List (List Key×V)}{xs:List (List Key×Addr×Value)}(r:KT H kvs xs)(k:List Key){b:Addr}{y:V}{u:Value}(hb:H b=some (.tup (k.map kV)))(ry:RelV y u):
 KT H (putK kvs k y) (storedH xs k b u):=by
 have e:(kvs.any fun kv=>decide (kv.1=k))=(atKey xs k).isSome:=by
  rw[uQ,(r.val k).isSome_eq,Option.isSome_map]
 unfold putK storedH;rw[e];by_cases q:(atKey xs k).isSome=true
 .rw[A7 q,A7 q];exact r.repl k ry
 .rw[B0 q,B0 q];exact Paired.snoc r ⟨rfl,hb,ry⟩
theorem KT.keeps{H':Hp}{kvs:List (List Key×V)}{xs:List (List Key×Addr×Value)}(r:KT H kvs xs)(ht:∀b ys,H b=some (.tup ys)->H' b=some (.tup ys)):KT H' kvs xs:=
 Paired.mapP r fun _ _ z=>⟨z.1,ht _ _ z.2.1,z.2.2⟩
section
variable{P:Program}{w:World}{H:Hp}{h:Heap}{a:Addr}
theorem aBX{u:HO}(ok:HOk P w H h)(e:Rd H a u):dG P w H h a u:=e.ok ok
theorem UO{kvs:List (Key×V)}(ok:HOk P w H h)(e:Rd H a (.dK kvs)):kvs.length<=sizeLine/\(a==sysModules)=false/\∃vs,KV kvs vs/\h.DictOf (cO P w) a vs:=
 show dG P w H h a (.dK kvs)from aBX ok e
theorem UT{kvs:List (Key×V)}(ok:HOk P w H h)(e:H a=some (.dK kvs)):kvs.length<=sizeLine/\(a==sysModules)=false/\∃vs,KV kvs vs/\h.DictOf (cO P w) a vs:=UO ok (.inl e)
theorem BP{ks:List Key}(ok:HOk P w H h)(e:H a=some (.tup (ks.map kV))):(tupleKind (cO P w)).is h ks a:=by
 obtain⟨_,its,r,o,h1,h2,n,h3⟩:=(show dG P w H h a (.tup (ks.map kV))from ok a _ e);exact⟨o,its.toArray,n,h1,h2,h3,by simpa using yP r⟩
theorem TH{kvs:List (List Key×V)}(ok:HOk P w H h)(e:Rd H a (.dT kvs)):kvs.length<=sizeLine/\(a==sysModules)=false /\
 ∃xs,KT H kvs xs/\h.DictOfH (tupleKind (cO P w)) a xs:=by
 obtain⟨z,y,xs,r,o,es,ep,h1,h2,h3,h4,h5⟩:=(show dG P w H h a (.dT kvs)from aBX ok e);refine⟨z,y,xs,r,o,es,ep,h1,h2,h3,h4,fun x hx=>?_,h5⟩
 have all:∀{l:List (List Key×V)}{m:List (List Key×Addr×Value)},KT H l m->∀x∈m,(tupleKind (cO P w)).is h x.1 x.2.1:=by
  intro l m q
  induction q with
  |nil=>intro x hx;exact nomatch hx
  |@cons p q ps qs hq t ih=>
   intro x hx;rcases List.mem_cons.mp hx with e|hx
   .subst e;exact BP ok (by rw[<- hq.1];exact hq.2.1)
   .exact ih x hx
 exact all r x hx
theorem aHe{kvs:List (List Key×V)}(ok:HOk P w H h)(e:H a=some (.dT kvs)):kvs.length<=sizeLine/\(a==sysModules)=false /\
 ∃xs,KT H kvs xs/\h.DictOfH (tupleKind (cO P w)) a xs:=TH ok (.inl e)
end
noncomputable def vI(H:Hp)(a:Addr)(y:V)(r:Option V):Prop:=
 (∃kvs k,Rd H a (.dK kvs)/\y=kV k/\r=gH kvs k)\/∃kvs k b,Rd H a (.dT kvs)/\y=.ref b/\H b=some (.tup (k.map kV))/\r=gH kvs k
noncomputable def zS(H:Hp)(a:Addr)(y v:V)(H':Hp):Prop:=
 (∃kvs k,H a=some (.dK kvs)/\y=kV k/\kvs.length<sizeLine/\H'=upd H a (.dK (putK kvs k v))) \/
 ∃kvs k b,H a=some (.dT kvs)/\y=.ref b/\H b=some (.tup (k.map kV))/\kvs.length<sizeLine/\H'=upd H a (.dT (putK kvs k v))
theorem vI.k{a:Addr}{kvs:List (Key×V)}{k:Key}(e:H a=some (.dK kvs)):vI H a (kV k) (gH kvs k):=.inl ⟨kvs,k,.inl e,rfl,rfl⟩
theorem vI.t{a b:Addr}{kvs:List (List Key×V)}{k:List Key}(e:H a=some (.dT kvs))(eb:H b=some (.tup (k.map kV))):vI H a (.ref b) (gH kvs k):=.inr ⟨kvs,k,b,.inl e,rfl,eb,rfl⟩
theorem zS.k{a:Addr}{kvs:List (Key×V)}{k:Key}{v:V}(e:H a=some (.dK kvs))(hl:kvs.length<sizeLine):zS H a (kV k) v (upd H a (.dK (putK kvs k v))):=.inl ⟨kvs,k,e,rfl,hl,rfl⟩
theorem zS.t{a b:Addr}{kvs:List (List Key×V)}{k:List Key}{v:V}(e:H a=some (.dT kvs))(eb:H b=some (.tup (k.map kV)))(hl:kvs.length<sizeLine):
 zS H a (.ref b) v (upd H a (.dT (putK kvs k v))):=.inr ⟨kvs,k,b,e,rfl,eb,hl,rfl⟩
section
variable{X:Cx}{pins:List (Addr×Obj)}{σ:St}{H:Hp}{s:Shared}{a:Addr}{y v:V}{u r:Value}{o:Option V}{A:Around}{E:Value->Shared->Prop}
theorem Inv.big(I:Inv X pins σ H s):sysModules<s.heap.objs.size:=by
 have h:mainGlobals<s.heap.objs.size:=(I.mod.glob.keeps I.bk).lt;exact Nat.lt_trans (by decide) h
theorem aHs{Q:Value->Shared->Prop}(hu:A.units+1<cLine)(I:Inv X pins σ H s)(g:vI H a y o)(ry:RelV y u)(h:∀s',Inv X pins σ H s'->Q (.bool o.isSome) s'):
 wpAny (model X.prog X.w) A (compareOp .In u (.ref a)) Q E s:=by
 rcases g with⟨kvs,k,e,ey,l⟩|⟨kvs,k,b,e,ey,eb,l⟩
 .subst ey;obtain⟨z,hd,vs,rel,dd⟩:=UO I.hok e;refine wpAny_in_of (FD ry) hd dd.mapOf ?_;rw[<- (rel.val k).isSome_eq,<- l];exact h _ (I.tok _)
 .subst ey;cases (show u=Value.ref b from ry);obtain⟨z,hd,xs,rel,dd⟩:=TH I.hok e;refine wpAny_in_heap (tupleKind_room_in1 hu) (BP I.hok eb) hd dd ?_;have q:=(rel.val k).isSome_eq;rw[Option.isSome_map]at q;rw[<- q,<- l];exact h _ (I.tok _)
theorem aAv{Q:Value->Shared->Prop}(hu:A.units+1<cLine)(I:Inv X pins σ H s)(g:vI H a y o)(ry:RelV y u)(h:∀s',Inv X pins σ H s'->Q (.bool (!o.isSome)) s'):
 wpAny (model X.prog X.w) A (compareOp .NotIn u (.ref a)) Q E s:=by
 rcases g with⟨kvs,k,e,ey,l⟩|⟨kvs,k,b,e,ey,eb,l⟩
 .subst ey;obtain⟨z,hd,vs,rel,dd⟩:=UO I.hok e;refine wpAny_notIn_of (FD ry) hd dd.mapOf ?_;rw[<- (rel.val k).isSome_eq,<- l];exact h _ (I.tok _)
 .subst ey;cases (show u=Value.ref b from ry);obtain⟨z,hd,xs,rel,dd⟩:=TH I.hok e;refine wpAny_notIn_heap (tupleKind_room_in1 hu) (BP I.hok eb) hd dd ?_;have q:=(rel.val k).isSome_eq;rw[Option.isSome_map]at q;rw[<- q,<- l];exact h _ (I.tok _)
theorem AD{h':Heap}{t':Nat}{ob:HO}(I:Inv X pins σ H s)(mu:Mut (H a))(hs:Heap.SameBut a s.heap h')(he:∃q,h'.get? a=some q)(new:dG X.prog X.w (upd H a ob) h' a ob):
 Inv X pins σ (upd H a ob) { s with heap:=h',toks:=t' }:=
 I.write (x:=a) (e:=a) mu (.inl rfl) (fun b q hb z=>(hs.2 b hb).trans z) he new
theorem XF{P:Program}{w:World}{H':Hp}{h':Heap}{kvs:List (Key×V)}{vs:List (Key×Value)}(z:kvs.length<=sizeLine)(hd:(a==sysModules)=false)(rel:KV kvs vs)(dd:h'.DictOf (cO P w) a vs):
 dG P w H' h' a (.dK kvs):=⟨z,hd,vs,rel,dd⟩
theorem MJ{H':Hp}{Q:Unit->Shared->Prop}(hu:A.units+1<cLine)(I:Inv X pins σ H s)(g:zS H a y v H')(ry:RelV y u)(rv:RelV v r)(h:∀s',Inv X pins σ H' s'->Q () s'):
 wpAny (model X.prog X.w) A (setItem (.ref a) u r) Q E s:=by
 rcases g with⟨kvs,k,e,ey,l,eH⟩|⟨kvs,k,b,e,ey,eb,l,eH⟩
 .subst ey eH;obtain⟨z,hd,vs,rel,dd⟩:=UT I.hok e;have hz:vs.length<=sizeLine:=by rw[<- rel.length];exact z
  have hl:(putK kvs k v).length<=sizeLine:=by have:=mS kvs k v;omega
  refine wpAny_setItem_pairs (hsz:=hz) (FD ry) dd fun h' dd' hs=>h _ ?_;have he:∃q,h'.get? a=some q:=let⟨q,_,_,hq,_⟩:=dd';⟨q,hq⟩;exact AD I (by rw[e];exact True.intro) hs he (XF hl hd (rel.put k rv) dd')
 .subst ey eH;cases (show u=Value.ref b from ry);obtain⟨z,hd,xs,rel,dd⟩:=aHe I.hok e;have hz:xs.length<=sizeLine:=by rw[<- Paired.length rel];exact z
  have hl:(putK kvs k v).length<=sizeLine:=by have:=mS kvs k v;omega
  refine wpAny_setItem_heap (hsz:=hz) (tupleKind_room_in1 hu) (BP I.hok eb) dd fun h' dd' hs=>h _ ?_;obtain⟨q,es,ep,hq,h2,h3,h4,_,h5⟩:=dd';refine AD I (by rw[e];exact True.intro) hs ⟨q,hq⟩ ⟨hl,hd,_,(rel.put k eb rv).keeps fun c ys ec=>?_,q,es,ep,hq,h2,h3,h4,h5⟩;rw[aM (aFQ ec e (fun z=>nomatch z))];exact ec
end
noncomputable def aGA(ty td:TE):TE:=fun σ H Q=>ty σ H fun y H1=>td σ H1 fun x H2=>∃a o,x=.ref a/\vI H2 a y o/\Q (.bl o.isSome) H2
noncomputable def JA(ty td:TE):TE:=fun σ H Q=>ty σ H fun y H1=>td σ H1 fun x H2=>∃a o,x=.ref a/\vI H2 a y o/\Q (.bl (!o.isSome)) H2
noncomputable def aBZ(td ty tv:TE):TS:=fun D σ H=>tv σ H fun v H1=>td σ H1 fun x H2=>ty σ H2 fun y H3=>∃a H4,x=.ref a/\zS H3 a y v H4/\D.nx σ H4
section
variable{X:Cx}{o i e value:Expr}{pos pos' tpos:Pos}{td ty tv:TE}
theorem aCM(hu:X.A.units+1<cLine)(hi:PE X i ty)(ho:PE X o td):PC X .In i o (aGA ty td):=by
 intro pins s σ H Q I h;refine thn (hi pins s σ H _ I h) fun iv s1 ⟨y,H1,I1,ry,q1⟩=>thn (ho pins s1 σ H1 _ I1 q1) fun u s2 ⟨x,H2,I2,rx,a,ov,ex,g,q2⟩=>?_;subst ex;obtain rfl:u=Value.ref a:=rx;exact aHs hu I2 g ry fun s3 I3=>⟨.bl ov.isSome,H2,I3,rfl,q2⟩
theorem NV(hu:X.A.units+1<cLine)(hi:PE X i ty)(ho:PE X o td):PC X .NotIn i o (JA ty td):=by
 intro pins s σ H Q I h;refine thn (hi pins s σ H _ I h) fun iv s1 ⟨y,H1,I1,ry,q1⟩=>thn (ho pins s1 σ H1 _ I1 q1) fun u s2 ⟨x,H2,I2,rx,a,ov,ex,g,q2⟩=>?_;subst ex;obtain rfl:u=Value.ref a:=rx;exact aAv hu I2 g ry fun s3 I3=>⟨.bl (!ov.isSome),H2,I3,rfl,q2⟩
theorem aAK(hu:X.A.units+1<cLine)(ho:PE X o td)(hi:PE X i ty)(hv:PE X value tv)(hs:swapsWith value (some (.Subscript o i pos')) pos.line X.env=pure false):
 PS X (.Assign [.Subscript o i pos'] value pos) (aBZ td ty tv):=by
 intro pins s σ H D I h;refine wpAny_Assign_Subscript (thn (hv pins s σ H _ I h) fun r s1 ⟨v,H1,I1,rv,q1⟩=>thn (ho pins s1 σ H1 _ I1 q1) fun u s2 ⟨x,H2,I2,rx,q2⟩=>thn (hi pins s2 σ H2 _ I2 q2) fun iv s3 ⟨y,H3,I3,ry,a,H4,ex,g,q3⟩=>?_) hs;subst ex;obtain rfl:u=Value.ref a:=rx;exact MJ hu I3 g ry rv fun s4 I4=>⟨σ,H4,I4,q3⟩
end
theorem EK{P:Program}{w:World}(h:Heap)(hb:sysModules<h.objs.size):dG P w H (h.push { cls:=.type "dict",data:=.dict #[] }) h.objs.size (.dK []):=
 ⟨F9 _,beq_eq_false_iff_ne.mpr (J9 (D1 hb)),[],.nil,Heap.DictOf.new h⟩
noncomputable def ID:TE:=fun _ H Q=>∀p,H p=none->Q (.ref p) (upd H p (.dK []))
section
variable{X:Cx}{pos:Pos}
theorem DJ:PE X (.Dict [] [] pos) ID:=fun pins s σ H Q I h=>
 wpAny_Dict_empty ⟨.ref s.heap.objs.size,_,I.laid (a:=s.heap.objs.size) (o:=.dK []) (t':=s.toks) (fun _ _ q=>A6 _ q) (B1 _) (EK s.heap I.big),rfl,h _ (I.hok.fresh (B1 _))⟩
end
noncomputable def AZ:List (TE×TE)->St->Hp->(List (V×V)->Hp->Prop)->Prop
 |[],_,H,Q=>Q [] H
 |(tk,tv)::r,σ,H,Q=>tk σ H fun x H1=>tv σ H1 fun y H2=>AZ r σ H2 fun ps H3=>Q ((x,y)::ps) H3
noncomputable abbrev VV:List (V×V)->List (Value×Value)->Prop:=Paired fun p q=>RelV p.1 q.1/\RelV p.2 q.2
noncomputable def PPs(X:Cx)(pos:Pos)(keys:List (Option Expr))(values:List Expr)(trs:List (TE×TE)):Prop:=
 ∀(pins:List (Addr×Obj))(s:Shared)(σ:St)(H:Hp)(Q:List (V×V)->Hp->Prop),Inv X pins σ H s->AZ trs σ H Q->
  wpAny (model X.prog X.w) X.A (evalPairs (pairTrees keys values X.env pos)) (fun vs s'=>∃ps H',Inv X pins σ H' s'/\VV ps vs/\Q ps H') X.xe s
theorem ZJ{X:Cx}:PPs X pos [] [] []:=fun pins s σ H Q I h=>pairTrees_nil_walk ⟨[],H,I,.nil,h⟩
theorem OZ{X:Cx}{k v:Expr}{ks:List (Option Expr)}{vs:List Expr}{tk tv:TE}{trs:List (TE×TE)}(hk:PE X k tk)(hv:PE X v tv)(hr:PPs X pos ks vs trs):
 PPs X pos (some k::ks) (v::vs) ((tk,tv)::trs):=fun pins s σ H Q I h=>
 pairTrees_cons_walk (thn (hk pins s σ H _ I h) fun u s1 ⟨x,H1,I1,rx,q1⟩=>thn (hv pins s1 σ H1 _ I1 q1) fun w2 s2 ⟨y,H2,I2,ry,q2⟩=>
  thn (hr pins s2 σ H2 _ I2 q2) fun ws s3 ⟨ps,H3,I3,rel,q3⟩=>⟨(x,y)::ps,H3,I3,.cons ⟨rx,ry⟩ rel,q3⟩)
noncomputable def nZ(kvs more:List (Key×V)):List (Key×V):=more.foldl (fun acc kv=>putK acc kv.1 kv.2) kvs
theorem KV.merge:∀{more:List (Key×V)}{rs:List (Key×Value)}{kvs:List (Key×V)}{vs:List (Key×Value)},KV more rs->KV kvs vs->KV (nZ kvs more) (merged vs rs):=by
 intro more rs kvs vs r;unfold KV at r
 induction r generalizing kvs vs with
 |nil=>intro q;exact q
 |@cons p q ps qs h t ih=>
  intro r0
  have e:KV (putK kvs p.1 p.2) (stored vs q.1 q.2):=by
   have:=r0.put p.1 h.2;rw[<- h.1];exact this
  exact ih e
theorem oZ:∀(more kvs:List (Key×V)),(nZ kvs more).length<=kvs.length+more.length
 |[]=>fun kvs=>by show kvs.length<=kvs.length+0;omega
 |p::r=>fun kvs=>by
  have h1:=oZ r (putK kvs p.1 p.2);have h2:=mS kvs p.1 p.2;show(nZ (putK kvs p.1 p.2) r).length<=_;rw[C9];omega
theorem vX{P:Program}{w:World}:∀{kvs:List (Key×V)}{ws:List (Value×Value)},VV (kvs.map fun kv=>(kV kv.1,kv.2)) ws->∃rs,Carries (cO P w) ws rs/\KV kvs rs
 |[],_=>fun r=>by rw[S9]at r;cases r;exact⟨[],True.intro,.nil⟩
 |p::kvs,_=>fun r=>by
  rw[B6]at r;cases r with
  |@cons a b as bs h t=>
   obtain⟨rs,c,q⟩:=vX (P:=P) (w:=w) t;obtain⟨b1,b2⟩:=b;exact⟨(p.1,b2)::rs,⟨FD h.1,rfl,c⟩,.cons ⟨rfl,h.2⟩ q⟩
noncomputable def QB(trs:List (TE×TE)):TE:=fun σ H Q=>∀p,H p=none->AZ trs σ (upd H p (.dK [])) fun ps H2=>H2 p=some (.dK [])/\∃kvs:List (Key×V),ps=kvs.map (fun kv=>(kV kv.1,kv.2))/\kvs.length<=15/\Q (.ref p) (upd H2 p (.dK (nZ [] kvs)))
theorem JG{X:Cx}{keys:List (Option Expr)}{values:List Expr}{trs:List (TE×TE)}(h:PPs X pos keys values trs)(hall:keys.all (·.isSome)=true)(hl:keys.length=values.length)(h0:keys≠[])
 (h15:keys.length<=15):PE X (.Dict keys values pos) (QB trs):=by
 intro pins s σ H Q I q;have hn:=I.hok.fresh (B1 s.heap.objs.size);have I1:=I.laid (a:=s.heap.objs.size) (o:=.dK []) (h':=s.heap.push { cls:=.type "dict",data:=.dict #[] }) (t':=s.toks) (fun _ _ q=>A6 _ q) (B1 _) (EK s.heap I.big);refine wpAny_Dict_walk (knd:=cO X.prog X.w) hall hl h0 h15 (thn (h pins _ σ _ _ I1 (q _ hn)) fun ws s2 ⟨ps,H2,I2,rel,e,kvs,ep,lk,q2⟩=>?_);subst ep;obtain⟨rs,c,rk⟩:=vX (P:=X.prog) (w:=X.w) rel;obtain⟨z,hd,vs0,r0,dd⟩:=UT I2.hok e;cases r0;refine⟨rs,c,dd,fun h' dd' hs=>⟨.ref s.heap.objs.size,_,?_,rfl,q2⟩⟩
 have hz:(nZ [] kvs).length<=sizeLine:=by
  have h1:=oZ kvs [];rw[List.length_nil]at h1;rw[E4];omega
 have he:∃q,h'.get? s.heap.objs.size=some q:=let⟨q,_,_,hq,_⟩:=dd';⟨q,hq⟩;exact AD I2 (by rw[e];exact True.intro) hs he (XF hz hd (rk.merge .nil) dd')
structure M1(X:Cx)(o:Expr)(m:Str)(apos:Pos)(e:Expr)(cpos:Pos):Prop where
 base:attributeBase o m X.env (eval o X.env)=eval o X.env
 few:((backTo cpos (starEach [e] X.env)).all (fun x=>!x.1)&&(backToKw cpos (keywordEach [] X.env)).all (fun x=>x.1.isSome)
  && decide (([e]:List Expr).length+([]:List Keyword).length+(if ([]:List Keyword).isEmpty then 0 else 1)<30))=true
 line:(apos.endLine==cpos.line)=true
 trees:backTo cpos (starEach [e] X.env)=[(false,eval e X.env)]
structure M2(X:Cx)(o:Expr)(m:Str)(apos:Pos)(e f:Expr)(cpos:Pos):Prop where
 base:attributeBase o m X.env (eval o X.env)=eval o X.env
 few:((backTo cpos (starEach [e,f] X.env)).all (fun x=>!x.1)&&(backToKw cpos (keywordEach [] X.env)).all (fun x=>x.1.isSome)
  && decide (([e,f]:List Expr).length+([]:List Keyword).length+(if ([]:List Keyword).isEmpty then 0 else 1)<30))=true
 line:(apos.endLine==cpos.line)=true
 trees:backTo cpos (starEach [e,f] X.env)=[(false,eval e X.env),(false,eval f X.env)]
end L2
namespace Att
open PySem PySem.W PySem.Calls PyProof.Rows
theorem tM{P:Params}{h:Heap}:∀(ns:List Int)(vs:List Value),WellAll P h vs (ns.map WData.int)->IntsAre vs ns:=by
 intro ns
 induction ns with
 |nil=>
  intro vs w;rw[S9]at w;cases w;exact .nil
 |cons n ns ih=>
  intro vs w;rw[B6]at w;cases w with
  |cons a b=>
   cases a;exact .cons _ _ (ih _ b)
theorem OC{l:OpenLaw}{n:Nat}(hn:l.most=some n){P:Params}{h:Heap}{args:List WData}{vals:List Value}
 (hpre:l.row.toRowW.claim.pre args=true) (hwl:WellAll P h vals args):
 ∃a vs ns,vals=[Value.ref a]/\args=[WData.list (ns.map WData.int)]/\h.get? a=some { cls:=.type "list",data:=.seq vs.toArray }/\IntsAre vs ns/\ns.length<=n:=by
 have hsh:WShape.hasAll [] args [.list .int]=true:=(pre_splitW hpre).1;have hc:l.pre.holds [] { args:=args }=true:=(pre_splitW hpre).2;obtain⟨d,r,rfl,h1,h2⟩:=hasAllW_cons hsh;obtain rfl:=hasAllW_nil h2;obtain⟨xs,rfl,h3⟩:=hasW_list h1;obtain⟨ns,rfl⟩:=items_int h3
 have hlen:ns.length<=n:=by
  unfold OpenLaw.pre at hc
  have h4:(WTm.not (.lt (.lit (.int (n:Int))) (.len (.arg 0)))).holds [] { args:=[.list (ns.map .int)] }=true:=by
   have h4:=(holds_andW hc).1;rw[hn]at h4;exact h4
  have h5:=condW_of h4 (w_not (w_lt w_lit (w_len_list (w_arg rfl))));rw[A3]at h5;refine Nat.le_of_not_lt fun q=>?_;have q':(n:Int)<((ns.length:Nat):Int):=by omega
  first
   |(rw[C8 q']at h5;exact absurd h5 (by decide))
   |(simp at h5;omega)
 cases hwl with
 |cons w1 w2=>
  cases w2;cases w1 with
  |list ho hall=>exact⟨_,_,ns,rfl,rfl,ho,tM ns _ hall,hlen⟩
theorem NO(l:OpenLaw)(args:List WData):l.row.toRowW.claim.post args (.bool true) args=true:=
 postW_of (r:=l.row.toRowW) (X:=(true==true))
  (show WShape.has [] (.bool true) .bool=true by first|rfl|decide|simp[WShape.has,WShape.arms,WShape.armsAll])
  (show(WTm.eq .res (.lit (.bool true))).value [] { args:=args,res:=some (.bool true),after:=args }=some (.bool (true==true))from w_eq_bool (w_res rfl) w_lit) rfl
theorem attach_call{l:OpenLaw}{n:Nat}{q:Program}{loose:List Str}{XP:(Str->Option Value)->Heap->Prop}{YP:World->Heap->Prop}{d:DefRec}
 (hn:l.most=some n) (hdf:d.params.defaults=[])
 (call:∀(w:World)(s₀ s₁:Shared)(mg mb:Str->Option Value)(fa:Addr)(o:Obj)(pm cd doc:Value)(a:Addr)(vs:List Value)(ns:List Int),
  Ground q loose [] XP w s₀ mg mb s₁.heap->YP w s₁.heap->
  s₁.heap.get? fa=some o->o.data=.func (docDef d.name d.params d.body d.scope pm cd doc)->s₁.heap.CodeRec cd d.name->mg d.name=some (.ref fa)->
  s₁.heap.get? a=some { cls:=.type "list",data:=.seq vs.toArray }->IntsAre vs ns->ns.length<=n->s₁.gens=#[]->
  codeAny (model l.prog w) callerA (.call (.ref fa) ⟨[.ref a],[]⟩) (fun r s'=>r=.ok (.ret (.bool true))/\OldK s₁.heap s'.heap/\s'.os=s₁.os/\AllBare s'.gens) s₁):
 WalkO q loose XP YP l.row.toRowW d [] (fun f vs=>PySem.call f vs):=by
 intro w s₀ s₁ mg mb G Y fa o pm cd doc dV kV ho hd hcd hD hmg hg args vals as hpre hlay hrd hwl hlo;obtain rfl:dV=.none:=Dflts.none hD hdf;obtain rfl:kV=.none:=Dflts.noKw hD;obtain⟨a,vs,ns,rfl,rfl,hobj,hints,hlen⟩:=OC hn hpre hwl;refine enter_call (A0d (call w s₀ s₁ mg mb fa o pm cd doc a vs ns G Y ho (fd_plain hd) hcd hmg hobj hints hlen hg) fun r s' hq=>?_);obtain⟨rfl,h2,h3,h4⟩:=hq;exact⟨.inl ⟨.bool true,.bool true,[],rfl,fun _=>rfl,.bool true,NO l _,fun _=>⟨List.Pairwise.nil,fun _ hm=>(nomatch hm)⟩⟩,h2,h3,h4⟩
section
variable{prog:Program}{w:World}{A:Around}{E:Value->Shared->Prop}{s:Shared}{K:Frag}
end
end Att
namespace L2
open PySem PySem.Spec PyProof.Rows
theorem yV:∀{vs:List Value}{ns:List Int},IntsAre vs ns->aV (ns.map V.int) vs
 |_,_,.nil=>.nil
 |_,_,.cons n t h=>.cons ⟨t,rfl⟩ (yV h)
noncomputable def aEc(H:Hp):Prop:=∀b,H b=none\/∃o xs,H b=some (.frz o (.lst xs))
theorem QD{P:Program}{w:World}{K:Fg}{mg mb:Str->Option Value}{CX:CXT}{k:Nat}{fa a:Addr}{fd:FuncData}{x:Str}{sp:Sp}{s₁:Shared}{vs:List Value}{ns:List Int}
 (KX:K.In s₁.heap) (hns:s₁.heap.Ns mainGlobals mg) (hb:s₁.heap.Ns builtinsNs mb) (hbb:∀x:Str,x≠"__name__"->mb x=bootBuiltins x) (hlim:s₁.heap.NoLimit) (hsm:∃mm,s₁.heap.Ns sysModules mm) (hg:s₁.gens=#[])
 (ha:s₁.heap.get? a=some { cls:=.type "list",data:=.seq vs.toArray }) (hi:IntsAre vs ns) (hl:ns.length<=sizeLine) (hr:dF k callerA)
 (F:∀base:Heap,K.In base->base.Ns mainGlobals mg->oQ P w K mg base CX k fa fd [x] sp) (hbind:∀(s:Shared)(u:Value),BindsTo s fd ⟨[u],[]⟩ [(x,u)])
 (hsp:∀H:Hp,aEc H->SqL K H a (ns.map V.int)->sp [.ref a] H (fun v _=>v=.bl true) fun _ _ _=>False)
 (hCX:∀H e s',CX [] H s₁ (fun _ _ _=>False) e s'->False):
 codeAny (model P w) callerA (.call (.ref fa) ⟨[.ref a],[]⟩) (fun r s'=>r=.ok (.ret (.bool true))/\OldK s₁.heap s'.heap/\s'.os=s₁.os/\AllBare s'.gens) s₁:=by
 have rv:=yV hi;have lenV:=hi.length
 have core:∀H:Hp,aEc H->SqL K H a (ns.map V.int)->HOk P w H s₁.heap->(∀b,H b≠none->b=a)->(H a≠none->K.lookup a=none)->
  codeAny (model P w) callerA (.call (.ref fa) ⟨[.ref a],[]⟩) (fun r s'=>r=.ok (.ret (.bool true))/\OldK s₁.heap s'.heap/\s'.os=s₁.os/\AllBare s'.gens) s₁:=by
  intro H hO hS hok hA hK;have base_of:∀{b:Addr}{o:Obj},s₁.heap.get? b=some o->H b=none->(AG s₁.heap H).get? b=some o:=fun e n=>WK e n
  have noA:∀{b:Addr}{o:Obj}{es:Array DictEntry}{ep:Nat},s₁.heap.get? b=some o->o.data=.dict es ep->H b=none:=fun{b o es ep} e d=>by
   cases q:H b with
   |none=>rfl
   |some u=>
    have e':b=a:=hA b (by rw[q];simp);subst e';rw[ha]at e;cases e;have d':Data.seq vs.toArray _=Data.dict es ep:=d;cases d'
  have nsK:∀{b:Addr}{m:Str->Option Value},s₁.heap.Ns b m->(AG s₁.heap H).Ns b m:=fun{b m} ⟨o,es,ep,e,d,r⟩=>⟨o,es,ep,base_of e (noA e d),d,r⟩
  have hKb:K.In (AG s₁.heap H):=fun b o e=>base_of (KX b o e) (by
   cases q:H b with
   |none=>rfl
   |some u=>
    have e':b=a:=hA b (by rw[q];simp);subst e';rw[hK (by rw[q];simp)]at e;cases e)
  have hM:Mod K mg (AG s₁.heap H):=⟨hKb,nsK hns,⟨mb,nsK hb,hbb⟩,(let⟨mc,h1,h2⟩:=hlim;⟨mc,nsK h1,h2⟩),(let⟨mm,hmm⟩:=hsm;let⟨o,es,ep,h1,h2,_⟩:=nsK hmm;⟨o,es,ep,h1,h2⟩)⟩;have e0:aAL P w K mg (AG s₁.heap H) callerA [] s₁ H:=⟨rfl,hM,fun b o e=>aAT e,Nat.le_of_eq (MZ _ _),trivial,fun b hb=>absurd (show b∈([]:List Addr)from hb) (by simp),hok,.of_eq hg⟩;refine A0d ((F _ hKb (nsK hns)).run callerA [] s₁ H ⟨[.ref a],[]⟩ [.ref a] [.ref a] _ _ hr e0 (hbind s₁ (.ref a)) (.cons rfl .nil) (hsp H hO hS)) fun r s' h=>?_;cases r with
  |error e=>exact(hCX H e s' h).elim
  |ok fl=>
   cases fl with
   |next=>exact False.elim h
   |brk=>exact False.elim h
   |cont=>exact False.elim h
   |ret u=>
    obtain⟨v,H',os,bare,un,hok',r',q⟩:=h;have q':v=.bl true:=q;subst q';obtain rfl:u=Value.bool true:=r';refine⟨rfl,OldK.of_keep fun b o e=>?_,os,bare⟩;cases q:H b with
    |none=>exact un.keep b o e q (by intro z;exact absurd (show b∈([]:List Addr)from z) (by simp)) (by simp)
    |some u=>
     rcases hO b with z|⟨ob,xs,z⟩
     .rw[q]at z;cases z
     .have z2:=un.frzs b ob _ z;obtain⟨e1,_⟩:=hok b _ z;obtain⟨e2,_⟩:=hok' b _ z2;rw[e]at e1;cases e1;exact e2
 cases hk:K.lookup a with
 |some o=>
  have e:=KX a o hk;rw[ha]at e;cases e;refine core (fun _=>none) (fun _=>.inl rfl) (.inr ⟨_,vs.toArray,_,hk,rfl,rfl,rfl,by rw[C4,lenV];exact hl,by simpa using rv⟩) (fun b u z=>by have z':(none:Option HO)=some u:=z;cases z') (fun b z=>absurd rfl z) fun z=>absurd rfl z
 |none=>
  refine core (fun b=>if b=a then some (.frz { cls:=.type "list",data:=.seq vs.toArray } (.lst (ns.map V.int)))else none) (fun b=>?_) (.inl (.inr ⟨{ cls:=.type "list",data:=.seq vs.toArray },A7 rfl⟩)) (fun b u z=>?_) (fun b z=>?_) fun _=>hk
  .by_cases hb:b=a
   .exact .inr ⟨_,_,A7 hb⟩
   .exact .inl (B0 hb)
  .by_cases hb:b=a
   .have z':=(A7 hb).symm.trans z;cases z';subst hb;exact⟨ha,by rw[A3];exact hl,vs,_,rv,ha⟩
   .have z':=(B0 hb).symm.trans z;cases z'
  .by_cases hb:b=a
   .exact hb
   .exact absurd (B0 hb) z
noncomputable abbrev KOf{K:Fg}{h:Heap}(_:K.In h):Fg:=K
theorem walk_of{l:PySem.W.OpenLaw}{n k:Nat}{q:Program}(hq:PyProof.Rows.importsNone q=true){loose:List Str}{XP:(Str->Option Value)->Heap->Prop}{YP:World->Heap->Prop}{d:DefRec}{K:Params->Fg}{CX:World->CXT}{sp:World->Sp}{x:Str}
 (hn:l.most=some n) (hn2:n<=sizeLine) (hdf:d.params.defaults=[]) (hr:dF k callerA)
 (hY:∀(w:World)(h:Heap),YP w h->(K w.params).In h)
 (F:∀(w:World)(mg:Str->Option Value)(fa:Addr)(h:Heap),(K w.params).In h->h.Ns mainGlobals mg->mg d.name=some (.ref fa)->
  ∃fd:FuncData,(∀(s:Shared)(u:Value),BindsTo s fd ⟨[u],[]⟩ [(x,u)]) /\
   ∀base:Heap,(K w.params).In base->base.Ns mainGlobals mg->oQ l.prog w (K w.params) mg base (CX w) k fa fd [x] (sp w))
 (hsp:∀(w:World)(H:Hp)(a:Addr)(ns:List Int),ns.length<=n->aEc H->SqL (K w.params) H a (ns.map V.int)->sp w [.ref a] H (fun v _=>v=.bl true) fun _ _ _=>False)
 (hCX:∀(w:World)(H:Hp)(s:Shared)(e:Value)(s':Shared),CX w [] H s (fun _ _ _=>False) e s'->False):
 PySem.W.WalkO q loose XP YP l.row.toRowW d [] (fun f vs=>PySem.call f vs):=by
 refine Att.attach_call hn hdf fun w s₀ s₁ mg mb fa o pm cd doc a vs ns G Y ho hd hcd hmg hobj hints hlen hg=>?_;have KX:=hY w _ Y;obtain⟨fd,hb,hF⟩:=F w mg fa _ KX G.T.g hmg;exact QD KX G.T.g G.T.b G.T.builtins G.T.nolimit (let⟨mm,hmm,_⟩:=(G.T.seer hq).mods;⟨mm,hmm⟩) hg hobj hints (J0 hlen hn2) hr hF hb (fun H hO hS=>hsp w H a ns hlen hO hS) fun H e s'=>hCX w H s₁ e s'
end L2
namespace L2
variable{H H':Hp}{W:Wd}{M M':Sto}{γ:Ga}{K:Fg}
open PySem PySem.Spec PyProof.Rows
noncomputable def fW(s:Stmt):Arguments:=match s with
 |.FunctionDef _ a _ _ _ _ _ _ _ _=>a
 |_=>{ posonlyargs:=[],args:=[],vararg:=none,kwonlyargs:=[],kw_defaults:=[],kwarg:=none,defaults:=[] }
noncomputable def cK(s:Stmt):List Stmt:=match s with
 |.FunctionDef _ _ b _ _ _ _ _ _ _=>b
 |_=>[]
noncomputable def aJ(s:Stmt):Scope:=match s with
 |.FunctionDef _ _ _ _ _ _ sc _ _ _=>sc
 |_=>{ kind:=.function,names:=[],isGenerator:=false,isCoroutine:=false }
noncomputable abbrev CX0:CXT:=fun _ _ _ _ _ _=>False
noncomputable abbrev E0:XK:=fun _ _ _=>False
theorem aGK{X:Cx}:GB CX0 X E0:=fun _ _ _ _ _ _ _ h=>h.elim
structure Fun(K:Fg)(x qual:Str)(st:Stmt)(f:Addr)(fd:FuncData):Prop where
 ex:∃(oc:Value)(od:Option Addr)(kV doc pm:Value)(an:Option Addr)(cdv ct:Value)(osl:Array (Option Value)),
  fd=PySem.W.fnOf x qual (fW st) (cK st) (aJ st) .none kV doc pm an cdv ct/\K.lookup f=some ⟨oc,od,.func fd,osl⟩/\PySem.W.codeIn K cdv qual=true
 kp:PySem.W.keepIn K (.ref f)=true
section
variable{P:Program}{w:World}{K:Fg}{mg:Str->Option Value}{base:Heap}
theorem Fun.ok{x qual:Str}{st:Stmt}{f:Addr}{fd:FuncData}{N ps:List Str}{k:Nat}{sp:Sp}{q:Bool}(F:Fun K x qual st f fd)(S:aT N ps (aJ st))(len:∀vs H Q E,sp vs H Q E->vs.length=ps.length)
 (hbody:∀(cdv:Value)(A:Around)(outer:List Env)(s:Shared)(H:Hp)(vs:List V)(Q:VK)(E:XK),dF k (A.deeper (envOfC qual (aJ st) s.heap.objs.size f cdv)) q->sp vs H Q E->
  ∃t,PSs (lP CX0 P w K mg base N qual (aJ st) f cdv A outer s H E q).nox (cK st) t/\t { nx:=fun _ H'=>Q .non H',rt:=Q } (start N vs) H):oQ P w K mg base CX0 (k+1) f fd ps sp q:=by
 obtain⟨oc,od,kV,doc,pm,an,cdv,ct,osl,rfl,lk,hcd⟩:=F.ex;refine aCa lk hcd S len fun A outer s H vs Q E hr hsp=>?_;obtain⟨t,h,z⟩:=hbody cdv A outer s H vs Q E hr hsp;exact⟨t,h.nox,z⟩
theorem Fun.binds{x qual:Str}{st:Stmt}{f:Addr}{fd:FuncData}{ps:List Str}(F:Fun K x qual st f fd)
 (h:∀(kV doc pm:Value)(an:Option Addr)(cdv ct:Value)(us:List Value),us.length=ps.length->bindArgs (PySem.W.fnOf x qual (fW st) (cK st) (aJ st) .none kV doc pm an cdv ct) ⟨us,[]⟩=pure (ps.zip us)):Binds K fd ps []:=by
 obtain⟨oc,od,kV,doc,pm,an,cdv,ct,osl,rfl,lk,hcd⟩:=F.ex;exact .all (h kV doc pm an cdv ct)
theorem aCq{x qual:Str}{st:Stmt}{f:Addr}{oc:Value}{od an:Option Addr}{osl:Array (Option Value)}{kV doc pm cdv ct:Value}(l:K.lookup f=some ⟨oc,od,.func (PySem.W.fnOf x qual (fW st) (cK st) (aJ st) .none kV doc pm an cdv ct),osl⟩)
 (c:PySem.W.codeIn K cdv qual=true) (k:PySem.W.keepIn K (.ref f)=true):Fun K x qual st f (PySem.W.fnOf x qual (fW st) (cK st) (aJ st) .none kV doc pm an cdv ct):=⟨⟨oc,od,kV,doc,pm,an,cdv,ct,osl,rfl,l,c⟩,k⟩
end
noncomputable def gY(H H':Hp):Prop:=∀b o,H b=some o->H' b=some o
theorem gY.refl(H:Hp):gY H H:=fun _ _ h=>h
theorem gY.trans{H1 H2:Hp}(a:gY H H1)(b:gY H1 H2):gY H H2:=fun c o h=>b c o (a c o h)
theorem gY.free(e:gY H H'){l:Addr}(h:H' l=Option.none):H l=Option.none:=by
 cases q:H l with
 |none=>rfl
 |some o=>
  rw[e l o q]at h;cases h
theorem gY.seq{a:Addr}{xs:List V}(e:gY H H')(h:SqL K H a xs):SqL K H' a xs:=by
 rcases h with(h|⟨o,h⟩)|h
 .exact .inl (.inl (e _ _ h))
 .exact .inl (.inr ⟨o,e _ _ h⟩)
 .exact .inr h
noncomputable def eQ(env:Env):List (Str×NameKind)->List (Str×Addr)->List (Str×Addr)
 |[],cs=>cs
 |y::r,cs=>eQ env r (if (y.2==NameKind.free)=true then(y.1,(env.cells.lookup y.1).getD 0)::cs else cs)
theorem pX{env:Env}:∀(l:List (Str×NameKind))(cs:List (Str×Addr)),(∀y∈l,y.2=.free->∃c,env.cells.lookup y.1=some c)->
 (forIn l cs fun(x:Str×NameKind)(r:List (Str×Addr))=>if (x.2==NameKind.free)=true then(do
  let a <- cellOf env x.1
  pure (ForInStep.yield ((x.1,a)::r)))else pure (ForInStep.yield r))=(pure (eQ env l cs):Sem (List (Str×Addr)))
 |[]=>fun cs _=>rfl
 |y::l=>fun cs h=>by
  rw[List.forIn_cons];by_cases hk:(y.2==NameKind.free)=true
  .obtain⟨c,hc⟩:=h y B5 (by simpa using hk);have e1:cellOf env y.1=pure c:=by unfold cellOf;rw[hc]
   rw[A7 hk,e1];show(forIn l ((y.1,c)::cs) _:Sem _)=_;rw[pX l _ fun z hz=>h z (B3 _ hz)]
   conv=>rhs;unfold eQ
   rw[A7 hk,hc];rfl
  .rw[B0 hk];show(forIn l cs _:Sem _)=_;rw[pX l _ fun z hz=>h z (B3 _ hz)]
   conv=>rhs;unfold eQ
   rw[B0 hk]
theorem GQ{scope:Scope}{env:Env}(h:∀y∈scope.names,y.2=.free->∃c,env.cells.lookup y.1=some c):closureFor scope env=pure (eQ env scope.names []):=by
 have e:=pX (env:=env) scope.names [] h;unfold closureFor
 show((forIn scope.names ([]:List (Str×Addr)) fun(x:Str×NameKind)(r:List (Str×Addr))=>if (x.2==NameKind.free)=true then(do
  let a <- cellOf env x.1
  pure (ForInStep.yield ((x.1,a)::r)))else pure (ForInStep.yield r)) >>= fun z=>pure z:Sem (List (Str×Addr)))=_
 rw[e];rfl
theorem zH{env:Env}:∀(l:List (Str×NameKind))(cs:List (Str×Addr)),(∀y∈l,y.2=.free->∃c,env.cells.lookup y.1=some c)->(∀x c,cs.lookup x=some c->env.cells.lookup x=some c)->
 ∀x c,(eQ env l cs).lookup x=some c->env.cells.lookup x=some c
 |[]=>fun cs _ h x c e=>h x c e
 |y::l=>fun cs hf h x c e=>by
  unfold eQ at e;refine zH l _ (fun z hz=>hf z (B3 _ hz)) ?_ x c e;intro z d ez;by_cases hk:(y.2==NameKind.free)=true
  .rw[A7 hk]at ez;obtain⟨c',hc'⟩:=hf y B5 (by simpa using hk);rw[hc']at ez;rw[D8]at ez;by_cases hz:(z==y.1)=true
   .rw[hz]at ez;have hz':z=y.1:=by simpa using hz
    rw[hz',hc'];exact ez
   .have hz':(z==y.1)=false:=by simpa using hz
    rw[hz']at ez;exact h z d ez
  .rw[B0 hk]at ez;exact h z d ez
theorem rQ{env:Env}:∀(l:List (Str×NameKind))(cs:List (Str×Addr))(x:Str),((x,NameKind.free)∈l\/∃c,cs.lookup x=some c)->∃c,(eQ env l cs).lookup x=some c
 |[]=>fun cs x h=>by
  rcases h with h|h
  .exact absurd h (by simp)
  .exact h
 |y::l=>fun cs x h=>by
  unfold eQ;refine rQ l _ x ?_;rcases h with h|⟨c,hc⟩
  .rcases List.mem_cons.mp h with e|e
   .subst e;refine .inr ?_;rw[A7 (by rfl)];exact⟨(env.cells.lookup x).getD 0,by rw[D8];simp⟩
   .exact .inl e
  .refine .inr ?_;by_cases hk:(y.2==NameKind.free)=true
   .rw[A7 hk,D8];by_cases hz:(x==y.1)=true
    .rw[hz];exact⟨_,rfl⟩
    .have hz':(x==y.1)=false:=by simpa using hz
     rw[hz'];exact⟨c,hc⟩
   .rw[B0 hk];exact⟨c,hc⟩
theorem pZ{env:Env}:∀{names:List (Str×NameKind)}{x:Str}{k:NameKind},
 (names.map fun(y:Str×NameKind)=>if (y.2==NameKind.free&&env.scope.kind==.function&&env.kindOf y.1==some .cell)=true then(y.1,NameKind.cell)else(y.1,y.2)).lookup x=some k->
 (names.lookup x=some k)\/(names.lookup x=some .free/\k=.cell)
 |[],x,k=>fun h=>by simp at h
 |y::r,x,k=>fun h=>by
  rw[B6]at h;by_cases hx:(x==y.1)=true
  .by_cases hc:(y.2==NameKind.free&&env.scope.kind==.function&&env.kindOf y.1==some .cell)=true
   .rw[A7 hc,D8,hx]at h;rw[D8,hx];have:y.2=.free:=by simp at hc;exact hc.1.1
    refine .inr ⟨by rw[this],?_⟩;cases h;rfl
   .rw[B0 hc,D8,hx]at h;rw[D8,hx];exact .inl h
  .have hx':(x==y.1)=false:=by simpa using hx
   have h':(r.map fun(y:Str×NameKind)=>if (y.2==NameKind.free&&env.scope.kind==.function&&env.kindOf y.1==some .cell)=true then(y.1,NameKind.cell)else(y.1,y.2)).lookup x=some k:=by
    by_cases hc:(y.2==NameKind.free&&env.scope.kind==.function&&env.kindOf y.1==some .cell)=true
    .rw[A7 hc,D8,hx']at h;exact h
    .rw[B0 hc,D8,hx']at h;exact h
   rw[D8,hx'];exact pZ h'
theorem wG{env:Env}:∀{names:List (Str×NameKind)}{x:Str},names.lookup x=some .free->
 (names.map fun(y:Str×NameKind)=>if (y.2==NameKind.free&&env.scope.kind==.function&&env.kindOf y.1==some .cell)=true then(y.1,NameKind.cell)else(y.1,y.2)).lookup x=some .cell \/
 (names.map fun(y:Str×NameKind)=>if (y.2==NameKind.free&&env.scope.kind==.function&&env.kindOf y.1==some .cell)=true then(y.1,NameKind.cell)else(y.1,y.2)).lookup x=some .free
 |[],x=>fun h=>by simp at h
 |y::r,x=>fun h=>by
  rw[B6];by_cases hx:(x==y.1)=true
  .rw[D8,hx]at h;have hy:y.2=.free:=D5 h;by_cases hc:(y.2==NameKind.free&&env.scope.kind==.function&&env.kindOf y.1==some .cell)=true
   .rw[A7 hc,D8,hx];exact .inl rfl
   .rw[B0 hc,D8,hx];exact .inr (by rw[hy])
  .have hx':(x==y.1)=false:=by simpa using hx
   rw[D8,hx']at h;have ih:=wG (env:=env) h;by_cases hc:(y.2==NameKind.free&&env.scope.kind==.function&&env.kindOf y.1==some .cell)=true
   .rw[A7 hc,D8,hx'];exact ih
   .rw[B0 hc,D8,hx'];exact ih
noncomputable def OM(X:Cx)(ifs:List Expr)(t:TT):Prop:=
 ∀(pins:List (Addr×Obj))(s:Shared)(σ:St)(H:Hp)(Q:Bool->Hp->Prop),Inv X pins σ H s->t σ H Q->
  wpAny (model X.prog X.w) X.A (forIn ifs true fun c r=>if r=true then(do
   let ok <- isTrue c X.env (eval c X.env)
   pure (ForInStep.yield ok))else pure (ForInStep.yield r)) (TP X pins σ Q) X.xe s
noncomputable def aFP:TT:=fun _ H Q=>Q true H
theorem SR{X:Cx}:OM X [] aFP:=fun _ _ _ H _ I h=>wpAny_tests_nil ⟨H,I,h⟩
theorem RK{X:Cx}{c:Expr}{t:TT}(h:PT X c t):OM X [c] t:=fun pins s σ H Q I hq=>wpAny_tests_one (h pins s σ H Q I hq)
section
variable{prog:Program}{w:World}{A:Around}{R:Result->Shared->Prop}{s:Shared}
theorem ZH{elt target iter:Expr}{ifs:List Expr}{scope:Scope}{pos:Pos}{it acc:Value}{env:Env}(I:Nat->Shared->Prop)
 (turn:∀n s,I n s->wpAny (model prog w) A (pyNext it) (fun r s1=>(r=none/\R (.ok .next) s1)\/∃v,r=some v /\
  wpAny (model prog w) A (letOwnedTupleGo target it v) (fun _ s2=>wpAny (model prog w) A (assign target env v) (fun _ s3=>
   wpAny (model prog w) A (forIn ifs true fun c r=>if r=true then(do
    let ok <- isTrue c env (eval c env)
    pure (ForInStep.yield ok))else pure (ForInStep.yield r)) (fun ok s4=>
     (ok=true/\wpAny (model prog w) A (eval elt env) (fun x s5=>wpAny (model prog w) A (call (.builtin "list.append") [acc,x]) (fun _ s6=>∃m,m<n/\I m s6) (fun _ _=>False) s5) (fun _ _=>False) s4) \/
     (ok=false/\∃m,m<n/\I m s4)) (fun _ _=>False) s3) (fun _ _=>False) s2) (fun _ _=>False) s1) (fun _ _=>False) s)
 (n:Nat) (h:I n s):codeAny (model prog w) A (.compLoop (.ListComp elt [⟨target,iter,ifs,0⟩] scope pos) 0 it acc env) R s:=by
 refine codeAny_loop rfl I (fun n s hI=>?_) n h
 show wpAny _ A ((compTurn (.ListComp elt [⟨target,iter,ifs,0⟩] scope pos) 0 it acc env).onRaise fun x=>do
  noteFrame x env
  theTreesLotGoes x) _ _ s
 refine wpAny_noted ?_;rw[compTurn_list];refine A4 (wpAny_standAt (A4 (L5 (turn n s hI) (fun r s1 h1=>?_) fun _ _ f=>f.elim)));rcases h1 with⟨rfl,h1⟩|⟨v,rfl,h1⟩
 .exact B7 h1
 .refine A4 (L5 h1 (fun _ s2 h2=>?_) fun _ _ f=>f.elim);refine A4 (L5 h2 (fun _ s3 h3=>?_) fun _ _ f=>f.elim);refine A4 (L5 h3 (fun ok s4 h4=>?_) fun _ _ f=>f.elim);rcases h4 with⟨rfl,h4⟩|⟨rfl,h4⟩
  .refine A4 (A4 (L5 h4 (fun x s5 h5=>?_) fun _ _ f=>f.elim));exact A4 (L5 h5 (fun _ s6 h6=>B7 (B7 ⟨rfl,h6⟩)) fun _ _ f=>f.elim)
  .exact B7 ⟨rfl,h4⟩
end
noncomputable def kQ(X:Cx)(N':List Str)(scope:Scope)(C:Addr)(s2:Shared)(H2:Hp)(fp:List Addr)(pn:List (Addr×Obj)):Cx:=
 { X with N:=N',s₀:=s2,H₀:=H2,env:=compEnvC scope (eQ X.env scope.names []) C X.env,outer:=X.stack,stack:=X.stack,ex:=fp,fn:=fun _=>false,pn:=X.pn++pn,xe:=fun _ _=>False }
noncomputable def AH(cap:List (Option Nat))(σ:St):St:=cap.map fun o=>o.bind fun j=>(σ[j]?).join
structure qO(X:Cx)(N':List Str)(cap:List (Option Nat))(scope:Scope):Prop where
 nocell:∀y∈scope.names,y.2≠.cell
 kind:scope.kind=.function
 names:∀y∈scope.names,y.2=.local->scope.names.lookup y.1=some .local
 frees:∀y∈scope.names,y.2=.free->X.env.kindOf y.1=some .cell\/X.env.kindOf y.1=some .free
 len:cap.length=N'.length
 cap:∀(i j:Nat),cap[i]?=some (some j)->∃x,N'[i]?=some x/\X.N[j]?=some x/\scope.names.lookup x=some .free
section
variable{X:Cx}{N':List Str}{cap:List (Option Nat)}{scope:Scope}{pins:List (Addr×Obj)}{σ:St}{H:Hp}{s:Shared}
theorem qO.cells(S:qO X N' cap scope)(ok:X.Ok):∀y∈scope.names,y.2=.free->∃c,X.env.cells.lookup y.1=some c:=fun y hy hk=>ok.has y.1 (S.frees y hy hk)
theorem qO.sub(S:qO X N' cap scope)(ok:X.Ok):∀x c,(eQ X.env scope.names []).lookup x=some c->X.env.cells.lookup x=some c:=
 zH scope.names [] (S.cells ok) fun x c e=>by simp at e
theorem qO.kinds(S:qO X N' cap scope){C:Addr}{cl:List (Str×Addr)}{x:Str}(h:(compEnvC scope cl C X.env).kindOf x=some .cell\/(compEnvC scope cl C X.env).kindOf x=some .free):scope.names.lookup x=some .free:=by
 rcases h with h|h
 .rcases pZ (names:=scope.names) h with q|⟨q,_⟩
  .exact absurd rfl (S.nocell _ (E8 q))
  .exact q
 .rcases pZ (names:=scope.names) h with q|⟨q,_⟩
  .exact q
  .exact q
theorem Inv.stkAll(I:Inv X pins σ H s){b:Addr}(h1:b≠X.env.locals)(h2:b∉X.fs):b∉frs X.stack:=fun hb=>(List.mem_cons.mp (I.stkSub b hb)).elim h1 h2
theorem XQ(S:qO X N' cap scope)(I:Inv X pins σ H s){fp:List Addr}{h4:Heap}{C:Addr}{tk:Nat}(hf:∀b∈fp,qU X pins H b)(hlt:∀b∈fp,b<s.heap.objs.size)
 (hC:s.heap.objs.size<=C) (hn:h4.Ns C fun _=>none) (hk:∀b o,s.heap.get? b=some o->h4.get? b=some o):
 Inv (kQ X N' scope C s H fp pins) [] (AH cap σ) H { s with heap:=h4,toks:=tk }:=by
 have cellLt:∀x c,X.env.cells.lookup x=some c->c<s.heap.objs.size:=fun x c e=>by
  obtain⟨v,q⟩:=I.cell x c e;exact q.lt
 have fresh:H C=none:=I.hok.fresh hC
 have ok:(kQ X N' scope C s H fp pins).Ok:=by
  refine⟨I.ok.mod,S.kind,I.ok.glob,I.ok.blt,hC,fun x y c h1 h2=>?_,fun x hx=>?_,fun x c hx _=>?_,I.ok.hd,I.ok.frames,.inl rfl,fun b hb=>⟨?_,fun x c e=>?_⟩,I.bs,J0 I.ok.bsz I.sz,fun b o e hb=>?_,fun b hb=>?_,I.stack,I.stkFree⟩
  .exact I.ok.inj x y c (S.sub I.ok x c h1) (S.sub I.ok y c h2)
  .exact rQ scope.names [] x (.inl (E8 (S.kinds hx)))
  .exact absurd hx (by show ¬(false=true);decide)
  .exact D1 (C0 (hlt b hb) hC)
  .exact(hf b hb).2.2.2.2.1 x c (S.sub I.ok x c e)
  .rcases (hf b hb).2.2.2.1 with z|z
   .exact I.ok.noex b o e z
   .exact absurd (C0 (B8 (I.ok.bs b o e).1) z) (F6 _)
  .exact I.stkAll (hf b hb).2.1 (hf b hb).2.2.1
 refine⟨ok,rfl,I.bare,Un.kept hk,⟨_,hn,fun i x v h1 h2 h3=>?_⟩,fun x c e=>?_,fresh,fun x c e=>I.freeC x c (S.sub I.ok x c e),fun p hp=>?_,I.hok.kept hk,?_⟩
 .-- a name that is caught
  have h2':(cap[i]?).map (fun o=>o.bind fun j=>(σ[j]?).join)=some (some v):=by
   have:(AH cap σ)[i]?=some (some v):=h2;unfold AH at this;rw[C3]at this;exact this
  cases e:cap[i]? with
  |none=>rw[e]at h2';simp at h2'
  |some o=>
   cases o with
   |none=>rw[e]at h2';simp at h2'
   |some j=>
    rw[e]at h2';obtain⟨x',a1,a2,a3⟩:=S.cap i j e
    have ex:x'=x:=by
     have:N'[i]?=some x:=h1;rw[a1]at this;exact D5 this
    subst ex
    have sv:σ[j]?=some (some v):=by
     have q:(σ[j]?).join=some v:=D5 h2';cases f:σ[j]? with
     |none=>rw[f]at q;simp at q
     |some o=>rw[f]at q;cases o with
      |none=>simp at q
      |some v'=>simp at q;rw[q]
    have hv:X.env.kindOf x'=some .cell\/X.env.kindOf x'=some .free:=S.frees _ (E8 a3) rfl;obtain⟨m,hm,hl⟩:=I.loc;obtain⟨u,r,l⟩:=hl j x' v a2 sv (hv.elim (fun z=>.inr (.inl z)) fun z=>.inr (.inr z));refine⟨u,r,.inr ⟨?_,?_⟩⟩
    .exact wG (env:=X.env) (names:=scope.names) a3
    .rcases l with⟨hk',_⟩|⟨_,c,hc,o,ho,hd⟩
     .rcases hv with z|z<;>rw[z]at hk'<;>cases hk'
     .obtain⟨c',hc'⟩:=rQ (env:=X.env) scope.names [] x' (.inl (E8 a3));have:=S.sub I.ok x' c' hc';rw[hc]at this;cases this;exact⟨c,hc',o,hk c o ho,hd⟩
 .obtain⟨v,o,ho,hd⟩:=I.cell x c (S.sub I.ok x c e);exact⟨v,o,hk c o ho,hd⟩
 .have hp':p∈X.pn++pins:=by
   rcases List.mem_append.mp hp with z|z
   .exact z
   .exact absurd z (by simp)
  obtain⟨e,n,ne,nf,d⟩:=I.pin p hp';exact⟨hk _ _ e,n,D1 (C0 (B8 e) hC),I.stkAll ne nf,d⟩
 .show(AH cap σ).length=N'.length;unfold AH;rw[A3];exact S.len
end
noncomputable def tLc(cap:List (Option Nat))(wi:TI)(g:TG)(tc:TT)(te:TE):TE:=fun σ H Q=>wi σ H fun J H1=>∃W:Nat->Nat->List V->St->Hp->Prop,(∃m,W 0 m [] (AH cap σ) H1)/\∀i m acc σ' H',W i m acc σ' H'->
 (J.stop i H'/\∀p,H' p=none->Q (.ref p) (upd H' p (.lst acc))) \/
 (J.go i H'/\acc.length<sizeLine/\∃N:List V->St->Hp->Prop,(∀acc' σ2 H2,N acc' σ2 H2->∃m',m'<m/\W (i+1) m' acc' σ2 H2)/\∀x H2,J.yld i H' x H2->g x σ' H2 fun σ2 H3=>tc σ2 H3 fun b H4=>(b=true/\te σ2 H4 fun v H5=>N (acc++[v]) σ2 H5)\/(b=false/\N acc σ2 H4))
section
variable{X:Cx}{N':List Str}{cap:List (Option Nat)}{scope:Scope}
theorem XH{elt tg iter:Expr}{ifs:List Expr}{pos:Pos}{wi:TI}{g:TG}{tc:TT}{te:TE}(hc:X.calm=true)(S:qO X N' cap scope)(hi:PI X tg iter wi)
 (hg:∀C s H fp pn,PG (kQ X N' scope C s H fp pn) tg g) (hif:∀C s H fp pn,OM (kQ X N' scope C s H fp pn) ifs tc) (he:∀C s H fp pn,PE (kQ X N' scope C s H fp pn) elt te)
 (hs:∀x,foldedSetIterable iter X.env x=pure x) {pins:List (Addr×Obj)} {s:Shared} {σ:St} {H:Hp} {Q:VK} (I:Inv X pins σ H s) (h:tLc cap wi g tc te σ H Q)
 {use:Option (Value->Sem Unit)} {QQ:Value->Shared->Prop}
 (post:∀(D C:Addr)(H':Hp)(acc:List V)(s':Shared),D≠C->(∃m,s'.heap.Ns C m)->(∀h',Heap.SameBut C s'.heap h'->Inv X pins σ (upd H' D (.lst acc)) { s' with heap:=h' })->qU X pins (upd H' D (.lst acc)) C->Q (.ref D) (upd H' D (.lst acc))->compPost (model X.prog X.w) X.A X.xe use QQ (.ref D) C (.ok .next) s'):
 wpAny (model X.prog X.w) X.A (comprehension (.ListComp elt [⟨tg,iter,ifs,0⟩] scope pos) scope X.env (firstIterPos [⟨tg,iter,ifs,0⟩] pos) (newList []) false (firstIter [⟨tg,iter,ifs,0⟩] X.env) use) QQ X.xe s:=by
 refine wpAny_comprehension_free (e:=.ListComp elt [⟨tg,iter,ifs,0⟩] scope pos) (g:=⟨tg,iter,ifs,0⟩) (gs:=[]) rfl hs (GQ (S.cells I.ok)) S.kind S.names ?_;refine thn (hi pins s σ H _ I h) fun v s1 h1=>thn h1 fun itv s2 h2=>?_;obtain⟨it,fp,tn,J,H2,e,I2,T,st2,f2,W,⟨m0,w0⟩,turn⟩:=h2;subst e
 have fplt:∀b∈fp,b<s2.heap.objs.size:=fun b hb=>by
  obtain⟨o,e,_⟩:=T.obj _ _ st2 b hb;exact B8 e
 refine D9 (wpAny_newFunctionEnv S.nocell (fun y hy=>by simp at hy) (fun h1' hns hsb=>?_) S.kind);dsimp only at hns hsb ⊢;generalize hP:s2.heap.push { cls:=.type "list",dict:=none,data:=.seq ([]:List Value).toArray }=P2 at hns hsb ⊢;have hsz:P2.objs.size=s2.heap.objs.size+1:=by rw[<- hP,A0f]
 have hDC:s2.heap.objs.size≠P2.objs.size:=by rw[hsz];exact D1 (L9 _)
 have hC:s2.heap.objs.size<=P2.objs.size:=by rw[hsz];exact Y0 _
 have keepP:∀b o,P2.get? b=some o->b≠P2.objs.size->h1'.get? b=some o:=fun b o e hb=>hsb.extBut b o hb (A6 _ e);have old:∀b o,s2.heap.get? b=some o->h1'.get? b=some o:=fun b o e=>keepP b o (by rw[<- hP];exact A6 _ e) (D1 (C0 (B8 e) hC));have hD0:h1'.get? s2.heap.objs.size=some { cls:=.type "list",data:=.seq #[] 0 }:=keepP _ _ (by rw[<- hP];exact D2 _ rfl) hDC
 have I4:Inv (kQ X N' scope P2.objs.size s2 H2 fp pins) [] (AH cap σ) H2 { s2 with heap:=h1',toks:=s2.toks+([]:List (Str×Value)).length }:=
  XQ S I2 f2 fplt hC (by simpa using hns) old
 have loop:∀s4:Shared,s4={ s2 with heap:=h1',toks:=s2.toks+([]:List (Str×Value)).length }->
  codeAny (model X.prog X.w) X.A (.compLoop (.ListComp elt [⟨tg,iter,ifs,0⟩] scope pos) 0 (.ref it) (.ref s2.heap.objs.size) (compEnvC scope (eQ X.env scope.names []) P2.objs.size X.env)) (compPost (model X.prog X.w) X.A X.xe use QQ (.ref s2.heap.objs.size) P2.objs.size) s4:=by
  rintro s4 rfl
  have hfrD:s2.heap.objs.size∉frs X.stack:=fun hb=>by
   obtain⟨_,o,ho,_⟩:=I2.stack.mem hb;exact absurd (B8 ho) (F6 _)
  have cne:∀x c,(eQ X.env scope.names []).lookup x=some c->c<s2.heap.objs.size:=fun x c e=>by
   obtain⟨v,q⟩:=I2.cell x c (S.sub I2.ok x c e);exact q.lt
  have stat:∀{Hx:Hp}{ob:Obj},(∀b∈fp,Hx b=none)->∀b∈fp,qU (kQ X N' scope P2.objs.size s2 H2 fp pins) [(s2.heap.objs.size,ob)] Hx b:=fun{Hx ob} hn b hb=>by
   refine⟨hn b hb,D1 (C0 (fplt b hb) hC),I2.stkAll (f2 b hb).2.1 (f2 b hb).2.2.1,.inl hb,fun x c e=>(f2 b hb).2.2.2.2.1 x c (S.sub I2.ok x c e),fun p hp=>?_⟩;rcases List.mem_append.mp hp with z|z
   .exact(f2 b hb).2.2.2.2.2 p z
   .rw[List.mem_singleton.mp z];exact Nat.ne_of_gt (fplt b hb)
  refine ZH (fun n s'=>∃(i:Nat)(σ':St)(H':Hp)(acc:List V)(its:List Value)(nn:Nat),Inv (kQ X N' scope P2.objs.size s2 H2 fp pins) [] σ' H' s'/\tn i s'.heap/\(∀b∈fp,H' b=none)/\H' s2.heap.objs.size=none /\
   s'.heap.get? s2.heap.objs.size=some { cls:=.type "list",data:=.seq its.toArray nn }/\aV acc its/\acc.length<=sizeLine/\W i n acc σ' H') ?_ m0
   ⟨0,AH cap σ,H2,[],[],0,I4,T.keep _ _ _ st2 fun b _ o e=>old b o e,fun b hb=>(f2 b hb).1,I2.hok.fresh (B1 _),hD0,.nil,F9 _,w0⟩
  rintro n s5 ⟨i,σ',H',acc,its,nn,I5,t5,fr5,d5,g5,va,la,w5⟩
  have I5p:Inv (kQ X N' scope P2.objs.size s2 H2 fp pins) [(s2.heap.objs.size,{ cls:=.type "list",data:=.seq its.toArray nn })] σ' H' s5:=I5.pins_of fun p hp=>by
   rw[List.mem_singleton.mp hp];exact⟨g5,d5,hDC,hfrD,fun v z=>by cases z⟩
  rcases turn i n acc σ' H' w5 with⟨stop,q⟩|⟨go,lt,N,hN,step⟩
  .refine thn (T.done (kQ X N' scope P2.objs.size s2 H2 fp pins) rfl rfl rfl hc i _ s5 σ' H' _ I5p (stat fr5) t5 stop) fun r s6 ⟨hr,I6⟩=>.inl ⟨hr,?_⟩;have d6:=(I6.pin (s2.heap.objs.size,{ cls:=.type "list",data:=.seq its.toArray nn }) (by simp)).1;have nC:H' P2.objs.size=none:=I6.free;refine post _ _ H' acc s6 hDC (let⟨m,hn,_⟩:=I6.loc;⟨m,hn⟩) (fun h' hs'=>?_) (I2.fpOk hC (by rw[aM hDC.symm];exact nC)) (q _ d5);have up:∀b o,b≠P2.objs.size->s6.heap.get? b=some o->h'.get? b=some o:=fun b o hb e=>hs'.extBut b o hb e;have ltC:∀b o,s2.heap.get? b=some o->b≠P2.objs.size/\b≠s2.heap.objs.size:=fun b o e=>⟨D1 (C0 (B8 e) hC),D1 (B8 e)⟩;have u6:Un (frs X.stack) fp H2 H' s2.heap s6.heap:=I6.base
   have u7:Un (frs X.stack) fp H2 (upd H' s2.heap.objs.size (.lst acc)) s2.heap h':=by
    refine⟨fun b o e n hb hx=>up b o (ltC b o e).1 (u6.keep b o e n hb hx),fun b o e n hb hx=>?_,fun b o e n hx=>?_,fun b o e hx=>?_,fun b xs e=>?_,fun b o u e=>?_,fun b ps e=>?_⟩
    .obtain⟨sl,q⟩:=u6.slot b o e n hb hx;exact⟨sl,up b _ (ltC b o e).1 q⟩
    .rw[aM (ltC b o e).2];exact u6.free b o e n hx
    .obtain⟨o',q⟩:=u6.there b o e hx;exact⟨o',up b o' (ltC b o e).1 q⟩
    .have z:=u6.tups b xs e;rw[aM (aQ z d5)];exact z
    .have z:=u6.frzs b o u e;rw[aM (aQ z d5)];exact z
    .obtain⟨more,z⟩:=u6.tbls b ps e;exact⟨more,by rw[aM (aQ z d5)];exact z⟩
   have ok7:HOk X.prog X.w (upd H' s2.heap.objs.size (.lst acc)) h':=fun b u e=>by
    by_cases hb:b=s2.heap.objs.size
    .subst hb;rw[aN]at e;cases e;exact⟨la,its,nn,va,up _ _ hDC d6⟩
    .rw[aM hb]at e;refine(I6.hok b u e).stay (fun c v hc' z=>up c v ?_ z) (fun c z=>by rw[aM (aQ z d5)];exact z) fun c xs z=>by rw[aM (aQ z d5)];exact z
     rcases hc' with rfl|z
     .exact aQ e nC
     .exact aQ z nC
   have os6:s6.os=s2.os:=I6.os;have ba6:=I6.bare;obtain⟨hh,gg,dd,tt,oo⟩:=s6;subst os6;have z7:=I2.call (s:=s2) (h':=h') (g':=gg) (d':=dd) (t':=tt) (ch:=fp) u7 ok7 ba6 fun b hb=>⟨(f2 b hb).2.2.2.1,(f2 b hb).2.1,(f2 b hb).2.2.2.2.1,(f2 b hb).2.2.2.2.2⟩;exact z7
  .refine thn (T.item (kQ X N' scope P2.objs.size s2 H2 fp pins) rfl rfl rfl hc i _ s5 σ' H' _ I5p (stat fr5) t5 go) fun r s6 ⟨u,hr,h6⟩=>.inr ⟨u,hr,?_⟩;refine thn h6 fun _ s7 ⟨x,H7,I7,r7,y7,t7,fr7⟩=>?_;have I7':=I7.pinned (stat fr7) (T.obj _ _ t7)
   have back:∀{σx:St}{Hx:Hp}{sx:Shared},Inv (kQ X N' scope P2.objs.size s2 H2 fp pins) ([(s2.heap.objs.size,{ cls:=.type "list",data:=.seq its.toArray nn })]++uI fp s7.heap) σx Hx sx->
    (∀b∈fp,∀o,s7.heap.get? b=some o->sx.heap.get? b=some o)/\(∀b∈fp,Hx b=none)/\sx.heap.get? s2.heap.objs.size=some { cls:=.type "list",data:=.seq its.toArray nn }/\Hx s2.heap.objs.size=none:=fun{σx Hx sx} Ix=>by
    refine⟨fun b hb o e=>(Ix.pin (b,o) (C5 _ (C5 _ (lO hb e)))).1,fun b hb=>?_,?_,?_⟩
    .obtain⟨o,e,_⟩:=T.obj _ _ t7 b hb;exact(Ix.pin (b,o) (C5 _ (C5 _ (lO hb e)))).2.1
    .exact(Ix.pin (s2.heap.objs.size,_) (C5 _ (D0 _ (List.mem_singleton.mpr rfl)))).1
    .exact(Ix.pin (s2.heap.objs.size,{ cls:=.type "list",data:=.seq its.toArray nn }) (C5 _ (D0 _ (List.mem_singleton.mpr rfl)))).2.1
   refine thn (hg _ _ _ _ _ _ s7 σ' H7 x u _ I7' r7 (step x H7 y7)) fun _ s8 ⟨σ8,H8,I8,q8⟩=>?_;refine thn (hif _ _ _ _ _ _ s8 σ8 H8 _ I8 q8) fun b s9 ⟨H9,I9,q9⟩=>?_;rcases q9 with⟨rfl,q9⟩|⟨rfl,n9⟩
   .refine .inl ⟨rfl,thn (he _ _ _ _ _ _ s9 σ8 H9 _ I9 q9) fun uv s10 ⟨v,H10,I10,rv,n10⟩=>?_⟩;obtain⟨m',hm,w10⟩:=hN _ _ _ n10;obtain⟨b1,b2,b3,b4⟩:=back I10;refine wpAny_list_append_plain ⟨nn,b3⟩ (fun h' hp hs'=>?_) (by rw[C4,<- va.length];exact la);obtain⟨n2,e2⟩:=hp;have up:∀b o,b≠s2.heap.objs.size->s10.heap.get? b=some o->h'.get? b=some o:=fun b o hb e=>hs'.extBut b o hb e;have I10':Inv (kQ X N' scope P2.objs.size s2 H2 fp pins) [] σ8 H10 s10:=I10.pins_of fun p hp=>absurd hp (by simp);refine⟨m',hm,i+1,σ8,H10,acc++[v],its++[uv],n2,I10'.turned (t':=s10.toks) up b4 hDC (.inr (B1 _)) (fun x c e=>D1 (cne x c e)) (fun p hp=>?_),T.keep _ _ _ t7 fun b hb o e=>up b o (D1 (fplt b hb)) (b1 b hb o e),b2,b4,?_,va.append (.cons rv .nil),?_,w10⟩
    .have hp':p∈X.pn++pins:=by
      rcases List.mem_append.mp hp with z|z
      .exact z
      .exact absurd z (by simp)
     exact D1 (B8 (I2.pin p hp').1)
    .rw[e2];simp
    .rw[B4,C7];exact lt
   .obtain⟨m',hm,w9⟩:=hN _ _ _ n9;obtain⟨b1,b2,b3,b4⟩:=back I9;exact .inr ⟨rfl,m',hm,i+1,σ8,H9,acc,its,nn,I9.pins_of fun p hp=>absurd hp (by simp),T.keep _ _ _ t7 b1,b2,b4,b3,va,la,w9⟩
 exact codeAny_compStart_list (loop _ rfl) (T.self _ 0 _ _ _ (T.keep _ _ _ st2 fun b _ o e=>old b o e) (loop _ rfl))
theorem aGI{elt tg iter:Expr}{ifs:List Expr}{pos:Pos}{wi:TI}{g:TG}{tc:TT}{te:TE}(hc:X.calm=true)(S:qO X N' cap scope)(hi:PI X tg iter wi)
 (hg:∀C s H fp pn,PG (kQ X N' scope C s H fp pn) tg g) (hif:∀C s H fp pn,OM (kQ X N' scope C s H fp pn) ifs tc) (he:∀C s H fp pn,PE (kQ X N' scope C s H fp pn) elt te)
 (hs:∀x,foldedSetIterable iter X.env x=pure x:=by intro _;rfl):PE X (.ListComp elt [⟨tg,iter,ifs,0⟩] scope pos) (tLc cap wi g tc te):=by
 intro pins s σ H Q I h;rw[eval_ListComp];refine XH (use:=none) (Q:=Q) hc S hi hg hif he hs I h fun D C H' acc s' hDC ⟨m,hn⟩ hI _ hq=>⟨m,hn,fun h' hs'=>?_⟩;exact⟨.ref D,_,hI h' hs',rfl,hq⟩
theorem EI{i:Nat}{x:Str}{elt tg iter:Expr}{ifs:List Expr}{pos pos' pos'':Pos}{wi:TI}{g:TG}{tc:TT}{te:TE}(hN:X.N.Nodup)(hix:X.N[i]?=some x)(hc:X.calm=true)(S:qO X N' cap scope)(hi:PI X tg iter wi)
 (hg:∀C s H fp pn,PG (kQ X N' scope C s H fp pn) tg g) (hif:∀C s H fp pn,OM (kQ X N' scope C s H fp pn) ifs tc) (he:∀C s H fp pn,PE (kQ X N' scope C s H fp pn) elt te)
 (hsw:swapsWith (.ListComp elt [⟨tg,iter,ifs,0⟩] scope pos) (some (.Name x pos')) pos''.line X.env=pure true:=by rfl) (hx:X.env.scope.names.lookup x=some .local:=by rfl)
 (hs:∀x,foldedSetIterable iter X.env x=pure x:=by intro _;rfl):PS X (.Assign [.Name x pos'] (.ListComp elt [⟨tg,iter,ifs,0⟩] scope pos) pos'') (aAD (tLc cap wi g tc te) (ES i)):=by
 intro pins s σ H D I h;rw[exec_Assign_Name_used _ _ _ _ hsw];refine A4 (wpAny_standAt (A4 ?_));show wpAny _ _ (comprehension (.ListComp elt [⟨tg,iter,ifs,0⟩] scope pos) scope X.env _ (newList []) false (firstIter [⟨tg,iter,ifs,0⟩] X.env) (some (assign (.Name x pos') X.env)) >>= fun _=>pure ()) _ _ s;refine A4 (thn (XH (use:=some (assign (.Name x pos') X.env)) (QQ:=fun _ s'=>∃σ' H',Inv X pins σ' H' s'/\D.nx σ' H') (Q:=fun v H1=>ES i v σ H1 D.nx) hc S hi hg hif he hs I h fun E C H' acc s' hDC ⟨m,hn⟩ hI fC hq=>?_) fun _ s' hz=>B7 (B7 hz));have I1:Inv X pins σ (upd H' E (.lst acc)) s':=hI s'.heap (Heap.SameBut.refl ..);have I1:Inv X pins σ (upd H' E (.lst acc)) s':=I1;refine wpAny_assign_Name (zD (M:=model X.prog X.w) (A:=X.A) (E:=X.xe) I1 hN hix (.inl hx) (v:=.ref E) (u:=.ref E) rfl (fun s2 I2 hsb=>?_) (.inr hx));obtain⟨a,hs2,ha⟩:=hsb
 have hne:C≠a:=by
  rcases ha with z|z
  .rw[z];exact fC.2.1
  .exact fun w=>fC.2.2.2.2.1 x a z w.symm
 refine⟨m,hn.extBut hs2.extBut hne,fun h' hs'=>?_⟩;exact⟨_,_,I2.turned (t':=s2.toks) (fun b o hb e=>hs'.extBut b o hb e) fC.1 fC.2.1 fC.2.2.2.1 fC.2.2.2.2.1 fC.2.2.2.2.2,hq⟩
end
noncomputable def aBt:Key->PyData
 |.inl i=>.int i
 |.inr x=>.str x
mutual
noncomputable def Rep(K:Fg)(H:Hp):PyData->V->Prop
 |.none,v=>v=.non
 |.bool b,v=>v=.bl b
 |.int i,v=>v=.int i
 |.str x,v=>v=.str x
 |.list xs,v=>∃a vs,v=.ref a/\SqL K H a vs/\aI K H xs vs
 |.tuple xs,v=>∃a vs,v=.ref a/\SqT K H a vs/\aI K H xs vs
 |.dict kvs,v=>∃a ks,v=.ref a/\H a=some (.dK ks)/\kP K H kvs ks
noncomputable def aI(K:Fg)(H:Hp):List PyData->List V->Prop
 |[],vs=>vs=[]
 |d::ds,vs=>∃v r,vs=v::r/\Rep K H d v/\aI K H ds r
noncomputable def kP(K:Fg)(H:Hp):List (PyData×PyData)->List (Key×V)->Prop
 |[],ks=>ks=[]
 |(k,d)::kvs,ks=>∃k' v r,ks=(k',v)::r/\k=aBt k'/\Rep K H d v/\kP K H kvs r
end
theorem gY.seqT{a:Addr}{xs:List V}(e:gY H H')(h:SqT K H a xs):SqT K H' a xs:=by
 rcases h with h|h
 .refine .inl ?_;rcases h with h|⟨o,h⟩
  .exact .inl (e _ _ h)
  .exact .inr ⟨o,e _ _ h⟩
 .exact .inr h
mutual
theorem Rep.same{K:Fg}{H H':Hp}(e:gY H H'):∀(d:PyData)(v:V),Rep K H d v->Rep K H' d v
 |.none=>fun v h=>h
 |.bool b=>fun v h=>h
 |.int i=>fun v h=>h
 |.str x=>fun v h=>h
 |.list xs=>fun v h=>by
  obtain⟨a,vs,h1,h2,h3⟩:=h;exact⟨a,vs,h1,e.seq h2,aI.same e xs vs h3⟩
 |.tuple xs=>fun v h=>by
  obtain⟨a,vs,h1,h2,h3⟩:=h;exact⟨a,vs,h1,e.seqT h2,aI.same e xs vs h3⟩
 |.dict kvs=>fun v h=>by
  obtain⟨a,ks,h1,h2,h3⟩:=h;exact⟨a,ks,h1,e _ _ h2,kP.same e kvs ks h3⟩
theorem aI.same{K:Fg}{H H':Hp}(e:gY H H'):∀(ds:List PyData)(vs:List V),aI K H ds vs->aI K H' ds vs
 |[]=>fun vs h=>h
 |d::ds=>fun vs h=>by
  obtain⟨v,r,h1,h2,h3⟩:=h;exact⟨v,r,h1,Rep.same e d v h2,aI.same e ds r h3⟩
theorem kP.same{K:Fg}{H H':Hp}(e:gY H H'):∀(kvs:List (PyData×PyData))(ks:List (Key×V)),kP K H kvs ks->kP K H' kvs ks
 |[]=>fun ks h=>h
 |(k,d)::kvs=>fun ks h=>by
  obtain⟨k',v,r,h1,h2,h3,h4⟩:=h;exact⟨k',v,r,h1,h2,Rep.same e d v h3,kP.same e kvs r h4⟩
end
theorem aI.length{K:Fg}{H:Hp}:∀{ds:List PyData}{vs:List V},aI K H ds vs->ds.length=vs.length
 |[],vs=>fun h=>by rw[show vs=[]from h];rfl
 |d::ds,vs=>fun h=>by
  obtain⟨v,r,h1,_,h3⟩:=h;rw[h1,C9,C9,aI.length h3]
theorem aI.get{K:Fg}{H:Hp}:∀{ds:List PyData}{vs:List V}{i:Nat}{v:V},aI K H ds vs->vs[i]?=some v->∃d,ds[i]?=some d/\Rep K H d v
 |[],vs,i,v=>fun h e=>by rw[show vs=[]from h]at e;simp at e
 |d::ds,vs,0,v=>fun h e=>by
  obtain⟨w,r,h1,h2,h3⟩:=h;rw[h1]at e;simp at e;subst e;exact⟨d,rfl,h2⟩
 |d::ds,vs,i+1,v=>fun h e=>by
  obtain⟨w,r,h1,h2,h3⟩:=h;rw[h1]at e;exact aI.get (i:=i) h3 (by simpa using e)
theorem aI.app{K:Fg}{H:Hp}:∀{ds es:List PyData}{vs ws:List V},aI K H ds vs->aI K H es ws->aI K H (ds++es) (vs++ws)
 |[],es,vs,ws=>fun h k=>by rw[show vs=[]from h];exact k
 |d::ds,es,vs,ws=>fun h k=>by
  obtain⟨v,r,h1,h2,h3⟩:=h;exact⟨v,r++ws,by rw[h1];rfl,h2,aI.app h3 k⟩
section
variable{X:Cx}{pins:List (Addr×Obj)}{σ:St}{H:Hp}{s:Shared}
theorem Inv.sysN(I:Inv X pins σ H s):H sysModules=none:=by
 obtain⟨o,es,ep,h,_⟩:=I.mod.sysm;exact(I.bs _ _ h).2
theorem Inv.sysL(I:Inv X pins σ H s){a:Addr}{xs:List V}(h:SqL X.K H a xs):sysModules≠a:=by
 intro e;subst e;have hn:=I.sysN;rcases h with(h|⟨o,h⟩)|⟨o,its,n,hk,_,_,hd,_⟩
 .rw[hn]at h;cases h
 .rw[hn]at h;cases h
 .obtain⟨o',es,ep,h',hd'⟩:=I.mod.sysm;have:=I.mod.kin _ _ hk;rw[h']at this;cases this;rw[hd]at hd';cases hd'
mutual
theorem Rep.reads'(I:Inv X pins σ H s):∀(d:PyData)(v:V)(u:Value),Rep X.K H d v->RelV v u->∃as,Reads s.heap u d as/\sysModules∉as
 |.none=>fun v u r q=>by
  rw[show v=.non from r]at q;rw[show u=Value.none from q];exact⟨_,.none,by simp⟩
 |.bool b=>fun v u r q=>by
  rw[show v=.bl b from r]at q;rw[show u=Value.bool b from q];exact⟨_,.bool b,by simp⟩
 |.int i=>fun v u r q=>by
  rw[show v=.int i from r]at q;obtain⟨t,rfl⟩:=(show ∃t,u=Value.int i t from q);exact⟨_,.int i t,by simp⟩
 |.str x=>fun v u r q=>by
  rw[show v=.str x from r]at q;obtain⟨t,rfl⟩:=(show ∃t,u=Value.str x t from q);exact⟨_,.str x t,by simp⟩
 |.list xs=>fun v u r q=>by
  obtain⟨a,vs,rfl,h2,h3⟩:=r;rw[show u=Value.ref a from q];obtain⟨its,hv,⟨o,n,hg,hc,_,hd⟩,_⟩:=I.list h2;obtain⟨as,ha,hs⟩:=aI.reads' I xs vs its h3 hv;exact⟨_,.list hg hc hd (by simpa using ha),fun z=>(List.mem_cons.mp z).elim (I.sysL h2) hs⟩
 |.tuple xs=>fun v u r q=>by
  obtain⟨a,vs,rfl,h2,h3⟩:=r;rw[show u=Value.ref a from q];obtain⟨its,hv,⟨o,hg,hc,n,hd⟩,_⟩:=I.tuple h2;obtain⟨as,ha,hs⟩:=aI.reads' I xs vs its h3 hv;exact⟨_,.tuple hg hc hd (by simpa using ha),hs⟩
 |.dict kvs=>fun v u r q=>by
  obtain⟨a,ks,rfl,h2,h3⟩:=r;rw[show u=Value.ref a from q];obtain⟨_,hS,vs,hkv,o,es,ep,hg,hex,hd,_,hp,_⟩:=(show dG X.prog X.w H s.heap a (.dK ks)from I.hok a _ h2);obtain⟨as,bs,h4,h5,n1,n2⟩:=kP.reads' I kvs ks vs es.toList h3 hkv hp;refine⟨_,.dict hg hex.1 hd h4 h5,fun z=>?_⟩;rcases List.mem_append.mp z with z|z
  .rcases List.mem_cons.mp z with z|z
   .rw[z]at hS;simp at hS
   .exact n1 z
  .exact n2 z
theorem aI.reads'(I:Inv X pins σ H s):∀(ds:List PyData)(vs:List V)(us:List Value),aI X.K H ds vs->aV vs us->∃as,ReadsAll s.heap us ds as/\sysModules∉as
 |[]=>fun vs us r q=>by
  rw[show vs=[]from r]at q;cases q;exact⟨_,.nil,by simp⟩
 |d::ds=>fun vs us r q=>by
  obtain⟨v,t,rfl,h2,h3⟩:=r;cases q with
  |cons q1 q2=>
   obtain⟨as,ha,n1⟩:=Rep.reads' I d v _ h2 q1;obtain⟨bs,hb,n2⟩:=aI.reads' I ds t _ h3 q2;exact⟨_,.cons ha hb,fun z=>(List.mem_append.mp z).elim n1 n2⟩
theorem kP.reads'(I:Inv X pins σ H s):∀(kvs:List (PyData×PyData))(ks:List (Key×V))(vs:List (Key×Value))(es:List DictEntry),kP X.K H kvs ks->KV ks vs->Pairs (cO X.prog X.w) es vs->
 ∃as bs,ReadsAll s.heap (es.map (·.key)) (kvs.map (·.1)) as/\ReadsAll s.heap (es.map (·.val)) (kvs.map (·.2)) bs/\sysModules∉as/\sysModules∉bs
 |[]=>fun ks vs es r q p=>by
  rw[show ks=[]from r]at q;cases q;cases p;exact⟨_,_,.nil,.nil,by simp,by simp⟩
 |(k,d)::kvs=>fun ks vs es r q p=>by
  obtain⟨k',v,t,rfl,h1,h2,h3⟩:=r;cases q with
  |@cons _ kv _ vs' q1 q2=>
   cases p with
   |@cons e _ es' _ p1 p2 p3=>
    obtain⟨as,bs,ha,hb,n1,n2⟩:=kP.reads' I kvs t _ _ h3 q2 p3;obtain⟨cs,hc,n3⟩:=Rep.reads' I d v _ h2 q1.2
    have hkey:Reads s.heap e.key k []:=by
     rw[h1];have p1':tG kv.1 e.key=true:=p1;rw[<- show k'=kv.1 from q1.1]at p1';rcases cD p1' with⟨i,t',rfl,he⟩|⟨x,t',rfl,he⟩
     .rw[he];exact .int i t'
     .rw[he];exact .str x t'
    refine⟨_,_,.cons hkey ha,.cons (show Reads s.heap e.val d cs by rw[p2];exact hc) hb,by simpa using n1,fun z=>(List.mem_append.mp z).elim n3 n2⟩
end
theorem Rep.reads(I:Inv X pins σ H s)(d:PyData)(v:V)(u:Value)(r:Rep X.K H d v)(q:RelV v u):∃as,Reads s.heap u d as:=let⟨as,h,_⟩:=Rep.reads' I d v u r q;⟨as,h⟩
theorem aI.reads(I:Inv X pins σ H s)(ds:List PyData)(vs:List V)(us:List Value)(r:aI X.K H ds vs)(q:aV vs us):∃as,ReadsAll s.heap us ds as:=let⟨as,h,_⟩:=aI.reads' I ds vs us r q;⟨as,h⟩
end
section
variable{X:Cx}
noncomputable def HS(K:Fg)(neg:Bool):R2:=fun x y H Q=>∃dx dy,Rep K H dx x/\Rep K H dy y/\SeqAt.shaped dx=true/\SeqAt.shaped dy=true/\Q (.bl (if neg then !PyData.eqv dx dy else PyData.eqv dx dy)) H
theorem QV(hu:X.A.units+64<cLine):OpR X (compareOp .Eq) (HS X.K false):=by
 intro pins s σ H x y v u Q I rx ry h;obtain⟨dx,dy,hx,hy,sx,sy,q⟩:=h;obtain⟨as,ha⟩:=Rep.reads I dx x v hx rx;obtain⟨bs,hb⟩:=Rep.reads I dy y u hy ry;exact eq_dataH ha hb sx sy hu ⟨.bl _,H,I,rfl,q⟩
theorem aEN(hu:X.A.units+64<cLine):OpR X (compareOp .NotEq) (HS X.K true):=by
 intro pins s σ H x y v u Q I rx ry h;obtain⟨dx,dy,hx,hy,sx,sy,q⟩:=h;obtain⟨as,ha⟩:=Rep.reads I dx x v hx rx;obtain⟨bs,hb⟩:=Rep.reads I dy y u hy ry;exact ne_dataH ha hb sx sy hu ⟨.bl _,H,I,rfl,q⟩
open Classical in
noncomputable def oR(h:Heap)(dv:PyData)(u:Value):Bool:=if ∃d as,Reads h u d as/\PyData.eqv d dv=true then true else false
theorem aAP{h:Heap}{dv d:PyData}{u:Value}{as:List Addr}(r:Reads h u d as)(hc:d.canLay0=true):oR h dv u=PyData.eqv d dv:=by
 unfold oR;by_cases e:PyData.eqv d dv=true
 .rw[A7 ⟨d,as,r,e⟩,e]
 .rw[B0,Bool.eq_false_iff.mpr e];rintro⟨d',as',r',e'⟩;have:=SeqAt.Reads.unique d d' u as as' hc r r';subst this;exact e e'
theorem mU{A:Around}{s:Shared}{v:Value}{dv:PyData}{av:List Addr}(hv:Reads s.heap v dv av)(sv:SeqAt.shaped dv=true)(hu:A.units+64<cLine):
 ∀(us:List Value)(ds:List PyData)(as:List Addr),ReadsAll s.heap us ds as->ds.all SeqAt.shaped=true->(∀y∈us,SeqAt.EqAt A s y v (oR s.heap dv y))/\us.any (oR s.heap dv)=ds.any fun d=>PyData.eqv d dv
 |[]=>fun ds as r _=>by
  cases r;exact⟨fun y hy=>absurd hy (by simp),rfl⟩
 |y::us=>fun ds as r hs=>by
  cases r with
  |@cons _ _ d ds' as1 bs1 r1 r2=>
   rw[U3,C2]at hs;obtain⟨h1,h2⟩:=mU hv sv hu us _ _ r2 hs.2;have e:=aAP (dv:=dv) r1 (L8 hs.1);have hy:SeqAt.EqAt A s y v (PyData.eqv d dv):=SeqAt.eqAt_reads d dv A s y v _ _ r1 hv (L8 hs.1) (L8 sv) (SeqAt.room_of_shaped hs.1 hu);refine⟨fun z hz=>?_,by rw[O6,O6,e,h2]⟩;rcases List.mem_cons.mp hz with q|q
   .rw[q,e];exact hy
   .exact h1 z q
noncomputable def PJ(K:Fg)(neg:Bool):R2:=fun x y H Q=>∃dx ds p vs,Rep K H dx x/\y=.ref p/\(SqL K H p vs\/SqT K H p vs)/\aI K H ds vs/\SeqAt.shaped dx=true/\ds.all SeqAt.shaped=true /\
 Q (.bl (if neg then !ds.any fun d=>PyData.eqv d dx else ds.any fun d=>PyData.eqv d dx)) H
theorem aFb(hu:X.A.in1.units+64<cLine):OpR X (compareOp .In) (PJ X.K false):=by
 intro pins s σ H x y v u Q I rx ry h;obtain⟨dx,ds,p,vs,hx,rfl,hp,hds,sx,sds,q⟩:=h;cases ry;obtain⟨as,ha⟩:=Rep.reads I dx x v hx rx;rcases hp with hp|hp
 .obtain⟨its,r,pl,hz⟩:=I.list hp;obtain⟨bs,hb⟩:=aI.reads I ds vs its hds r;obtain⟨h1,h2⟩:=mU (A:=X.A.in1) ha sx hu its ds bs hb sds;refine SeqAt.in_listAt (oR s.heap dx) pl.isList (fun w hw=>h1 w (by simpa using hw)) ⟨.bl _,H,I,rfl,?_⟩;rw[show its.toArray.any (oR s.heap dx)=its.any (oR s.heap dx)by simp,h2];exact q
 .obtain⟨its,r,pl,hz⟩:=I.tuple hp;obtain⟨bs,hb⟩:=aI.reads I ds vs its hds r;obtain⟨h1,h2⟩:=mU (A:=X.A.in1) ha sx hu its ds bs hb sds;refine SeqAt.in_tupleAt (oR s.heap dx) pl (fun w hw=>h1 w (by simpa using hw)) ⟨.bl _,H,I,rfl,?_⟩;rw[show its.toArray.any (oR s.heap dx)=its.any (oR s.heap dx)by simp,h2];exact q
theorem LZ(hu:X.A.in1.units+64<cLine):OpR X (compareOp .NotIn) (PJ X.K true):=by
 intro pins s σ H x y v u Q I rx ry h;obtain⟨dx,ds,p,vs,hx,rfl,hp,hds,sx,sds,q⟩:=h;cases ry;obtain⟨as,ha⟩:=Rep.reads I dx x v hx rx;rcases hp with hp|hp
 .obtain⟨its,r,pl,hz⟩:=I.list hp;obtain⟨bs,hb⟩:=aI.reads I ds vs its hds r;obtain⟨h1,h2⟩:=mU (A:=X.A.in1) ha sx hu its ds bs hb sds;refine SeqAt.notIn_listAt (oR s.heap dx) pl.isList (fun w hw=>h1 w (by simpa using hw)) ⟨.bl _,H,I,rfl,?_⟩;rw[show its.toArray.any (oR s.heap dx)=its.any (oR s.heap dx)by simp,h2];exact q
 .obtain⟨its,r,pl,hz⟩:=I.tuple hp;obtain⟨bs,hb⟩:=aI.reads I ds vs its hds r;obtain⟨h1,h2⟩:=mU (A:=X.A.in1) ha sx hu its ds bs hb sds;refine SeqAt.notIn_tupleAt (oR s.heap dx) pl (fun w hw=>h1 w (by simpa using hw)) ⟨.bl _,H,I,rfl,?_⟩;rw[show its.toArray.any (oR s.heap dx)=its.any (oR s.heap dx)by simp,h2];exact q
theorem aV.types:∀{Ts:List String}{its:List Value},aV (Ts.map V.ty) its->its=Ts.map Value.type
 |[],_=>fun h=>by cases h;rfl
 |t::Ts,its=>fun h=>by
  cases h with
  |cons r1 r2=>rw[show _=Value.type t from r1,aV.types r2];rfl
theorem aV.bools:∀{bs:List Bool}{its:List Value},aV (bs.map V.bl) its->its=bs.map Value.bool
 |[],_=>fun h=>by cases h;rfl
 |b::bs,its=>fun h=>by
  cases h with
  |cons r1 r2=>rw[show _=Value.bool b from r1,aV.bools r2];rfl
theorem all_range(bs:List Bool):(List.range bs.length).all (fun i=>bs.getD i false)=bs.all id:=by
 rw[S2];simp only[List.all_eq_true,List.mem_range,id];constructor
 .intro h b hb;obtain⟨i,hi,rfl⟩:=List.mem_iff_getElem.mp hb;have:=h i hi;rw[A8,A9 hi]at this;exact this
 .intro h i hi;rw[A8,A9 hi];exact h _ (J3 hi)
theorem any_range(bs:List Bool):(List.range bs.length).any (fun i=>bs.getD i false)=bs.any id:=by
 rw[S2];simp only[List.any_eq_true,List.mem_range,id];constructor
 .rintro⟨i,hi,h⟩;rw[A8,A9 hi]at h;exact⟨_,J3 hi,h⟩
 .rintro⟨b,hb,h⟩;obtain⟨i,hi,rfl⟩:=List.mem_iff_getElem.mp hb;exact⟨i,hi,by rw[A8,A9 hi];exact h⟩
theorem sR{prog:Program}{w:World}{A:Around}{bs:List Bool}:TruthOf prog w A (fun i v=>(bs.map Value.bool).toArray[i]?=some v) (fun i=>bs.getD i false):=by
 intro i v s Q E hP hQ;rw[List.getElem?_toArray,C3]at hP;cases e:bs[i]? with
 |none=>rw[e]at hP;cases hP
 |some b=>
  rw[e]at hP;cases hP;have hb:bs.getD i false=b:=by rw[A8,e];rfl
  have hQ':Q (bs.getD i false) s:=hQ;rw[hb]at hQ';exact O5 hQ'
noncomputable def fQ:Nat:=2 ^ 8000
noncomputable def LM(i:Int):Prop:=i.natAbs<fQ
theorem CG{j:Int}(h:LM j):j.natAbs.log2<9000:=by
 by_cases h0:j.natAbs=0
 .rw[h0];decide +kernel
 .exact Nat.lt_trans ((Nat.log2_lt h0).mpr h) (by decide)
noncomputable def aFI(i j:Int):Prop:=LM i/\LM j
theorem yH{j:Int}(h:LM j):Builtin.Int.intBits j<=2 ^ 20:=by
 unfold Builtin.Int.intBits;by_cases h0:(j==0)=true
 .rw[A7 h0];exact F9 _
 .rw[B0 h0];have:=CG h;omega
end
structure Callee(P:Program)(w:World)(K:Fg)(mg:Str->Option Value)(base:Heap)(k:Nat)(x:Str)(ps:List Str)(sp:Sp)(q:Bool:=true):Prop where
 ex:∃f fd,oQ P w K mg base CX0 k f fd ps sp q/\mg x=some (.ref f)/\PySem.W.keepIn K (.ref f)=true/\Binds K fd ps []
structure Def(K:Fg)(mg:Str->Option Value)(x:Str)(st:Stmt):Prop where
 ex:∃f fd,Fun K x x st f fd/\mg x=some (.ref f)
section
variable{P:Program}{w:World}{K:Fg}{mg:Str->Option Value}{base:Heap}{X:Cx}
theorem Def.ok{x:Str}{st:Stmt}{N ps:List Str}{k:Nat}{sp:Sp}{q:Bool}(D:Def K mg x st)(S:aT N ps (aJ st))
 (hb:∀(kV doc pm:Value)(an:Option Addr)(cdv ct:Value)(us:List Value),us.length=ps.length->bindArgs (PySem.W.fnOf x x (fW st) (cK st) (aJ st) .none kV doc pm an cdv ct) ⟨us,[]⟩=pure (ps.zip us))
 (len:∀vs H Q E,sp vs H Q E->vs.length=ps.length)
 (hbody:∀(f:Addr)(cdv:Value)(A:Around)(outer:List Env)(s:Shared)(H:Hp)(vs:List V)(Q:VK)(E:XK),dF k (A.deeper (envOfC x (aJ st) s.heap.objs.size f cdv)) q->sp vs H Q E->
  ∃t,PSs (lP CX0 P w K mg base N x (aJ st) f cdv A outer s H E q).nox (cK st) t/\t { nx:=fun _ H'=>Q .non H',rt:=Q } (start N vs) H):Callee P w K mg base (k+1) x ps sp q:=by
 obtain⟨f,fd,F,m⟩:=D.ex;exact⟨f,fd,F.ok S len fun cdv A outer s H vs Q E hr h=>hbody f cdv A outer s H vs Q E hr h,m,F.kp,F.binds hb⟩
theorem def_mk{x:Str}{st:Stmt}{h:Heap}{f:Addr}{oc:Value}{od an:Option Addr}{osl:Array (Option Value)}{kV doc pm cdv ct:Value}(X:K.In h)(G:h.Ns mainGlobals mg)(a:PySem.W.nsIn K mainGlobals x=some (some (.ref f)))
 (l:K.lookup f=some ⟨oc,od,.func (PySem.W.fnOf x x (fW st) (cK st) (aJ st) .none kV doc pm an cdv ct),osl⟩) (c:PySem.W.codeIn K cdv x=true) (k:PySem.W.keepIn K (.ref f)=true):Def K mg x st:=
 ⟨f,_,aCq l c k,PySem.W.mg_of X G a⟩
theorem aEb{k:Nat}{x:Str}{ps:List Str}{sp:Sp}{p pos:Pos}{e:Expr}{es:List Expr}{t:TA}{q:Bool}(C:Callee X.prog X.w X.K X.mg X.base k x ps sp q)(hr:dF k X.A q)(ha:PA X (e::es) t)(hg:Gl X x:=by rfl)
 (hdb:(x==("__debug__":Str))=false:=by decide) (he:starEach (e::es) X.env=(false,eval e X.env)::starEach es X.env:=by rfl) (hpl:(backTo pos (starEach es X.env)).any (·.1)=false:=by rfl):
 PE X (.Call (.Name x p) (e::es) [] pos) (RV sp [] E0 t):=by
 obtain⟨f,fd,F,m,kp,b⟩:=C.ex;exact LD F hr hg m kp b .nil aGK ha hdb he hpl
theorem dF.units1{k:Nat}{A:Around}(r:dF k A):A.in1.units+64<cLine:=by have:=r.un;show A.units+1+64<_;omega
noncomputable def MY(mg:Str->Option Value)(xs:List Str):Prop:=∀x∈xs,mg x=none
theorem MY.of{xs:List Str}(h:MY mg xs)(x:Str)(hx:x∈xs:=by decide +kernel):mg x=none:=h x hx
theorem RH:MY mg []:=fun _ h=>absurd h (by simp)
theorem cQ{x:Str}{xs:List Str}(h:mg x=none)(hr:MY mg xs):MY mg (x::xs):=fun y hy=>(List.mem_cons.mp hy).elim (fun e=>e▸h) (hr y)
noncomputable def FI(i j:Int):Prop:=aDy i j\/aFI i j
theorem FI.ok{i j:Int}(h:FI i j):IntMulOk i j:=by
 rcases h with h|h
 .exact h.ok
 .exact IntMulOk.of_bits (yH h.1) (yH h.2)
theorem ZI:OpR X (binaryOp .Mult) (rI FI fun i j=>.int (i*j)):=opI fun _ _ _ _ _ _ _ hc q=>mul_int q hc.ok
noncomputable def aCe(_ j:Int):Prop:=0<j/\LM j
theorem WN:OpR X (binaryOp .FloorDiv) (rI aCe fun i j=>.int (i / j)):=opI fun i j _ _ _ _ _ hc q=>by
 refine floordiv_int (Int.ne_of_gt hc.1) ?_ (.inl (PyProof.noPylong_of_log2 (CG hc.2)));rw[Int.fdiv_eq_ediv_of_nonneg _ (Int.le_of_lt hc.1)];exact q
theorem qS{i:Int}(h:-(2 ^ 200)<i)(h':i<2 ^ 200):LM i:=by
 show i.natAbs<2 ^ 8000;have h1:i.natAbs<2 ^ 200:=by omega
 exact C0 h1 (Nat.pow_le_pow_right (by decide) (by decide))
end
noncomputable def aBN(sc0:Scope)(N N':List Str)(cap:List (Option Nat))(scope:Scope):Bool:=
 scope.names.all (fun y=>y.2 != .cell)&&(scope.kind==.function)&&scope.names.all (fun y=>y.2 != .local || scope.names.lookup y.1==some .local) &&
 scope.names.all (fun y=>y.2 != .free || (sc0.names.lookup y.1==some .cell || sc0.names.lookup y.1==some .free))&&(cap.length==N'.length) &&
 (List.range cap.length).all fun i=>match cap[i]? with
  |some (some j)=>(match N'[i]?,N[j]? with
   |some x,some y=>x==y&&scope.names.lookup x==some .free
   |_,_=>false)
  |_=>true
theorem iO{X:Cx}{sc0 scope:Scope}{N N':List Str}{cap:List (Option Nat)}(h1:X.env.scope=sc0)(h2:X.N=N)(h:aBN sc0 N N' cap scope=true):qO X N' cap scope:=by
 unfold aBN at h;simp only[Bool.and_eq_true,List.all_eq_true,beq_iff_eq,bne_iff_ne,ne_eq,Bool.or_eq_true,List.mem_range]at h;obtain⟨⟨⟨⟨⟨a,b⟩,c⟩,d⟩,e⟩,f⟩:=h;refine⟨a,b,fun y hy hk=>?_,fun y hy hk=>?_,e,fun i j hij=>?_⟩
 .rcases c y hy with z|z
  .exact absurd hk z
  .exact z
 .show X.env.scope.names.lookup y.1=_\/X.env.scope.names.lookup y.1=_;rw[h1];rcases d y hy with z|z
  .exact absurd hk z
  .exact z
 .have hi:i<cap.length:=(List.getElem?_eq_some_iff.mp hij).1;have g:=f i hi;rw[hij]at g;dsimp only at g;rw[h2];split at g
  .rename_i x y ex ey;rw[C2,Z3,Z3]at g;exact⟨x,ex,by rw[ey,g.1],g.2⟩
  .cases g
noncomputable def tyName:PyData->String
 |.none=>"NoneType"
 |.bool _=>"bool"
 |.int _=>"int"
 |.str _=>"str"
 |.list _=>"list"
 |.tuple _=>"tuple"
 |.dict _=>"dict"
noncomputable def asked:List String:=["int","bool","str","list","tuple","dict"]
noncomputable def isT(T S:String):Bool:=T==S || (T=="int"&&S=="bool")
noncomputable def tP(T:String)(d:PyData):Bool:=isT T (tyName d)
noncomputable def aGo(S T:String):Option Bool:=if (Value.type S==Value.type T)=true then some true else if PySem.W.kitMeta T=true then(PySem.fastBuiltinMro S).map (·.contains (Value.type T))else none
theorem WC:(["NoneType","bool","int","str","list","tuple","dict"].all fun S=>asked.all fun T=>aGo S T==some (isT T S))=true:=by decide +kernel
theorem WV{T:String}{d:PyData}(h:T∈asked):PySem.W.kitOne K (.type (tyName d)) (.type T)=some (tP T d):=by
 have e:PySem.W.kitOne K (.type (tyName d)) (.type T)=aGo (tyName d) T:=rfl;rw[e];have hk:=WC;rw[List.all_eq_true]at hk;have h1:=hk (tyName d) (by cases d<;>simp[tyName]);rw[List.all_eq_true]at h1;exact eq_of_beq (h1 T h)
theorem IK{K:Fg}{d:PyData}:∀{Ts:List String},(∀T∈Ts,T∈asked)->PySem.W.kitAny K (.type (tyName d)) (Ts.map Value.type)=some (Ts.any fun T=>tP T d)
 |[]=>fun _=>rfl
 |T::Ts=>fun h=>by
  rw[B6];unfold PySem.W.kitAny;rw[WV (h T B5),O6];cases tP T d with
  |true=>rfl
  |false=>rw[Bool.false_or];exact IK fun U hU=>h U (B3 _ hU)
section
variable{X:Cx}
theorem JH{pins:List (Addr×Obj)}{σ:St}{H:Hp}{s:Shared}(I:Inv X pins σ H s):∀{d:PyData}{v:V}{u:Value},Rep X.K H d v->RelV v u->∃Hc:Heap->Prop,PySem.W.KitX X.K u (.type (tyName d)) Hc/\Hc s.heap/\u≠.builtin "__main__.__loader__#opaque"
 |.none,v,u=>fun h r=>by
  rw[show v=.non from h]at r;cases (show u=Value.none from r);exact⟨_,PySem.W.kitx_none,True.intro,fun z=>nomatch z⟩
 |.bool b,v,u=>fun h r=>by
  rw[show v=.bl b from h]at r;cases (show u=Value.bool b from r);exact⟨_,PySem.W.kitx_bool,True.intro,fun z=>nomatch z⟩
 |.int i,v,u=>fun h r=>by
  rw[show v=.int i from h]at r;obtain⟨t,q⟩:=(show ∃t,u=Value.int i t from r);cases q;exact⟨_,PySem.W.kitx_int,True.intro,fun z=>nomatch z⟩
 |.str x,v,u=>fun h r=>by
  rw[show v=.str x from h]at r;obtain⟨t,q⟩:=(show ∃t,u=Value.str x t from r);cases q;exact⟨_,PySem.W.kitx_str,True.intro,fun z=>nomatch z⟩
 |.list xs,v,u=>fun h r=>by
  obtain⟨a,vs,rfl,h2,_⟩:=h;cases (show u=Value.ref a from r);obtain⟨its,hv,⟨o,n,hg,hc,_,hd⟩,_⟩:=I.list h2;exact⟨_,PySem.W.kitx_list,⟨o,hg,hc⟩,fun z=>nomatch z⟩
 |.tuple xs,v,u=>fun h r=>by
  obtain⟨a,vs,rfl,h2,_⟩:=h;cases (show u=Value.ref a from r);obtain⟨its,hv,⟨o,hg,hc,n,hd⟩,_⟩:=I.tuple h2;exact⟨_,PySem.W.kitx_tuple,⟨o,hg,hc⟩,fun z=>nomatch z⟩
 |.dict kvs,v,u=>fun h r=>by
  obtain⟨a,ks,rfl,h2,_⟩:=h;cases (show u=Value.ref a from r);obtain⟨_,_,vs,_,o,es,ep,h1,hx,_⟩:=(show dG X.prog X.w H s.heap a (.dK ks)from I.hok a _ h2);exact⟨_,PySem.W.kitx_dict,⟨o,h1,hx.1⟩,fun z=>nomatch z⟩
noncomputable def aFf(K:Fg):List V->Hp->VK->Prop:=fun xs H Q=>∃x T d,xs=[x,.ty T]/\T∈asked/\Rep K H d x/\Q (.bl (tP T d)) H
theorem OG:dO X (.builtin "isinstance") (aFf X.K):=by
 intro pins s σ H xs us Q I r h;obtain⟨x,T,d,rfl,hT,hd,q⟩:=h;obtain⟨u,u',rfl,ru,ru'⟩:=vals2 r;cases (show u'=Value.type T from ru');obtain⟨Hc,Z,hh,hne⟩:=JH I hd ru;exact PySem.W.kia_one Z I.kIn hh (WV hT) hne fun tk=>⟨.bl _,H,I.tok tk,rfl,q⟩
noncomputable def PH(K:Fg):List V->Hp->VK->Prop:=fun xs H Q=>∃(x:V)(p:Addr)(Ts:List String)(d:PyData),xs=[x,.ref p]/\H p=some (.tup (Ts.map V.ty))/\(∀T∈Ts,T∈asked)/\Rep K H d x/\Q (.bl (Ts.any fun T=>tP T d)) H
theorem HI:dO X (.builtin "isinstance") (PH X.K):=by
 intro pins s σ H xs us Q I r h;obtain⟨x,p,Ts,d,rfl,hp,hT,hd,q⟩:=h;obtain⟨u,u',rfl,ru,ru'⟩:=vals2 r;cases (show u'=Value.ref p from ru');obtain⟨_,its,rv,o,hg,hcl,n,hd'⟩:=(show dG X.prog X.w H s.heap p (.tup (Ts.map V.ty))from I.hok p _ hp);have hits:its=Ts.map Value.type:=aV.types rv;subst hits;obtain⟨oc,od,odt,osl⟩:=o;dsimp only at hcl hd';subst hcl hd';obtain⟨Hc,Z,hh,hne⟩:=JH I hd ru;exact PySem.W.kia_tup Z I.kIn hh hg (IK hT) hne fun tk=>⟨.bl _,H,I.tok tk,rfl,q⟩
end
theorem gY.upd{p:Addr}{o:HO}(h:H p=none):gY H (upd H p o):=fun b u e=>by rw[aM (aQ e h)];exact e
noncomputable def aP:PyData->Option (List PyData)
 |.list xs=>some xs
 |.tuple xs=>some xs
 |_=>none
theorem iK{K:Fg}{H:Hp}:∀{d:PyData}{v:V}{ds:List PyData},Rep K H d v->aP d=some ds->∃a vs,v=.ref a/\(SqL K H a vs\/SqT K H a vs)/\aI K H ds vs
 |.list xs,v,ds=>fun h e=>by
  obtain⟨a,vs,h1,h2,h3⟩:=h;cases e;exact⟨a,vs,h1,.inl h2,h3⟩
 |.tuple xs,v,ds=>fun h e=>by
  obtain⟨a,vs,h1,h2,h3⟩:=h;cases e;exact⟨a,vs,h1,.inr h2,h3⟩
 |.none,_,_=>fun _ e=>by cases e
 |.bool _,_,_=>fun _ e=>by cases e
 |.int _,_,_=>fun _ e=>by cases e
 |.str _,_,_=>fun _ e=>by cases e
 |.dict _,_,_=>fun _ e=>by cases e
section
variable{X:Cx}{tg:Expr}
noncomputable def aAN(K:Fg)(tl:TE):TI:=fun σ H R=>tl σ H fun x H1=>∃a,x=.ref a/\((∃xs,SqL K H1 a xs/\R (Itl K a) H1)\/(∃xs,SqT K H1 a xs/\R (Itt K a) H1))
theorem aFm{l:Expr}{tl:TE}(hl:PE X l tl):PI X tg l (aAN X.K tl):=by
 intro pins s σ H R I h;refine thn (hl pins s σ H _ I h) fun v s1 hz=>?_;obtain⟨x,H1,I1,r1,a,e,q1⟩:=hz;subst e;cases r1
 have fp:∀b∈[s1.heap.objs.size],qU X pins H1 b:=fun b hb=>by
  have e:b=s1.heap.objs.size:=List.mem_singleton.mp hb;subst e;exact I1.fpOk (B1 _) (I1.hok.fresh (B1 _))
 rcases q1 with⟨xs,hq,q⟩|⟨xs,hq,q⟩
 .obtain⟨its,rv,p,hz⟩:=I1.list hq;refine wpAny_pyIter_list p.isList ?_;exact⟨s1.heap.objs.size,[s1.heap.objs.size],_,_,H1,rfl,I1.kept (t':=s1.toks) fun b o e=>A6 _ e,OD a _,⟨_,D2 _ rfl,rfl,rfl⟩,fp,q⟩
 .obtain⟨its,rv,p,hz⟩:=I1.tuple hq;refine A0g (show s1.heap.IsTuple a its.toArray from p) ?_;exact⟨s1.heap.objs.size,[s1.heap.objs.size],_,_,H1,rfl,I1.kept (t':=s1.toks) fun b o e=>A6 _ e,HC a _,⟨_,D2 _ rfl,rfl,rfl⟩,fp,q⟩
end
inductive CD where
 |d (x:PyData)
 |c (n:Nat)
 |t (xs:List (PyData ⊕ Nat))
 |f (kvs:List (List Key×PyData))
inductive Cell where
 |lst (xs:List CD)
 |dk (kvs:List (Key×CD))
 |dt (kvs:List (List Key×CD))
 |obj (nm:Str) (fs:List (Str×CD))
 |exc (fr:Bool) (nm:Str) (fs:List (Str×CD))
 |dead
structure Wd where
 F:Hp
 α:Nat->Addr
 n:Nat
structure Wd.Ext(W W':Wd):Prop where
 ff:gY W.F W'.F
 ln:W.n<=W'.n
 al:∀i,i<W.n->W'.α i=W.α i
theorem Wd.Ext.refl(W:Wd):W.Ext W:=⟨gY.refl _,B1 _,fun _ _=>rfl⟩
theorem Wd.Ext.trans{W1 W2:Wd}(a:W.Ext W1)(b:W1.Ext W2):W.Ext W2:=⟨a.ff.trans b.ff,J0 a.ln b.ln,fun i h=>(b.al i (C0 h a.ln)).trans (a.al i h)⟩
noncomputable def NM(K:Fg)(W:Wd):PyData ⊕ Nat->V->Prop
 |.inl x,v=>Rep K W.F x v
 |.inr i,v=>i<W.n/\v=.ref (W.α i)
noncomputable def cdA:PyData ⊕ Nat->CD
 |.inl x=>.d x
 |.inr i=>.c i
noncomputable def bV(K:Fg)(W:Wd):CD->V->Prop
 |.d x,v=>Rep K W.F x v
 |.c i,v=>i<W.n/\v=.ref (W.α i)
 |.t xs,v=>∃a vs,v=.ref a/\W.F a=some (.tup vs)/\Paired (NM K W) xs vs
 |.f kvs,v=>∃a o us,v=.ref a/\W.F a=some (.frz o (.dT us))/\Paired (fun p q=>p.1=q.1/\Rep K W.F p.2 q.2) kvs us
noncomputable abbrev bS(K:Fg)(W:Wd):List CD->List V->Prop:=Paired (bV K W)
noncomputable def CZ(K:Fg)(W:Wd):Option CD->Option V->Prop
 |none,none=>True
 |some x,some v=>bV K W x v
 |_,_=>False
noncomputable abbrev cJ(K:Fg)(W:Wd):List (Option CD)->St->Prop:=Paired (CZ K W)
noncomputable def cR(K:Fg)(nm:Str):Addr:=match PySem.W.nsIn K mainGlobals nm with
 |some (some (.ref C))=>C
 |_=>0
noncomputable def DL(a:Addr)(c:Value)(dx:Option Addr)(fr:Bool)(h:Heap):Prop:=∃o vs,h.get? a=some o/\o.cls=c/\o.dict=dx/\o.data=.fields vs/\(fr=true->1<vs.size/\vs[1]?=some .none)
noncomputable def EN(K:Fg)(W:Wd)(dx:Option Addr)(fs:List (Str×CD)):Prop:=match dx with
 |none=>fs=[]
 |some d=>fs≠[]/\∃us,W.F d=some (.xd us)/\Paired (fun p q=>p.1=q.1/\bV K W p.2 q.2) fs us
noncomputable def OR(K:Fg)(W:Wd)(a:Addr):Cell->HO->Prop
 |.lst xs,.lst vs=>bS K W xs vs
 |.dk kvs,.dK us=>Paired (fun p q=>p.1=q.1/\bV K W p.2 q.2) kvs us
 |.dt kvs,.dT us=>Paired (fun p q=>p.1=q.1/\bV K W p.2 q.2) kvs us
 |.obj nm fs,.ins C _ us=>C=cR K nm/\Paired (fun p q=>p.1=q.1/\bV K W p.2 q.2) fs us
 |.exc fr nm fs,.ext φ=>∃dx,φ=DL a (.ref (cR K nm)) dx fr/\EN K W dx fs
 |_,_=>False
structure Good(K:Fg)(W:Wd)(M:List Cell)(H:Hp):Prop where
 fh:gY W.F H
 n:W.n=M.length
 cs:∀i c,M[i]?=some c->c≠.dead->W.F (W.α i)=none/\∃o,H (W.α i)=some o/\OR K W (W.α i) c o
 inj:∀i j c c',M[i]?=some c->M[j]?=some c'->c≠.dead->c'≠.dead->W.α i=W.α j->i=j
section
variable{K:Fg}{W W':Wd}{M M':List Cell}{H H':Hp}
theorem NM.up{x:PyData ⊕ Nat}{v:V}(h:NM K W x v)(e:W.Ext W'):NM K W' x v:=by
 cases x with
 |inl x=>exact Rep.same e.ff _ _ h
 |inr i=>exact⟨C0 h.1 e.ln,by rw[e.al i h.1];exact h.2⟩
theorem bV.up{x:CD}{v:V}(h:bV K W x v)(e:W.Ext W'):bV K W' x v:=by
 cases x with
 |d x=>exact Rep.same e.ff _ _ h
 |c i=>exact⟨C0 h.1 e.ln,by rw[e.al i h.1];exact h.2⟩
 |t xs=>
  obtain⟨a,vs,h1,h2,h3⟩:=h;exact⟨a,vs,h1,e.ff _ _ h2,Paired.mapP h3 fun _ _ r=>NM.up r e⟩
 |f kvs=>
  obtain⟨a,o,us,h1,h2,h3⟩:=h;exact⟨a,o,us,h1,e.ff _ _ h2,Paired.mapP h3 fun _ _ r=>⟨r.1,Rep.same e.ff _ _ r.2⟩⟩
theorem bS.up{xs:List CD}{vs:List V}(h:bS K W xs vs)(e:W.Ext W'):bS K W' xs vs:=Paired.mapP h fun _ _ r=>bV.up r e
theorem cJ.up{γ:List (Option CD)}{σ:St}(h:cJ K W γ σ)(e:W.Ext W'):cJ K W' γ σ:=Paired.mapP h fun a b r=>by
 cases a<;>cases b
 .exact True.intro
 .exact False.elim r
 .exact False.elim r
 .exact bV.up r e
theorem EN.up{dx:Option Addr}{fs:List (Str×CD)}(h:EN K W dx fs)(e:W.Ext W'):EN K W' dx fs:=by
 cases dx with
 |none=>exact h
 |some d=>
  obtain⟨h0,us,h1,h2⟩:=h;exact⟨h0,us,e.ff _ _ h1,Paired.mapP h2 fun _ _ r=>⟨r.1,bV.up r.2 e⟩⟩
theorem OR.up{a:Addr}{c:Cell}{o:HO}(h:OR K W a c o)(e:W.Ext W'):OR K W' a c o:=by
 cases c<;>cases o<;>first|exact(let⟨dx,h1,h2⟩:=h;⟨dx,h1,h2.up e⟩)|exact False.elim h|exact bS.up h e|exact Paired.mapP h fun _ _ r=>⟨r.1,bV.up r.2 e⟩|exact⟨h.1,Paired.mapP h.2 fun _ _ r=>⟨r.1,bV.up r.2 e⟩⟩
theorem Good.lay(g:Good K W M H){p:Addr}{o:HO}(hp:H p=none):W.Ext { W with F:=upd W.F p o }/\Good K { W with F:=upd W.F p o } M (upd H p o):=by
 have fp:W.F p=none:=g.fh.free hp;have e:W.Ext { W with F:=upd W.F p o }:=⟨gY.upd fp,B1 _,fun _ _=>rfl⟩;refine⟨e,?_,g.n,fun i c hi hc=>?_,g.inj⟩
 .intro b u hb;have hb:upd W.F p o b=some u:=hb;by_cases q:b=p
  .subst q;rw[aN]at hb;rw[aN];exact hb
  .rw[aM q]at hb;rw[aM q];exact g.fh b u hb
 .obtain⟨h1,o',h2,h3⟩:=g.cs i c hi hc;have ne:W.α i≠p:=aQ h2 hp;exact⟨by show upd W.F p o (W.α i)=none;rw[aM ne];exact h1,o',by rw[aM ne];exact h2,h3.up e⟩
noncomputable def Wd.more(W:Wd)(p:Addr):Wd:={ W with α:=fun i=>if i=W.n then p else W.α i,n:=W.n+1 }
theorem Wd.ext_more(W:Wd)(p:Addr):W.Ext (W.more p):=⟨gY.refl _,Y0 _,fun i h=>B0 (D1 h)⟩
theorem Good.new(g:Good K W M H){p:Addr}{c:Cell}{o:HO}(hp:H p=none)(r:OR K W p c o):Good K (W.more p) (M++[c]) (upd H p o):=by
 have e:=W.ext_more p
 have at_:∀i c',(M++[c])[i]?=some c'->(i<M.length/\M[i]?=some c')\/(i=M.length/\c'=c):=fun i c' h=>by
  by_cases q:i<M.length
  .rw[F4 q]at h;exact .inl ⟨q,h⟩
  .rw[B9 (Nat.le_of_not_lt q)]at h
   have h':i-M.length=0:=by
    cases k:i-M.length with
    |zero=>rfl
    |succ m=>rw[k]at h;simp at h
   rw[h']at h;refine .inr ⟨by omega,?_⟩;simpa using h.symm
 have al:∀i,i<M.length->(W.more p).α i=W.α i:=fun i h=>e.al i (by rw[g.n];exact h);have an:(W.more p).α M.length=p:=by show(if M.length=W.n then p else _)=p;rw[A7 g.n.symm]
 have nep:∀i c',M[i]?=some c'->c'≠.dead->W.α i≠p:=fun i c' h hc=>by
  obtain⟨_,o',h2,_⟩:=g.cs i c' h hc;exact aQ h2 hp
 refine⟨?_,?_,fun i c' hi hc=>?_,fun i j c1 c2 hi hj d1 d2 he=>?_⟩
 .intro b u hb;have:=g.fh b u hb;rw[aM (aQ this hp)];exact this
 .show W.n+1=_;rw[g.n,B4];rfl
 .rcases at_ i c' hi with⟨q,h⟩|⟨rfl,rfl⟩
  .obtain⟨h1,o',h2,h3⟩:=g.cs i c' h hc;rw[al i q];exact⟨h1,o',by rw[aM (nep i c' h hc)];exact h2,h3.up e⟩
  .rw[an];exact⟨g.fh.free hp,o,aN,r.up e⟩
 .rcases at_ i c1 hi with⟨q,h⟩|⟨rfl,rfl⟩
  .rcases at_ j c2 hj with⟨q',h'⟩|⟨rfl,rfl⟩
   .rw[al i q,al j q']at he;exact g.inj i j c1 c2 h h' d1 d2 he
   .rw[al i q,an]at he;exact absurd he (nep i c1 h d1)
  .rcases at_ j c2 hj with⟨q',h'⟩|⟨rfl,rfl⟩
   .rw[an,al j q']at he;exact absurd he.symm (nep j c2 h' d2)
   .rfl
theorem Good.set(g:Good K W M H){i:Nat}{c c':Cell}{o':HO}(hi:M[i]?=some c)(hc:c≠.dead)(r:OR K W (W.α i) c' o'):Good K W (M.set i c') (upd H (W.α i) o'):=by
 obtain⟨h1,o,h2,h3⟩:=g.cs i c hi hc;have lt:i<M.length:=(List.getElem?_eq_some_iff.mp hi).1
 have at_:∀j d,(M.set i c')[j]?=some d->(j=i/\d=c')\/(j≠i/\M[j]?=some d):=fun j d h=>by
  by_cases q:i=j
  .subst q;rw[J1 lt]at h;exact .inl ⟨rfl,(D5 h).symm⟩
  .rw[J7 q]at h;exact .inr ⟨fun z=>q z.symm,h⟩
 refine⟨?_,by rw[g.n,O3],fun j d hj hd=>?_,fun j k d1 d2 hj hk e1 e2 he=>?_⟩
 .intro b u hb;rw[aM (aQ hb h1)];exact g.fh b u hb
 .rcases at_ j d hj with⟨rfl,rfl⟩|⟨q,h⟩
  .exact⟨h1,o',aN,r⟩
  .obtain⟨k1,u,k2,k3⟩:=g.cs j d h hd;have ne:W.α j≠W.α i:=fun z=>q (g.inj j i d c h hi hd hc z);exact⟨k1,u,by rw[aM ne];exact k2,k3⟩
 .rcases at_ j d1 hj with⟨rfl,rfl⟩|⟨q,h⟩<;>rcases at_ k d2 hk with⟨rfl,rfl⟩|⟨q',h'⟩
  .rfl
  .exact g.inj _ k c d2 hi h' hc e2 he
  .exact g.inj j _ d1 c h hi e1 hc he
  .exact g.inj j k d1 d2 h h' e1 e2 he
end
noncomputable abbrev Ga:=List (Option CD)
noncomputable abbrev Sto:=List Cell
noncomputable abbrev EF:=Ga->Sto->Option (CD×Sto)
noncomputable abbrev TF:=Ga->Sto->Option (Bool×Sto)
noncomputable abbrev AF:=Ga->Sto->Option (List CD×Sto)
inductive Out where
 |nx (γ:Ga)|bk (γ:Ga)|ct (γ:Ga)|rt (x:CD)
noncomputable abbrev SF:=Ga->Sto->Option (Out×Sto)
noncomputable abbrev GF:=CD->Ga->Sto->Option (Ga×Sto)
noncomputable abbrev GsF:=List CD->Ga->Sto->Option (Ga×Sto)
noncomputable abbrev F1:=CD->Sto->Option (CD×Sto)
noncomputable abbrev F2:=CD->CD->Sto->Option (CD×Sto)
noncomputable abbrev FN:=List CD->Sto->Option (CD×Sto)
section
variable(K:Fg)
noncomputable def SE(t:TE)(f:EF):Prop:=∀γ M x M',f γ M=some (x,M')->∀(W:Wd)(H:Hp)(σ:St)(Q:VK),Good K W M H->cJ K W γ σ->(∀v W' H',W.Ext W'->Good K W' M' H'->bV K W' x v->Q v H')->t σ H Q
noncomputable def STt(t:TT)(f:TF):Prop:=∀γ M b M',f γ M=some (b,M')->∀(W:Wd)(H:Hp)(σ:St)(Q:Bool->Hp->Prop),Good K W M H->cJ K W γ σ->(∀W' H',W.Ext W'->Good K W' M' H'->Q b H')->t σ H Q
noncomputable def SA(t:TA)(f:AF):Prop:=∀γ M xs M',f γ M=some (xs,M')->∀(W:Wd)(H:Hp)(σ:St)(Q:List V->Hp->Prop),Good K W M H->cJ K W γ σ->(∀vs W' H',W.Ext W'->Good K W' M' H'->bS K W' xs vs->Q vs H')->t σ H Q
noncomputable def TM(D:Ends)(W:Wd)(H:Hp):Out->Prop
 |.nx γ=>∀σ,cJ K W γ σ->D.nx σ H
 |.bk γ=>∀σ,cJ K W γ σ->D.bk σ H
 |.ct γ=>∀σ,cJ K W γ σ->D.ct σ H
 |.rt x=>∀v,bV K W x v->D.rt v H
noncomputable def SS(t:TS)(f:SF):Prop:=∀γ M o M',f γ M=some (o,M')->∀(W:Wd)(H:Hp)(σ:St)(D:Ends),Good K W M H->cJ K W γ σ->(∀W' H',W.Ext W'->Good K W' M' H'->TM K D W' H' o)->t D σ H
noncomputable def SG(t:TG)(f:GF):Prop:=∀x γ M γ' M',f x γ M=some (γ',M')->∀(W:Wd)(H:Hp)(σ:St)(v:V)(Q:St->Hp->Prop),Good K W M H->cJ K W γ σ->bV K W x v->(∀σ' W' H',W.Ext W'->Good K W' M' H'->cJ K W' γ' σ'->Q σ' H')->t v σ H Q
noncomputable def SGs(t:TGs)(f:GsF):Prop:=∀xs γ M γ' M',f xs γ M=some (γ',M')->∀(W:Wd)(H:Hp)(σ:St)(vs:List V)(Q:St->Hp->Prop),Good K W M H->cJ K W γ σ->bS K W xs vs->(∀σ' W' H',W.Ext W'->Good K W' M' H'->cJ K W' γ' σ'->Q σ' H')->t vs σ H Q
noncomputable def P2(r:R2)(f:F2):Prop:=∀x y M z M',f x y M=some (z,M')->∀(W:Wd)(H:Hp)(v u:V)(Q:VK),Good K W M H->bV K W x v->bV K W y u->(∀w W' H',W.Ext W'->Good K W' M' H'->bV K W' z w->Q w H')->r v u H Q
noncomputable def P1(r:V->Hp->VK->Prop)(f:F1):Prop:=∀x M z M',f x M=some (z,M')->∀(W:Wd)(H:Hp)(v:V)(Q:VK),Good K W M H->bV K W x v->(∀w W' H',W.Ext W'->Good K W' M' H'->bV K W' z w->Q w H')->r v H Q
noncomputable def PN(r:List V->Hp->VK->Prop)(f:FN):Prop:=∀xs M z M',f xs M=some (z,M')->∀(W:Wd)(H:Hp)(vs:List V)(Q:VK),Good K W M H->bS K W xs vs->(∀w W' H',W.Ext W'->Good K W' M' H'->bV K W' z w->Q w H')->r vs H Q
noncomputable def spM(f:FN):Sp:=fun vs H Q _=>∃xs M W y M',Good K W M H/\bS K W xs vs/\f xs M=some (y,M')/\∀v W' H',W.Ext W'->Good K W' M' H'->bV K W' y v->Q v H'
end
noncomputable def aD(i:Nat):EF:=fun γ M=>match γ[i]? with
 |some (some x)=>some (x,M)
 |_=>none
noncomputable def fC(x:PyData):EF:=fun _ M=>some (.d x,M)
noncomputable def fOp(h:F2)(f g:EF):EF:=fun γ M=>(f γ M).bind fun r=>(g γ r.2).bind fun q=>h r.1 q.1 q.2
noncomputable def fUn(h:F1)(f:EF):EF:=fun γ M=>(f γ M).bind fun r=>h r.1 r.2
noncomputable def asB:CD->Option Bool
 |.d (.bool b)=>some b
 |_=>none
noncomputable def mH(f g:EF):EF:=fun γ M=>(f γ M).bind fun r=>(asB r.1).bind fun b=>if b=true then g γ r.2 else some (.d (.bool false),r.2)
noncomputable def fOr(f g:EF):EF:=fun γ M=>(f γ M).bind fun r=>(asB r.1).bind fun b=>if b=true then some (.d (.bool true),r.2)else g γ r.2
noncomputable def YE(f:EF):EF:=fun γ M=>(f γ M).bind fun r=>(asB r.1).bind fun b=>some (.d (.bool (!b)),r.2)
noncomputable def fIf(t:TF)(f g:EF):EF:=fun γ M=>(t γ M).bind fun r=>if r.1=true then f γ r.2 else g γ r.2
noncomputable def aBk(f g:TF):TF:=fun γ M=>(f γ M).bind fun r=>if r.1=true then g γ r.2 else some (false,r.2)
noncomputable def gOr(f g:TF):TF:=fun γ M=>(f γ M).bind fun r=>if r.1=true then some (true,r.2)else g γ r.2
noncomputable def tS(f:TF):TF:=fun γ M=>(f γ M).bind fun r=>some (!r.1,r.2)
noncomputable def gB(f:EF):TF:=fun γ M=>(f γ M).bind fun r=>(asB r.1).bind fun b=>some (b,r.2)
noncomputable def BB(h h':F2)(f g e:EF):EF:=fun γ M=>(f γ M).bind fun r=>(g γ r.2).bind fun q=>(h r.1 q.1 q.2).bind fun z=>(asB z.1).bind fun b=>if b=true then(e γ z.2).bind fun w=>h' q.1 w.1 w.2 else some (.d (.bool false),z.2)
noncomputable def aF:AF:=fun _ M=>some ([],M)
noncomputable def aA(f:EF)(g:AF):AF:=fun γ M=>(f γ M).bind fun r=>(g γ r.2).bind fun q=>some (r.1::q.1,q.2)
noncomputable def kZ:List CD->Option (List PyData)
 |[]=>some []
 |.d x::r=>(kZ r).map (x::·)
 |.c _::_=>none
 |.t _::_=>none
 |.f _::_=>none
noncomputable def bK(f:AF):EF:=fun γ M=>(f γ M).bind fun r=>(kZ r.1).bind fun ds=>if ds.length<=sizeLine then some (.d (.tuple ds),r.2)else none
noncomputable def dE(f:AF):EF:=fun γ M=>(f γ M).bind fun r=>(kZ r.1).bind fun ds=>if ds.length<=sizeLine then some (.d (.list ds),r.2)else none
noncomputable def jB(f:AF):EF:=fun γ M=>(f γ M).bind fun r=>if r.1.length<=sizeLine then some (.c r.2.length,r.2++[.lst r.1])else none
noncomputable def aK(h:FN)(f:AF):EF:=fun γ M=>(f γ M).bind fun r=>h r.1 r.2
noncomputable def dN:SF:=fun γ M=>some (.nx γ,M)
noncomputable def aR(f g:SF):SF:=fun γ M=>(f γ M).bind fun r=>match r.1 with
 |.nx γ'=>g γ' r.2
 |o=>some (o,r.2)
noncomputable def eL(f:EF):SF:=fun γ M=>(f γ M).bind fun r=>some (.nx γ,r.2)
noncomputable def dD(f:EF):SF:=fun γ M=>(f γ M).bind fun r=>some (.rt r.1,r.2)
noncomputable def aGu:SF:=fun _ M=>some (.rt (.d .none),M)
noncomputable def sIf(c:TF)(f g:SF):SF:=fun γ M=>(c γ M).bind fun r=>if r.1=true then f γ r.2 else g γ r.2
noncomputable def bG(f:EF)(g:GF):SF:=fun γ M=>(f γ M).bind fun r=>(g r.1 γ r.2).bind fun q=>some (.nx q.1,q.2)
noncomputable def hName(i:Nat):GF:=fun x γ M=>some (γ.set i (some x),M)
noncomputable def gK:GsF:=fun xs γ M=>match xs with
 |[]=>some (γ,M)
 |_=>none
noncomputable def aY(f:GF)(g:GsF):GsF:=fun xs γ M=>match xs with
 |x::r=>(f x γ M).bind fun q=>g r q.1 q.2
 |[]=>none
noncomputable def iP(n:Nat)(g:GsF):GF:=fun x γ M=>match x with
 |.d (.tuple ds)=>if ds.length=n then g (ds.map .d) γ M else none
 |.t xs=>if xs.length=n then g (xs.map cdA) γ M else none
 |_=>none
noncomputable abbrev F3:=CD->CD->CD->Sto->Option Sto
noncomputable def hSub(fo fi:EF)(s:F3):GF:=fun x γ M=>(fo γ M).bind fun r=>(fi γ r.2).bind fun q=>(s r.1 q.1 x q.2).bind fun M'=>some (γ,M')
noncomputable def XE(i j:Nat)(f:AF):SF:=fun γ M=>(f γ M).bind fun r=>match r.1 with
 |[x,y]=>some (.nx ((γ.set i (some x)).set j (some y)),r.2)
 |_=>none
noncomputable def iZ(g:GF)(b:SF):List CD->Ga->Sto->Option (Out×Sto)
 |[],γ,M=>some (.nx γ,M)
 |x::xs,γ,M=>(g x γ M).bind fun r=>(b r.1 r.2).bind fun q=>match q.1 with
  |.nx γ'=>iZ g b xs γ' q.2
  |.ct γ'=>iZ g b xs γ' q.2
  |.bk γ'=>some (.nx γ',q.2)
  |.rt x=>some (.rt x,q.2)
noncomputable def jL(f:AF)(g:GF)(b:SF):SF:=fun γ M=>(f γ M).bind fun r=>iZ g b r.1 γ r.2
noncomputable def eW(c:TF)(b:SF):Nat->Ga->Sto->Option (Out×Sto)
 |0,_,_=>none
 |n+1,γ,M=>(c γ M).bind fun r=>if r.1=true then(b γ r.2).bind fun q=>match q.1 with
  |.nx γ'=>eW c b n γ' q.2
  |.ct γ'=>eW c b n γ' q.2
  |.bk γ'=>some (.nx γ',q.2)
  |.rt x=>some (.rt x,q.2)else some (.nx γ,r.2)
open Classical in
noncomputable def pM(c:TF)(b:SF):SF:=fun γ M=>if h:∃n,(eW c b n γ M).isSome=true then eW c b h.choose γ M else none
noncomputable def lcF(g:GF)(c:TF)(e:EF):List CD->Ga->Sto->Option (List CD×Sto)
 |[],γ,M=>some ([],M)
 |x::xs,γ,M=>(g x γ M).bind fun a=>(c a.1 a.2).bind fun b=>if b.1=true then(e a.1 b.2).bind fun r=>(lcF g c e xs a.1 r.2).bind fun q=>some (r.1::q.1,q.2)else lcF g c e xs a.1 b.2
noncomputable def GX(cap:List (Option Nat))(γ:Ga):Ga:=cap.map fun o=>o.bind fun j=>(γ[j]?).join
noncomputable def gV:TF:=fun _ M=>some (true,M)
noncomputable def yD(cap:List (Option Nat))(f:AF)(g:GF)(c:TF)(e:EF):AF:=fun γ M=>(f γ M).bind fun r=>if r.1.length<=sizeLine then lcF g c e r.1 (GX cap γ) r.2 else none
noncomputable def fLc(cap:List (Option Nat))(f:AF)(g:GF)(c:TF)(e:EF):EF:=dE (yD cap f g c e)
noncomputable def PP(cap:List (Option Nat))(f:AF)(g:GF)(c:TF)(e:EF):EF:=jB (yD cap f g c e)
noncomputable def fnF(ps N:Nat)(b:SF):FN:=fun xs M=>if xs.length=ps then(b (xs.map some++List.replicate (N-xs.length) none) M).bind fun r=>match r.1 with
 |.rt x=>some (x,r.2)
 |.nx _=>some (.d .none,r.2)
 |_=>none else none
theorem aH{α β:Type}{o:Option α}{k:α->Option β}{r:β}(h:o.bind k=some r):∃a,o=some a/\k a=some r:=by
 cases o with
 |none=>cases h
 |some a=>exact⟨a,rfl,h⟩
theorem Paired.get{α β:Type}{R:α->β->Prop}:∀{xs:List α}{ys:List β}{i:Nat}{x:α},Paired R xs ys->xs[i]?=some x->∃y,ys[i]?=some y/\R x y
 |_,_,_,_,.nil=>fun e=>by simp at e
 |_,_,0,_,.cons r _=>fun e=>by simp at e;subst e;exact⟨_,rfl,r⟩
 |_,_,i+1,x,.cons _ t=>fun e=>by
  obtain⟨u,h1,h2⟩:=Paired.get (i:=i) (x:=x) t (by simpa using e);exact⟨u,by simpa using h1,h2⟩
theorem Paired.set{α β:Type}{R:α->β->Prop}{x:α}{y:β}(r:R x y):∀{xs:List α}{ys:List β}(i:Nat),Paired R xs ys->Paired R (xs.set i x) (ys.set i y)
 |_,_,_,.nil=>.nil
 |_,_,0,.cons _ t=>.cons r t
 |_,_,i+1,.cons q t=>.cons q (Paired.set r i t)
theorem Paired.app{α β:Type}{R:α->β->Prop}:∀{xs xs':List α}{ys ys':List β},Paired R xs ys->Paired R xs' ys'->Paired R (xs++xs') (ys++ys')
 |_,_,_,_,.nil=>fun s=>s
 |_,_,_,_,.cons r t=>fun s=>.cons r (Paired.app t s)
theorem Paired.len{α β:Type}{R:α->β->Prop}{xs:List α}{ys:List β}(p:Paired R xs ys):xs.length=ys.length:=Paired.length p
section
variable{K:Fg}
theorem dI{W:Wd}:∀{xs:List CD}{ds:List PyData}{vs:List V},kZ xs=some ds->bS K W xs vs->aI K W.F ds vs
 |[],ds,vs=>fun e h=>by
  cases e;cases h;rfl
 |.c _::_,ds,vs=>fun e h=>by cases e
 |.t _::_,ds,vs=>fun e h=>by cases e
 |.f _::_,ds,vs=>fun e h=>by cases e
 |.d x::r,ds,vs=>fun e h=>by
  cases h with
  |@cons _ v _ vs' h1 h2=>
   unfold kZ at e;cases q:kZ r with
   |none=>rw[q]at e;cases e
   |some es=>
    rw[q]at e;cases e;exact⟨v,vs',rfl,h1,dI q h2⟩
theorem LC{xs:List (PyData ⊕ Nat)}{vs:List V}(h:Paired (NM K W) xs vs):bS K W (xs.map cdA) vs:=by
 induction h with
 |nil=>exact .nil
 |@cons x v _ _ r _ ih=>exact .cons (by cases x<;>exact r) ih
theorem eJ{W:Wd}:∀{ds:List PyData}{vs:List V},aI K W.F ds vs->bS K W (ds.map .d) vs
 |[],vs=>fun h=>by rw[show vs=[]from h];exact .nil
 |d::ds,vs=>fun h=>by
  obtain⟨v,r,rfl,h1,h2⟩:=h;exact .cons h1 (eJ h2)
theorem FF:∀{xs:List CD}{ds:List PyData},kZ xs=some ds->ds.length=xs.length
 |[],ds=>fun e=>by cases e;rfl
 |.c _::_,ds=>fun e=>by cases e
 |.t _::_,ds=>fun e=>by cases e
 |.f _::_,ds=>fun e=>by cases e
 |.d x::r,ds=>fun e=>by
  unfold kZ at e;cases q:kZ r with
  |none=>rw[q]at e;cases e
  |some es=>
   rw[q]at e;cases e;rw[C9,C9,FF q]
theorem aFv{i:Nat}:SE K (aHd i) (aD i):=by
 intro γ M x M' h W H σ Q g r k;unfold aD at h;cases e:γ[i]? with
 |none=>rw[e]at h;cases h
 |some o=>
  cases o with
  |none=>rw[e]at h;cases h
  |some y=>
   rw[e]at h;cases h;obtain⟨v,hv,rv⟩:=Paired.get r e;cases v with
   |none=>exact False.elim rv
   |some v=>exact⟨v,hv,k v W H (.refl _) g rv⟩
theorem QK{i:Int}:SE K (tC (.int i)) (fC (.int i)):=by
 intro γ M x M' h W H σ Q g r k;cases h;exact k _ W H (.refl _) g rfl
theorem aGe{b:Bool}:SE K (tC (.bl b)) (fC (.bool b)):=by
 intro γ M x M' h W H σ Q g r k;cases h;exact k _ W H (.refl _) g rfl
theorem aDI:SE K (tC .non) (fC .none):=by
 intro γ M x M' h W H σ Q g r k;cases h;exact k _ W H (.refl _) g rfl
theorem aDD{x:Str}:SE K (tC (.str x)) (fC (.str x)):=by
 intro γ M x M' h W H σ Q g r k;cases h;exact k _ W H (.refl _) g rfl
variable{ta tb tc:TE}{f g e:EF}{tt uu:TT}{ft gt:TF}{tA:TA}{fa:AF}
theorem IZ{r:R2}{h:F2}(p:P2 K r h)(a:SE K ta f)(b:SE K tb g):SE K (tOp r ta tb) (fOp h f g):=by
 intro γ M x M' hh W H σ Q G R k;obtain⟨⟨y,M1⟩,h1,hh⟩:=aH hh;obtain⟨⟨z,M2⟩,h2,hh⟩:=aH hh;refine a _ _ _ _ h1 W H σ _ G R fun v W1 H1 e1 G1 r1=>?_;refine b _ _ _ _ h2 W1 H1 σ _ G1 (R.up e1) fun u W2 H2 e2 G2 r2=>?_;exact p _ _ _ _ _ hh W2 H2 v u Q G2 (r1.up e2) r2 fun w W3 H3 e3 G3 r3=>k w W3 H3 ((e1.trans e2).trans e3) G3 r3
theorem aGj{r:V->Hp->VK->Prop}{h:F1}(p:P1 K r h)(a:SE K ta f):SE K (tUn r ta) (fUn h f):=by
 intro γ M x M' hh W H σ Q G R k;obtain⟨⟨y,M1⟩,h1,hh⟩:=aH hh;refine a _ _ _ _ h1 W H σ _ G R fun v W1 H1 e1 G1 r1=>?_;exact p _ _ _ _ hh W1 H1 v Q G1 r1 fun w W3 H3 e3 G3 r3=>k w W3 H3 (e1.trans e3) G3 r3
theorem BS{x:CD}{b:Bool}(h:asB x=some b):x=.d (.bool b):=by
 cases x with
 |c n=>cases h
 |t n=>cases h
 |f n=>cases h
 |d x=>cases x<;>first|cases h;rfl|cases h
theorem aEn(a:SE K ta f)(b:SE K tb g):SE K (aBA ta tb) (mH f g):=by
 intro γ M x M' hh W H σ Q G R k;obtain⟨⟨y,M1⟩,h1,hh⟩:=aH hh;obtain⟨c,h2,hh⟩:=aH hh;refine a _ _ _ _ h1 W H σ _ G R fun v W1 H1 e1 G1 r1=>?_;have hy:y=_:=BS h2;subst hy;refine⟨c,r1,?_⟩;cases c with
 |true=>rw[A7 rfl];rw[A7 rfl]at hh;exact b _ _ _ _ hh W1 H1 σ Q G1 (R.up e1) fun w W3 H3 e3 G3 r3=>k w W3 H3 (e1.trans e3) G3 r3
 |false=>
  rw[B0 B2];rw[B0 B2]at hh;cases hh;exact k _ W1 H1 e1 G1 rfl
theorem aFp(a:SE K ta f):SE K (aBD ta) (YE f):=by
 intro γ M x M' hh W H σ Q G R k;obtain⟨⟨y,M1⟩,h1,hh⟩:=aH hh;obtain⟨c,h2,hh⟩:=aH hh;refine a _ _ _ _ h1 W H σ _ G R fun v W1 H1 e1 G1 r1=>?_;have hy:y=_:=BS h2;subst hy;cases hh;exact⟨c,r1,k _ W1 H1 e1 G1 rfl⟩
theorem XX{r r':R2}{h h':F2}(p:P2 K r h)(p':P2 K r' h')(a:SE K ta f)(b:SE K tb g)(c:SE K tc e):SE K (QG r r' ta tb tc) (BB h h' f g e):=by
 intro γ M x M' hh W H σ Q G R k;obtain⟨⟨y,M1⟩,h1,hh⟩:=aH hh;obtain⟨⟨z,M2⟩,h2,hh⟩:=aH hh;obtain⟨⟨w,M3⟩,h3,hh⟩:=aH hh;obtain⟨q,h4,hh⟩:=aH hh;refine a _ _ _ _ h1 W H σ _ G R fun v W1 H1 e1 G1 r1=>?_;refine b _ _ _ _ h2 W1 H1 σ _ G1 (R.up e1) fun u W2 H2 e2 G2 r2=>?_;refine p _ _ _ _ _ h3 W2 H2 v u _ G2 (r1.up e2) r2 fun t W3 H3 e3 G3 r3=>?_;have hy:w=_:=BS h4;subst hy;refine⟨q,r3,?_⟩;have e13:=(e1.trans e2).trans e3;cases q with
 |true=>
  rw[A7 rfl];rw[A7 rfl]at hh;obtain⟨⟨m,M4⟩,h5,hh⟩:=aH hh;refine c _ _ _ _ h5 W3 H3 σ _ G3 (R.up e13) fun o W4 H4 e4 G4 r4=>?_;exact p' _ _ _ _ _ hh W4 H4 u o Q G4 (r2.up (e3.trans e4)) r4 fun w W5 H5 e5 G5 r5=>k w W5 H5 ((e13.trans e4).trans e5) G5 r5
 |false=>
  rw[B0 B2];rw[B0 B2]at hh;cases hh;exact k _ W3 H3 e13 G3 rfl
theorem aFx(a:STt K tt ft)(b:STt K uu gt):STt K (aGx tt uu) (aBk ft gt):=by
 intro γ M x M' hh W H σ Q G R k;obtain⟨⟨c,M1⟩,h1,hh⟩:=aH hh;refine a _ _ _ _ h1 W H σ _ G R fun W1 H1 e1 G1=>?_;cases c with
 |true=>rw[A7 rfl];rw[A7 rfl]at hh;exact b _ _ _ _ hh W1 H1 σ Q G1 (R.up e1) fun W3 H3 e3 G3=>k W3 H3 (e1.trans e3) G3
 |false=>rw[B0 B2];rw[B0 B2]at hh;cases hh;exact k W1 H1 e1 G1
theorem aGh(a:STt K tt ft)(b:STt K uu gt):STt K (tOr tt uu) (gOr ft gt):=by
 intro γ M x M' hh W H σ Q G R k;obtain⟨⟨c,M1⟩,h1,hh⟩:=aH hh;refine a _ _ _ _ h1 W H σ _ G R fun W1 H1 e1 G1=>?_;cases c with
 |true=>rw[A7 rfl];rw[A7 rfl]at hh;cases hh;exact k W1 H1 e1 G1
 |false=>rw[B0 B2];rw[B0 B2]at hh;exact b _ _ _ _ hh W1 H1 σ Q G1 (R.up e1) fun W3 H3 e3 G3=>k W3 H3 (e1.trans e3) G3
theorem aEg(a:STt K tt ft):STt K (aGJ tt) (tS ft):=by
 intro γ M x M' hh W H σ Q G R k;obtain⟨⟨c,M1⟩,h1,hh⟩:=aH hh;cases hh;exact a _ _ _ _ h1 W H σ _ G R fun W1 H1 e1 G1=>k W1 H1 e1 G1
theorem YQ(a:SE K ta f):STt K (tB ta) (gB f):=by
 intro γ M x M' hh W H σ Q G R k;obtain⟨⟨y,M1⟩,h1,hh⟩:=aH hh;obtain⟨c,h2,hh⟩:=aH hh;refine a _ _ _ _ h1 W H σ _ G R fun v W1 H1 e1 G1 r1=>?_;have hy:y=_:=BS h2;subst hy;cases hh;exact⟨_,r1,k W1 H1 e1 G1⟩
theorem YL(a:SE K ta f):STt K (aBM ta) (gB f):=YQ a
theorem aEq:SA K NX aF:=by
 intro γ M x M' hh W H σ Q G R k;cases hh;exact k [] W H (.refl _) G .nil
theorem aAF(a:SE K ta f)(b:SA K tA fa):SA K (oW ta tA) (aA f fa):=by
 intro γ M x M' hh W H σ Q G R k;obtain⟨⟨y,M1⟩,h1,hh⟩:=aH hh;obtain⟨⟨ys,M2⟩,h2,hh⟩:=aH hh;cases hh;refine a _ _ _ _ h1 W H σ _ G R fun v W1 H1 e1 G1 r1=>?_;exact b _ _ _ _ h2 W1 H1 σ _ G1 (R.up e1) fun vs W2 H2 e2 G2 r2=>k _ W2 H2 (e1.trans e2) G2 (.cons (r1.up e2) r2)
theorem aFn(b:SA K tA fa):SE K (aES tA) (bK fa):=by
 intro γ M x M' hh W H σ Q G R k;obtain⟨⟨ys,M1⟩,h1,hh⟩:=aH hh;obtain⟨ds,h2,hh⟩:=aH hh;by_cases hl:ds.length<=sizeLine
 .rw[A7 hl]at hh;cases hh;refine b _ _ _ _ h1 W H σ _ G R fun vs W1 H1 e1 G1 r1=>?_;have ra:=dI h2 r1;refine⟨by rw[<- ra.length];exact hl,fun p hp=>?_⟩;obtain⟨e2,G2⟩:=G1.lay (o:=.tup vs) hp;exact k _ _ _ (e1.trans e2) G2 ⟨p,vs,rfl,SqT.of aN,aI.same e2.ff _ _ ra⟩
 .rw[B0 hl]at hh;cases hh
theorem aEj(b:SA K tA fa):SE K (aCP tA) (dE fa):=by
 intro γ M x M' hh W H σ Q G R k;obtain⟨⟨ys,M1⟩,h1,hh⟩:=aH hh;obtain⟨ds,h2,hh⟩:=aH hh;by_cases hl:ds.length<=sizeLine
 .rw[A7 hl]at hh;cases hh;refine b _ _ _ _ h1 W H σ _ G R fun vs W1 H1 e1 G1 r1=>?_;have ra:=dI h2 r1;refine⟨by rw[<- ra.length];exact hl,fun p hp=>?_⟩;obtain⟨e2,G2⟩:=G1.lay (o:=.lst vs) hp;exact k _ _ _ (e1.trans e2) G2 ⟨p,vs,rfl,SqL.of aN,aI.same e2.ff _ _ ra⟩
 .rw[B0 hl]at hh;cases hh
theorem Good.newV(g:Good K W M H){p:Addr}:bV K (W.more p) (.c M.length) (.ref p):=by
 refine⟨?_,?_⟩
 .show M.length<W.n+1;rw[g.n];exact L9 _
 .show V.ref p=.ref (if M.length=W.n then p else W.α M.length);rw[A7 g.n.symm]
theorem aDk(b:SA K tA fa):SE K (aCP tA) (jB fa):=by
 intro γ M x M' hh W H σ Q G R k;obtain⟨⟨ys,M1⟩,h1,hh⟩:=aH hh;by_cases hl:ys.length<=sizeLine
 .have hh:(if ys.length<=sizeLine then some (CD.c M1.length,M1++[Cell.lst ys])else none)=some (x,M'):=hh;rw[A7 hl]at hh;cases hh;refine b _ _ _ _ h1 W H σ _ G R fun vs W1 H1 e1 G1 r1=>?_;refine⟨by rw[<- Paired.len r1];exact hl,fun p hp=>?_⟩;exact k _ _ _ (e1.trans (W1.ext_more p)) (G1.new hp (c:=.lst ys) (o:=.lst vs) r1) G1.newV
 .have hh:(if ys.length<=sizeLine then some (CD.c M1.length,M1++[Cell.lst ys])else none)=some (x,M'):=hh;rw[B0 hl]at hh;cases hh
theorem aBn{h:FN}(b:SA K tA fa):SE K (RV (spM K h) [] E0 tA) (aK h fa):=by
 intro γ M x M' hh W H σ Q G R k;obtain⟨⟨ys,M1⟩,h1,hh⟩:=aH hh;refine b _ _ _ _ h1 W H σ _ G R fun vs W1 H1 e1 G1 r1=>?_;rw[D6];exact⟨ys,M1,W1,x,M',G1,r1,hh,fun v W2 H2 e2 G2 r2=>k v W2 H2 (e1.trans e2) G2 r2⟩
theorem aBL{r:List V->Hp->VK->Prop}{h:FN}(p:PN K r h)(b:SA K tA fa):SE K (tCB r tA) (aK h fa):=by
 intro γ M x M' hh W H σ Q G R k;obtain⟨⟨ys,M1⟩,h1,hh⟩:=aH hh;refine b _ _ _ _ h1 W H σ _ G R fun vs W1 H1 e1 G1 r1=>?_;exact p _ _ _ _ hh W1 H1 vs Q G1 r1 fun v W2 H2 e2 G2 r2=>k v W2 H2 (e1.trans e2) G2 r2
end
section
variable{K:Fg}{ta tb tc:TE}{f g e:EF}{tt uu:TT}{ft gt:TF}{tA:TA}{fa:AF}{t u:TS}{p q:SF}{tg:TG}{hg:GF}{tgs:TGs}{hgs:GsF}
theorem YU:SS K aCf dN:=by
 intro γ M o M' hh W H σ D G R k;cases hh;exact k W H (.refl _) G σ R
theorem aCJ(a:SS K t p)(b:SS K u q):SS K (aCw t u) (aR p q):=by
 intro γ M o M' hh W H σ D G R k;obtain⟨⟨o1,M1⟩,h1,hh⟩:=aH hh;refine a _ _ _ _ h1 W H σ _ G R fun W1 H1 e1 G1=>?_;cases o1 with
 |nx γ1=>
  intro σ1 R1;exact b _ _ _ _ hh W1 H1 σ1 D G1 R1 fun W2 H2 e2 G2=>k W2 H2 (e1.trans e2) G2
 |bk γ1=>cases hh;exact k W1 H1 e1 G1
 |ct γ1=>cases hh;exact k W1 H1 e1 G1
 |rt x=>cases hh;exact k W1 H1 e1 G1
theorem aAa(a:SE K ta f):SS K (RM ta) (eL f):=by
 intro γ M o M' hh W H σ D G R k;obtain⟨⟨y,M1⟩,h1,hh⟩:=aH hh;cases hh;exact a _ _ _ _ h1 W H σ _ G R fun v W1 H1 e1 G1 r1=>k W1 H1 e1 G1 σ (R.up e1)
theorem aEp(a:SE K ta f):SS K (aFS ta) (dD f):=by
 intro γ M o M' hh W H σ D G R k;obtain⟨⟨y,M1⟩,h1,hh⟩:=aH hh;cases hh;exact a _ _ _ _ h1 W H σ _ G R fun v W1 H1 e1 G1 r1=>k W1 H1 e1 G1 v r1
theorem aGq(c:STt K tt ft)(a:SS K t p)(b:SS K u q):SS K (aCr tt t u) (sIf ft p q):=by
 intro γ M o M' hh W H σ D G R k;obtain⟨⟨c1,M1⟩,h1,hh⟩:=aH hh;refine c _ _ _ _ h1 W H σ _ G R fun W1 H1 e1 G1=>?_;cases c1 with
 |true=>rw[A7 rfl];rw[A7 rfl]at hh;exact a _ _ _ _ hh W1 H1 σ D G1 (R.up e1) fun W3 H3 e3 G3=>k W3 H3 (e1.trans e3) G3
 |false=>rw[B0 B2];rw[B0 B2]at hh;exact b _ _ _ _ hh W1 H1 σ D G1 (R.up e1) fun W3 H3 e3 G3=>k W3 H3 (e1.trans e3) G3
theorem zV(a:SE K ta f)(b:SG K tg hg):SS K (aAD ta tg) (bG f hg):=by
 intro γ M o M' hh W H σ D G R k;obtain⟨⟨y,M1⟩,h1,hh⟩:=aH hh;obtain⟨⟨γ1,M2⟩,h2,hh⟩:=aH hh;cases hh;refine a _ _ _ _ h1 W H σ _ G R fun v W1 H1 e1 G1 r1=>?_;exact b _ _ _ _ _ h2 W1 H1 σ v _ G1 (R.up e1) r1 fun σ' W2 H2 e2 G2 R2=>k W2 H2 (e1.trans e2) G2 σ' R2
theorem cJ.set{σ:St}{x:CD}{v:V}(R:cJ K W γ σ)(i:Nat)(r:bV K W x v):cJ K W (γ.set i (some x)) (σ.set i (some v)):=Paired.set (R:=CZ K W) (show CZ K W (some x) (some v)from r) i R
theorem tZ{i:Nat}:SG K (ES i) (hName i):=by
 intro x γ M γ' M' hh W H σ v Q G R r k;cases hh;exact k _ W H (.refl _) G (cJ.set R i r)
theorem aBp:SGs K aGV gK:=by
 intro xs γ M γ' M' hh W H σ vs Q G R r k;cases r with
 |nil=>cases hh;exact⟨rfl,k σ W H (.refl _) G R⟩
 |cons _ _=>cases hh
theorem XW(a:SG K tg hg)(b:SGs K tgs hgs):SGs K (aBT tg tgs) (aY hg hgs):=by
 intro xs γ M γ' M' hh W H σ vs Q G R r k;cases r with
 |nil=>cases hh
 |@cons x v xs vs r1 r2=>
  obtain⟨⟨γ1,M1⟩,h1,hh⟩:=aH (show(hg x γ M).bind _=_ from hh);refine⟨v,vs,rfl,a _ _ _ _ _ h1 W H σ v _ G R r1 fun σ1 W1 H1 e1 G1 R1=>?_⟩;exact b _ _ _ _ _ hh W1 H1 σ1 vs _ G1 R1 (bS.up r2 e1) fun σ2 W2 H2 e2 G2 R2=>k σ2 W2 H2 (e1.trans e2) G2 R2
theorem aDT{n:Nat}(b:SGs K tgs hgs):SG K (aDW K n tgs) (iP n hgs):=by
 intro x γ M γ' M' hh W H σ v Q G R r k;cases x with
 |c _=>cases hh
 |f _=>cases hh
 |t xs=>
  have hh:(if xs.length=n then hgs (xs.map cdA) γ M else none)=some (γ',M'):=hh;by_cases hl:xs.length=n
  .rw[A7 hl]at hh;obtain⟨a,vs,rfl,h2,h3⟩:=r;have hp:=LC h3;exact⟨a,vs,rfl,SqT.of (G.fh _ _ h2),by rw[<- hl];simpa using(Paired.len h3).symm,b _ _ _ _ _ hh W H σ vs Q G R hp k⟩
  .rw[B0 hl]at hh;cases hh
 |d x=>
  cases x with
  |tuple ds=>
   have hh:(if ds.length=n then hgs (ds.map .d) γ M else none)=some (γ',M'):=hh;by_cases hl:ds.length=n
   .rw[A7 hl]at hh;obtain⟨a,vs,rfl,h2,h3⟩:=(show ∃a vs,v=.ref a/\SqT K W.F a vs/\aI K W.F ds vs from r);exact⟨a,vs,rfl,G.fh.seqT h2,by rw[<- h3.length];exact hl,b _ _ _ _ _ hh W H σ vs Q G R (eJ h3) k⟩
   .rw[B0 hl]at hh;cases hh
  |_=>cases hh
noncomputable def P3(K:Fg)(r:V->V->V->Hp->(Hp->Prop)->Prop)(f:F3):Prop:=∀x y z M M',f x y z M=some M'->∀(W:Wd)(H:Hp)(v u w:V)(Q:Hp->Prop),Good K W M H->bV K W x v->bV K W y u->bV K W z w->(∀W' H',W.Ext W'->Good K W' M' H'->Q H')->r v u w H Q
theorem aDA{r:aAM}{s:F3}(p:P3 K r s)(a:SE K ta f)(b:SE K tb g):SG K (aGr ta tb r) (hSub f g s):=by
 intro x γ M γ' M' hh W H σ v Q G R rv k;obtain⟨⟨o,M1⟩,h1,hh⟩:=aH hh;obtain⟨⟨i,M2⟩,h2,hh⟩:=aH hh;obtain⟨M3,h3,hh⟩:=aH hh;cases hh;refine a _ _ _ _ h1 W H σ _ G R fun v1 W1 H1 e1 G1 r1=>?_;refine b _ _ _ _ h2 W1 H1 σ _ G1 (R.up e1) fun v2 W2 H2 e2 G2 r2=>?_;exact p _ _ _ _ _ h3 W2 H2 v1 v2 v _ G2 (r1.up e2) r2 (rv.up (e1.trans e2)) fun W3 H3 e3 G3=>k σ W3 H3 ((e1.trans e2).trans e3) G3 (R.up ((e1.trans e2).trans e3))
theorem aEs{i j:Nat}(b:SA K tA fa):SS K (aGm i j tA) (XE i j fa):=by
 intro γ M o M' hh W H σ D G R k;obtain⟨⟨ys,M1⟩,h1,hh⟩:=aH hh;refine b _ _ _ _ h1 W H σ _ G R fun vs W1 H1 e1 G1 r1=>?_;rcases r1 with _|⟨a1,_|⟨a2,_|_⟩⟩
 .cases hh
 .cases hh
 .cases hh;exact⟨_,_,rfl,k W1 H1 e1 G1 _ (cJ.set (cJ.set (R.up e1) i a1) j a2)⟩
 .cases hh
noncomputable def GN(K:Fg)(J:It)(xs:List CD)(W:Wd):Prop:=∀W' M' H',W.Ext W'->Good K W' M' H'->
 (∀i x,xs[i]?=some x->J.go i H'/\∀y H'',J.yld i H' y H''->∃W'',W'.Ext W''/\Good K W'' M' H''/\bV K W'' x y)/\J.stop xs.length H'
noncomputable def SI(K:Fg)(wi:TI)(f:AF):Prop:=∀γ M xs M',f γ M=some (xs,M')->∀(W:Wd)(H:Hp)(σ:St)(R:It->Hp->Prop),Good K W M H->cJ K W γ σ->(∀J W' H',W.Ext W'->Good K W' M' H'->GN K J xs W'->R J H')->wi σ H R
noncomputable def cF(f:EF):AF:=fun γ M=>(f γ M).bind fun r=>match r.1 with
 |.d x=>(aP x).bind fun ds=>some (ds.map .d,r.2)
 |_=>none
theorem aEv(a:SE K ta f):SI K (aAN K ta) (cF f):=by
 intro γ M xs M' hh W H σ R G Rs k;obtain⟨⟨y,M1⟩,h1,hh⟩:=aH hh;cases y with
 |c _=>cases hh
 |t _=>cases hh
 |f _=>cases hh
 |d y=>
  obtain⟨ds,h2,hh⟩:=aH (show(aP y).bind _=_ from hh);cases hh;refine a _ _ _ _ h1 W H σ _ G Rs fun v W1 H1 e1 G1 r1=>?_;obtain⟨p,vs,rfl,hs,hr⟩:=iK (show Rep K W1.F y v from r1) h2;refine⟨p,rfl,?_⟩
  have item:∀(i:Nat)(x:CD)(W2:Wd),W1.Ext W2->(ds.map CD.d)[i]?=some x->∃u,vs[i]?=some u/\bV K W2 x u:=fun i x W2 e2 hx=>by
   obtain⟨u,hu,ru⟩:=Paired.get (eJ hr) hx;exact⟨u,hu,ru.up e2⟩
  have hlen:(ds.map CD.d).length=vs.length:=by rw[A3];exact hr.length
  rcases hs with hs|hs
  .refine .inl ⟨vs,G1.fh.seq hs,k _ W1 H1 e1 G1 fun W2 M2 H2 e2 G2=>?_⟩;have hs2:SqL K H2 p vs:=G2.fh.seq (e2.ff.seq hs);refine⟨fun i x hx=>?_,?_⟩
   .obtain⟨u,hu,ru⟩:=item i x W2 e2 hx;refine⟨⟨vs,u,hs2,hu⟩,fun y' H'' hy=>⟨W2,.refl _,by rw[hy.1];exact G2,?_⟩⟩;have:=hy.2 vs hs2;rw[hu]at this;cases this;exact ru
   .rw[hlen];exact⟨vs,hs2,B1 _⟩
  .refine .inr ⟨vs,G1.fh.seqT hs,k _ W1 H1 e1 G1 fun W2 M2 H2 e2 G2=>?_⟩;have hs2:SqT K H2 p vs:=G2.fh.seqT (e2.ff.seqT hs);refine⟨fun i x hx=>?_,?_⟩
   .obtain⟨u,hu,ru⟩:=item i x W2 e2 hx;refine⟨⟨vs,u,hs2,hu⟩,fun y' H'' hy=>⟨W2,.refl _,by rw[hy.1];exact G2,?_⟩⟩;have:=hy.2 vs hs2;rw[hu]at this;cases this;exact ru
   .rw[hlen];exact⟨vs,hs2,B1 _⟩
noncomputable def dM(lo:Int)(n:Nat):List CD:=(List.range n).map fun i=>.d (.int (lo+(i:Nat)))
theorem FB{lo:Int}{n i:Nat}{x:CD}(h:(dM lo n)[i]?=some x):i<n/\x=.d (.int (lo+i)):=by
 unfold dM at h;rw[C3]at h;by_cases hi:i<n
 .rw[Z8 hi]at h;exact⟨hi,(D5 h).symm⟩
 .rw[List.getElem?_eq_none_iff.mpr (by simpa using hi)]at h;cases h
noncomputable def aZ(i:Int):Bool:=decide (-(2 ^ 62)<=i)&&decide (i<2 ^ 62)
noncomputable def dW(f:AF):AF:=fun γ M=>(f γ M).bind fun r=>match r.1 with
 |[.d (.int j)]=>if aZ j=true then some (dM 0 j.toNat,r.2)else none
 |_=>none
noncomputable def nT(f:AF):AF:=fun γ M=>(f γ M).bind fun r=>match r.1 with
 |[.d (.int i),.d (.int j)]=>if aZ i=true/\aZ j=true then some (dM i (j-i).toNat,r.2)else none
 |_=>none
theorem zG{lo:Int}{n:Nat}:GN K (Itr lo n) (dM lo n) W:=fun W' M' H' e G=>
 ⟨fun i x hx=>⟨(FB hx).1,fun y H'' hy=>⟨W',.refl _,by rw[hy.1];exact G,by rw[(FB hx).2];exact hy.2⟩⟩,by show n<=_;simp[dM]⟩
theorem dC{i:Int}(h:aZ i=true):-(2 ^ 62)<=i/\i<2 ^ 62:=by
 unfold aZ at h;rw[C2]at h;exact⟨D7 h.1,D7 h.2⟩
theorem YD(b:SA K tA fa):SI K (aCi tA) (dW fa):=by
 intro γ M xs M' hh W H σ R G Rs k;obtain⟨⟨ys,M1⟩,h1,hh⟩:=aH hh;refine b _ _ _ _ h1 W H σ _ G Rs fun vs W1 H1 e1 G1 r1=>?_;revert hh;dsimp only;split
 .rename_i j;intro hh;by_cases hs:aZ j=true
  .rw[A7 hs]at hh;cases hh;cases r1 with
   |cons r r'=>
    cases r';exact⟨j,by rw[show _=V.int j from r],(dC hs).1,(dC hs).2,k _ W1 H1 e1 G1 zG⟩
  .rw[B0 hs]at hh;cases hh
 .intro hh;cases hh
theorem aBf(b:SA K tA fa):SI K (aBF tA) (nT fa):=by
 intro γ M xs M' hh W H σ R G Rs k;obtain⟨⟨ys,M1⟩,h1,hh⟩:=aH hh;refine b _ _ _ _ h1 W H σ _ G Rs fun vs W1 H1 e1 G1 r1=>?_;revert hh;dsimp only;split
 .rename_i i j;intro hh;by_cases hs:aZ i=true/\aZ j=true
  .rw[A7 hs]at hh;cases hh;cases r1 with
   |cons r r'=>
    cases r' with
    |cons r2 r''=>
     cases r'';exact⟨i,j,by rw[show _=V.int i from r,show _=V.int j from r2],⟨(dC hs.1).1,(dC hs.1).2,(dC hs.2).1,(dC hs.2).2⟩,k _ W1 H1 e1 G1 zG⟩
  .rw[B0 hs]at hh;cases hh
 .intro hh;cases hh
theorem aDb{wi:TI}(i:SI K wi fa)(a:SG K tg hg)(b:SS K t p):SS K (aDC wi tg t) (jL fa hg p):=by
 intro γ M o M' hh W H σ D G R k;obtain⟨⟨xs,M1⟩,h1,hh⟩:=aH hh;have hh:iZ hg p xs γ M1=some (o,M'):=hh;refine i _ _ _ _ h1 W H σ _ G R fun J W1 H1 e1 G1 gv=>?_;refine⟨fun j m σ' H'=>∃γ' M2 W2,j<=xs.length/\m=xs.length-j/\W1.Ext W2/\Good K W2 M2 H'/\cJ K W2 γ' σ'/\iZ hg p (xs.drop j) γ' M2=some (o,M'),⟨_,γ,M1,W1,F9 _,rfl,.refl _,G1,R.up e1,hh⟩,?_⟩;rintro j m σ' H' ⟨γ',M2,W2,hj,rfl,e2,G2,R2,h2⟩;obtain⟨gv1,gv2⟩:=gv W2 M2 H' e2 G2;by_cases hlt:j<xs.length
 .obtain⟨go,yl⟩:=gv1 j xs[j] (A9 hlt);rw[S1 hlt]at h2;refine .inr ⟨go,fun σ3 H3=>∃γ3 M3 W3,W2.Ext W3/\Good K W3 M3 H3/\cJ K W3 γ3 σ3/\iZ hg p (xs.drop (j+1)) γ3 M3=some (o,M'),?_,fun y H3 hy=>?_⟩
  .rintro σ3 H3 ⟨γ3,M3,W3,e3,G3,R3,h3⟩;exact⟨_,by omega,γ3,M3,W3,hlt,rfl,e2.trans e3,G3,R3,h3⟩
  .obtain⟨W8,e8,G8,ry⟩:=yl y H3 hy;obtain⟨⟨γ4,M4⟩,h4,h2⟩:=aH (show(hg xs[j] γ' M2).bind _=_ from h2);obtain⟨⟨o5,M5⟩,h5,h2⟩:=aH h2;refine a _ _ _ _ _ h4 W8 _ σ' y _ G8 (R2.up e8) ry fun σ4 W4 H4 e4 G4 R4=>?_;refine b _ _ _ _ h5 W4 H4 σ4 _ G4 R4 fun W5 H5 e5 G5=>?_;have e25:=(e8.trans e4).trans e5;cases o5 with
   |nx γ5=>exact fun σ5 R5=>⟨γ5,M5,W5,e25,G5,R5,h2⟩
   |ct γ5=>exact fun σ5 R5=>⟨γ5,M5,W5,e25,G5,R5,h2⟩
   |bk γ5=>cases h2;exact k W5 H5 ((e1.trans e2).trans e25) G5
   |rt x=>cases h2;exact k W5 H5 ((e1.trans e2).trans e25) G5
 .have e:j=xs.length:=by omega
  subst e;rw[List.drop_length]at h2;cases h2;exact .inl ⟨gv2,k W2 H' (e1.trans e2) G2 σ' R2⟩
theorem QY(c:STt K tt ft)(b:SS K t p):SS K (WX tt t) (pM ft p):=by
 intro γ M o M' hh W H σ D G R k;unfold pM at hh;by_cases hex:∃n,(eW ft p n γ M).isSome=true
 .rw[dif_pos hex]at hh;generalize hex.choose=n at hh;refine⟨fun m σ' H'=>∃γ' M2 W2,W.Ext W2/\Good K W2 M2 H'/\cJ K W2 γ' σ'/\eW ft p m γ' M2=some (o,M'),⟨n,γ,M,W,.refl _,G,R,hh⟩,?_⟩;rintro m σ' H' ⟨γ',M2,W2,e2,G2,R2,h2⟩;cases m with
  |zero=>cases h2
  |succ m=>
   obtain⟨⟨c3,M3⟩,h3,h2⟩:=aH (show(ft γ' M2).bind _=_ from h2);refine c _ _ _ _ h3 W2 H' σ' _ G2 R2 fun W3 H3 e3 G3=>?_;cases c3 with
   |true=>
    rw[A7 rfl];rw[A7 rfl]at h2;obtain⟨⟨o4,M4⟩,h4,h2⟩:=aH h2;refine⟨fun σ4 H4=>∃γ4 M4 W4,W2.Ext W4/\Good K W4 M4 H4/\cJ K W4 γ4 σ4/\eW ft p m γ4 M4=some (o,M'),?_,?_⟩
    .rintro σ4 H4 ⟨γ4,M4,W4,e4,G4,R4,h4⟩;exact⟨m,L9 _,γ4,M4,W4,e2.trans e4,G4,R4,h4⟩
    .refine b _ _ _ _ h4 W3 H3 σ' _ G3 (R2.up e3) fun W5 H5 e5 G5=>?_;have e25:=e3.trans e5;cases o4 with
     |nx γ5=>exact fun σ5 R5=>⟨γ5,M4,W5,e25,G5,R5,h2⟩
     |ct γ5=>exact fun σ5 R5=>⟨γ5,M4,W5,e25,G5,R5,h2⟩
     |bk γ5=>cases h2;exact k W5 H5 (e2.trans e25) G5
     |rt x=>cases h2;exact k W5 H5 (e2.trans e25) G5
   |false=>
    rw[B0 B2];rw[B0 B2]at h2;cases h2;exact k W3 H3 (e2.trans e3) G3 σ' (R2.up e3)
 .rw[dif_neg hex]at hh;cases hh
theorem jV{c:TF}{b:SF}:∀{n m:Nat}{γ:Ga}{M:Sto}{r:Out×Sto},eW c b n γ M=some r->n<=m->eW c b m γ M=some r
 |0,_,_,_,_=>fun h _=>by cases h
 |n+1,0,_,_,_=>fun _ h=>by omega
 |n+1,m+1,γ,M,r=>fun h hl=>by
  obtain⟨⟨b1,M1⟩,h1,h⟩:=aH (show(c γ M).bind _=_ from h);show(c γ M).bind _=_;rw[h1];show(if b1=true then _ else _)=_;cases b1 with
  |false=>exact h
  |true=>
   rw[A7 rfl];rw[A7 rfl]at h;obtain⟨⟨o,M2⟩,h2,h⟩:=aH h;rw[h2];cases o with
   |nx γ'=>exact jV (n:=n) (m:=m) h (by omega)
   |ct γ'=>exact jV (n:=n) (m:=m) h (by omega)
   |bk γ'=>exact h
   |rt x=>exact h
theorem FK{c:TF}{b:SF}{n:Nat}{r:Out×Sto}(h:eW c b n γ M=some r):pM c b γ M=some r:=by
 unfold pM;have hex:∃n,(eW c b n γ M).isSome=true:=⟨n,by rw[h];rfl⟩;rw[dif_pos hex];have hs:=hex.choose_spec;cases q:eW c b hex.choose γ M with
 |none=>rw[q]at hs;cases hs
 |some r'=>
  rcases Nat.le_total n hex.choose with z|z
  .rw[jV h z]at q;exact q.symm▸rfl
  .rw[jV q z]at h;exact h
theorem GV{W:Wd}{γ:Ga}{σ:St}(R:cJ K W γ σ):∀cap:List (Option Nat),cJ K W (GX cap γ) (AH cap σ)
 |[]=>.nil
 |none::r=>.cons True.intro (GV R r)
 |some j::r=>by
  refine .cons ?_ (GV R r);show CZ K W ((γ[j]?).join) ((σ[j]?).join);cases e:γ[j]? with
  |none=>
   have:σ[j]?=none:=by
    have hl:=Paired.len R;exact List.getElem?_eq_none_iff.mpr (by have:=List.getElem?_eq_none_iff.mp e;omega)
   rw[this];exact True.intro
  |some x=>
   obtain⟨y,hy,r'⟩:=Paired.get R e;rw[hy];exact r'
theorem BM{g:GF}{c:TF}{e:EF}:∀{xs:List CD}{γ:Ga}{M:Sto}{ys:List CD}{M':Sto},lcF g c e xs γ M=some (ys,M')->ys.length<=xs.length
 |[],_,_,_,_=>fun h=>by cases h;exact F9 _
 |x::xs,γ,M,ys,M'=>fun h=>by
  obtain⟨⟨γ1,M1⟩,h1,h⟩:=aH (show(g x γ M).bind _=_ from h);obtain⟨⟨b,M2⟩,h2,h⟩:=aH h;cases b with
  |true=>
   rw[A7 rfl]at h;obtain⟨⟨y,M3⟩,h3,h⟩:=aH h;obtain⟨⟨zs,M4⟩,h4,h⟩:=aH h;cases h;have:=BM h4;simp only[List.length_cons];omega
  |false=>
   rw[B0 B2]at h;have:=BM h;simp only[List.length_cons];omega
theorem WH{wi:TI}{cap:List (Option Nat)}{te:TE}{fe:EF}(i:SI K wi fa)(a:SG K tg hg)(c:STt K tt ft)(b:SE K te fe){xs:List CD}(hh:yD cap fa hg ft fe γ M=some (xs,M'))
 {W:Wd} {H:Hp} {σ:St} {Q:VK} (G:Good K W M H) (R:cJ K W γ σ) (k:∀vs W' H',W.Ext W'->Good K W' M' H'->bS K W' xs vs->∀p,H' p=none->Q (.ref p) (upd H' p (.lst vs))):tLc cap wi tg tt te σ H Q:=by
 obtain⟨⟨ys,M1⟩,h1,hh⟩:=aH hh;have hh:(if ys.length<=sizeLine then lcF hg ft fe ys (GX cap γ) M1 else none)=some (xs,M'):=hh;by_cases hl:ys.length<=sizeLine
 .rw[A7 hl]at hh;refine i _ _ _ _ h1 W H σ _ G R fun J W1 H1 e1 G1 gv=>?_
  refine⟨fun j m acc σ' H'=>∃γ' M2 W2 pre suf,j<=ys.length/\m=ys.length-j/\acc.length<=j/\W1.Ext W2/\Good K W2 M2 H'/\cJ K W2 γ' σ'/\bS K W2 pre acc/\pre++suf=xs/\lcF hg ft fe (ys.drop j) γ' M2=some (suf,M'),
   ⟨_,GX cap γ,M1,W1,[],xs,F9 _,rfl,F9 _,.refl _,G1,GV (R.up e1) cap,.nil,rfl,hh⟩,?_⟩
  rintro j m acc σ' H' ⟨γ',M2,W2,pre,suf,hj,rfl,hacc,e2,G2,R2,rp,hx,h2⟩;obtain⟨gv1,gv2⟩:=gv W2 M2 H' e2 G2;by_cases hlt:j<ys.length
  .obtain⟨go,yl⟩:=gv1 j ys[j] (A9 hlt);rw[S1 hlt]at h2;refine .inr ⟨go,by omega,fun acc3 σ3 H3=>∃γ3 M3 W3 pre3 suf3,acc3.length<=j+1/\W2.Ext W3/\Good K W3 M3 H3/\cJ K W3 γ3 σ3/\bS K W3 pre3 acc3/\pre3++suf3=xs/\lcF hg ft fe (ys.drop (j+1)) γ3 M3=some (suf3,M'),?_,fun y H3 hy=>?_⟩
   .rintro acc3 σ3 H3 ⟨γ3,M3,W3,pre3,suf3,hl3,e3,G3,R3,rp3,hx3,h3⟩;exact⟨_,by omega,γ3,M3,W3,pre3,suf3,hlt,rfl,hl3,e2.trans e3,G3,R3,rp3,hx3,h3⟩
   .obtain⟨W8,e8,G8,ry⟩:=yl y H3 hy;obtain⟨⟨γ4,M4⟩,h4,h2⟩:=aH (show(hg ys[j] γ' M2).bind _=_ from h2);obtain⟨⟨b5,M5⟩,h5,h2⟩:=aH h2;refine a _ _ _ _ _ h4 W8 _ σ' y _ G8 (R2.up e8) ry fun σ4 W4 H4 e4 G4 R4=>?_;refine c _ _ _ _ h5 W4 H4 σ4 _ G4 R4 fun W5 H5 e5 G5=>?_;have e25:=(e8.trans e4).trans e5;cases b5 with
    |true=>
     rw[A7 rfl]at h2;obtain⟨⟨z,M6⟩,h6,h2⟩:=aH h2;obtain⟨⟨zs,M7⟩,h7,h2⟩:=aH h2;cases h2;refine .inl ⟨rfl,b _ _ _ _ h6 W5 H5 σ4 _ G5 (R4.up e5) fun v W6 H6 e6 G6 r6=>?_⟩;refine⟨γ4,M6,W6,pre++[z],zs,by rw[B4];simp only[List.length_singleton];omega,e25.trans e6,G6,R4.up (e5.trans e6),Paired.app (bS.up rp (e25.trans e6)) (.cons r6 .nil),by rw[<- hx,C6];rfl,h7⟩
    |false=>
     rw[B0 B2]at h2;exact .inr ⟨rfl,γ4,M5,W5,pre,suf,by omega,e25,G5,R4.up e5,bS.up rp e25,hx,h2⟩
  .have e:j=ys.length:=by omega
   subst e;rw[List.drop_length]at h2;cases h2;rw[D6]at hx;subst hx;exact .inl ⟨gv2,k acc W2 H' (e1.trans e2) G2 rp⟩
 .rw[B0 hl]at hh;cases hh
theorem LK{cap:List (Option Nat)}{fa:AF}{hg:GF}{ft:TF}{fe:EF}{xs:List CD}(hh:yD cap fa hg ft fe γ M=some (xs,M')):xs.length<=sizeLine:=by
 obtain⟨⟨ys,M1⟩,h1,hh⟩:=aH hh;have hh:(if ys.length<=sizeLine then lcF hg ft fe ys (GX cap γ) M1 else none)=some (xs,M'):=hh;by_cases hl:ys.length<=sizeLine
 .rw[A7 hl]at hh;exact J0 (BM hh) hl
 .rw[B0 hl]at hh;cases hh
theorem aBU{wi:TI}{cap:List (Option Nat)}{te:TE}{fe:EF}(i:SI K wi fa)(a:SG K tg hg)(c:STt K tt ft)(b:SE K te fe):SE K (tLc cap wi tg tt te) (fLc cap fa hg ft fe):=by
 intro γ M x M' hh W H σ Q G R k;obtain⟨⟨ys,M1⟩,h1,hh⟩:=aH hh;obtain⟨ds,h2,hh⟩:=aH hh;by_cases hl:ds.length<=sizeLine
 .rw[A7 hl]at hh;cases hh;refine WH i a c b h1 G R fun vs W1 H1 e1 G1 r1 p hp=>?_;obtain⟨e2,G2⟩:=G1.lay (o:=.lst vs) hp;exact k _ _ _ (e1.trans e2) G2 ⟨p,vs,rfl,SqL.of aN,aI.same e2.ff _ _ (dI h2 r1)⟩
 .rw[B0 hl]at hh;cases hh
theorem aDu{wi:TI}{cap:List (Option Nat)}{te:TE}{fe:EF}(i:SI K wi fa)(a:SG K tg hg)(c:STt K tt ft)(b:SE K te fe):SE K (tLc cap wi tg tt te) (PP cap fa hg ft fe):=by
 intro γ M x M' hh W H σ Q G R k;obtain⟨⟨ys,M1⟩,h1,hh⟩:=aH hh;have hh:(if ys.length<=sizeLine then some (CD.c M1.length,M1++[Cell.lst ys])else none)=some (x,M'):=hh;rw[A7 (LK h1)]at hh;cases hh;refine WH i a c b h1 G R fun vs W1 H1 e1 G1 r1 p hp=>?_;exact k _ _ _ (e1.trans (W1.ext_more p)) (G1.new hp (c:=.lst ys) (o:=.lst vs) r1) G1.newV
theorem aFr:STt K aFP gV:=by
 intro γ M x M' hh W H σ Q G R k;cases hh;exact k W H (.refl _) G
theorem bS.some{W:Wd}:∀{xs:List CD}{vs:List V},bS K W xs vs->cJ K W (xs.map some) (vs.map some)
 |_,_,.nil=>.nil
 |_,_,.cons r t=>.cons r (bS.some t)
theorem qJ{W:Wd}:∀n:Nat,cJ K W (List.replicate n none) (List.replicate n none)
 |0=>.nil
 |n+1=>.cons True.intro (qJ n)
theorem Def.okM{P:Program}{w:World}{mg:Str->Option Value}{base:Heap}{x:Str}{st:Stmt}{N ps:List Str}{k:Nat}{b:SF}{q:Bool}(D:Def K mg x st)(S:aT N ps (aJ st))
 (hb:∀(kV doc pm:Value)(an:Option Addr)(cdv ct:Value)(us:List Value),us.length=ps.length->bindArgs (PySem.W.fnOf x x (fW st) (cK st) (aJ st) .none kV doc pm an cdv ct) ⟨us,[]⟩=pure (ps.zip us))
 (hbody:∀(f:Addr)(cdv:Value)(A:Around)(outer:List Env)(s:Shared)(H:Hp)(E:XK),dF k (A.deeper (envOfC x (aJ st) s.heap.objs.size f cdv)) q->
  ∃t,PSs (lP CX0 P w K mg base N x (aJ st) f cdv A outer s H E q).nox (cK st) t/\SS K t b):Callee P w K mg base (k+1) x ps (spM K (fnF ps.length N.length b)) q:=by
 have len:∀vs H Q E,spM K (fnF ps.length N.length b) vs H Q E->vs.length=ps.length:=fun vs H Q E h=>by
  obtain⟨xs,M,W,y,M',G,R,hf,_⟩:=h;by_cases hl:xs.length=ps.length
  .rw[<- Paired.len R];exact hl
  .unfold fnF at hf;rw[B0 hl]at hf;cases hf
 refine D.ok S hb len fun f cdv A outer s H vs Q E hr h=>?_;obtain⟨t,hP,hS⟩:=hbody f cdv A outer s H E hr;refine⟨t,hP,?_⟩;obtain⟨xs,M,W,y,M',G,R,hf,k⟩:=h;by_cases hl:xs.length=ps.length
 .unfold fnF at hf;rw[A7 hl]at hf;obtain⟨⟨o,M1⟩,h1,hf⟩:=aH hf
  have hR:cJ K W (xs.map some++List.replicate (N.length-xs.length) none) (start N vs):=by
   unfold start;rw[<- Paired.len R];exact Paired.app (bS.some R) (qJ _)
  refine hS _ _ _ _ h1 W H _ _ G hR fun W1 H1 e1 G1=>?_;cases o with
  |rt x=>cases hf;exact fun v r=>k v W1 H1 e1 G1 r
  |nx γ=>cases hf;exact fun σ r=>k .non W1 H1 e1 G1 rfl
  |bk γ=>cases hf
  |ct γ=>cases hf
 .unfold fnF at hf;rw[B0 hl]at hf;cases hf
end
noncomputable def BL(h h':F2):F2:=fun x y M=>match h x y M with
 |some r=>some r
 |none=>h' x y M
noncomputable def pI(g:Int->Int->Option PyData):F2:=fun x y M=>match x,y with
 |.d (.int i),.d (.int j)=>(g i j).bind fun z=>some (.d z,M)
 |_,_=>none
theorem WD{g:Int->Int->Option PyData}{x y:CD}{z:CD}(h:pI g x y M=some (z,M')):∃i j w,x=.d (.int i)/\y=.d (.int j)/\g i j=some w/\z=.d w/\M'=M:=by
 unfold pI at h;split at h
 .rename_i i j;obtain⟨w,h1,h⟩:=aH h;cases h;exact⟨i,j,w,rfl,rfl,h1,rfl,rfl⟩
 .cases h
section
variable{X:Cx}{K:Fg}
theorem aCb{g:Int->Int->Int}:P2 K (rI0 fun i j=>.int (g i j)) (pI fun i j=>some (.int (g i j))):=by
 intro x y M z M' h W H v u Q G rx ry k;obtain⟨i,j,w,rfl,rfl,hw,rfl,rfl⟩:=WD h;cases hw;exact⟨i,j,rx,ry,k _ W H (.refl _) G rfl⟩
theorem KR{g:Int->Int->Bool}:P2 K (rI0 fun i j=>.bl (g i j)) (pI fun i j=>some (.bool (g i j))):=by
 intro x y M z M' h W H v u Q G rx ry k;obtain⟨i,j,w,rfl,rfl,hw,rfl,rfl⟩:=WD h;cases hw;exact⟨i,j,rx,ry,k _ W H (.refl _) G rfl⟩
noncomputable def ifS(c:Bool)(x:PyData):Option PyData:=if c=true then some x else none
theorem aDw{c:Bool}{x y:PyData}(h:ifS c x=some y):c=true/\y=x:=by
 unfold ifS at h;cases c with
 |true=>rw[A7 rfl]at h;cases h;exact⟨rfl,rfl⟩
 |false=>rw[B0 B2]at h;cases h
theorem aAQ{C:Int->Int->Prop}{c:Int->Int->Bool}{g:Int->Int->Int}(hc:∀i j,c i j=true->C i j):P2 K (rI C fun i j=>.int (g i j)) (pI fun i j=>ifS (c i j) (.int (g i j))):=by
 intro x y M z M' h W H v u Q G rx ry k;obtain⟨i,j,w,rfl,rfl,hw,rfl,rfl⟩:=WD h;obtain⟨h1,rfl⟩:=aDw hw;exact⟨i,j,rx,ry,hc i j h1,k _ W H (.refl _) G rfl⟩
noncomputable def aDj:F2:=pI fun i j=>some (.int (i+j))
noncomputable def TV:F2:=pI fun i j=>some (.int (i-j))
noncomputable def iV(i j:Int):Bool:=decide (i.natAbs<2 ^ 64) || decide (j.natAbs<2 ^ 64) || (decide (i.natAbs<fQ)&&decide (j.natAbs<fQ))
noncomputable def sG:F2:=pI fun i j=>ifS (iV i j) (.int (i*j))
noncomputable def zC(_ j:Int):Bool:=decide (0<j)&&decide (j.natAbs<fQ)
noncomputable def wH:F2:=pI fun i j=>ifS (zC i j) (.int (i / j))
noncomputable def jX(_ j:Int):Bool:=decide (0<j)
noncomputable def iJ:F2:=pI fun i j=>ifS (jX i j) (.int (i % j))
noncomputable def US(i j:Int):Bool:=decide (0<=j)&&decide (j<=1000000)&&decide (i.natAbs<2 ^ 64)
noncomputable def ER:F2:=pI fun i j=>ifS (US i j) (.int (i ^ j.toNat))
theorem mulOk_of{i j:Int}(h:iV i j=true):FI i j:=by
 unfold iV at h;simp only[Bool.or_eq_true,Bool.and_eq_true,decide_eq_true_eq]at h;rcases h with(h|h)|h
 .exact .inl (.inl ⟨by omega,by omega⟩)
 .exact .inl (.inr ⟨by omega,by omega⟩)
 .exact .inr h
noncomputable def ltI:F2:=pI fun i j=>some (.bool (decide (i<j)))
noncomputable def leI:F2:=pI fun i j=>some (.bool (decide (i<=j)))
noncomputable def gtI:F2:=pI fun i j=>some (.bool (decide (j<i)))
noncomputable def geI:F2:=pI fun i j=>some (.bool (decide (j<=i)))
noncomputable def eqD(neg:Bool):F2:=fun x y M=>match x,y with
 |.d a,.d b=>if (SeqAt.shaped a&&SeqAt.shaped b)=true then some (.d (.bool (if neg then !PyData.eqv a b else PyData.eqv a b)),M)else none
 |_,_=>none
theorem aCd{neg:Bool}:P2 K (HS K neg) (eqD neg):=by
 intro x y M z M' h W H v u Q G rx ry k;unfold eqD at h;split at h
 .rename_i a b;by_cases hs:(SeqAt.shaped a&&SeqAt.shaped b)=true
  .rw[A7 hs]at h;cases h;rw[C2]at hs;exact⟨a,b,Rep.same G.fh _ _ rx,Rep.same G.fh _ _ ry,hs.1,hs.2,k _ W H (.refl _) G rfl⟩
  .rw[B0 hs]at h;cases h
 .cases h
theorem aI.nth{ds:List PyData}{vs:List V}{i:Nat}{d:PyData}(h:aI K H ds vs)(e:ds[i]?=some d):∃v,vs[i]?=some v/\Rep K H d v:=by
 have hlt:i<vs.length:=by rw[<- h.length];exact(List.getElem?_eq_some_iff.mp e).1
 have hv:vs[i]?=some vs[i]:=A9 hlt;obtain⟨d',hd',r⟩:=h.get hv;rw[e]at hd';cases hd';exact⟨_,hv,r⟩
theorem GW{α:Type}{xs:List α}{i:Int}{x:α}(h:atI xs i=some x):∃j,ixN xs.length i=some j/\xs[j]?=some x:=by
 unfold atI at h;exact aH h
theorem BC{α:Type}{xs:List α}{i:Int}{j:Nat}{x:α}(h:ixN xs.length i=some j)(e:xs[j]?=some x):atI xs i=some x:=by
 unfold atI;rw[h];exact e
noncomputable def ixF:F2:=fun x y M=>match x,y with
 |.d a,.d (.int n)=>(aP a).bind fun ds=>(atI ds n).bind fun e=>some (.d e,M)
 |.c i,.d (.int n)=>match M[i]? with
  |some (.lst xs)=>(atI xs n).bind fun e=>some (e,M)
  |_=>none
 |.t xs,.d (.int n)=>(atI xs n).bind fun e=>some (cdA e,M)
 |_,_=>none
theorem Good.lstAt{i:Nat}{xs:List CD}(G:Good K W M H)(h:M[i]?=some (.lst xs)):∃vs,H (W.α i)=some (.lst vs)/\bS K W xs vs:=by
 obtain⟨_,o,h2,h3⟩:=G.cs i _ h (by intro z;cases z);cases o with
 |lst vs=>exact⟨vs,h2,h3⟩
 |_=>exact False.elim h3
theorem aHg:P2 K (rIx K) ixF:=by
 intro x y M z M' h W H v u Q G rx ry k;unfold ixF at h;split at h
 .rename_i a n;obtain⟨ds,h1,h⟩:=aH h;obtain⟨e,h2,h⟩:=aH h;cases h;obtain⟨p,vs,rfl,hq,hr⟩:=iK (Rep.same G.fh _ _ rx) h1;obtain⟨j,hj,he⟩:=GW h2;obtain⟨w,hw,rw'⟩:=hr.nth he;have hlen:=hr.length;have hat:atI vs n=some w:=BC (by rw[<- hlen];exact hj) hw;obtain⟨p',vs',e',hq',hr'⟩:=iK (show Rep K W.F a (.ref p)from rx) h1;cases e'
  have same:∀w',vs'[j]?=some w'->Rep K W.F e w':=fun w' hw'=>by
   obtain⟨w2,h3,h4⟩:=hr'.nth he;rw[hw']at h3;cases h3;exact h4
  obtain⟨w',hw',r'⟩:=hr'.nth he;have hat':atI vs' n=some w':=BC (by rw[<- hr'.length];exact hj) hw';rcases hq' with hq'|hq'
  .exact .inl ⟨p,vs',n,w',rfl,ry,G.fh.seq hq',hat',k _ W H (.refl _) G r'⟩
  .exact .inr (.inl ⟨p,vs',n,w',rfl,ry,G.fh.seqT hq',hat',k _ W H (.refl _) G r'⟩)
 .rename_i i n;split at h
  .rename_i xs hx;obtain⟨e,h2,h⟩:=aH h;cases h;obtain⟨vs,hv,hr⟩:=G.lstAt hx;obtain⟨j,hj,he⟩:=GW h2;obtain⟨w,hw,r'⟩:=Paired.get hr he;have hat:atI vs n=some w:=BC (by rw[<- Paired.len hr];exact hj) hw;rw[show v=.ref (W.α i)from rx.2];exact .inl ⟨_,vs,n,w,rfl,ry,SqL.of hv,hat,k _ W H (.refl _) G r'⟩
  .cases h
 .rename_i xs n;obtain⟨e,h2,h⟩:=aH h;cases h;obtain⟨a,vs,rfl,hv,hr⟩:=rx;obtain⟨j,hj,he⟩:=GW h2;obtain⟨w,hw,r'⟩:=Paired.get hr he;have hat:atI vs n=some w:=BC (by rw[<- Paired.len hr];exact hj) hw;exact .inr (.inl ⟨_,vs,n,w,rfl,ry,SqT.of (G.fh _ _ hv),hat,k _ W H (.refl _) G (by cases e<;>exact r')⟩)
 .cases h
noncomputable def bW:FN:=fun xs M=>match xs with
 |[.d a]=>(aP a).bind fun ds=>some (.d (.int ds.length),M)
 |[.c i]=>match M[i]? with
  |some (.lst ys)=>some (.d (.int ys.length),M)
  |_=>none
 |[.t xs]=>some (.d (.int xs.length),M)
 |_=>none
theorem aFh:PN K (fun xs H Q=>∃p ys,xs=[.ref p]/\(SqL K H p ys\/SqT K H p ys)/\Q (.int ys.length) H) bW:=by
 intro xs M z M' h W H vs Q G r k;unfold bW at h;split at h
 .rename_i a;obtain⟨ds,h1,h⟩:=aH h;cases h;rcases r with _|⟨r1,_|_⟩;obtain⟨p,us,rfl,hq,hr⟩:=iK (Rep.same G.fh _ _ r1) h1;refine⟨p,us,rfl,hq,?_⟩;rw[<- hr.length];exact k _ W H (.refl _) G rfl
 .rename_i i;split at h
  .rename_i ys hy;cases h;rcases r with _|⟨r1,_|_⟩;obtain⟨us,hv,hr⟩:=G.lstAt hy;rw[r1.2];refine⟨_,us,rfl,.inl (SqL.of hv),?_⟩;rw[<- Paired.len hr];exact k _ W H (.refl _) G rfl
  .cases h
 .rename_i xs;cases h;rcases r with _|⟨r1,_|_⟩;obtain⟨a,us,rfl,hv,hr⟩:=r1;refine⟨_,us,rfl,.inr (SqT.of (G.fh _ _ hv)),?_⟩;rw[<- Paired.len hr];exact k _ W H (.refl _) G rfl
 .cases h
noncomputable def uW:FN:=fun xs M=>match xs with
 |[.d a]=>(aP a).bind fun ds=>some (.d (.list ds),M)
 |[.c i]=>match M[i]? with
  |some (.lst ys)=>(kZ ys).bind fun ds=>some (.d (.list ds),M)
  |_=>none
 |_=>none
theorem aAr:PN K (fun xs H Q=>∃p ys,xs=[.ref p]/\(SqL K H p ys\/SqT K H p ys)/\∀l,H l=none->Q (.ref l) (upd H l (.lst ys))) uW:=by
 intro xs M z M' h W H vs Q G r k;unfold uW at h;split at h
 .rename_i a;obtain⟨ds,h1,h⟩:=aH h;cases h;rcases r with _|⟨r1,_|_⟩;obtain⟨p,us,rfl,hq,hr⟩:=iK (show Rep K W.F a _ from r1) h1;refine⟨p,us,rfl,hq.imp (fun z=>G.fh.seq z) (fun z=>G.fh.seqT z),fun l hl=>?_⟩;obtain⟨e2,G2⟩:=G.lay (o:=.lst us) hl;exact k _ _ _ e2 G2 ⟨l,us,rfl,SqL.of aN,aI.same e2.ff _ _ hr⟩
 .rename_i i;split at h
  .rename_i ys hy;obtain⟨ds,h1,h⟩:=aH h;cases h;rcases r with _|⟨r1,_|_⟩;obtain⟨us,hv,hr⟩:=G.lstAt hy;rw[r1.2];refine⟨_,us,rfl,.inl (SqL.of hv),fun l hl=>?_⟩;obtain⟨e2,G2⟩:=G.lay (o:=.lst us) hl;exact k _ _ _ e2 G2 ⟨l,us,rfl,SqL.of aN,aI.same e2.ff _ _ (dI h1 hr)⟩
  .cases h
 .cases h
noncomputable def eZ:FN:=fun xs M=>match xs with
 |[.d (.list ds)]=>some (.d (.tuple ds),M)
 |[.d (.tuple ds)]=>some (.d (.tuple ds),M)
 |[.c i]=>match M[i]? with
  |some (.lst ys)=>(kZ ys).bind fun ds=>some (.d (.tuple ds),M)
  |_=>none
 |_=>none
theorem WQ:PN K (fun xs H Q=>∃p ys,xs=[.ref p]/\((SqL K H p ys/\∀l,H l=none->Q (.ref l) (upd H l (.tup ys)))\/(SqT K H p ys/\Q (.ref p) H))) eZ:=by
 intro xs M z M' h W H vs Q G r k;unfold eZ at h;split at h
 .rename_i ds;cases h;rcases r with _|⟨r1,_|_⟩;obtain⟨p,us,rfl,hq,hr⟩:=(show ∃a us,_=V.ref a/\SqL K W.F a us/\aI K W.F ds us from r1);refine⟨p,us,rfl,.inl ⟨G.fh.seq hq,fun l hl=>?_⟩⟩;obtain⟨e2,G2⟩:=G.lay (o:=.tup us) hl;exact k _ _ _ e2 G2 ⟨l,us,rfl,SqT.of aN,aI.same e2.ff _ _ hr⟩
 .rename_i ds;cases h;rcases r with _|⟨r1,_|_⟩;obtain⟨p,us,rfl,hq,hr⟩:=(show ∃a us,_=V.ref a/\SqT K W.F a us/\aI K W.F ds us from r1);exact⟨p,us,rfl,.inr ⟨G.fh.seqT hq,k _ W H (.refl _) G ⟨p,us,rfl,hq,hr⟩⟩⟩
 .rename_i i;split at h
  .rename_i ys hy;obtain⟨ds,h1,h⟩:=aH h;cases h;rcases r with _|⟨r1,_|_⟩;obtain⟨us,hv,hr⟩:=G.lstAt hy;rw[r1.2];refine⟨_,us,rfl,.inl ⟨SqL.of hv,fun l hl=>?_⟩⟩;obtain⟨e2,G2⟩:=G.lay (o:=.tup us) hl;exact k _ _ _ e2 G2 ⟨l,us,rfl,SqT.of aN,aI.same e2.ff _ _ (dI h1 hr)⟩
  .cases h
 .cases h
noncomputable def BN(T:String)(f:EF):EF:=fun γ M=>(f γ M).bind fun r=>match r.1 with
 |.d a=>some (.d (.bool (tP T a)),r.2)
 |_=>none
theorem aCs{T:String}{ta:TE}{f:EF}(hT:T∈asked)(a:SE K ta f):SE K (tCB (aFf K) (oW ta (oW (tC (.ty T)) NX))) (BN T f):=by
 intro γ M x M' hh W H σ Q G R k;obtain⟨⟨y,M1⟩,h1,hh⟩:=aH hh;cases y with
 |c _=>cases hh
 |t _=>cases hh
 |f _=>cases hh
 |d y=>
  cases hh;refine a _ _ _ _ h1 W H σ _ G R fun v W1 H1 e1 G1 r1=>?_;exact⟨v,T,y,rfl,hT,Rep.same G1.fh _ _ r1,k _ W1 H1 e1 G1 rfl⟩
noncomputable def IU(T U:String)(f:EF):EF:=fun γ M=>(f γ M).bind fun r=>match r.1 with
 |.d a=>some (.d (.bool (tP T a || tP U a)),r.2)
 |_=>none
theorem aBe{T U:String}{ta:TE}{f:EF}(hT:T∈asked)(hU:U∈asked)(a:SE K ta f):SE K (tCB (PH K) (oW ta (oW (aES (oW (tC (.ty T)) (oW (tC (.ty U)) NX))) NX))) (IU T U f):=by
 intro γ M x M' hh W H σ Q G R k;obtain⟨⟨y,M1⟩,h1,hh⟩:=aH hh;cases y with
 |c _=>cases hh
 |t _=>cases hh
 |f _=>cases hh
 |d y=>
  cases hh;refine a _ _ _ _ h1 W H σ _ G R fun v W1 H1 e1 G1 r1=>?_;refine⟨by show 2<=sizeLine;decide,fun p hp=>?_⟩;obtain⟨e2,G2⟩:=G1.lay (o:=.tup [.ty T,.ty U]) hp;refine⟨v,p,[T,U],y,rfl,aN,fun S hS=>?_,Rep.same (e2.ff.trans G2.fh) _ _ r1,?_⟩
  .rcases List.mem_cons.mp hS with rfl|hS
   .exact hT
   .rw[List.mem_singleton.mp hS];exact hU
  .have e:([T,U].any fun T=>tP T y)=(tP T y || tP U y):=by simp
   rw[e];exact k _ _ _ (e1.trans e2) G2 rfl
noncomputable def ZP(M:Sto):CD->Option Bool
 |.d .none=>some false
 |.d (.bool b)=>some b
 |.d (.int i)=>some (i != 0)
 |.d (.list ds)=>some (!ds.isEmpty)
 |.d (.tuple ds)=>some (!ds.isEmpty)
 |.c i=>match M[i]? with
  |some (.lst xs)=>some (!xs.isEmpty)
  |some (.dk kvs)=>some (!kvs.isEmpty)
  |_=>none
 |_=>none
noncomputable def xK(f:EF):TF:=fun γ M=>(f γ M).bind fun r=>(ZP r.2 r.1).bind fun b=>some (b,r.2)
theorem jR{α β:Type}{xs:List α}{ys:List β}(h:xs.length=ys.length):xs.isEmpty=ys.isEmpty:=by
 cases xs<;>cases ys<;>simp at h ⊢
theorem aDB{ta:TE}{f:EF}(a:SE K ta f):STt K (fun σ H Q=>ta σ H fun x H'=>∃k,ZZ K x H' k/\Q k H') (xK f):=by
 intro γ M b M' hh W H σ Q G R k;obtain⟨⟨y,M1⟩,h1,hh⟩:=aH hh;obtain⟨b1,h2,hh⟩:=aH hh;cases hh;refine a _ _ _ _ h1 W H σ _ G R fun v W1 H1 e1 G1 r1=>⟨_,?_,k W1 H1 e1 G1⟩;cases y with
 |d y=>
  cases y with
  |none=>cases h2;rw[show v=.non from r1];rfl
  |bool c=>cases h2;rw[show v=.bl _ from r1];rfl
  |int i=>cases h2;rw[show v=.int _ from r1];rfl
  |str x=>cases h2
  |list ds=>
   cases h2;obtain⟨p,us,rfl,hq,hr⟩:=(show ∃a us,_=V.ref a/\SqL K W1.F a us/\aI K W1.F ds us from r1);exact .inl ⟨us,G1.fh.seq hq,by rw[jR hr.length]⟩
  |tuple ds=>
   cases h2;obtain⟨p,us,rfl,hq,hr⟩:=(show ∃a us,_=V.ref a/\SqT K W1.F a us/\aI K W1.F ds us from r1);exact .inr (.inl ⟨us,G1.fh.seqT hq,by rw[jR hr.length]⟩)
  |dict kvs=>cases h2
 |t _=>cases h2
 |f _=>cases h2
 |c i=>
  rw[r1.2];unfold ZP at h2;dsimp only at h2;split at h2
  .rename_i xs hx;cases h2;obtain⟨us,hv,hr⟩:=G1.lstAt hx;exact .inl ⟨us,SqL.of hv,by rw[jR (Paired.len hr)]⟩
  .rename_i kvs hx;cases h2;obtain⟨_,o,g2,g3⟩:=G1.cs i _ hx (by intro z;cases z);cases o with
   |dK us=>exact .inr (.inr ⟨us,g2,by rw[jR (Paired.len g3)]⟩)
   |_=>exact False.elim g3
  .cases h2
noncomputable def boolsOf:List PyData->Option (List Bool)
 |[]=>some []
 |.bool b::r=>(boolsOf r).bind fun bs=>some (b::bs)
 |_::_=>none
noncomputable def DN:FN:=fun xs M=>match xs with
 |[.d (.list ds)]=>(boolsOf ds).bind fun bs=>some (.d (.bool (bs.all id)),M)
 |_=>none
noncomputable def anyF:FN:=fun xs M=>match xs with
 |[.d (.list ds)]=>(boolsOf ds).bind fun bs=>some (.d (.bool (bs.any id)),M)
 |_=>none
theorem rN{H:Hp}:∀{ds:List PyData}{bs:List Bool}{vs:List V},boolsOf ds=some bs->aI K H ds vs->vs=bs.map V.bl
 |[],bs,vs=>fun e h=>by cases e;exact h
 |.bool b::r,bs,vs=>fun e h=>by
  obtain⟨cs,h1,e⟩:=aH (show(boolsOf r).bind _=_ from e);cases e;obtain⟨v,us,rfl,h2,h3⟩:=h;rw[show v=V.bl b from h2,rN h1 h3];rfl
 |.none::_,_,_=>fun e _=>by cases e
 |.int _::_,_,_=>fun e _=>by cases e
 |.str _::_,_,_=>fun e _=>by cases e
 |.list _::_,_,_=>fun e _=>by cases e
 |.tuple _::_,_,_=>fun e _=>by cases e
 |.dict _::_,_,_=>fun e _=>by cases e
theorem LR(hc:X.calm=true):dO X (.builtin "all") (fun xs H Q=>∃(p:Addr)(bs:List Bool),xs=[.ref p]/\SqL X.K H p (bs.map V.bl)/\Q (.bl (bs.all id)) H):=by
 intro pins s σ H xs us Q I r h;obtain⟨p,bs,rfl,hp,q⟩:=h;obtain⟨u,rfl,ru⟩:=vals1 r;cases (show u=Value.ref p from ru);obtain⟨its,rv,pl,hz⟩:=I.list hp;have hits:=aV.bools rv;subst hits;refine call_all_walk (wpAny_pyIter_list pl.isList ?_);have hlt:p<s.heap.objs.size:=pl.lt;refine⟨_,_,_,_,_,_,(fun i=>bs.getD i false),rfl,Walks.list (A:=X.A.in1) (I.ok.hd hc) s.heap.objs.size p (D1 hlt) (bs.map Value.bool).toArray,⟨⟨_,D2 _ rfl,rfl,rfl⟩,pl.isList.at fun o e=>A6 _ e⟩,sR,fun h' tk hk=>?_⟩;have e1:((bs.map Value.bool).toArray).size=bs.length:=by simp
 rw[e1,all_range];refine⟨.bl _,H,I.kept (h':=h') (t':=tk) fun b o e=>?_,rfl,q⟩;exact hk b o (fun z=>by rw[D4]at z;exact absurd (B8 e) (by rw[z];exact F6 _)) (A6 _ e)
theorem ON(hc:X.calm=true):dO X (.builtin "any") (fun xs H Q=>∃(p:Addr)(bs:List Bool),xs=[.ref p]/\SqL X.K H p (bs.map V.bl)/\Q (.bl (bs.any id)) H):=by
 intro pins s σ H xs us Q I r h;obtain⟨p,bs,rfl,hp,q⟩:=h;obtain⟨u,rfl,ru⟩:=vals1 r;cases (show u=Value.ref p from ru);obtain⟨its,rv,pl,hz⟩:=I.list hp;have hits:=aV.bools rv;subst hits;refine call_any_walk (wpAny_pyIter_list pl.isList ?_);have hlt:p<s.heap.objs.size:=pl.lt;refine⟨_,_,_,_,_,_,(fun i=>bs.getD i false),rfl,Walks.list (A:=X.A.in1) (I.ok.hd hc) s.heap.objs.size p (D1 hlt) (bs.map Value.bool).toArray,⟨⟨_,D2 _ rfl,rfl,rfl⟩,pl.isList.at fun o e=>A6 _ e⟩,sR,fun h' tk hk=>?_⟩;have e1:((bs.map Value.bool).toArray).size=bs.length:=by simp
 rw[e1,any_range];refine⟨.bl _,H,I.kept (h':=h') (t':=tk) fun b o e=>?_,rfl,q⟩;exact hk b o (fun z=>by rw[D4]at z;exact absurd (B8 e) (by rw[z];exact F6 _)) (A6 _ e)
theorem aFd:PN K (fun xs H Q=>∃(p:Addr)(bs:List Bool),xs=[.ref p]/\SqL K H p (bs.map V.bl)/\Q (.bl (bs.all id)) H) DN:=by
 intro xs M z M' h W H vs Q G r k;unfold DN at h;split at h
 .rename_i ds;obtain⟨bs,h1,h⟩:=aH h;cases h;rcases r with _|⟨r1,_|_⟩;obtain⟨p,us,rfl,hq,hr⟩:=(show ∃a us,_=V.ref a/\SqL K W.F a us/\aI K W.F ds us from r1);have e:=rN h1 hr;subst e;exact⟨p,bs,rfl,G.fh.seq hq,k _ W H (.refl _) G rfl⟩
 .cases h
theorem aFc:PN K (fun xs H Q=>∃(p:Addr)(bs:List Bool),xs=[.ref p]/\SqL K H p (bs.map V.bl)/\Q (.bl (bs.any id)) H) anyF:=by
 intro xs M z M' h W H vs Q G r k;unfold anyF at h;split at h
 .rename_i ds;obtain⟨bs,h1,h⟩:=aH h;cases h;rcases r with _|⟨r1,_|_⟩;obtain⟨p,us,rfl,hq,hr⟩:=(show ∃a us,_=V.ref a/\SqL K W.F a us/\aI K W.F ds us from r1);have e:=rN h1 hr;subst e;exact⟨p,bs,rfl,G.fh.seq hq,k _ W H (.refl _) G rfl⟩
 .cases h
noncomputable def pQ:F3:=fun x y z M=>match x,y with
 |.c i,.d (.int k)=>match M[i]? with
  |some (.lst xs)=>(ixN xs.length k).bind fun j=>some (M.set i (.lst (xs.set j z)))
  |_=>none
 |_,_=>none
theorem aFu:P3 K aBB pQ:=by
 intro x y z M M' h W H v u w Q G rx ry rz k;unfold pQ at h;split at h
 .rename_i i n;split at h
  .rename_i xs hx;obtain⟨j,h1,h⟩:=aH h;cases h;obtain⟨us,hv,hr⟩:=G.lstAt hx;refine⟨W.α i,us,n,j,rx.2,ry,hv,by rw[<- Paired.len hr];exact h1,?_⟩;exact k W _ (.refl _) (G.set hx (by intro q;cases q) (c':=.lst (xs.set j z)) (show bS K W _ _ from Paired.set (R:=bV K W) rz j hr))
  .cases h
 .cases h
end
section
variable{X:Cx}{K:Fg}
noncomputable def CO(K:Fg):R2:=fun x y H Q=>∃l b xs zs,x=.ref l/\y=.ref b/\SqL K H l xs/\SqL K H b zs/\xs.length+zs.length<=sizeLine/\∀p,H p=none->Q (.ref p) (upd H p (.lst (xs++zs)))
theorem op_catS:OpR X (binaryOp .Add) (CO X.K):=by
 intro pins s σ H x y v u Q I rx ry h;obtain⟨l,b,xs,zs,rfl,rfl,hH,hB,hz,q⟩:=h;cases rx;cases ry;obtain⟨its,r,⟨⟨cls,dd,data,sl⟩,n,ho,hc,hdd,hd⟩,_⟩:=I.list hH;obtain⟨its2,r2,⟨⟨cls2,dd2,data2,sl2⟩,n2,ho2,hc2,hdd2,hd2⟩,_⟩:=I.list hB;simp only at hc hd hc2 hd2;subst hc hd hc2 hd2;have e1:=r.length;have e2:=r2.length;refine concat_meets ⟨_,ho,rfl⟩ ⟨_,ho2,rfl⟩ noFill_list_add seq_list_add PySem.F.slot_list_add PySem.F.entry_list_add (PySem.F.args_list_add_2 _ _) (list_addW l b its.toArray its2.toArray n n2 dd dd2 sl sl2 (by rw[C4,C4];omega)) ⟨ho,ho2,?_⟩;have ea:its.toArray++its2.toArray=(its++its2).toArray:=by simp
 rw[ea];exact⟨.ref _,_,I.lnew (t':=s.toks) (r.append r2) (by rw[B4];omega),rfl,q _ I.fresh⟩
noncomputable def sZ(M:Sto):CD->Option (List CD)
 |.d (.list ds)=>some (ds.map .d)
 |.c i=>match M[i]? with
  |some (.lst xs)=>some xs
  |_=>none
 |_=>none
theorem oA{x:CD}{xs:List CD}{v:V}(G:Good K W M H)(h:sZ M x=some xs)(r:bV K W x v):∃p vs,v=.ref p/\SqL K H p vs/\bS K W xs vs:=by
 unfold sZ at h;split at h
 .rename_i ds;cases h;obtain⟨p,us,rfl,hq,hr⟩:=(show ∃a us,_=V.ref a/\SqL K W.F a us/\aI K W.F ds us from r);exact⟨p,us,rfl,G.fh.seq hq,eJ hr⟩
 .rename_i i;split at h
  .rename_i ys hy;cases h;obtain⟨us,hv,hr⟩:=G.lstAt hy;exact⟨_,us,r.2,SqL.of hv,hr⟩
  .cases h
 .cases h
noncomputable def aBr:F2:=fun x y M=>(sZ M x).bind fun xs=>(sZ M y).bind fun ys=>(kZ (xs++ys)).bind fun ds=>if ds.length<=sizeLine then some (.d (.list ds),M)else none
theorem ZY:P2 K (CO K) aBr:=by
 intro x y M z M' h W H v u Q G rx ry k;obtain⟨xs,h1,h⟩:=aH h;obtain⟨ys,h2,h⟩:=aH h;obtain⟨ds,h3,h⟩:=aH h;by_cases hl:ds.length<=sizeLine
 .rw[A7 hl]at h;cases h;obtain⟨p,vs,rfl,hp,hr⟩:=oA G h1 rx;obtain⟨q,us,rfl,hq,hs⟩:=oA G h2 ry;have el:=FF h3;rw[B4]at el;refine⟨p,q,vs,us,rfl,rfl,hp,hq,by rw[<- Paired.len hr,<- Paired.len hs];omega,fun l hl=>?_⟩;obtain⟨e2,G2⟩:=G.lay (o:=.lst (vs++us)) hl;exact k _ _ _ e2 G2 ⟨l,_,rfl,SqL.of aN,aI.same e2.ff _ _ (dI h3 (Paired.app hr hs))⟩
 .rw[B0 hl]at h;cases h
noncomputable def aDQ:F2:=fun x y M=>match x,y with
 |.d (.tuple xs),.d (.tuple ys)=>if xs≠[]/\xs.length+ys.length<=sizeLine then some (.d (.tuple (xs++ys)),M)else none
 |_,_=>none
theorem aI.nil_iff{ds:List PyData}{vs:List V}(r:aI K H ds vs):vs=[]↔ds=[]:=by
 have:=r.length;constructor<;>intro h<;>subst h<;>simp at this
 .exact this
 .exact List.eq_nil_of_length_eq_zero this.symm
theorem aBi:P2 K (SH K) aDQ:=by
 intro x y M z M' h W H v u Q G rx ry k;unfold aDQ at h;split at h
 .rename_i xs ys;by_cases hc:xs≠[]/\xs.length+ys.length<=sizeLine
  .rw[A7 hc]at h;cases h;obtain⟨p,vs,rfl,hp,hr⟩:=(show ∃a us,v=V.ref a/\SqT K W.F a us/\aI K W.F xs us from rx);obtain⟨q,us,rfl,hq,hs⟩:=(show ∃a us,u=V.ref a/\SqT K W.F a us/\aI K W.F ys us from ry);refine⟨p,q,vs,us,rfl,rfl,G.fh.seqT hp,G.fh.seqT hq,fun z=>hc.1 (hr.nil_iff.mp z),by rw[<- hr.length,<- hs.length];exact hc.2,fun z=>?_,fun z l hl=>?_⟩
   .have:ys=[]:=hs.nil_iff.mp z;subst this;rw[D6]at k;exact k _ W H (.refl _) G ⟨p,vs,rfl,hp,hr⟩
   .obtain⟨e2,G2⟩:=G.lay (o:=.tup (vs++us)) hl;exact k _ _ _ e2 G2 ⟨l,_,rfl,SqT.of aN,aI.same e2.ff _ _ (aI.app hr hs)⟩
  .rw[B0 hc]at h;cases h
 .cases h
theorem P2.or{r r':R2}{h h':F2}(a:P2 K r h)(b:P2 K r' h'):P2 K (fun x y H Q=>r x y H Q\/r' x y H Q) (BL h h'):=by
 intro x y M z M' hh W H v u Q G rv ru k;unfold BL at hh;cases e:h x y M with
 |some q=>
  rw[e]at hh;cases hh;exact .inl (a _ _ _ _ _ e W H v u Q G rv ru k)
 |none=>
  rw[e]at hh;exact .inr (b _ _ _ _ _ hh W H v u Q G rv ru k)
noncomputable def IB(K:Fg):R2:=fun x y H Q=>∃a b ys,x=.ref a/\y=.ref b/\SqT K H a []/\SqT K H b ys/\Q (.ref b) H
theorem op_catT0:OpR X (binaryOp .Add) (IB X.K):=by
 intro pins s σ H x y v u Q I rx ry h;obtain⟨a,b,ys,rfl,rfl,ha,hb,q⟩:=h;cases rx;cases ry;obtain⟨its,r1,⟨⟨cls,dd,data,sl⟩,ho,hc,n,hd⟩,_⟩:=I.tuple ha;obtain⟨its2,r2,⟨⟨cls2,dd2,data2,sl2⟩,ho2,hc2,n2,hd2⟩,_⟩:=I.tuple hb;simp only at hc hd hc2 hd2;subst hc hd hc2 hd2;cases r1;exact concat_meets ⟨_,ho,rfl⟩ ⟨_,ho2,rfl⟩ noFill_tuple_add seq_tuple_add PySem.F.slot_tuple_add PySem.F.entry_tuple_add (PySem.F.args_tuple_add_2 _ _) (tuple_addW0 a b #[] its2.toArray n n2 dd dd2 sl sl2 rfl) ⟨ho,ho2,⟨.ref b,H,I,rfl,q⟩⟩
noncomputable def PX:F2:=fun x y M=>match x,y with
 |.d (.tuple []),.d (.tuple ys)=>some (.d (.tuple ys),M)
 |_,_=>none
theorem XA:P2 K (IB K) PX:=by
 intro x y M z M' h W H v u Q G rx ry k;unfold PX at h;split at h
 .rename_i ys;cases h;obtain⟨p,vs,rfl,hp,hr⟩:=(show ∃a us,v=V.ref a/\SqT K W.F a us/\aI K W.F [] us from rx);obtain⟨q,us,rfl,hq,hs⟩:=(show ∃a us,u=V.ref a/\SqT K W.F a us/\aI K W.F ys us from ry);rw[show vs=[]from hr]at hp;exact⟨p,q,us,rfl,rfl,G.fh.seqT hp,G.fh.seqT hq,k _ W H (.refl _) G ⟨q,us,rfl,hq,hs⟩⟩
 .cases h
noncomputable def bM:F2:=BL aDj (BL aBr (BL PX aDQ))
noncomputable def SW(K:Fg):R2:=fun x y H Q=>(rI0 fun i j=>.int (i+j)) x y H Q\/CO K x y H Q\/IB K x y H Q\/SH K x y H Q
theorem aBg:OpR X (binaryOp .Add) (SW X.K):=op_add.or (op_catS.or (op_catT0.or aAo))
theorem YK:P2 K (SW K) bM:=P2.or aCb (P2.or ZY (P2.or XA aBi))
noncomputable def eqS(neg:Bool):F2:=fun x y M=>match x,y with
 |.d (.str a),.d (.str b)=>some (.d (.bool (if neg then !(a==b)else a==b)),M)
 |_,_=>none
noncomputable def eqX(neg:Bool):F2:=BL (eqS neg) (eqD neg)
noncomputable def aEO(K:Fg):R2:=fun x y H Q=>rEq x y H Q\/HS K false x y H Q
noncomputable def aCT(K:Fg):R2:=fun x y H Q=>rNe x y H Q\/HS K true x y H Q
theorem UE{a b:Str}:decide (V.str a=V.str b)=(a==b):=by
 by_cases e:a=b
 .subst e;simp
 .have h:¬V.str a=V.str b:=fun q=>e (V.str.inj q);rw[C1 h,beq_eq_false_iff_ne.mpr e]
theorem aFq:P2 K rEq (eqS false):=by
 intro x y M z M' h W H v u Q G rx ry k;unfold eqS at h;split at h
 .rename_i a b;cases h;rw[show v=.str a from rx,show u=.str b from ry];refine⟨rfl,?_⟩;rw[UE];exact k _ W H (.refl _) G rfl
 .cases h
theorem aCR:P2 K rNe (eqS true):=by
 intro x y M z M' h W H v u Q G rx ry k;unfold eqS at h;split at h
 .rename_i a b;cases h;rw[show v=.str a from rx,show u=.str b from ry];refine⟨rfl,?_⟩;rw[UE];exact k _ W H (.refl _) G rfl
 .cases h
theorem TC:P2 K (aEO K) (eqX false):=P2.or aFq aCd
theorem aDR:P2 K (aCT K) (eqX true):=P2.or aCR aCd
theorem aCI(hu:X.A.units+64<cLine):OpR X (compareOp .Eq) (aEO X.K):=op_eq.or (QV hu)
theorem aCY(hu:X.A.units+64<cLine):OpR X (compareOp .NotEq) (aCT X.K):=op_ne.or (aEN hu)
theorem aEi:P2 K (rI0 fun i j=>.int (i-j)) TV:=aCb
theorem aDl:P2 K (rI FI fun i j=>.int (i*j)) sG:=aAQ fun _ _ h=>mulOk_of h
theorem aAO:P2 K (rI aCe fun i j=>.int (i / j)) wH:=aAQ fun i j h=>by
 unfold zC at h;rw[C2]at h;exact⟨D7 h.1,D7 (p:=j.natAbs<fQ) h.2⟩
theorem aDZ:P2 K (rI (fun _ j=>0<j) fun i j=>.int (i % j)) iJ:=aAQ fun i j h=>D7 h
theorem aCC:P2 K (rI aGX fun i j=>.int (i ^ j.toNat)) ER:=aAQ fun i j h=>by
 unfold US at h;rw[C2,C2]at h;exact⟨D7 h.1.1,D7 h.1.2,D7 h.2⟩
theorem aBE:P2 K (rI0 fun i j=>.bl (decide (i<j))) ltI:=KR
theorem aGE:P2 K (rI0 fun i j=>.bl (decide (i<=j))) leI:=KR
theorem aGP:P2 K (rI0 fun i j=>.bl (decide (j<i))) gtI:=KR
theorem aGD:P2 K (rI0 fun i j=>.bl (decide (j<=i))) geI:=KR
noncomputable def EC:F1:=fun x M=>match x with
 |.d (.int i)=>some (.d (.int (-i)),M)
 |_=>none
theorem aFo:P1 K (rU fun i=>.int (-i)) EC:=by
 intro x M z M' h W H v Q G r k;unfold EC at h;split at h
 .rename_i i;cases h;exact⟨i,r,k _ W H (.refl _) G rfl⟩
 .cases h
end
section
variable{X:Cx}{K:Fg}
theorem aHl(h:X.K=K):dO X (.builtin "isinstance") (aFf K):=by subst h;exact OG
theorem aFz(h:X.K=K):dO X (.builtin "isinstance") (PH K):=by subst h;exact HI
noncomputable def aGl(K:Fg):R2:=rIx K
theorem kIx(h:X.K=K):IxR X (aGl K):=by subst h;exact aDF
theorem aEu:P2 K (aGl K) ixF:=aHg
noncomputable def aBV(K:Fg):List V->Hp->VK->Prop:=fun xs H Q=>∃p ys,xs=[.ref p]/\(SqL K H p ys\/SqT K H p ys)/\Q (.int ys.length) H
theorem aHy(h:X.K=K):dO X (.builtin "len") (aBV K):=by subst h;exact AY
theorem aAz:PN K (aBV K) bW:=aFh
noncomputable def IF(K:Fg):List V->Hp->VK->Prop:=fun xs H Q=>∃p ys,xs=[.ref p]/\(SqL K H p ys\/SqT K H p ys)/\∀l,H l=none->Q (.ref l) (upd H l (.lst ys))
theorem aCl(h:X.K=K):dO X (.type "list") (IF K):=by subst h;exact AI
theorem WS:PN K (IF K) uW:=aAr
noncomputable def IP(K:Fg):List V->Hp->VK->Prop:=fun xs H Q=>∃p ys,xs=[.ref p]/\((SqL K H p ys/\∀l,H l=none->Q (.ref l) (upd H l (.tup ys)))\/(SqT K H p ys/\Q (.ref p) H))
theorem aEK(h:X.K=K):dO X (.type "tuple") (IP K):=by subst h;exact xQ
theorem LY:PN K (IP K) eZ:=WQ
noncomputable def aBO(K:Fg):List V->Hp->VK->Prop:=fun xs H Q=>∃(p:Addr)(bs:List Bool),xs=[.ref p]/\SqL K H p (bs.map V.bl)/\Q (.bl (bs.all id)) H
theorem aHw(h:X.K=K)(hc:X.calm=true):dO X (.builtin "all") (aBO K):=by subst h;exact LR hc
theorem aAt:PN K (aBO K) DN:=aFd
noncomputable def aBP(K:Fg):List V->Hp->VK->Prop:=fun xs H Q=>∃(p:Addr)(bs:List Bool),xs=[.ref p]/\SqL K H p (bs.map V.bl)/\Q (.bl (bs.any id)) H
theorem aHu(h:X.K=K)(hc:X.calm=true):dO X (.builtin "any") (aBP K):=by subst h;exact ON hc
theorem ZE:PN K (aBP K) anyF:=aFc
theorem kEq(h:X.K=K)(hu:X.A.units+64<cLine):OpR X (compareOp .Eq) (aEO K):=by subst h;exact aCI hu
theorem kNe(h:X.K=K)(hu:X.A.units+64<cLine):OpR X (compareOp .NotEq) (aCT K):=by subst h;exact aCY hu
theorem kIn(h:X.K=K)(hu:X.A.in1.units+64<cLine):OpR X (compareOp .In) (PJ K false):=by subst h;exact aFb hu
theorem aFj(h:X.K=K)(hu:X.A.in1.units+64<cLine):OpR X (compareOp .NotIn) (PJ K true):=by subst h;exact LZ hu
theorem aHp(h:X.K=K):OpR X (binaryOp .Add) (SW K):=by subst h;exact aBg
theorem JZ{tg l:Expr}{tl:TE}(h:X.K=K)(hl:PE X l tl):PI X tg l (aAN K tl):=by subst h;exact aFm hl
theorem YS{es:List Expr}{k:Nat}{t:TGs}{n:Nat}{pos:Pos}(hK:X.K=K)(hc:X.calm=true)(h:PGs X es t)
 (hn:(assignEach es X.env).length=n:=by rfl) (hst:(assignEach es X.env).findIdx? (·.1)=none:=by rfl):PG X (.Tuple es k pos) (aDW K n t):=by subst hK;exact aEz hc h hn hst
noncomputable def aFT(K:Fg)(ta:TE):TT:=fun σ H Q=>ta σ H fun x H'=>∃k,ZZ K x H' k/\Q k H'
theorem aAs{a:Expr}{ta:TE}(hK:X.K=K)(ha:PE X a ta)(he:∀whole,isTrue a X.env whole=(do let v <- whole;standAt a.pos;holding [v] (truthy v))):PT X a (aFT K ta):=by subst hK;exact QU ha he
theorem aBd{ta:TE}{f:EF}(a:SE K ta f):STt K (aFT K ta) (xK f):=aDB a
end
section
variable{es:List Expr}{env:Env}
theorem cL{a b}:starEach (.Name a b::es) env=(false,eval (.Name a b) env)::starEach es env:=rfl
theorem uP{a b c}:starEach (.Tuple a b c::es) env=(false,eval (.Tuple a b c) env)::starEach es env:=rfl
theorem oK{a b c d}:starEach (.Call a b c d::es) env=(false,eval (.Call a b c d) env)::starEach es env:=rfl
theorem sE{pos:Pos}:(backTo pos (starEach [] env)).any (·.1)=false:=rfl
theorem lF{pos:Pos}{e:Expr}(hs:starEach (e::es) env=(false,eval e env)::starEach es env)(h:(backTo pos (starEach es env)).any (·.1)=false):(backTo pos (starEach (e::es) env)).any (·.1)=false:=by
 rw[hs];have e1:backTo pos ((false,eval e env)::starEach es env)=(false,(do let v <- eval e env;standAt pos;pure v:Sem Value))::backTo pos (starEach es env)\/(backTo pos ((false,eval e env)::starEach es env)).any (·.1)=(backTo pos (starEach es env)).any (·.1):=.inr (by unfold backTo;simp);rcases e1 with q|q
 .rw[q,O6,h];rfl
 .rw[q];exact h
end
section
variable{P:Program}{w:World}{K:Fg}{mg:Str->Option Value}
theorem Fun.okM{base:Heap}{x:Str}{st:Stmt}{N ps:List Str}{k:Nat}{b:SF}{f:Addr}{fd:FuncData}(F:Fun K x x st f fd)(S:aT N ps (aJ st))
 (hbody:∀(f:Addr)(cdv:Value)(A:Around)(outer:List Env)(s:Shared)(H:Hp)(E:XK),dF k (A.deeper (envOfC x (aJ st) s.heap.objs.size f cdv))->
  ∃t,PSs (lP CX0 P w K mg base N x (aJ st) f cdv A outer s H E).nox (cK st) t/\SS K t b):oQ P w K mg base CX0 (k+1) f fd ps (spM K (fnF ps.length N.length b)):=by
 have len:∀vs H Q E,spM K (fnF ps.length N.length b) vs H Q E->vs.length=ps.length:=fun vs H Q E h=>by
  obtain⟨xs,M,W,y,M',G,R,hf,_⟩:=h;by_cases hl:xs.length=ps.length
  .rw[<- Paired.len R];exact hl
  .unfold fnF at hf;rw[B0 hl]at hf;cases hf
 refine F.ok S len fun cdv A outer s H vs Q E hr h=>?_;obtain⟨t,hP,hS⟩:=hbody f cdv A outer s H E hr;refine⟨t,hP,?_⟩;obtain⟨xs,M,W,y,M',G,R,hf,k⟩:=h;by_cases hl:xs.length=ps.length
 .unfold fnF at hf;rw[A7 hl]at hf;obtain⟨⟨o,M1⟩,h1,hf⟩:=aH hf
  have hR:cJ K W (xs.map some++List.replicate (N.length-xs.length) none) (start N vs):=by
   unfold start;rw[<- Paired.len R];exact Paired.app (bS.some R) (qJ _)
  refine hS _ _ _ _ h1 W H _ _ G hR fun W1 H1 e1 G1=>?_;cases o with
  |rt x=>cases hf;exact fun v r=>k v W1 H1 e1 G1 r
  |nx γ=>cases hf;exact fun σ r=>k .non W1 H1 e1 G1 rfl
  |bk γ=>cases hf
  |ct γ=>cases hf
 .unfold fnF at hf;rw[B0 hl]at hf;cases hf
theorem Def.okL{x p:Str}{st:Stmt}{N:List Str}{k:Nat}{b:SF}{F:FN}(D:Def K mg x st)(S:aT N [p] (aJ st))(hF:F=fnF 1 N.length b)
 (hb:∀(kV doc pm:Value)(an:Option Addr)(cdv ct:Value)(us:List Value),us.length=[p].length->bindArgs (PySem.W.fnOf x x (fW st) (cK st) (aJ st) .none kV doc pm an cdv ct) ⟨us,[]⟩=pure ([p].zip us))
 (hbody:∀(base:Heap)(f:Addr)(cdv:Value)(A:Around)(outer:List Env)(s:Shared)(H:Hp)(E:XK),dF k (A.deeper (envOfC x (aJ st) s.heap.objs.size f cdv))->
  ∃t,PSs (lP CX0 P w K mg base N x (aJ st) f cdv A outer s H E).nox (cK st) t/\SS K t b):
 ∃f fd,mg x=some (.ref f)/\(∀(s:Shared)(u:Value),BindsTo s fd ⟨[u],[]⟩ [(p,u)])/\∀base,oQ P w K mg base CX0 (k+1) f fd [p] (spM K F):=by
 subst hF;obtain⟨f,fd,Fu,m⟩:=D.ex;refine⟨f,fd,m,fun s u=>?_,fun base=>Fu.okM S (hbody base)⟩;obtain⟨oc,od,kV,doc,pm,an,cdv,ct,osl,rfl,lk,hcd⟩:=Fu.ex;exact .of_eq (hb kV doc pm an cdv ct [u] rfl)
theorem CW{H:Hp}:∀ns:List Int,aI K H (ns.map .int) (ns.map V.int)
 |[]=>rfl
 |n::ns=>⟨.int n,ns.map V.int,rfl,rfl,CW ns⟩
theorem aDK{F:FN}(hF:∀ns:List Int,ns.length<=63->∃M',F [.d (.list (ns.map .int))] []=some (.d (.bool true),M')){a:Addr}{ns:List Int}(hl:ns.length<=63)(hS:SqL K H a (ns.map V.int))(E:XK):
 spM K F [.ref a] H (fun v _=>v=.bl true) E:=by
 obtain⟨M',h⟩:=hF ns hl;refine⟨[.d (.list (ns.map .int))],[],⟨H,fun _=>0,0⟩,_,M',⟨gY.refl H,rfl,fun i c h=>by simp at h,fun i j c c' h=>by simp at h⟩,.cons (show ∃a' vs,V.ref a=.ref a'/\SqL K H a' vs/\aI K H (ns.map .int) vs from⟨a,ns.map V.int,rfl,hS,CW ns⟩) .nil,h,fun v W' H' _ _ r=>r⟩
theorem law_walk{l:PySem.W.OpenLaw}{q:Program}{loose:List Str}{XP:(Str->Option Value)->Heap->Prop}{YP:World->Heap->Prop}{d:DefRec}{K:Params->Fg}{F:FN}{k:Nat}{p:Str}(hq:PyProof.Rows.importsNone q=true)(hn:l.most=some 63)(hdf:d.params.defaults=[])(hr:dF k callerA)
 (hY:∀(w:World)(h:Heap),YP w h->(K w.params).In h)
 (hT:∀(w:World)(mg:Str->Option Value)(h:Heap),(K w.params).In h->h.Ns mainGlobals mg->∃f fd,mg d.name=some (.ref f)/\(∀(s:Shared)(u:Value),BindsTo s fd ⟨[u],[]⟩ [(p,u)])/\∀base,oQ l.prog w (K w.params) mg base CX0 k f fd [p] (spM (K w.params) F))
 (hF:∀ns:List Int,ns.length<=63->∃M',F [.d (.list (ns.map .int))] []=some (.d (.bool true),M')):
 PySem.W.WalkO q loose XP YP l.row.toRowW d [] (fun f vs=>PySem.call f vs):=
 L2.walk_of hq (n:=63) (k:=k) (x:=p) (CX:=fun _=>CX0) (sp:=fun w=>spM (K w.params) F) hn (by decide) hdf hr hY
  (fun w mg fa h KX G hmg=>by
   obtain⟨f,fd,m,hb,hf⟩:=hT w mg h KX G;have e:(some (Value.ref f))=some (.ref fa):=m.symm.trans hmg;cases e;exact⟨fd,hb,fun base _ _=>hf base⟩)
  (fun w H a ns hl _ hS=>aDK hF hl hS _) fun _ _ _ _ _ z=>z
end
noncomputable def QO(e:Expr)(es:List Expr):Prop:=∀env:Env,starEach (e::es) env=(false,eval e env)::starEach es env
noncomputable def DQ:List Expr->Prop
 |[]=>True
 |e::es=>QO e es/\DQ es
theorem DQ.plain:∀{es:List Expr},DQ es->∀(env:Env)(pos:Pos),(backTo pos (starEach es env)).any (·.1)=false
 |[]=>fun _ _ _=>rfl
 |_::_=>fun h env pos=>lF (h.1 env) (h.2.plain env pos)
section
variable{ι:Type}
structure ME(K:Fg)(X:ι->Cx)(e:Expr)(f:EF):Prop where
 ex:∃t,(∀i,PE (X i) e t)/\SE K t f
structure MT(K:Fg)(X:ι->Cx)(e:Expr)(f:TF):Prop where
 ex:∃t,(∀i,PT (X i) e t)/\STt K t f
structure MW(K:Fg)(X:ι->Cx)(e:Expr)(f:TF):Prop where
 ex:∃t,(∀i,PW (X i) e t)/\STt K t f
structure MA(K:Fg)(X:ι->Cx)(es:List Expr)(f:AF):Prop where
 ex:∃t,(∀i,PA (X i) es t)/\SA K t f
 st:DQ es
structure MG(K:Fg)(X:ι->Cx)(e:Expr)(f:GF):Prop where
 ex:∃t,(∀i,PG (X i) e t)/\SG K t f
structure MGs(K:Fg)(X:ι->Cx)(es:List Expr)(f:GsF):Prop where
 ex:∃t,(∀i,PGs (X i) es t)/\SGs K t f
structure MI(K:Fg)(X:ι->Cx)(tg e:Expr)(f:AF):Prop where
 ex:∃t,(∀i,PI (X i) tg e t)/\SI K t f
structure MF(K:Fg)(X:ι->Cx)(es:List Expr)(f:TF):Prop where
 ex:∃t,(∀i,OM (X i) es t)/\STt K t f
structure MS(K:Fg)(X:ι->Cx)(st:Stmt)(f:SF):Prop where
 ex:∃t,(∀i,PS (X i) st t)/\SS K t f
structure ML(K:Fg)(X:ι->Cx)(st:List Stmt)(f:SF):Prop where
 ex:∃t,(∀i,PSs (X i) st t)/\SS K t f
structure Q2(K:Fg)(X:ι->Cx)(o:Value->Value->Sem Value)(h:F2):Prop where
 ex:∃r,(∀i,OpR (X i) o r)/\P2 K r h
structure Q1(K:Fg)(X:ι->Cx)(o:Value->Sem Value)(h:F1):Prop where
 ex:∃r,(∀i,UnR (X i) o r)/\P1 K r h
structure QN(K:Fg)(X:ι->Cx)(f:Value)(h:FN):Prop where
 ex:∃r,(∀i,dO (X i) f r)/\PN K r h
structure QI(K:Fg)(X:ι->Cx)(h:F2):Prop where
 ex:∃r,(∀i,IxR (X i) r)/\P2 K r h
structure QS(K:Fg)(X:ι->Cx)(h:F3):Prop where
 ex:∃r,(∀i,aDL (X i) r)/\P3 K r h
variable{K:Fg}{X:ι->Cx}{a b c e:Expr}{es:List Expr}{f g h:EF}{ft gt:TF}{fa:AF}{pos:Pos}
theorem aC(i:Nat){x:Str}(hN:∀j,(X j).N[i]?=some x:=by intro _;rfl)(hv:∀j,Vis (X j).env.scope x:=by intro _;first|exact Or.inl rfl|exact Or.inr (Or.inl rfl)|exact Or.inr (Or.inr rfl))(hd:(x==("__debug__":Str))=false:=by decide)(hcd:(x==("__classdict__":Str))=false:=by decide):
 ME K X (.Name x pos) (aD i):=⟨_,fun j=>aEy (hN j) (hv j) hd hcd,aFv⟩
theorem aG{i:Int}{j:Nat}:ME K X (.Constant (.int i) j pos) (fC (.int i)):=⟨_,fun _=>aDv,QK⟩
theorem jM{i:Bool}{j:Nat}:ME K X (.Constant (.bool i) j pos) (fC (.bool i)):=⟨_,fun _=>aFW,aGe⟩
theorem qZ{j:Nat}:ME K X (.Constant .none j pos) (fC .none):=⟨_,fun _=>aEm,aDI⟩
theorem gJ{i:Str}{j:Nat}:ME K X (.Constant (.str i) j pos) (fC (.str i)):=⟨_,fun _=>aDz,aDD⟩
theorem QE{x:Str}{n:Int}(hm:∀i,∃t:Tok,(X i).mg x=some (.int n t))(hg:∀i,Gl (X i) x:=by intro _;rfl)(hd:(x==("__debug__":Str))=false:=by decide):ME K X (.Name x pos) (fC (.int n)):=
 ⟨_,fun i=>IT (v:=.int n) (hg i) (hm i).choose_spec ⟨_,rfl⟩ hd,QK⟩
theorem aX{op:Operator}{k:F2}(q:Q2 K X (binaryOp op) k)(x:ME K X a f)(y:ME K X b g):ME K X (.BinOp a op b pos) (fOp k f g):=by
 obtain⟨r,q1,q2⟩:=q.ex;obtain⟨t,x1,x2⟩:=x.ex;obtain⟨u,y1,y2⟩:=y.ex;exact⟨_,fun i=>aGT (q1 i) (x1 i) (y1 i),IZ q2 x2 y2⟩
theorem UI{op:UnaryOp}{k:F1}(q:Q1 K X (unaryOp op) k)(x:ME K X a f):ME K X (.UnaryOp op a pos) (fUn k f):=by
 obtain⟨r,q1,q2⟩:=q.ex;obtain⟨t,x1,x2⟩:=x.ex;exact⟨_,fun i=>aGd (q1 i) (x1 i),aGj q2 x2⟩
theorem iF{rest:List Expr}(x:ME K X a f)(y:ME K X (.BoolOp .And (b::rest) pos) g):ME K X (.BoolOp .And (a::b::rest) pos) (mH f g):=by
 obtain⟨t,x1,x2⟩:=x.ex;obtain⟨u,y1,y2⟩:=y.ex;exact⟨_,fun i=>aEF (x1 i) (y1 i),aEn x2 y2⟩
theorem kH{op:BoolOp}(x:ME K X a f):ME K X (.BoolOp op [a] pos) f:=by
 obtain⟨t,x1,x2⟩:=x.ex;exact⟨_,fun i=>aDr (x1 i),x2⟩
theorem aEL(x:ME K X a f):ME K X (.UnaryOp .Not a pos) (YE f):=by
 obtain⟨t,x1,x2⟩:=x.ex;exact⟨_,fun i=>aCW (x1 i),aFp x2⟩
theorem gA{op:CmpOp}{k:F2}(q:Q2 K X (compareOp op) k)(x:ME K X a f)(y:ME K X b g)(hm:behindInMarks op b=false:=by rfl):ME K X (.Compare a [op] [b] pos) (fOp k f g):=by
 obtain⟨r,q1,q2⟩:=q.ex;obtain⟨t,x1,x2⟩:=x.ex;obtain⟨u,y1,y2⟩:=y.ex;exact⟨_,fun i=>YH (q1 i) (x1 i) (y1 i) hm,IZ q2 x2 y2⟩
theorem SL{op op':CmpOp}{k k':F2}(q:Q2 K X (compareOp op) k)(q':Q2 K X (compareOp op') k')(x:ME K X a f)(y:ME K X b g)(z:ME K X c h)(hm:lastMarks [op,op'] [b,c]=false:=by with_unfolding_all rfl):ME K X (.Compare a [op,op'] [b,c] pos) (BB k k' f g h):=by
 obtain⟨r,q1,q2⟩:=q.ex;obtain⟨r',q1',q2'⟩:=q'.ex;obtain⟨t,x1,x2⟩:=x.ex;obtain⟨u,y1,y2⟩:=y.ex;obtain⟨v,z1,z2⟩:=z.ex;exact⟨_,fun i=>RA (q1 i) (q1' i) (x1 i) (y1 i) (z1 i) hm,XX q2 q2' x2 y2 z2⟩
theorem aE:MA K X [] aF:=⟨⟨_,fun _=>xD,aEq⟩,trivial⟩
theorem aB(x:ME K X e f)(y:MA K X es fa)(hs:QO e es:=by intro _;rfl):MA K X (e::es) (aA f fa):=by
 obtain⟨t,x1,x2⟩:=x.ex;obtain⟨u,y1,y2⟩:=y.ex;exact⟨⟨_,fun i=>iQ (x1 i) (y1 i) (hs _),aAF x2 y2⟩,hs,y.st⟩
theorem aU{k:Nat}(x:MA K X es fa):ME K X (.Tuple es k pos) (bK fa):=by
 obtain⟨t,x1,x2⟩:=x.ex;exact⟨_,fun i=>RG (x1 i),aFn x2⟩
theorem cX(x:MA K X es fa):ME K X (.List es pos) (dE fa):=by
 obtain⟨t,x1,x2⟩:=x.ex;exact⟨_,fun i=>UD (x1 i),aEj x2⟩
theorem mW(x:MA K X es fa):ME K X (.List es pos) (jB fa):=by
 obtain⟨t,x1,x2⟩:=x.ex;exact⟨_,fun i=>UD (x1 i),aDk x2⟩
theorem bA{k:F2}(q:QI K X k)(x:ME K X a f)(y:ME K X b g)(hs:JD b:=by intro _ _;rfl):ME K X (.Subscript a b pos) (fOp k f g):=by
 obtain⟨r,q1,q2⟩:=q.ex;obtain⟨t,x1,x2⟩:=x.ex;obtain⟨u,y1,y2⟩:=y.ex;exact⟨_,fun i=>aFE (q1 i) (x1 i) (y1 i) hs,IZ q2 x2 y2⟩
theorem bC{k:Nat}{x:Str}{ps:List Str}{F:FN}{p:Pos}{q:Bool}(C:∀i,Callee (X i).prog (X i).w (X i).K (X i).mg (X i).base k x ps (spM K F) q)(hr:∀i,dF k (X i).A q)(y:MA K X (e::es) fa)(hg:∀i,Gl (X i) x:=by intro _;rfl)(hd:(x==("__debug__":Str))=false:=by decide):
 ME K X (.Call (.Name x p) (e::es) [] pos) (aK F fa):=by
 obtain⟨u,y1,y2⟩:=y.ex;exact⟨_,fun i=>aEb (C i) (hr i) (y1 i) (hg i) hd (y.st.1 _) (y.st.2.plain _ _),aBn y2⟩
theorem bO{x:Str}{id:String}{F:FN}{p:Pos}(q:QN K X (.builtin id) F)(hm:∀i,(X i).mg x=none)(hv:bootBuiltins x=some (.builtin id))(y:MA K X (e::es) fa)(hg:∀i,Gl (X i) x:=by intro _;rfl)(hn:x≠"__name__":=by decide)(hd:(x==("__debug__":Str))=false:=by decide):
 ME K X (.Call (.Name x p) (e::es) [] pos) (aK F fa):=by
 obtain⟨r,q1,q2⟩:=q.ex;obtain⟨u,y1,y2⟩:=y.ex;exact⟨_,fun i=>qM (q1 i) (hg i) (hm i) hv (y1 i) hn hd (y.st.1 _) (y.st.2.plain _ _),aBL q2 y2⟩
theorem fT{x:Str}{id:String}{F:FN}{p:Pos}(q:QN K X (.type id) F)(hm:∀i,(X i).mg x=none)(hv:bootBuiltins x=some (.type id))(y:MA K X (e::es) fa)(hg:∀i,Gl (X i) x:=by intro _;rfl)(hn:x≠"__name__":=by decide)(hd:(x==("__debug__":Str))=false:=by decide):
 ME K X (.Call (.Name x p) (e::es) [] pos) (aK F fa):=by
 obtain⟨r,q1,q2⟩:=q.ex;obtain⟨u,y1,y2⟩:=y.ex;exact⟨_,fun i=>OB (q1 i) (hg i) (hm i) hv (y1 i) hn hd (y.st.1 _) (y.st.2.plain _ _),aBL q2 y2⟩
theorem zZ{T:String}{y:Str}{p p':Pos}(hK:∀i,(X i).K=K)(hT:T∈asked)(x:ME K X a f)(hs:QO a [.Name y p'])(hm:∀i,(X i).mg "isinstance"=none)(hmy:∀i,(X i).mg y=none)(hb:bootBuiltins y=some (.type T))(hg:∀i,Gl (X i) "isinstance":=by intro _;rfl)(hgy:∀i,Gl (X i) y:=by intro _;rfl)
 (hn:y≠"__name__":=by decide) (hd:(y==("__debug__":Str))=false:=by decide):ME K X (.Call (.Name "isinstance" p) [a,.Name y p'] [] pos) (BN T f):=by
 obtain⟨t,x1,x2⟩:=x.ex;refine⟨_,fun i=>qM (aHl (hK i)) (hg i) (hm i) boot_isinstance (iQ (x1 i) (iQ (uG (v:=.ty T) (hgy i) (hmy i) hb rfl hn hd) xD cL) (hs _)) (by decide) (by decide) (hs _) (lF cL sE),aCs hT x2⟩
theorem aAV{T U:String}{y z:Str}{p p' p'' p3:Pos}{k:Nat}(hK:∀i,(X i).K=K)(hT:T∈asked)(hU:U∈asked)(x:ME K X a f)(hs:QO a [.Tuple [.Name y p',.Name z p''] k p3])(hm:∀i,(X i).mg "isinstance"=none)(hmy:∀i,(X i).mg y=none)(hmz:∀i,(X i).mg z=none)
 (hb:bootBuiltins y=some (.type T)) (hbz:bootBuiltins z=some (.type U)) (hg:∀i,Gl (X i) "isinstance":=by intro _;rfl) (hgy:∀i,Gl (X i) y:=by intro _;rfl) (hgz:∀i,Gl (X i) z:=by intro _;rfl)
 (hn:y≠"__name__":=by decide) (hd:(y==("__debug__":Str))=false:=by decide) (hn':z≠"__name__":=by decide) (hd':(z==("__debug__":Str))=false:=by decide):ME K X (.Call (.Name "isinstance" p) [a,.Tuple [.Name y p',.Name z p''] k p3] [] pos) (IU T U f):=by
 obtain⟨t,x1,x2⟩:=x.ex;refine⟨_,fun i=>qM (aFz (hK i)) (hg i) (hm i) boot_isinstance (iQ (x1 i) (iQ (RG (iQ (uG (v:=.ty T) (hgy i) (hmy i) hb rfl hn hd) (iQ (uG (v:=.ty U) (hgz i) (hmz i) hbz rfl hn' hd') xD cL) cL)) xD uP) (hs _)) (by decide) (by decide) (hs _) (lF uP sE),aBe hT hU x2⟩
theorem lR(x:MT K X a ft):MT K X (.UnaryOp .Not a pos) (tS ft):=by
 obtain⟨t,x1,x2⟩:=x.ex;exact⟨_,fun i=>aDE (x1 i),aEg x2⟩
theorem aDd{rest:List Expr}(x:MT K X a ft)(y:MW K X (.BoolOp .And (b::rest) pos) gt):MW K X (.BoolOp .And (a::b::rest) pos) (aBk ft gt):=by
 obtain⟨t,x1,x2⟩:=x.ex;obtain⟨u,y1,y2⟩:=y.ex;exact⟨_,fun i=>aCH (x1 i) (y1 i),aFx x2 y2⟩
theorem YN(x:MT K X a ft):MW K X (.BoolOp .And [a] pos) ft:=by
 obtain⟨t,x1,x2⟩:=x.ex;exact⟨_,fun i=>aAJ (x1 i),x2⟩
theorem vQ{rest:List Expr}(x:MT K X a ft)(y:MW K X (.BoolOp .Or (b::rest) pos) gt):MW K X (.BoolOp .Or (a::b::rest) pos) (gOr ft gt):=by
 obtain⟨t,x1,x2⟩:=x.ex;obtain⟨u,y1,y2⟩:=y.ex;exact⟨_,fun i=>aGg (x1 i) (y1 i),aGh x2 y2⟩
theorem rB(x:MT K X a ft):MW K X (.BoolOp .Or [a] pos) ft:=by
 obtain⟨t,x1,x2⟩:=x.ex;exact⟨_,fun i=>aEU (x1 i),x2⟩
theorem GG(x:MW K X a ft):MT K X a ft:=by
 obtain⟨t,x1,x2⟩:=x.ex;exact⟨_,fun i=>(x1 i).pt,x2⟩
theorem fO{op:CmpOp}{k:F2}(q:Q2 K X (compareOp op) k)(x:ME K X a f)(y:ME K X b g)(hm:behindInMarks op b=false:=by rfl):MT K X (.Compare a [op] [b] pos) (gB (fOp k f g)):=by
 obtain⟨r,q1,q2⟩:=q.ex;obtain⟨t,x1,x2⟩:=x.ex;obtain⟨u,y1,y2⟩:=y.ex;exact⟨_,fun i=>aAj (q1 i) (x1 i) (y1 i) hm,YL (IZ q2 x2 y2)⟩
theorem jH(x:ME K X a f)(he:∀(env:Env)(whole:Sem Value),isTrue a env whole=(do let v <- whole;standAt a.pos;holding [v] (truthy v)):=by intro _ _;rfl):MT K X a (gB f):=by
 obtain⟨t,x1,x2⟩:=x.ex;exact⟨_,fun i=>aDP (x1 i) (he _),YQ x2⟩
theorem WW(hK:∀i,(X i).K=K)(x:ME K X a f)(he:∀(env:Env)(whole:Sem Value),isTrue a env whole=(do let v <- whole;standAt a.pos;holding [v] (truthy v)):=by intro _ _;rfl):MT K X a (xK f):=by
 obtain⟨t,x1,x2⟩:=x.ex;exact⟨_,fun i=>aAs (hK i) (x1 i) (he _),aBd x2⟩
theorem lM{tg:Expr}{p:Pos}(hm:∀i,(X i).mg "range"=none)(x:MA K X [a] fa)(hg:∀i,Gl (X i) "range":=by intro _;rfl):MI K X tg (.Call (.Name "range" p) [a] [] pos) (dW fa):=by
 obtain⟨t,x1,x2⟩:=x.ex;exact⟨_,fun i=>LJ (hg i) (hm i) (x1 i) (x.st.1 _),YD x2⟩
theorem AS{tg:Expr}{p:Pos}(hm:∀i,(X i).mg "range"=none)(x:MA K X [a,b] fa)(hg:∀i,Gl (X i) "range":=by intro _;rfl):MI K X tg (.Call (.Name "range" p) [a,b] [] pos) (nT fa):=by
 obtain⟨t,x1,x2⟩:=x.ex;exact⟨_,fun i=>NI (hg i) (hm i) (x1 i) (by rw[x.st.1,x.st.2.1];rfl) (by rw[x.st.2.1];rfl),aBf x2⟩
theorem kM{tg:Expr}(hK:∀i,(X i).K=K)(x:ME K X a f):MI K X tg a (cF f):=by
 obtain⟨t,x1,x2⟩:=x.ex;exact⟨_,fun i=>JZ (hK i) (x1 i),aEv x2⟩
theorem aS(i:Nat){x:Str}(hN:∀j,(X j).N.Nodup)(hi:∀j,(X j).N[i]?=some x:=by intro _;rfl)(hx:∀j,Loc (X j).env.scope x:=by intro _;first|exact Or.inl rfl|exact Or.inr rfl)(hf:∀j,(X j).fn x=true\/(X j).env.scope.names.lookup x=some .local:=by intro _;first|exact .inl rfl|exact .inr rfl):
 MG K X (.Name x pos) (hName i):=⟨_,fun j=>aAc (hN j) (hi j) (hx j) (hf j),tZ⟩
theorem iL:MGs K X [] gK:=⟨_,fun _=>ZK,aBp⟩
theorem bN{gf:GF}{gs:GsF}(x:MG K X e gf)(y:MGs K X es gs)(hs:∀env:Env,(assignEach (e::es) env).map (·.2)=assign e env::(assignEach es env).map (·.2):=by intro _;rfl):MGs K X (e::es) (aY gf gs):=by
 obtain⟨t,x1,x2⟩:=x.ex;obtain⟨u,y1,y2⟩:=y.ex;exact⟨_,fun i=>UV (x1 i) (y1 i) (hs _),XW x2 y2⟩
theorem nR{gs:GsF}{k n:Nat}(hK:∀i,(X i).K=K)(hc:∀i,(X i).calm=true)(x:MGs K X es gs)(hn:∀env:Env,(assignEach es env).length=n:=by intro _;rfl)(hst:∀env:Env,(assignEach es env).findIdx? (·.1)=none:=by intro _;rfl):MG K X (.Tuple es k pos) (iP n gs):=by
 obtain⟨t,x1,x2⟩:=x.ex;exact⟨_,fun i=>YS (hK i) (hc i) (x1 i) (hn _) (hst _),aDT x2⟩
theorem BK{s:F3}(q:QS K X s)(x:ME K X a f)(y:ME K X b g) (hs:∀(env:Env)(v:Value),assign (.Subscript a b pos) env v=(do
 let ov <- holding [v] (eval a env);let iv <- holding [v,ov] (eval b env)
 standAt pos
 holding [v,ov,iv] (setItem ov iv v)
 release [v,ov,iv] []):=by intro _ _;rfl):MG K X (.Subscript a b pos) (hSub f g s):=by
 obtain⟨r,q1,q2⟩:=q.ex;obtain⟨t,x1,x2⟩:=x.ex;obtain⟨u,y1,y2⟩:=y.ex;exact⟨_,fun i=>aCG (x1 i) (y1 i) (q1 i) (hs _),aDA q2 x2 y2⟩
theorem nY:MF K X [] gV:=⟨_,fun _=>SR,aFr⟩
theorem aEQ(x:MT K X c ft):MF K X [c] ft:=by
 obtain⟨t,x1,x2⟩:=x.ex;exact⟨_,fun i=>RK (x1 i),x2⟩
noncomputable abbrev LcI(ι:Type):Type:=ι×Addr×Shared×Hp×List Addr×List (Addr×Obj)
noncomputable def qW(X:ι->Cx)(N':List Str)(scope:Scope):LcI ι->Cx:=fun j=>kQ (X j.1) N' scope j.2.1 j.2.2.1 j.2.2.2.1 j.2.2.2.2.1 j.2.2.2.2.2
variable{N':List Str}{cap:List (Option Nat)}{scope:Scope}{tg iter elt:Expr}{ifs:List Expr}{gf:GF}
theorem yW(hc:∀i,(X i).calm=true)(S:∀i,qO (X i) N' cap scope)(x:MI K X tg iter fa)(y:MG K (qW X N' scope) tg gf)(z:MF K (qW X N' scope) ifs ft)(w:ME K (qW X N' scope) elt f)(hs:∀(env:Env)(x:Value),foldedSetIterable iter env x=pure x:=by intro _ _;rfl):
 ME K X (.ListComp elt [⟨tg,iter,ifs,0⟩] scope pos) (fLc cap fa gf ft f):=by
 obtain⟨t,x1,x2⟩:=x.ex;obtain⟨u,y1,y2⟩:=y.ex;obtain⟨v,z1,z2⟩:=z.ex;obtain⟨o,w1,w2⟩:=w.ex;exact⟨_,fun i=>aGI (hc i) (S i) (x1 i) (fun C s H fp pn=>y1 (i,C,s,H,fp,pn)) (fun C s H fp pn=>z1 (i,C,s,H,fp,pn)) (fun C s H fp pn=>w1 (i,C,s,H,fp,pn)) (hs _),aBU x2 y2 z2 w2⟩
theorem CY(i:Nat){x':Str}{pos' pos'':Pos}(hN:∀j,(X j).N.Nodup)(hc:∀i,(X i).calm=true)(S:∀i,qO (X i) N' cap scope)(x:MI K X tg iter fa)(y:MG K (qW X N' scope) tg gf)(z:MF K (qW X N' scope) ifs ft)(w:ME K (qW X N' scope) elt f)
 (hix:∀j,(X j).N[i]?=some x':=by intro _;rfl) (hsw:∀j,swapsWith (.ListComp elt [⟨tg,iter,ifs,0⟩] scope pos) (some (.Name x' pos')) pos''.line (X j).env=pure true:=by intro _;rfl) (hx:∀j,(X j).env.scope.names.lookup x'=some .local:=by intro _;rfl) (hs:∀(env:Env)(x:Value),foldedSetIterable iter env x=pure x:=by intro _ _;rfl):
 MS K X (.Assign [.Name x' pos'] (.ListComp elt [⟨tg,iter,ifs,0⟩] scope pos) pos'') (bG (fLc cap fa gf ft f) (hName i)):=by
 obtain⟨t,x1,x2⟩:=x.ex;obtain⟨u,y1,y2⟩:=y.ex;obtain⟨v,z1,z2⟩:=z.ex;obtain⟨o,w1,w2⟩:=w.ex;exact⟨_,fun j=>EI (hN j) (hix j) (hc j) (S j) (x1 j) (fun C s H fp pn=>y1 (j,C,s,H,fp,pn)) (fun C s H fp pn=>z1 (j,C,s,H,fp,pn)) (fun C s H fp pn=>w1 (j,C,s,H,fp,pn)) (hsw j) (hx j) (hs _),zV (aBU x2 y2 z2 w2) tZ⟩
theorem LN(i:Nat){x':Str}{pos' pos'':Pos}(hN:∀j,(X j).N.Nodup)(hc:∀i,(X i).calm=true)(S:∀i,qO (X i) N' cap scope)(x:MI K X tg iter fa)(y:MG K (qW X N' scope) tg gf)(z:MF K (qW X N' scope) ifs ft)(w:ME K (qW X N' scope) elt f)
 (hix:∀j,(X j).N[i]?=some x':=by intro _;rfl) (hsw:∀j,swapsWith (.ListComp elt [⟨tg,iter,ifs,0⟩] scope pos) (some (.Name x' pos')) pos''.line (X j).env=pure true:=by intro _;rfl) (hx:∀j,(X j).env.scope.names.lookup x'=some .local:=by intro _;rfl) (hs:∀(env:Env)(x:Value),foldedSetIterable iter env x=pure x:=by intro _ _;rfl):
 MS K X (.Assign [.Name x' pos'] (.ListComp elt [⟨tg,iter,ifs,0⟩] scope pos) pos'') (bG (PP cap fa gf ft f) (hName i)):=by
 obtain⟨t,x1,x2⟩:=x.ex;obtain⟨u,y1,y2⟩:=y.ex;obtain⟨v,z1,z2⟩:=z.ex;obtain⟨o,w1,w2⟩:=w.ex;exact⟨_,fun j=>EI (hN j) (hix j) (hc j) (S j) (x1 j) (fun C s H fp pn=>y1 (j,C,s,H,fp,pn)) (fun C s H fp pn=>z1 (j,C,s,H,fp,pn)) (fun C s H fp pn=>w1 (j,C,s,H,fp,pn)) (hsw j) (hx j) (hs _),zV (aDu x2 y2 z2 w2) tZ⟩
variable{st:Stmt}{sts:List Stmt}{sf sg:SF}
theorem eF:ML K X [] dN:=⟨_,fun _=>ZT,YU⟩
theorem aO(x:MS K X st sf):ML K X [st] sf:=by
 obtain⟨t,x1,x2⟩:=x.ex;exact⟨_,fun i=>IV (x1 i),x2⟩
theorem aL(x:MS K X st sf)(y:ML K X sts sg):ML K X (st::sts) (aR sf sg):=by
 obtain⟨t,x1,x2⟩:=x.ex;obtain⟨u,y1,y2⟩:=y.ex;exact⟨_,fun i=>CN (x1 i) (y1 i),aCJ x2 y2⟩
theorem bP(x:ME K X e f):MS K X (.Return (some e) pos) (dD f):=by
 obtain⟨t,x1,x2⟩:=x.ex;exact⟨_,fun i=>aEh (x1 i),aEp x2⟩
theorem eG(x:ME K X e f)(hs:∀i,swapsWith e none pos.line (X i).env=pure false:=by intro _;rfl):MS K X (.Expr e pos) (eL f):=by
 obtain⟨t,x1,x2⟩:=x.ex;exact⟨_,fun i=>KH (x1 i) (hs i),aAa x2⟩
theorem hV{sts':List Stmt}(x:MT K X c ft)(y:ML K X sts sf)(z:ML K X sts' sg):MS K X (.If c sts sts' pos) (sIf ft sf sg):=by
 obtain⟨t,x1,x2⟩:=x.ex;obtain⟨u,y1,y2⟩:=y.ex;obtain⟨v,z1,z2⟩:=z.ex;exact⟨_,fun i=>aCg (x1 i) (y1 i) (z1 i),aGq x2 y2 z2⟩
theorem FR(hp:∀i,PassesOwn (model (X i).prog (X i).w) (X i).A (X i).env (X i).xe)(x:MT K X c ft)(y:ML K X sts sf):MS K X (.While c sts [] pos) (pM ft sf):=by
 obtain⟨t,x1,x2⟩:=x.ex;obtain⟨u,y1,y2⟩:=y.ex;exact⟨_,fun i=>RX (hp i) (x1 i) (y1 i),QY x2 y2⟩
theorem gI(hp:∀i,PassesOwn (model (X i).prog (X i).w) (X i).A (X i).env (X i).xe)(hc:∀i,(X i).calm=true)(x:MI K X tg iter fa)(y:MG K X tg gf)(z:ML K X sts sf)(hs:∀(env:Env)(x:Value),foldedSetIterable iter env x=pure x:=by intro _ _;rfl):MS K X (.For tg iter sts [] pos) (jL fa gf sf):=by
 obtain⟨t,x1,x2⟩:=x.ex;obtain⟨u,y1,y2⟩:=y.ex;obtain⟨v,z1,z2⟩:=z.ex;exact⟨_,fun i=>QW (hp i) (hc i) (x1 i) (y1 i) (z1 i) (hs _),aDb x2 y2 z2⟩
theorem bJ(i:Nat){x':Str}{pos':Pos}(hN:∀j,(X j).N.Nodup)(x:ME K X e f)(hi:∀j,(X j).N[i]?=some x':=by intro _;rfl)(hx:∀j,Loc (X j).env.scope x':=by intro _;first|exact Or.inl rfl|exact Or.inr rfl)(hs:∀j,swapsWith e (some (.Name x' pos')) pos.line (X j).env=pure false:=by intro _;rfl)
 (hf:∀j,(X j).fn x'=true\/(X j).env.scope.names.lookup x'=some .local:=by intro _;first|exact .inl rfl|exact .inr rfl):MS K X (.Assign [.Name x' pos'] e pos) (bG f (hName i)):=by
 obtain⟨t,x1,x2⟩:=x.ex;exact⟨_,fun j=>aDV (hN j) (hi j) (hx j) (x1 j) (hs j) (hf j),zV x2 tZ⟩
theorem aCX(i j:Nat){x' y':Str}{px py pt pt2:Pos}{kt k2:Nat}(hc:∀j,(X j).calm=true)(hN:∀j,(X j).N.Nodup)(x:MA K X [a,b] fa)(hij:i≠j:=by decide)(hi:∀k,(X k).N[i]?=some x':=by intro _;rfl)(hj:∀k,(X k).N[j]?=some y':=by intro _;rfl)(hx:∀k,(X k).env.scope.names.lookup x'=some .local:=by intro _;rfl)(hy:∀k,(X k).env.scope.names.lookup y'=some .local:=by intro _;rfl)
 (h1:∀k,swappedStores [.Tuple [.Name x' px,.Name y' py] kt pt] (.Tuple [a,b] k2 pt2) (X k).env=pure (some [x',y']):=by intro _;rfl) (h2:∀k,swapsWithSole [.Tuple [.Name x' px,.Name y' py] kt pt] (.Tuple [a,b] k2 pt2) pos.line (X k).env=pure false:=by intro _;rfl):
 MS K X (.Assign [.Tuple [.Name x' px,.Name y' py] kt pt] (.Tuple [a,b] k2 pt2) pos) (XE i j fa):=by
 obtain⟨t,x1,x2⟩:=x.ex;exact⟨_,fun k=>aCV (hc k) (hN k) (hi k) (hj k) hij (hx k) (hy k) (x1 k) (h1 k) (h2 k),aEs x2⟩
theorem rM(x:ME K X e f)(y:MG K X tg gf)(h1:∀k,swapsWithSole [tg] e pos.line (X k).env=pure false:=by intro _;rfl)(h2:∀k,swappedStores [tg] e (X k).env=pure none:=by intro _;rfl)(h3:∀env:Env,(assignEach [tg] env).map (·.2)=[assign tg env]:=by intro _;rfl):MS K X (.Assign [tg] e pos) (bG f gf):=by
 obtain⟨t,x1,x2⟩:=x.ex;obtain⟨u,y1,y2⟩:=y.ex;exact⟨_,fun k=>aEZ (x1 k) (y1 k) (h1 k) (h2 k) (h3 _),zV x2 y2⟩
theorem cW(hK:∀i,(X i).K=K:=by intro _;rfl):Q2 K X (binaryOp .Add) bM:=⟨_,fun i=>aHp (hK i),YK⟩
theorem aBK:Q2 K X (binaryOp .Sub) TV:=⟨_,fun _=>aDq,aEi⟩
theorem oV:Q2 K X (binaryOp .Mult) sG:=⟨_,fun _=>ZI,aDl⟩
theorem XZ:Q2 K X (binaryOp .FloorDiv) wH:=⟨_,fun _=>WN,aAO⟩
theorem kW:Q2 K X (binaryOp .Mod) iJ:=⟨_,fun _=>aFe,aDZ⟩
theorem aBG:Q2 K X (binaryOp .Pow) ER:=⟨_,fun _=>aCA,aCC⟩
theorem VX:Q1 K X (unaryOp .USub) EC:=⟨_,fun _=>aDO,aFo⟩
theorem aAm:Q2 K X (compareOp .Lt) ltI:=⟨_,fun _=>op_lt,aBE⟩
theorem aHA:Q2 K X (compareOp .LtE) leI:=⟨_,fun _=>aFN,aGE⟩
theorem aEI:Q2 K X (compareOp .Gt) gtI:=⟨_,fun _=>aGi,aGP⟩
theorem aGc:Q2 K X (compareOp .GtE) geI:=⟨_,fun _=>aFG,aGD⟩
theorem DK(hK:∀i,(X i).K=K)(hu:∀i,(X i).A.units+64<cLine):Q2 K X (compareOp .Eq) (eqX false):=⟨_,fun i=>kEq (hK i) (hu i),TC⟩
theorem GH(hK:∀i,(X i).K=K)(hu:∀i,(X i).A.units+64<cLine):Q2 K X (compareOp .NotEq) (eqX true):=⟨_,fun i=>kNe (hK i) (hu i),aDR⟩
theorem cB(hK:∀i,(X i).K=K:=by intro _;rfl):QI K X ixF:=⟨_,fun i=>kIx (hK i),aEu⟩
theorem iH(hK:∀i,(X i).K=K:=by intro _;rfl):QN K X (.builtin "len") bW:=⟨_,fun i=>aHy (hK i),aAz⟩
theorem aCt(hK:∀i,(X i).K=K):QN K X (.type "list") uW:=⟨_,fun i=>aCl (hK i),WS⟩
theorem uD(hK:∀i,(X i).K=K):QN K X (.type "tuple") eZ:=⟨_,fun i=>aEK (hK i),LY⟩
theorem aBY(hK:∀i,(X i).K=K)(hc:∀i,(X i).calm=true):QN K X (.builtin "all") DN:=⟨_,fun i=>aHw (hK i) (hc i),aAt⟩
theorem aFU(hK:∀i,(X i).K=K)(hc:∀i,(X i).calm=true):QN K X (.builtin "any") anyF:=⟨_,fun i=>aHu (hK i) (hc i),ZE⟩
theorem LA:QS K X pQ:=⟨_,fun _=>set_list,aFu⟩
end
section
variable{P:Program}{w:World}{K:Fg}{mg:Str->Option Value}
theorem Def.okG{base:Heap}{x:Str}{st:Stmt}{N ps:List Str}{k:Nat}{b:SF}{q:Bool}(D:Def K mg x st)(S:aT N ps (aJ st))
 (hb:∀(kV doc pm:Value)(an:Option Addr)(cdv ct:Value)(us:List Value),us.length=ps.length->bindArgs (PySem.W.fnOf x x (fW st) (cK st) (aJ st) .none kV doc pm an cdv ct) ⟨us,[]⟩=pure (ps.zip us))
 (hbody:∀(f:Addr)(cdv:Value)(A:Around)(outer:List Env)(s:Shared)(H:Hp)(E:XK),dF k (A.deeper (envOfC x (aJ st) s.heap.objs.size f cdv)) q->
  ML K (fun _:Unit=>(lP CX0 P w K mg base N x (aJ st) f cdv A outer s H E q).nox) (cK st) b):Callee P w K mg base (k+1) x ps (spM K (fnF ps.length N.length b)) q:=
 D.okM S hb fun f cdv A outer s H E hr=>by
  obtain⟨t,h1,h2⟩:=(hbody f cdv A outer s H E hr).ex;exact⟨t,h1 (),h2⟩
theorem Def.okLG{x p:Str}{st:Stmt}{N:List Str}{k:Nat}{b:SF}{F:FN}(D:Def K mg x st)(S:aT N [p] (aJ st))(hF:F=fnF 1 N.length b)
 (hb:∀(kV doc pm:Value)(an:Option Addr)(cdv ct:Value)(us:List Value),us.length=[p].length->bindArgs (PySem.W.fnOf x x (fW st) (cK st) (aJ st) .none kV doc pm an cdv ct) ⟨us,[]⟩=pure ([p].zip us))
 (hbody:∀(base:Heap)(f:Addr)(cdv:Value)(A:Around)(outer:List Env)(s:Shared)(H:Hp)(E:XK),dF k (A.deeper (envOfC x (aJ st) s.heap.objs.size f cdv))->
  ML K (fun _:Unit=>(lP CX0 P w K mg base N x (aJ st) f cdv A outer s H E).nox) (cK st) b):
 ∃f fd,mg x=some (.ref f)/\(∀(s:Shared)(u:Value),BindsTo s fd ⟨[u],[]⟩ [(p,u)])/\∀base,oQ P w K mg base CX0 (k+1) f fd [p] (spM K F):=
 D.okL S hF hb fun base f cdv A outer s H E hr=>by
  obtain⟨t,h1,h2⟩:=(hbody base f cdv A outer s H E hr).ex;exact⟨t,h1 (),h2⟩
end
end L2
namespace HT
open PySem PyProof.Rows PySem.Spec
section
variable{prog:Program}{w:World}{A:Around}{E:Value->Shared->Prop}{s:Shared}
theorem getItem_tuple_whole{t sl:Addr}{items:Array Value}{vl vu:Value}{lo hi:Option Int}{Q:Value->Shared->Prop}(ht:IsTup s.heap t items)(hs:s.heap.IsSliceOf sl vl vu .none)(pl:IsPart vl lo)(pu:IsPart vu hi)
 (hw:sIx items.size 0 lo=0/\sIx items.size items.size hi=items.size) (h:Q (.ref t) s):wpAny (model prog w) A (getItem (.ref t) (.ref sl)) Q E s:=by
 obtain⟨os,hos,hcs,hds⟩:=id hs;have hTs:s.TypeIs (.ref sl) "slice":=⟨os,hos,hcs⟩;unfold getItem
 try with_reducible refine L4 ?_
 first|refine A4 (B7 ?_)|skip
 refine A4 (wpAny_sequenceKey ht.typeIs (by decide) ?_)
 refine A4 (U1 (name:=Str.ofString "__getitem__") ht.typeIs F8
  (Y7 F8 ht.typeIs entry_tuple_getitem ?_ (args_tuple_getitem _ _)))
 show wpAny _ _ (Builtin.Tuple.tupleItemsOf (.ref t) >>= _) _ _ s;refine A4 (tupleItemsOf_ ht ?_);refine A4 (A0e hTs ?_);rw[A7 (by decide)];refine A4 (kX hs pl pu ?_)
 have hyes:(((sIx items.size 0 lo:Nat):Int)==0&&(1:Int)==1&&(sIx items.size items.size hi-sIx items.size 0 lo)==items.size)=true:=by
  rw[hw.1,hw.2];simp
 show wpAny _ _ (if (((sIx items.size 0 lo:Nat):Int)==0&&(1:Int)==1&&(sIx items.size items.size hi-sIx items.size 0 lo)==items.size)=true then _ else _) _ _ s;rw[A7 hyes];refine A4 (m:=Builtin.Tuple.tupleIsExact (.ref t)) ?_;unfold Builtin.Tuple.tupleIsExact;refine A4 (A0e ht.typeIs (B7 ?_));rw[A7 (by decide)];exact A4 (wpAny_rule (B7 ⟨_,rfl,B7 h⟩))
end
end HT
namespace L2
variable{W:Wd}{H:Hp}{apos cpos pos:Pos}{K:Fg}{M:Sto}
open PySem PySem.Spec PyProof.Rows
noncomputable def aGy(K:Fg):V->Option Int->Option Int->Hp->VK->Prop:=fun x lo hi H Q=>∃a xs,x=.ref a/\SqT K H a xs/\(HT.sIx xs.length 0 lo=0/\HT.sIx xs.length xs.length hi=xs.length)/\Q (.ref a) H
theorem RD{X:Cx}:SlR X (aGy X.K):=by
 intro pins s σ H x v vl vu lo hi sl Q I rx hs pl pu h;obtain⟨a,xs,rfl,hx,hw,q⟩:=h;cases rx;obtain⟨its,r,ht,hz⟩:=I.tuple hx;have hlen:its.toArray.size=xs.length:=by rw[C4];exact r.length.symm
 refine⟨"tuple",_,PyProof.Rows.slot_tuple_getitem.lookup,ht.typeIs,?_⟩;exact HT.getItem_tuple_whole ht hs pl pu (by rw[hlen];exact hw) ⟨.ref a,H,I,rfl,q⟩
noncomputable def bT{α:Type}(xs:List α)(lo hi:Option Int):List α:=(xs.drop (HT.sIx xs.length 0 lo)).take (HT.sIx xs.length xs.length hi-HT.sIx xs.length 0 lo)
noncomputable abbrev OF:=Ga->Sto->Option (Option Int×Sto)
noncomputable def bF:OF:=fun _ M=>some (none,M)
noncomputable def asI:CD->Option Int
 |.d (.int i)=>some i
 |_=>none
noncomputable def bY(f:EF):OF:=fun γ M=>(f γ M).bind fun r=>(asI r.1).bind fun i=>some (some i,r.2)
noncomputable def slF(x:CD)(lo hi:Option Int)(M:Sto):Option (CD×Sto):=match x with
 |.d (.list ds)=>some (.d (.list (bT ds lo hi)),M)
 |.d (.tuple ds)=>some (.d (.tuple (bT ds lo hi)),M)
 |.c i=>match M[i]? with
  |some (.lst xs)=>(kZ (bT xs lo hi)).bind fun ds=>some (.d (.list ds),M)
  |_=>none
 |_=>none
noncomputable def fSl(f:EF)(l u:OF):EF:=fun γ M=>(f γ M).bind fun r=>(l γ r.2).bind fun p=>(u γ p.2).bind fun q=>slF r.1 p.1 q.1 q.2
noncomputable def aCQ(K:Fg):V->Option Int->Option Int->Hp->VK->Prop:=fun x lo hi H Q=>aGN K x lo hi H Q\/aGp K x lo hi H Q\/aGy K x lo hi H Q
theorem kSl{X:Cx}(h:X.K=K):SlR X (aCQ K):=by subst h;exact sl_list.or (sl_tup.or RD)
section
variable{K:Fg}
noncomputable def SO(K:Fg)(t:TO)(f:OF):Prop:=∀γ M b M',f γ M=some (b,M')->∀(W:Wd)(H:Hp)(σ:St)(Q:Option Int->Hp->Prop),Good K W M H->cJ K W γ σ->(∀W' H',W.Ext W'->Good K W' M' H'->Q b H')->t σ H Q
theorem ZM:SO K IX bF:=by
 intro γ M x M' hh W H σ Q G R k;cases hh;exact k W H (.refl _) G
theorem aEx{x:CD}{i:Int}(h:asI x=some i):x=.d (.int i):=by
 cases x with
 |c n=>cases h
 |t n=>cases h
 |f n=>cases h
 |d x=>cases x<;>first|cases h;rfl|cases h
theorem ZV{ta:TE}{f:EF}(a:SE K ta f):SO K (aBW ta) (bY f):=by
 intro γ M x M' hh W H σ Q G R k;obtain⟨⟨y,M1⟩,h1,hh⟩:=aH hh;obtain⟨i,h2,hh⟩:=aH hh;cases hh;refine a _ _ _ _ h1 W H σ _ G R fun v W1 H1 e1 G1 r1=>?_;have hy:y=_:=aEx h2;subst hy;exact⟨i,r1,k W1 H1 e1 G1⟩
theorem aI.drop{H:Hp}:∀{ds:List PyData}{vs:List V}(n:Nat),aI K H ds vs->aI K H (ds.drop n) (vs.drop n)
 |_,_,0=>fun h=>h
 |[],vs,n+1=>fun h=>by rw[show vs=[]from h];rfl
 |d::ds,vs,n+1=>fun h=>by
  obtain⟨v,r,rfl,_,h3⟩:=h;exact aI.drop n h3
theorem aI.take{H:Hp}:∀{ds:List PyData}{vs:List V}(n:Nat),aI K H ds vs->aI K H (ds.take n) (vs.take n)
 |_,_,0=>fun h=>rfl
 |[],vs,n+1=>fun h=>by rw[show vs=[]from h];rfl
 |d::ds,vs,n+1=>fun h=>by
  obtain⟨v,r,rfl,h2,h3⟩:=h;exact⟨v,r.take n,rfl,h2,aI.take n h3⟩
theorem aI.cut{ds:List PyData}{vs:List V}(h:aI K H ds vs)(lo hi:Option Int):aI K H (bT ds lo hi) (sI vs lo hi):=by
 unfold bT sI;rw[h.length];exact(h.drop _).take _
theorem wZ{α β:Type}{R:α->β->Prop}:∀{xs:List α}{ys:List β}(n:Nat),Paired R xs ys->Paired R (xs.drop n) (ys.drop n)
 |_,_,0,h=>h
 |_,_,_+1,.nil=>.nil
 |_,_,n+1,.cons _ t=>wZ n t
theorem pF{α β:Type}{R:α->β->Prop}:∀{xs:List α}{ys:List β}(n:Nat),Paired R xs ys->Paired R (xs.take n) (ys.take n)
 |_,_,0,h=>.nil
 |_,_,_+1,.nil=>.nil
 |_,_,n+1,.cons r t=>.cons r (pF n t)
theorem ND{xs:List CD}{vs:List V}(h:bS K W xs vs)(lo hi:Option Int):bS K W (bT xs lo hi) (sI vs lo hi):=by
 unfold bT sI;rw[Paired.len h];exact pF _ (wZ _ h)
theorem TK{x:CD}{lo hi:Option Int}{z:CD}{M':Sto}(h:slF x lo hi M=some (z,M')){v:V}{Q:VK}(G:Good K W M H)(rx:bV K W x v)(k:∀w W' H',W.Ext W'->Good K W' M' H'->bV K W' z w->Q w H'):aCQ K v lo hi H Q:=by
 unfold slF at h;split at h
 .rename_i ds;cases h;obtain⟨p,us,rfl,hq,hr⟩:=(show ∃a us,_=V.ref a/\SqL K W.F a us/\aI K W.F ds us from rx);refine .inl ⟨p,us,rfl,G.fh.seq hq,fun l hl=>?_⟩;obtain⟨e2,G2⟩:=G.lay (o:=.lst (sI us lo hi)) hl;exact k _ _ _ e2 G2 ⟨l,_,rfl,SqL.of aN,aI.same e2.ff _ _ (hr.cut lo hi)⟩
 .rename_i ds;cases h;obtain⟨p,us,rfl,hq,hr⟩:=(show ∃a us,_=V.ref a/\SqT K W.F a us/\aI K W.F ds us from rx);by_cases hw:HT.sIx us.length 0 lo=0/\HT.sIx us.length us.length hi=us.length
  .refine .inr (.inr ⟨p,us,rfl,G.fh.seqT hq,hw,?_⟩)
   have e:bT ds lo hi=ds:=by
    unfold bT;rw[hr.length,hw.1,hw.2,<- hr.length];simp
   rw[e]at k;exact k _ W H (.refl _) G ⟨p,us,rfl,hq,hr⟩
  .refine .inr (.inl ⟨p,us,rfl,G.fh.seqT hq,hw,fun l hl=>?_⟩);obtain⟨e2,G2⟩:=G.lay (o:=.tup (sI us lo hi)) hl;exact k _ _ _ e2 G2 ⟨l,_,rfl,SqT.of aN,aI.same e2.ff _ _ (hr.cut lo hi)⟩
 .rename_i i;split at h
  .rename_i xs hx;obtain⟨ds,h1,h⟩:=aH h;cases h;obtain⟨us,hv,hr⟩:=G.lstAt hx;rw[rx.2];refine .inl ⟨_,us,rfl,SqL.of hv,fun l hl=>?_⟩;obtain⟨e2,G2⟩:=G.lay (o:=.lst (sI us lo hi)) hl;exact k _ _ _ e2 G2 ⟨l,_,rfl,SqL.of aN,aI.same e2.ff _ _ (dI h1 (ND hr lo hi))⟩
  .cases h
 .cases h
theorem aFF{ta:TE}{f:EF}{tl th:TO}{l u:OF}(a:SE K ta f)(b:SO K tl l)(c:SO K th u):SE K (tSl (aCQ K) ta tl th) (fSl f l u):=by
 intro γ M x M' hh W H σ Q G R k;obtain⟨⟨y,M1⟩,h1,hh⟩:=aH hh;obtain⟨⟨p,M2⟩,h2,hh⟩:=aH hh;obtain⟨⟨q,M3⟩,h3,hh⟩:=aH hh;refine a _ _ _ _ h1 W H σ _ G R fun v W1 H1 e1 G1 r1=>?_;refine b _ _ _ _ h2 W1 H1 σ _ G1 (R.up e1) fun W2 H2 e2 G2=>?_;refine c _ _ _ _ h3 W2 H2 σ _ G2 (R.up (e1.trans e2)) fun W3 H3 e3 G3=>?_;exact TK hh G3 (r1.up (e2.trans e3)) fun w W4 H4 e4 G4 r4=>k w W4 H4 (((e1.trans e2).trans e3).trans e4) G4 r4
noncomputable def AB:FN:=fun xs M=>match xs with
 |[.d (.int i)]=>some (.d (.int i),M)
 |[.d (.bool b)]=>some (.d (.int (if b then 1 else 0)),M)
 |_=>none
theorem aEr:PN K (fun xs H Q=>(∃i,xs=[.int i]/\Q (.int i) H)\/∃k,xs=[.bl k]/\Q (.int (if k then 1 else 0)) H) AB:=by
 intro xs M z M' h W H vs Q G r k;unfold AB at h;split at h
 .rename_i i;cases h;rcases r with _|⟨r1,_|_⟩;exact .inl ⟨i,by rw[show _=V.int i from r1],k _ W H (.refl _) G rfl⟩
 .rename_i b;cases h;rcases r with _|⟨r1,_|_⟩;exact .inr ⟨b,by rw[show _=V.bl b from r1],k _ W H (.refl _) G rfl⟩
 .cases h
noncomputable def tyB(T:String)(M:Sto):CD->Bool
 |.d (.list _)=>T=="list"
 |.d (.str _)=>T=="str"
 |.c i=>match M[i]? with
  |some (.lst _)=>T=="list"
  |some (.dk _)=>T=="dict"
  |some (.dt _)=>T=="dict"
  |_=>false
 |_=>false
theorem RS{T:String}{x:CD}{v:V}(h:tyB T M x=true)(G:Good K W M H)(r:bV K W x v):tyV K T v H:=by
 unfold tyB at h;split at h
 .rename_i ds;obtain⟨p,us,rfl,hq,hr⟩:=(show ∃a us,_=V.ref a/\SqL K W.F a us/\aI K W.F ds us from r);exact .inl ⟨eq_of_beq h,us,G.fh.seq hq⟩
 .rename_i x;rw[show v=.str x from r];exact eq_of_beq h
 .rename_i i;rw[r.2];split at h
  .rename_i xs hx;obtain⟨us,hv,hr⟩:=G.lstAt hx;exact .inl ⟨eq_of_beq h,us,SqL.of hv⟩
  .rename_i kvs hx;obtain⟨_,o,g2,g3⟩:=G.cs i _ hx (by intro z;cases z);cases o with
   |dK us=>exact .inr (.inr (.inl ⟨eq_of_beq h,.inl ⟨us,g2⟩⟩))
   |_=>exact False.elim g3
  .rename_i kvs hx;obtain⟨_,o,g2,g3⟩:=G.cs i _ hx (by intro z;cases z);cases o with
   |dT us=>exact .inr (.inr (.inl ⟨eq_of_beq h,.inr ⟨us,g2⟩⟩))
   |_=>exact False.elim g3
  .cases h
 .cases h
noncomputable abbrev FM:=CD->List CD->Sto->Option (CD×Sto)
noncomputable def bH(T:String)(h:FM)(f:EF)(fa:AF):EF:=fun γ M=>(f γ M).bind fun r=>if tyB T r.2 r.1=true then(fa γ r.2).bind fun q=>h r.1 q.1 q.2 else none
noncomputable def PM(K:Fg)(r:V->List V->Hp->VK->Prop)(f:FM):Prop:=∀x xs M z M',f x xs M=some (z,M')->∀(W:Wd)(H:Hp)(v:V)(vs:List V)(Q:VK),Good K W M H->bV K W x v->bS K W xs vs->(∀w W' H',W.Ext W'->Good K W' M' H'->bV K W' z w->Q w H')->r v vs H Q
theorem aAf{T:String}{r:V->List V->Hp->VK->Prop}{h:FM}{ta:TE}{f:EF}{tA:TA}{fa:AF}(p:PM K r h)(a:SE K ta f)(b:SA K tA fa):SE K (tBM K T r ta tA) (bH T h f fa):=by
 intro γ M x M' hh W H σ Q G R k;obtain⟨⟨y,M1⟩,h1,hh⟩:=aH hh;by_cases hT:tyB T M1 y=true
 .have hh:(if tyB T M1 y=true then(fa γ M1).bind fun q=>h y q.1 q.2 else none)=some (x,M'):=hh;rw[A7 hT]at hh;obtain⟨⟨ys,M2⟩,h2,hh⟩:=aH hh;refine a _ _ _ _ h1 W H σ _ G R fun v W1 H1 e1 G1 r1=>⟨RS hT G1 r1,?_⟩;refine b _ _ _ _ h2 W1 H1 σ _ G1 (R.up e1) fun vs W2 H2 e2 G2 r2=>?_;exact p _ _ _ _ _ hh W2 H2 v vs Q G2 (r1.up e2) r2 fun w W3 H3 e3 G3 r3=>k w W3 H3 ((e1.trans e2).trans e3) G3 r3
 .have hh:(if tyB T M1 y=true then(fa γ M1).bind fun q=>h y q.1 q.2 else none)=some (x,M'):=hh;rw[B0 hT]at hh;cases hh
theorem CC{T:String}{r:V->List V->Hp->VK->Prop}{h:FM}{ta:TE}{f:EF}(p:PM K r h)(a:SE K ta f):SE K (aGs K T r ta) (bH T h f aF):=by
 intro γ M x M' hh W H σ Q G R k;obtain⟨⟨y,M1⟩,h1,hh⟩:=aH hh;have hh:(if tyB T M1 y=true then h y [] M1 else none)=some (x,M'):=hh;by_cases hT:tyB T M1 y=true
 .rw[A7 hT]at hh;refine a _ _ _ _ h1 W H σ _ G R fun v W1 H1 e1 G1 r1=>⟨RS hT G1 r1,?_⟩;exact p _ _ _ _ _ hh W1 H1 v [] Q G1 r1 .nil fun w W3 H3 e3 G3 r3=>k w W3 H3 (e1.trans e3) G3 r3
 .rw[B0 hT]at hh;cases hh
noncomputable def bB:FM:=fun x ys M=>match x,ys with
 |.c i,[y]=>match M[i]? with
  |some (.lst xs)=>if xs.length<sizeLine then some (.d .none,M.set i (.lst (xs++[y])))else none
  |_=>none
 |_,_=>none
theorem NY:PM K IM bB:=by
 intro x ys M z M' h W H v vs Q G rx rs k;unfold bB at h;split at h
 .rename_i i y;split at h
  .rename_i xs hx;by_cases hl:xs.length<sizeLine
   .rw[A7 hl]at h;cases h;obtain⟨us,hv,hr⟩:=G.lstAt hx;rcases rs with _|⟨r1,_|_⟩;refine⟨W.α i,us,_,rx.2,rfl,hv,by rw[<- Paired.len hr];exact hl,?_⟩;exact k _ W _ (.refl _) (G.set hx (by intro q;cases q) (c':=.lst (xs++[y])) (show bS K W _ _ from Paired.app hr (.cons r1 .nil))) rfl
   .rw[B0 hl]at h;cases h
  .cases h
 .cases h
noncomputable def iR:FM:=fun x ys M=>match x,ys with
 |.c i,[]=>match M[i]? with
  |some (.lst xs)=>(xs[xs.length-1]?).bind fun y=>some (y,M.set i (.lst xs.dropLast))
  |_=>none
 |_,_=>none
theorem uT{α β:Type}{R:α->β->Prop}{xs:List α}{ys:List β}(h:Paired R xs ys):Paired R xs.dropLast ys.dropLast:=by
 rw[List.dropLast_eq_take,List.dropLast_eq_take,Paired.len h];exact pF _ h
theorem aDS:PM K aGH iR:=by
 intro x ys M z M' h W H v vs Q G rx rs k;unfold iR at h;split at h
 .rename_i i;split at h
  .rename_i xs hx;obtain⟨y,h1,h⟩:=aH h;cases h;obtain⟨us,hv,hr⟩:=G.lstAt hx;obtain⟨u,hu,ru⟩:=Paired.get hr h1;cases rs;refine⟨W.α i,us,u,rx.2,rfl,hv,by rw[<- Paired.len hr];exact hu,?_⟩;exact k _ W _ (.refl _) (G.set hx (by intro q;cases q) (c':=.lst xs.dropLast) (show bS K W _ _ from uT hr)) ru
  .cases h
 .cases h
end
section
variable{ι:Type}{K:Fg}{X:ι->Cx}{a b c e o:Expr}{es:List Expr}{f g h:EF}{fa:AF}{pos:Pos}
structure MO(K:Fg)(X:ι->Cx)(e:Option Expr)(f:OF):Prop where
 ex:∃t,(∀i,PO (X i) e t)/\SO K t f
theorem dH:MO K X none bF:=⟨_,fun _=>aBu,ZM⟩
theorem cN(x:ME K X e f):MO K X (some e) (bY f):=by
 obtain⟨t,x1,x2⟩:=x.ex;exact⟨_,fun i=>aAe (x1 i),ZV x2⟩
theorem hG{lo hi:Option Expr}{l u:OF}{p2:Pos}(hK:∀i,(X i).K=K)(x:ME K X a f)(y:MO K X lo l)(z:MO K X hi u):ME K X (.Subscript a (.Slice lo hi none p2) pos) (fSl f l u):=by
 obtain⟨t,x1,x2⟩:=x.ex;obtain⟨t',y1,y2⟩:=y.ex;obtain⟨t'',z1,z2⟩:=z.ex;exact⟨_,fun i=>RO (kSl (hK i)) (x1 i) (y1 i) (z1 i),aFF x2 y2 z2⟩
theorem WU:QN K X (.type "int") AB:=⟨_,fun _=>NU,aEr⟩
theorem cS(hK:∀i,(X i).K=K)(x:ME K X o f)(y:MA K X [e] fa)(hb:∀env:Env,attributeBase o "append" env (eval o env)=eval o env:=by intro _;rfl)(hl:(apos.endLine==cpos.line)=true:=by rfl):
 ME K X (.Call (.Attribute o "append" apos) [e] [] cpos) (bH "list" bB f fa):=by
 obtain⟨t,x1,x2⟩:=x.ex;obtain⟨u,y1,y2⟩:=y.ex;refine⟨_,fun i=>?_,aAf NY x2 y2⟩;have:=aHa PySem.F.plainAttrs_list PySem.F.slot_list_append PySem.F.type_list_append OW (x1 i) (y1 i) (apos:=apos) (cpos:=cpos) (hb _) (by rw[y.st.1];rfl) hl (y.st.1 _) (y.st.2.plain _ _);rw[hK i]at this;exact this
theorem rR(hK:∀i,(X i).K=K)(x:ME K X o f)(hb:∀env:Env,attributeBase o "pop" env (eval o env)=eval o env:=by intro _;rfl)(hl:(apos.endLine==cpos.line)=true:=by rfl):
 ME K X (.Call (.Attribute o "pop" apos) [] [] cpos) (bH "list" iR f aF):=by
 obtain⟨t,x1,x2⟩:=x.ex;refine⟨_,fun i=>?_,CC aDS x2⟩;have:=OY PySem.F.plainAttrs_list PySem.F.slot_list_pop PySem.F.type_list_pop aEH (x1 i) (apos:=apos) (cpos:=cpos) (hb _) hl;rw[hK i]at this;exact this
end
theorem Good.freeze(g:Good K W M H){i:Nat}{c:Cell}{o':HO}(hi:M[i]?=some c)(hc:c≠.dead):
 W.Ext { W with F:=upd W.F (W.α i) o' }/\Good K { W with F:=upd W.F (W.α i) o' } (M.set i .dead) (upd H (W.α i) o'):=by
 obtain⟨h1,o,h2,h3⟩:=g.cs i c hi hc;have lt:i<M.length:=(List.getElem?_eq_some_iff.mp hi).1;have e:W.Ext { W with F:=upd W.F (W.α i) o' }:=⟨gY.upd h1,B1 _,fun _ _=>rfl⟩
 have at_:∀j d,(M.set i .dead)[j]?=some d->d≠.dead->j≠i/\M[j]?=some d:=fun j d h hd=>by
  by_cases q:i=j
  .subst q;rw[J1 lt]at h;exact absurd (D5 h).symm hd
  .rw[J7 q]at h;exact⟨fun z=>q z.symm,h⟩
 refine⟨e,?_,by show W.n=_;rw[g.n,O3],fun j d hj hd=>?_,fun j k d1 d2 hj hk e1 e2 he=>?_⟩
 .intro b u hb;have hb:upd W.F (W.α i) o' b=some u:=hb;by_cases q:b=W.α i
  .subst q;rw[aN]at hb;rw[aN];exact hb
  .rw[aM q]at hb;rw[aM q];exact g.fh b u hb
 .obtain⟨q,h⟩:=at_ j d hj hd;obtain⟨k1,u,k2,k3⟩:=g.cs j d h hd;have ne:W.α j≠W.α i:=fun z=>q (g.inj j i d c h hi hd hc z);exact⟨by show upd W.F (W.α i) o' (W.α j)=none;rw[aM ne];exact k1,u,by rw[aM ne];exact k2,k3.up e⟩
 .exact g.inj j k d1 d2 (at_ j d1 hj e1).2 (at_ k d2 hk e2).2 e1 e2 he
noncomputable def mQ:EF:=fun _ M=>some (.d (.dict []),M)
theorem UF:SE K ID mQ:=by
 intro γ M x M' hh W H σ Q G R k;cases hh;intro p hp;obtain⟨e2,G2⟩:=G.lay (o:=.dK []) hp;exact k _ _ _ e2 G2 ⟨p,[],rfl,aN,rfl⟩
noncomputable def rF:List (EF×EF)->Ga->Sto->Option (List (CD×CD)×Sto)
 |[],_,M=>some ([],M)
 |(f,g)::r,γ,M=>(f γ M).bind fun a=>(g γ a.2).bind fun b=>(rF r γ b.2).bind fun q=>some ((a.1,b.1)::q.1,q.2)
noncomputable def keyOf:CD->Option Key
 |.d (.int i)=>some (.inl i)
 |.d (.str x)=>some (.inr x)
 |_=>none
noncomputable def keyed:List (CD×CD)->Option (List (Key×PyData))
 |[]=>some []
 |(k,.d x)::r=>(keyOf k).bind fun k'=>(keyed r).bind fun q=>some ((k',x)::q)
 |_=>none
noncomputable def yI(fs:List (EF×EF)):EF:=fun γ M=>(rF fs γ (M++[.dk []])).bind fun r=>match r.2[M.length]? with
 |some (.dk [])=>(keyed r.1).bind fun kvs=>if kvs.length<=15/\(kvs.map (·.1)).Nodup then some (.d (.dict (kvs.map fun p=>(aBt p.1,p.2))),r.2.set M.length .dead)else none
 |_=>none
section
variable{K:Fg}
noncomputable def SPs(K:Fg):List (TE×TE)->List (EF×EF)->Prop:=Paired fun t f=>SE K t.1 f.1/\SE K t.2 f.2
theorem FV:∀{ts:List (TE×TE)}{fs:List (EF×EF)},SPs K ts fs->∀{γ:Ga}{M:Sto}{xs:List (CD×CD)}{M':Sto},rF fs γ M=some (xs,M')->∀{W:Wd}{H:Hp}{σ:St}{Q:List (V×V)->Hp->Prop},Good K W M H->cJ K W γ σ->
 (∀vs W' H',W.Ext W'->Good K W' M' H'->Paired (fun a b=>bV K W' a.1 b.1/\bV K W' a.2 b.2) xs vs->Q vs H')->AZ ts σ H Q
 |_,_,.nil,γ,M,xs,M',h,W,H,σ,Q,G,R,k=>by
  cases h;exact k [] W H (.refl _) G .nil
 |_,_,.cons s1 s2,γ,M,xs,M',h,W,H,σ,Q,G,R,k=>by
  obtain⟨⟨a,M1⟩,h1,h⟩:=aH h;obtain⟨⟨b,M2⟩,h2,h⟩:=aH h;obtain⟨⟨q,M3⟩,h3,h⟩:=aH h;cases h;refine s1.1 _ _ _ _ h1 W H σ _ G R fun v W1 H1 e1 G1 r1=>?_;refine s1.2 _ _ _ _ h2 W1 H1 σ _ G1 (R.up e1) fun u W2 H2 e2 G2 r2=>?_;refine FV s2 h3 G2 (R.up (e1.trans e2)) fun vs W3 H3 e3 G3 r3=>?_;exact k _ W3 H3 ((e1.trans e2).trans e3) G3 (.cons ⟨r1.up (e2.trans e3),r2.up e3⟩ r3)
theorem rX{x:CD}{k:Key}{v:V}(h:keyOf x=some k)(r:bV K W x v):v=kV k:=by
 unfold keyOf at h;split at h
 .cases h;exact r
 .cases h;exact r
 .cases h
theorem yB{W:Wd}:∀{xs:List (CD×CD)}{kvs:List (Key×PyData)}{vs:List (V×V)},keyed xs=some kvs->Paired (fun a b=>bV K W a.1 b.1/\bV K W a.2 b.2) xs vs->
 ∃us:List (Key×V),vs=us.map (fun p=>(kV p.1,p.2))/\us.map (·.1)=kvs.map (·.1)/\kP K W.F (kvs.map fun p=>(aBt p.1,p.2)) us
 |[],kvs,vs,h,r=>by
  cases h;cases r;exact⟨[],rfl,rfl,rfl⟩
 |(k,.c _)::_,kvs,vs,h,r=>by cases h
 |(k,.d x)::xs,kvs,vs,h,r=>by
  obtain⟨k',h1,h⟩:=aH (show(keyOf k).bind _=_ from h);obtain⟨q,h2,h⟩:=aH h;cases h;cases r with
  |@cons _ b _ vs' r1 r2=>
   obtain⟨us,e1,e2,e3⟩:=yB h2 r2;refine⟨(k',b.2)::us,?_,?_,k',b.2,us,rfl,rfl,r1.2,e3⟩
   .rw[B6,<- e1,<- rX h1 r1.1]
   .rw[B6,B6,e2]
theorem rG:∀(more acc:List (Key×V)),((acc++more).map (·.1)).Nodup->nZ acc more=acc++more
 |[]=>fun acc _=>by simp[nZ]
 |p::more=>fun acc h=>by
  have hn:gH acc p.1=none:=by
   unfold gH;rw[Option.map_eq_none_iff,List.find?_eq_none];intro x hx hd;have:x.1=p.1:=D7 hd;rw[D3,Y9]at h;exact h.2.2 x.1 (List.mem_map_of_mem hx) p.1 (by simp) this
  show nZ (putK acc p.1 p.2) more=_;rw[UL _ hn,rG more _ (by rw[C6];exact h),C6];rfl
theorem aAU{ts:List (TE×TE)}{fs:List (EF×EF)}(sp:SPs K ts fs):SE K (QB ts) (yI fs):=by
 intro γ M x M' hh W H σ Q G R k;obtain⟨⟨xs,M1⟩,h1,hh⟩:=aH hh;intro p hp;have G1:=G.new hp (c:=.dk []) (o:=.dK []) (show Paired _ [] []from .nil);have e1:=W.ext_more p;refine FV sp h1 G1 (R.up e1) fun vs W2 H2 e2 G2 r2=>?_;dsimp only at hh;split at hh
 .rename_i hM;obtain⟨kvs,h2,hh⟩:=aH hh;by_cases hc:kvs.length<=15/\(kvs.map (·.1)).Nodup
  .rw[A7 hc]at hh;cases hh
   have al:W2.α M.length=p:=by
    rw[e2.al M.length (by show M.length<W.n+1;rw[G.n];exact L9 _)];show(if M.length=W.n then p else _)=p;rw[A7 G.n.symm]
   obtain⟨_,o,g2,g3⟩:=G2.cs _ _ hM (by intro z;cases z);rw[al]at g2
   have ho:o=.dK []:=by
    cases o with
    |dK us=>cases g3;rfl
    |_=>exact False.elim g3
   subst ho;obtain⟨us,z1,z2,z3⟩:=yB h2 r2;have nd:(us.map (·.1)).Nodup:=by rw[z2];exact hc.2
   have hl:us.length<=15:=by
    have:=E9 List.length z2;rw[A3,A3]at this;omega
   refine⟨g2,us,z1,hl,?_⟩;rw[rG us [] (by simpa using nd),List.nil_append];obtain⟨e3,G3⟩:=G2.freeze (o':=.dK us) hM (by intro z;cases z);rw[al]at e3 G3;exact k _ _ _ ((e1.trans e2).trans e3) G3 ⟨p,us,rfl,aN,kP.same e3.ff _ _ z3⟩
  .rw[B0 hc]at hh;cases hh
 .cases hh
end
section
variable{ι:Type}{K:Fg}{X:ι->Cx}
structure MD(K:Fg)(X:ι->Cx)(pos:Pos)(ks:List (Option Expr))(vs:List Expr)(fs:List (EF×EF)):Prop where
 ex:∃ts,(∀i,PPs (X i) pos ks vs ts)/\SPs K ts fs
theorem RE:MD K X pos [] [] []:=⟨_,fun _=>ZJ,.nil⟩
theorem JX{k v:Expr}{ks:List (Option Expr)}{vs:List Expr}{f g:EF}{fs:List (EF×EF)}(x:ME K X k f)(y:ME K X v g)(z:MD K X pos ks vs fs):MD K X pos (some k::ks) (v::vs) ((f,g)::fs):=by
 obtain⟨t,x1,x2⟩:=x.ex;obtain⟨u,y1,y2⟩:=y.ex;obtain⟨o,z1,z2⟩:=z.ex;exact⟨_,fun i=>OZ (x1 i) (y1 i) (z1 i),.cons ⟨x2,y2⟩ z2⟩
theorem YY{ks:List (Option Expr)}{vs:List Expr}{fs:List (EF×EF)}(x:MD K X pos ks vs fs)(hall:ks.all (·.isSome)=true:=by rfl)(hl:ks.length=vs.length:=by rfl)(h0:ks≠[]:=by simp)(h15:ks.length<=15:=by simp):ME K X (.Dict ks vs pos) (yI fs):=by
 obtain⟨t,x1,x2⟩:=x.ex;exact⟨_,fun i=>JG (x1 i) hall hl h0 h15,aAU x2⟩
theorem uK:ME K X (.Dict [] [] pos) mQ:=⟨_,fun _=>DJ,UF⟩
end
section
variable{K:Fg}
theorem look_none{W:Wd}{f:Str}:∀{fs:List (Str×CD)}{us:List (Str×V)},Paired (fun p q=>p.1=q.1/\bV K W p.2 q.2) fs us->fs.lookup f=none->us.lookup f=none
 |_,_,.nil=>fun h=>rfl
 |(g,y)::fs,(g',u)::us,.cons h t=>fun e=>by
  obtain⟨h1,h2⟩:=h;have h1:g=g':=h1;subst h1;rw[D8]at e ⊢;by_cases q:(f==g)=true
  .rw[q]at e;cases e
  .have q':(f==g)=false:=by simpa using q
   rw[q']at e ⊢;exact look_none t e
end
section
variable{K:Fg}
theorem yU{α β:Type}{R:α->β->Prop}:∀{xs:List α}{ys:List β},Paired R xs ys->Paired R xs.reverse ys.reverse
 |_,_,.nil=>.nil
 |_,_,.cons h t=>by
  rw[F7,F7];exact Paired.app (yU t) (.cons h .nil)
noncomputable def iU:FM:=fun x ys M=>match x,ys with
 |.c i,[]=>match M[i]? with
  |some (.lst xs)=>some (.d .none,M.set i (.lst xs.reverse))
  |_=>none
 |_,_=>none
theorem GC:PM K DG iU:=by
 intro x ys M z M' h W H v vs Q G rx rs k;unfold iU at h;split at h
 .rename_i i;split at h
  .rename_i xs hx;cases h;obtain⟨us,hv,hr⟩:=G.lstAt hx;cases rs;refine⟨W.α i,us,rx.2,rfl,hv,?_⟩;exact k _ W _ (.refl _) (G.set hx (by intro q;cases q) (c':=.lst xs.reverse) (show bS K W _ _ from yU hr)) rfl
  .cases h
 .cases h
end
section
variable{ι:Type}{K:Fg}{X:ι->Cx}{a b c e o:Expr}{es:List Expr}{f g h:EF}{fa:AF}{pos:Pos}
theorem GU(hK:∀i,(X i).K=K)(x:ME K X o f)(hb:∀env:Env,attributeBase o "reverse" env (eval o env)=eval o env:=by intro _;rfl)(hl:(apos.endLine==cpos.line)=true:=by rfl):
 ME K X (.Call (.Attribute o "reverse" apos) [] [] cpos) (bH "list" iU f aF):=by
 obtain⟨t,x1,x2⟩:=x.ex;refine⟨_,fun i=>?_,CC GC x2⟩;have:=OY PySem.F.plainAttrs_list PySem.F.slot_list_reverse PySem.F.type_list_reverse FY (x1 i) (apos:=apos) (cpos:=cpos) (hb _) hl;rw[hK i]at this;exact this
end
open PySem PySem.W PyProof.Rows
noncomputable def KS{α:Type}(lt:Nat->Nat->Bool)(n:Nat):KasT α->(α->Prop)->Prop
 |.ret a,Q=>Q a
 |.ask i j k,Q=>i<n/\j<n/\KS lt n (k (lt i j)) Q
theorem KS.bind{α β:Type}{lt:Nat->Nat->Bool}{n:Nat}{f:α->KasT β}{Q:β->Prop}:∀{t:KasT α},KS lt n t (fun a=>KS lt n (f a) Q)->KS lt n (t.bind f) Q
 |.ret _=>fun h=>h
 |.ask _ _ _=>fun h=>⟨h.1,h.2.1,KS.bind h.2.2⟩
theorem KS.mono{α:Type}{lt:Nat->Nat->Bool}{n:Nat}{Q R:α->Prop}(m:∀a,Q a->R a):∀{t:KasT α},KS lt n t Q->KS lt n t R
 |.ret _=>fun h=>m _ h
 |.ask _ _ _=>fun h=>⟨h.1,h.2.1,KS.mono m h.2.2⟩
theorem KS.wp{α:Type}{lt:Nat->Nat->Bool}{n:Nat}{Q:α->Prop}{R:α->Shared->Prop}{s:Shared}{cmp:Nat->Nat->(Bool->Shared->Prop)->Shared->Prop}
 (hc:∀i j C,i<n->j<n->C (lt i j) s->cmp i j C s) (m:∀a,Q a->R a s):∀{t:KasT α},KS lt n t Q->KasT.kasWp cmp t R s
 |.ret _=>fun h=>m _ h
 |.ask _ _ _=>fun h=>hc _ _ _ h.1 h.2.1 (KS.wp hc m h.2.2)
section
variable{lt:Nat->Nat->Bool}{n:Nat}
structure qK(lt:Nat->Nat->Bool):Prop where
 as:∀a b,lt a b=true->lt b a=false
 tr:∀a b c,lt b a=false->lt c b=false->lt c a=false
theorem qK.up(o:qK lt){a b c:Nat}(h:lt c a=true)(h':lt b a=false):lt c b=true:=by
 cases e:lt c b with
 |true=>rfl
 |false=>rw[o.tr _ _ _ h' e]at h;cases h
noncomputable def Inv2(n:Nat)(p:Array Nat):Prop:=p.Perm (List.range n).toArray
theorem Inv2.sz{p:Array Nat}(h:Inv2 n p):p.size=n:=by
 have:=(Array.perm_iff_toList_perm.mp h).length_eq;simpa using this
theorem Inv2.ent{p:Array Nat}(h:Inv2 n p)(h0:0<n)(k:Nat):p.getD k 0<n:=by
 rw[E6];cases e:p[k]? with
 |none=>exact h0
 |some x=>
  have hm:x∈p:=Array.mem_of_getElem? e;have:=(h.mem_iff (a:=x)).mp hm;simpa using this
noncomputable def fV(lt:Nat->Nat->Bool)(p:Array Nat)(n:Nat):Prop:=∀i j,i<j->j<n->lt (p.getD j 0) (p.getD i 0)=false
noncomputable def qD(lt:Nat->Nat->Bool)(p:Array Nat)(n:Nat):Prop:=∀i j,i<j->j<n->lt (p.getD i 0) (p.getD j 0)=false
noncomputable def VN(lt:Nat->Nat->Bool)(p:Array Nat)(n q:Nat):Prop:=∀i j,n<=i+q+1->i<j->j<n->lt (p.getD j 0) (p.getD i 0)=false
theorem fV.ext(o:qK lt){p:Array Nat}{m:Nat}(h:fV lt p m)(h1:1<=m)(h2:lt (p.getD m 0) (p.getD (m-1) 0)=false):fV lt p (m+1):=by
 intro i j hij hj;by_cases e:j=m
 .subst e;by_cases e':i=j-1
  .subst e';exact h2
  .exact o.tr _ _ _ (h i (j-1) (by omega) (by omega)) h2
 .exact h i j hij (by omega)
theorem qD.ext(o:qK lt){p:Array Nat}{m:Nat}(h:qD lt p m)(h1:1<=m)(h2:lt (p.getD (m-1) 0) (p.getD m 0)=false):qD lt p (m+1):=by
 intro i j hij hj;by_cases e:j=m
 .subst e;by_cases e':i=j-1
  .subst e';exact h2
  .exact o.tr _ _ _ h2 (h i (j-1) (by omega) (by omega))
 .exact h i j hij (by omega)
theorem GK(o:qK lt){p:Array Nat}(hp:Inv2 n p)(h0:0<n){Q:Nat->Prop}:∀(f m:Nat),1<=m->fV lt p m->(∀r,m<=r->r<=m+f->fV lt p r->(r<m+f->lt (p.getD r 0) (p.getD (r-1) 0)=true)->Q r)->KS lt n (kas_asc p f m) Q
 |0=>fun m h1 hs k=>by
  rw[kas_asc.eq_def];exact k m (B1 _) (B1 _) hs (fun h=>absurd h (F6 _))
 |f+1=>fun m h1 hs k=>by
  rw[kas_asc.eq_def];refine⟨hp.ent h0 _,hp.ent h0 _,?_⟩;cases e:lt (p.getD m 0) (p.getD (m-1) 0)with
  |true=>exact k m (B1 _) (by omega) hs (fun _=>e)
  |false=>exact GK o hp h0 f (m+1) (by omega) (hs.ext o h1 e) fun r a b c d=>k r (by omega) (by omega) c (fun z=>d (by omega))
theorem fA{p:Array Nat}(hp:Inv2 n p)(i j:Nat):Inv2 n (kas_rev p i j):=(mirror_perm p i j _).trans hp
theorem oG{p:Array Nat}{i j:Nat}(hj:j<=p.size)(k:Nat):(kas_rev p i j).getD k 0=if i<=k/\k<j then p.getD (i+j-1-k) 0 else p.getD k 0:=by
 rw[E6,show(kas_rev p i j)[k]?=_ from getElem?_mirror_all hj k];by_cases e:i<=k/\k<j
 .rw[A7 e,A7 e,E6]
 .rw[B0 e,B0 e,E6]
theorem FE(o:qK lt){p:Array Nat}{lo hi m:Nat}(hm:m<=p.size)(hh:hi<=m)(d:qD lt p m)(e:∀i j,lo<=i->i<j->j<hi->lt (p.getD j 0) (p.getD i 0)=false):qD lt (kas_rev p lo hi) m:=by
 intro i j hij hj;rw[oG (by omega),oG (by omega)];by_cases a:lo<=i/\i<hi
 .rw[A7 a];by_cases b:lo<=j/\j<hi
  .rw[A7 b];exact e _ _ (by omega) (by omega) (by omega)
  .rw[B0 b];exact d _ _ (by omega) hj
 .rw[B0 a];by_cases b:lo<=j/\j<hi
  .rw[A7 b];exact d _ _ (by omega) (by omega)
  .rw[B0 b];exact d _ _ hij hj
theorem tY(o:qK lt)(h0:0<n){Q:Array Nat×Nat×Nat->Prop}:∀(f:Nat)(p:Array Nat)(m q:Nat),Inv2 n p->1<=m->m+f<=n->qD lt p m->VN lt p m q->q+1<=m->
 (∀p' m' q',Inv2 n p'->m<=m'->m'<=m+f->qD lt p' m'->VN lt p' m' q'->q'+1<=m'->Q (p',m',q'))->KS lt n (kas_desc f p m q) Q
 |0=>fun p m q hp h1 h2 hd he hq k=>by
  rw[kas_desc.eq_def];exact k p m q hp (B1 _) (B1 _) hd he hq
 |f+1=>fun p m q hp h1 h2 hd he hq k=>by
  rw[kas_desc.eq_def];refine⟨hp.ent h0 _,hp.ent h0 _,?_⟩;have hsz:=hp.sz;have e0:∀p':Array Nat,VN lt p' (m+1) 0:=fun p' i j a b c=>by omega
  cases c:lt (p.getD m 0) (p.getD (m-1) 0)with
  |true=>
   have hd1:=hd.ext o h1 (o.as _ _ c);dsimp only;rw[A7 rfl];by_cases hq0:q > 0
   .rw[A7 hq0];exact tY o h0 f _ (m+1) 0 (fA hp _ _) (by omega) (by omega) (FE o (by omega) (by omega) hd1 (fun i j a b d=>he i j (by omega) b (by omega))) (e0 _) (by omega) fun p' m' q' a b c' d e g=>k p' m' q' a (by omega) (by omega) d e g
   .rw[B0 hq0];exact tY o h0 f _ (m+1) 0 hp (by omega) (by omega) hd1 (e0 _) (by omega) fun p' m' q' a b c' d e g=>k p' m' q' a (by omega) (by omega) d e g
  |false=>
   dsimp only;rw[B0 B2];refine⟨hp.ent h0 _,hp.ent h0 _,?_⟩;cases d:lt (p.getD (m-1) 0) (p.getD m 0)with
   |true=>
    dsimp only;rw[A7 rfl];exact k p m q hp (B1 _) (by omega) hd he hq
   |false=>
    dsimp only;rw[B0 B2];refine tY o h0 f p (m+1) (q+1) hp (by omega) (by omega) (hd.ext o h1 d) ?_ (by omega) fun p' m' q' a b c' d e g=>k p' m' q' a (by omega) (by omega) d e g;intro i j a b e;by_cases ej:j=m
    .subst ej;by_cases ei:i=j-1
     .subst ei;exact c
     .exact o.tr _ _ _ (he i (j-1) (by omega) (by omega) (by omega)) c
    .exact he i j (by omega) b (by omega)
noncomputable def Part(lt:Nat->Nat->Bool)(n:Nat)(r:Nat×Array Nat):Prop:=Inv2 n r.2/\1<=r.1/\r.1<=n/\fV lt r.2 r.1
theorem DR(o:qK lt)(h0:0<n){p:Array Nat}{m:Nat}(hp:Inv2 n p)(h1:1<=m)(h2:m<=n)(hd:qD lt p m):KS lt n (kas_tail3 m n p) (Part lt n):=by
 have hsz:=hp.sz;rw[kas_tail3.eq_def];refine KS.bind (GK o (fA hp 0 m) h0 _ _ h1 ?_ fun r a b c _=>⟨fA hp 0 m,by omega,by omega,c⟩);intro i j hij hj;rw[oG (by omega),oG (by omega),A7 (by omega),A7 (by omega)];exact hd _ _ (by omega) (by omega)
theorem tD(o:qK lt)(h0:0<n){p:Array Nat}{m:Nat}(hp:Inv2 n p)(h2:m+1<=n)(hd:qD lt p (m+1)):KS lt n (kas_descPart m n p) (Part lt n):=by
 rw[kas_descPart.eq_def];refine KS.bind (tY o h0 _ _ _ _ hp (by omega) (by omega) hd (fun i j a b c=>by omega) (by omega) fun p' m' q' a b c d e g=>?_);have hsz:=a.sz;show KS lt n (if q' > 0 then kas_tail3 m' n (kas_rev p' (m'-(q'+1)) m')else kas_tail3 m' n p') _;by_cases hq:q' > 0
 .rw[A7 hq];exact DR o h0 (fA a _ _) (by omega) (by omega) (FE o (by omega) (B1 _) d fun i j x y z=>e i j (by omega) y z)
 .rw[B0 hq];exact DR o h0 a (by omega) (by omega) d
theorem SC(o:qK lt)(h0:0<n){p:Array Nat}(hp:Inv2 n p):KS lt n (kas_count n p) (Part lt n):=by
 have hsz:=hp.sz;rw[kas_count.eq_def];refine KS.bind (GK o hp h0 _ _ (B1 _) (fun i j a b=>by omega) fun r a b c d=>?_);by_cases e:(r==n)=true
 .rw[A7 e];exact⟨hp,a,by omega,c⟩
 .rw[B0 e];have e':r≠n:=by simpa using e
  have hl:=d (by omega);by_cases g:r > 1
  .rw[A7 g];refine⟨hp.ent h0 _,hp.ent h0 _,?_⟩;cases l:lt (p.getD 0 0) (p.getD (r-1) 0)with
   |true=>dsimp only;rw[A7 rfl];exact⟨hp,a,by omega,c⟩
   |false=>
    dsimp only;rw[B0 B2];have le:∀i j,i<=j->j<r->i<j\/i=j:=fun i j x y=>by omega
    have irr:∀x,lt x x=false:=fun x=>by
     cases q:lt x x with
     |false=>rfl
     |true=>rw[o.as _ _ q]at q;cases q
    have up:∀i,i<r->lt (p.getD i 0) (p.getD (r-1) 0)=false:=fun i hi=>by
     have x1:lt (p.getD i 0) (p.getD 0 0)=false:=by
      by_cases z:i=0
      .subst z;exact irr _
      .exact c 0 i (by omega) hi
     exact o.tr _ _ _ l x1
    have dn:∀i,i<r->lt (p.getD (r-1) 0) (p.getD i 0)=false:=fun i hi=>by
     by_cases z:i=r-1
     .subst z;exact irr _
     .exact c i (r-1) (by omega) (by omega)
    have al:∀i j,i<r->j<r->lt (p.getD i 0) (p.getD j 0)=false:=fun i j hi hj=>o.tr _ _ _ (dn j hj) (up i hi);refine tD o h0 (fA hp _ _) (by omega) ?_;intro i j hij hj;rw[oG (by omega),oG (by omega),A7 (by omega)];by_cases z:j<r
    .rw[A7 (by omega)];exact al _ _ (by omega) (by omega)
    .rw[B0 (by omega)];have:j=r:=by omega
     subst this;exact o.tr _ _ _ (o.as _ _ hl) (up _ (by omega))
  .rw[B0 g];have:r=1:=by omega
   subst this;refine tD o h0 hp (by omega) ?_;intro i j hij hj;have:i=0:=by omega
   have:j=1:=by omega
   subst i;subst j;exact o.as _ _ hl
theorem wV(o:qK lt)(h0:0<n){p:Array Nat}(hp:Inv2 n p){k:Nat}(hs:fV lt p k){Q:Nat->Prop}(q:∀l,l<=k->(∀i,i<l->lt (p.getD k 0) (p.getD i 0)=false)->(∀i,l<=i->i<k->lt (p.getD k 0) (p.getD i 0)=true)->Q l):
 ∀(f l r:Nat),l<=r->r<=k->r-l<=f->(∀i,i<l->lt (p.getD k 0) (p.getD i 0)=false)->(∀i,r<=i->i<k->lt (p.getD k 0) (p.getD i 0)=true)->KS lt n (kas_place p k f l r) Q
 |0=>fun l r h1 h2 h3 a b=>by
  rw[kas_place.eq_def];have:l=r:=by omega
  subst this;exact q l h2 a b
 |f+1=>fun l r h1 h2 h3 a b=>by
  rw[kas_place.eq_def];show KS lt n (if l>=r then _ else _) Q;by_cases g:l>=r
  .rw[A7 g];have:l=r:=by omega
   subst this;exact q l h2 a b
  .rw[B0 g];refine⟨hp.ent h0 _,hp.ent h0 _,?_⟩;cases c:lt (p.getD k 0) (p.getD ((l+r) / 2) 0)with
   |true=>
    dsimp only;rw[A7 rfl];refine wV o h0 hp hs q f _ _ (by omega) (by omega) (by omega) a fun i x y=>?_;by_cases z:i=(l+r) / 2
    .subst z;exact c
    .exact o.up c (hs _ _ (by omega) y)
   |false=>
    dsimp only;rw[B0 B2];refine wV o h0 hp hs q f _ _ (by omega) (by omega) (by omega) (fun i x=>?_) b;by_cases z:i=(l+r) / 2
    .subst z;exact c
    .exact o.tr _ _ _ (hs i ((l+r) / 2) (by omega) (by omega)) c
theorem JL{p:Array Nat}{src d:Nat}(h:src<p.size)(hd:d<=src)(k:Nat):(bubble p src d).getD k 0=if k=src-d then p.getD src 0 else if src-d<k/\k<=src then p.getD (k-1) 0 else p.getD k 0:=by
 rw[E6,getElem?_bubble h d hd k];by_cases e:k=src-d
 .rw[A7 e,A7 e,E6]
 .rw[B0 e,B0 e];by_cases e2:src-d<k/\k<=src
  .rw[A7 e2,A7 e2,E6]
  .rw[B0 e2,B0 e2,E6]
theorem SU(o:qK lt)(h0:0<n){Q:Array Nat->Prop}(q:∀p,Inv2 n p->fV lt p n->Q p):∀(f:Nat)(p:Array Nat)(k:Nat),Inv2 n p->k+f=n->fV lt p k->KS lt n (kas_bin f p k) Q
 |0=>fun p k hp hk hs=>by
  rw[kas_bin.eq_def];have:k=n:=by omega
  subst this;exact q p hp hs
 |f+1=>fun p k hp hk hs=>by
  rw[kas_bin.eq_def];have hsz:=hp.sz;refine KS.bind (wV o h0 hp hs (fun l hl a b=>?_) k 0 k (by omega) (by omega) (by omega) (fun i x=>by omega) (fun i x y=>by omega));refine SU o h0 q f _ (k+1) ((bubble_perm p k (k-l)).trans hp) (by omega) ?_;intro i j hij hj;rw[JL (by omega) (by omega),JL (by omega) (by omega)];have hkl:k-(k-l)=l:=by omega
  rw[hkl];by_cases j1:j=l
  .rw[A7 j1,B0 (by omega),B0 (by omega)];exact a i (by omega)
  .rw[B0 j1];by_cases j2:l<j/\j<=k
   .rw[A7 j2];by_cases i1:i=l
    .rw[A7 i1];exact o.as _ _ (b _ (by omega) (by omega))
    .rw[B0 i1];by_cases i2:l<i/\i<=k
     .rw[A7 i2];exact hs _ _ (by omega) (by omega)
     .rw[B0 i2];exact hs _ _ (by omega) (by omega)
   .rw[B0 j2,B0 (by omega),B0 (by omega)];exact hs _ _ hij (by omega)
theorem aAn(o:qK lt)(h0:0<n):KS lt n (kas_sort n) (fun p=>Inv2 n p/\fV lt p n):=by
 unfold kas_sort;refine KS.bind (KS.mono (fun r h=>?_) (SC o h0 (p:=(List.range n).toArray) (Array.Perm.refl _)));obtain⟨a,b,c,d⟩:=h;by_cases e:r.fst<n
 .rw[A7 e];have hm:max r.fst 1=r.fst:=by omega
  rw[hm];exact SU o h0 (fun p x y=>⟨x,y⟩) _ _ _ a (by omega) d
 .rw[B0 e];have:r.fst=n:=by omega
  exact⟨a,this▸d⟩
end
end L2
namespace L2
open PySem PySem.Spec PyProof.Rows
noncomputable def gE:List PyData->Option (List Int)
 |[]=>some []
 |.int n::r=>(gE r).bind fun ns=>some (n::ns)
 |_=>none
theorem kT{h:Heap}:∀{ds:List PyData}{us:List Value}{as:List Addr}{ns:List Int},ReadsAll h us ds as->gE ds=some ns->IntsAre us ns
 |[],_,_,_=>fun r e=>by cases r;cases e;exact .nil
 |d::ds,_,_,_=>fun r e=>by
  cases r with
  |cons r1 r2=>
   cases d with
   |int n=>
    have e:(gE ds).bind (fun ns=>some (n::ns))=some _:=e;obtain⟨ms,h1,h2⟩:=Option.bind_eq_some_iff.mp e;cases h2;cases r1;exact .cons _ _ (kT r2 h1)
   |_=>cases e
noncomputable def dU:PyData->PyData->Option Bool
 |.int a,.int b=>some (decide (a<b))
 |.tuple xs,.tuple ys=>(gE xs).bind fun ns=>(gE ys).bind fun ms=>some (HT.lexLt ns ms)
 |_,_=>none
noncomputable def cP:List PyData->List PyData->Option Bool
 |[],ys=>some (decide (0<ys.length))
 |_::_,[]=>some false
 |x::xs,y::ys=>if PyData.eqv x y=true then cP xs ys else dU x y
noncomputable def isI:PyData->Bool
 |.int _=>true
 |_=>false
section
variable{prog:Program}{w:World}{A:Around}{E:Value->Shared->Prop}{s:Shared}
theorem YZ{p q:Value}{x y:PyData}{as bs:List Addr}{c fl:Bool}{Q:Bool->Shared->Prop}(hu:A.units<cLine)(r1:Reads s.heap p x as)(r2:Reads s.heap q y bs)(h:dU x y=some c)(hf:fl=true->isI x=true/\isI y=true)(k:Q c s):
 wpAny (model prog w) A (oneLt' fl p q) Q E s:=by
 unfold dU at h;split at h
 .rename_i a b;cases r1;cases r2;cases h;cases fl with
  |true=>exact oneLt_int k
  |false=>exact PySem.W.kat_one _ _ (lt_int k)
 .rename_i xs ys;obtain⟨ns,h1,h⟩:=Option.bind_eq_some_iff.mp h;obtain⟨ms,h2,h⟩:=Option.bind_eq_some_iff.mp h;cases h;cases fl with
  |true=>exact absurd (hf rfl).1 (by intro z;cases z)
  |false=>
   cases r1 with
   |tuple g1 g2 g3 g4=>
    cases r2 with
    |tuple k1 k2 k3 k4=>
     exact PySem.W.kat_one _ _ (HT.lt_tupInts ⟨_,g1,g2,_,g3⟩ ⟨_,k1,k2,_,k3⟩ (kT g4 h1) (kT k4 h2) hu k)
 .cases h
theorem JV{b fin c:Bool}{Q:Bool->Shared->Prop}(hu:A.units+64<cLine)(k:Q c s):∀(xs ys:List PyData)(us ws:List Value)(as bs:List Addr)(i:Nat),ReadsAll s.heap us xs as->ReadsAll s.heap ws ys bs->xs.all SeqAt.shaped=true->ys.all SeqAt.shaped=true->
 cP xs ys=some c->fin=decide (us.length<ws.length)->((b&&i==0)=true->xs.head?.all isI=true/\ys.head?.all isI=true)->PySem.W.KatLex prog w A b fin Q (us.zip ws) i s
 |[],ys=>fun us ws as bs i r1 r2 s1 s2 h hf hb=>by
  cases r1
  have hl:ws.length=ys.length:=by
   clear k h hf hb s2
   induction r2 using ReadsAll.rec (motive_1:=fun _ _ _ _=>True)with
   |nil=>rfl
   |cons _ _ _ ih=>simp[ih]
   |_=>trivial
  rw[List.zip_nil_left];refine PySem.W.kat_nil ?_;have h:some (decide (0<ys.length))=some c:=h;cases h;rw[hf,hl];exact k
 |x::xs,[]=>fun us ws as bs i r1 r2 s1 s2 h hf hb=>by
  cases r2;rw[List.zip_nil_right];refine PySem.W.kat_nil ?_;cases h;rw[hf];simpa using k
 |x::xs,y::ys=>fun us ws as bs i r1 r2 s1 s2 h hf hb=>by
  cases r1 with
  |cons a1 a2=>
   cases r2 with
   |cons b1 b2=>
    rw[U3,C2]at s1 s2;rw[Y6];refine PySem.W.kat_cons ?_;refine SeqAt.eqAt_reads x y A s _ _ _ _ a1 b1 (L8 s1.1) (L8 s2.1) (SeqAt.room_of_shaped s1.1 hu) _ _ _ _ ?_;have h:(if PyData.eqv x y=true then cP xs ys else dU x y)=some c:=h;cases e:PyData.eqv x y with
    |true=>
     rw[e,A7 rfl]at h;refine PySem.W.kat_yes (JV hu k xs ys _ _ _ _ (i+1) a2 b2 s1.2 s2.2 h ?_ (fun z=>?_))
     .rw[hf];simp
     .simp at z
    |false=>
     rw[e,B0 B2]at h;refine PySem.W.kat_no (YZ (by omega) a1 b1 h (fun z=>?_) k);have:=hb z;simpa using this
end
open PySem PySem.W PyProof.Rows
noncomputable def NC{α:Type}(lt:Nat->Nat->Bool):KasT α->α
 |.ret a=>a
 |.ask i j k=>NC lt (k (lt i j))
noncomputable def KA{α:Type}(n:Nat):KasT α->(α->Prop)->Prop
 |.ret a,Q=>Q a
 |.ask i j k,Q=>i<n/\j<n/\∀b,KA n (k b) Q
section
variable{n:Nat}
theorem KA.bind{α β:Type}{f:α->KasT β}{Q:β->Prop}:∀{t:KasT α},KA n t (fun a=>KA n (f a) Q)->KA n (t.bind f) Q
 |.ret _=>fun h=>h
 |.ask _ _ _=>fun h=>⟨h.1,h.2.1,fun b=>KA.bind (h.2.2 b)⟩
theorem KA.ks{α:Type}{lt:Nat->Nat->Bool}{Q:α->Prop}:∀{t:KasT α},KA n t Q->KS lt n t (fun a=>a=NC lt t/\Q a)
 |.ret _=>fun h=>⟨rfl,h⟩
 |.ask i j _=>fun h=>⟨h.1,h.2.1,KA.ks (h.2.2 (lt i j))⟩
theorem KS.run{α:Type}{lt:Nat->Nat->Bool}{Q:α->Prop}:∀{t:KasT α},KS lt n t Q->Q (NC lt t)
 |.ret _=>fun h=>h
 |.ask i j k=>fun h=>KS.run (t:=k (lt i j)) h.2.2
theorem FZ{p:Array Nat}(hp:Inv2 n p)(h0:0<n){Q:Nat->Prop}(q:∀r,Q r):∀(f m:Nat),KA n (kas_asc p f m) Q
 |0=>fun m=>by rw[kas_asc.eq_def];exact q m
 |f+1=>fun m=>by
  rw[kas_asc.eq_def];refine⟨hp.ent h0 _,hp.ent h0 _,fun b=>?_⟩;cases b with
  |true=>exact q m
  |false=>exact FZ hp h0 q f (m+1)
theorem uA(h0:0<n){Q:Array Nat×Nat×Nat->Prop}(k:∀p m q,Inv2 n p->Q (p,m,q)):∀(f:Nat)(p:Array Nat)(m q:Nat),Inv2 n p->KA n (kas_desc f p m q) Q
 |0=>fun p m q hp=>by rw[kas_desc.eq_def];exact k p m q hp
 |f+1=>fun p m q hp=>by
  rw[kas_desc.eq_def];refine⟨hp.ent h0 _,hp.ent h0 _,fun b=>?_⟩;cases b with
  |true=>
   dsimp only;rw[A7 rfl];by_cases hq:q > 0
   .rw[A7 hq];exact uA h0 k f _ _ _ (fA hp _ _)
   .rw[B0 hq];exact uA h0 k f _ _ _ hp
  |false=>
   dsimp only;rw[B0 B2];refine⟨hp.ent h0 _,hp.ent h0 _,fun b=>?_⟩;cases b with
   |true=>exact k p m q hp
   |false=>exact uA h0 k f _ _ _ hp
theorem CH(h0:0<n){p:Array Nat}{m:Nat}(hp:Inv2 n p):KA n (kas_tail3 m n p) (fun r=>Inv2 n r.2):=by
 rw[kas_tail3.eq_def];exact KA.bind (FZ (fA hp 0 m) h0 (fun r=>fA hp 0 m) _ _)
theorem sT(h0:0<n){p:Array Nat}{m:Nat}(hp:Inv2 n p):KA n (kas_descPart m n p) (fun r=>Inv2 n r.2):=by
 rw[kas_descPart.eq_def];refine KA.bind (uA h0 (fun p' m' q' a=>?_) _ _ _ _ hp);show KA n (if q' > 0 then kas_tail3 m' n (kas_rev p' (m'-(q'+1)) m')else kas_tail3 m' n p') _;by_cases hq:q' > 0
 .rw[A7 hq];exact CH h0 (fA a _ _)
 .rw[B0 hq];exact CH h0 a
theorem TJ(h0:0<n){p:Array Nat}(hp:Inv2 n p):KA n (kas_count n p) (fun r=>Inv2 n r.2):=by
 rw[kas_count.eq_def];refine KA.bind (FZ hp h0 (fun r=>?_) _ _);by_cases e:(r==n)=true
 .rw[A7 e];exact hp
 .rw[B0 e];by_cases g:r > 1
  .rw[A7 g];refine⟨hp.ent h0 _,hp.ent h0 _,fun b=>?_⟩;cases b with
   |true=>exact hp
   |false=>exact sT h0 (fA hp _ _)
  .rw[B0 g];exact sT h0 hp
theorem vJ(h0:0<n){p:Array Nat}(hp:Inv2 n p){k:Nat}{Q:Nat->Prop}(q:∀l,Q l):∀(f l r:Nat),KA n (kas_place p k f l r) Q
 |0=>fun l r=>by rw[kas_place.eq_def];exact q l
 |f+1=>fun l r=>by
  rw[kas_place.eq_def];show KA n (if l>=r then _ else _) Q;by_cases g:l>=r
  .rw[A7 g];exact q l
  .rw[B0 g];refine⟨hp.ent h0 _,hp.ent h0 _,fun b=>?_⟩;cases b with
   |true=>exact vJ h0 hp q f _ _
   |false=>exact vJ h0 hp q f _ _
theorem XD(h0:0<n):∀(f:Nat)(p:Array Nat)(k:Nat),Inv2 n p->KA n (kas_bin f p k) (Inv2 n)
 |0=>fun p k hp=>by rw[kas_bin.eq_def];exact hp
 |f+1=>fun p k hp=>by
  rw[kas_bin.eq_def];exact KA.bind (vJ h0 hp (fun l=>XD h0 f _ (k+1) ((bubble_perm p k (k-l)).trans hp)) k 0 k)
theorem KB(h0:0<n):KA n (kas_sort n) (Inv2 n):=by
 unfold kas_sort;have:=TJ h0 (p:=(List.range n).toArray) (Array.Perm.refl _);refine KA.bind ?_
 have mono:∀{α:Type}{Q R:α->Prop}(m:∀a,Q a->R a)(t:KasT α),KA n t Q->KA n t R:=by
  intro α Q R m t
  induction t with
  |ret a=>exact m a
  |ask i j k ih=>exact fun h=>⟨h.1,h.2.1,fun b=>ih b (h.2.2 b)⟩
 refine mono (fun r a=>?_) _ this;by_cases e:r.fst<n
 .rw[A7 e];exact XD h0 _ _ _ a
 .rw[B0 e];exact a
noncomputable def eC(lt:Nat->Nat->Bool)(n:Nat):List Nat:=(NC lt (kas_sort n)).toList
theorem mT(lt:Nat->Nat->Bool)(h0:0<n):(eC lt n).Perm (List.range n):=by
 have:=KS.run (KA.ks (lt:=lt) (KB h0));simpa[eC]using Array.perm_iff_toList_perm.mp this.2
end
end L2
namespace L2
variable{H:Hp}{K:Fg}{W:Wd}{σ:St}
open PySem PySem.Spec PyProof.Rows
mutual
noncomputable def dP:PyData->Bool
 |.int _=>true
 |.tuple xs=>dB xs
 |_=>false
noncomputable def dB:List PyData->Bool
 |[]=>true
 |x::r=>dP x&&dB r
end
mutual
theorem rk{h h':Heap}(k:∀b o vs n,h.get? b=some o->o.data=.seq vs n->h'.get? b=some o):∀(d:PyData)(v:Value)(as:List Addr),dP d=true->Reads h v d as->Reads h' v d as
 |.int n=>fun _ _ _ r=>by cases r;exact .int _ _
 |.tuple xs=>fun _ _ e r=>by
  cases r with
  |tuple a b c d=>exact .tuple (k _ _ _ _ a c) b c (VU k xs _ _ (by unfold dP at e;exact e) d)
 |.none=>fun _ _ e _=>by unfold dP at e;cases e
 |.bool _=>fun _ _ e _=>by unfold dP at e;cases e
 |.str _=>fun _ _ e _=>by unfold dP at e;cases e
 |.list _=>fun _ _ e _=>by unfold dP at e;cases e
 |.dict _=>fun _ _ e _=>by unfold dP at e;cases e
theorem VU{h h':Heap}(k:∀b o vs n,h.get? b=some o->o.data=.seq vs n->h'.get? b=some o):∀(ds:List PyData)(vs:List Value)(as:List Addr),dB ds=true->ReadsAll h vs ds as->ReadsAll h' vs ds as
 |[]=>fun _ _ _ r=>by cases r;exact .nil
 |d::ds=>fun _ _ e r=>by
  cases r with
  |cons a b=>
   unfold dB at e;rw[C2]at e;exact .cons (rk k d _ _ e.1 a) (VU k ds _ _ e.2 b)
end
theorem ReadsAll.at{h:Heap}:∀{ds:List PyData}{vs:List Value}{as:List Addr}(i:Nat),ReadsAll h vs ds as->i<ds.length->∃bs,Reads h (vs.getD i .none) (ds.getD i .none) bs
 |[],_,_,i=>fun _ hi=>absurd hi (Nat.not_lt_zero _)
 |d::ds,_,_,0=>fun r _=>by cases r with|cons a b=>exact⟨_,a⟩
 |d::ds,_,_,i+1=>fun r hi=>by
  cases r with
  |cons a b=>
   obtain⟨bs,x⟩:=ReadsAll.at i b (Nat.lt_of_succ_lt_succ hi);exact⟨bs,x⟩
theorem ReadsAll.len{h:Heap}:∀{ds:List PyData}{vs:List Value}{as:List Addr},ReadsAll h vs ds as->vs.length=ds.length
 |[],_,_=>fun r=>by cases r;rfl
 |d::ds,_,_=>fun r=>by
  cases r with
  |cons a b=>simp[ReadsAll.len b]
section
variable{prog:Program}{w:World}{A:Around}{E:Value->Shared->Prop}{s:Shared}
theorem aDf{b c:Bool}{p q:Value}{xs ys:List PyData}{as bs:List Addr}{Q:Bool->Shared->Prop}(hu:A.units+64<cLine)(r1:Reads s.heap p (.tuple xs) as)(r2:Reads s.heap q (.tuple ys) bs)
 (s1:xs.all SeqAt.shaped=true) (s2:ys.all SeqAt.shaped=true) (h:cP xs ys=some c) (hb:b=true->xs.head?.all isI=true/\ys.head?.all isI=true) (k:Q c s):wpAny (model prog w) A (keyLt' (tuples' b) p q) Q E s:=by
 cases r1 with
 |tuple a1 a2 a3 a4=>
  cases r2 with
  |tuple b1 b2 b3 b4=>
   refine PySem.W.kat_lt a1 a3 b1 b3 (JV hu k xs ys _ _ _ _ 0 a4 b4 s1 s2 h (by simp) (fun z=>hb ?_));simpa using z
noncomputable def kU(rows:List (List PyData)):Bool:=rows.all fun r=>match r with
 |.int _::_=>true
 |_=>false
noncomputable def qT(rows:List (List PyData)):Bool:=rows.all fun r=>match r with
 |.tuple _::_=>true
 |_=>false
theorem aCB{M:Model}{h:Heap}(n:Int)(t:Tok):PySem.W.Looks M h (typeOf (.int n t)) (.type "int"):=fun A Q E s _ q=>by
 show wpAny M A (pure _) Q E s;exact B7 q
theorem firstsI{h:Heap}:∀{rows:List (List PyData)}{vs:List Value}{as:List Addr},ReadsAll h vs (rows.map .tuple) as->kU rows=true->∃fs,PySem.W.KatTups h vs fs/\fs.length=rows.length/\∀v∈fs,∃n t,v=.int n t
 |[],_,_=>fun r _=>by cases r;exact⟨[],.nil,rfl,fun v hv=>nomatch hv⟩
 |x::rows,_,_=>fun r e=>by
  unfold kU at e;rw[U3,C2]at e;cases r with
  |cons a b=>
   obtain⟨fs,h1,h2,h3⟩:=firstsI b (by unfold kU;exact e.2);cases x with
   |nil=>exact absurd e.1 (by decide)
   |cons d ds=>
    cases d with
    |int n=>
     cases a with
     |tuple g1 g2 g3 g4=>
      rename_i o vs n' ;generalize hv:vs.toList=l at g4;cases g4 with
      |cons q1 q2=>
       cases q1 with
       |int _ t=>
        refine⟨.int n t::fs,.cons g1 g2 g3 (f:=.int n t) ?_ h1,by simp[h2],?_⟩
        .rw[<- U4,hv];rfl
        .intro v hv';rcases List.mem_cons.mp hv' with z|z
         .exact⟨_,_,z⟩
         .exact h3 v z
    |_=>exact absurd e.1 (by intro z;cases z)
end
section
variable{prog:Program}{w:World}{A:Around}{E:Value->Shared->Prop}{s:Shared}
theorem aDa{M:Model}{h:Heap}{a:Addr}{o:Obj}(g:h.get? a=some o)(c:o.cls=.type "tuple"):PySem.W.Looks M h (typeOf (.ref a)) (.type "tuple"):=fun A Q E s k q=>A0e (show s.TypeIs (.ref a) "tuple" from⟨o,k _ _ g,c⟩) q
theorem JE{h:Heap}:∀{rows:List (List PyData)}{vs:List Value}{as:List Addr},ReadsAll h vs (rows.map .tuple) as->qT rows=true->∃fs,PySem.W.KatTups h vs fs/\fs.length=rows.length/\∀v∈fs,∃a o,v=.ref a/\h.get? a=some o/\o.cls=.type "tuple"
 |[],_,_=>fun r _=>by cases r;exact⟨[],.nil,rfl,fun v hv=>nomatch hv⟩
 |x::rows,_,_=>fun r e=>by
  unfold qT at e;rw[U3,C2]at e;cases r with
  |cons a b=>
   obtain⟨fs,h1,h2,h3⟩:=JE b (by unfold qT;exact e.2);cases x with
   |nil=>exact absurd e.1 (by decide)
   |cons d ds=>
    cases d with
    |tuple ys=>
     cases a with
     |tuple g1 g2 g3 g4=>
      rename_i o vs n';generalize hv:vs.toList=l at g4;cases g4 with
      |cons q1 q2=>
       cases q1 with
       |@tuple a' _ _ _ _ _ k1 k2 k3 k4=>
        refine⟨.ref a'::fs,.cons g1 g2 g3 (f:=.ref a') ?_ h1,by simp[h2],?_⟩
        .rw[<- U4,hv];rfl
        .intro v hv';rcases List.mem_cons.mp hv' with z|z
         .exact⟨_,_,z,k1,k2⟩
         .exact h3 v z
    |_=>exact absurd e.1 (by intro z;cases z)
theorem OH{M:Model}{rows:List (List PyData)}{vs:List Value}{as:List Addr}{Q:SortKind->Shared->Prop}(r:ReadsAll s.heap vs (rows.map .tuple) as)(h0:0<rows.length)(hk:kU rows=true\/qT rows=true)(q:Q (tuples' (kU rows)) s):wpAny M A (keyKind' vs.toArray) Q E s:=by
 rcases hk with hk|hk
 .obtain⟨fs,h1,h2,h3⟩:=firstsI r hk;rw[hk]at q;refine PySem.W.kat_kind (T:=.type "int") h1 (by omega) (fun v hv=>?_) (by decide) q;obtain⟨n,t,rfl⟩:=h3 v hv;exact aCB n t
 .obtain⟨fs,h1,h2,h3⟩:=JE r hk
  have e:kU rows=false:=by
   cases rows with
   |nil=>cases h0
   |cons x r=>
    unfold qT at hk;rw[U3,C2]at hk;cases x with
    |nil=>rfl
    |cons d ds=>cases d<;>first|rfl|exact absurd hk.1 (by intro z;cases z)
  rw[e]at q;refine PySem.W.kat_kind (T:=.type "tuple") h1 (by omega) (fun v hv=>?_) (by decide) q;obtain⟨a,o,rfl,g,c⟩:=h3 v hv;exact aDa g c
end
section
variable{X:Cx}{pins:List (Addr×Obj)}{σ:St}{H:Hp}{s:Shared}{h':Heap}
theorem dG.there{P:Program}{w:World}{h:Heap}{a:Addr}{o:HO}(x:dG P w H h a o):∃u,h.get? a=some u:=by
 induction o with
 |lst xs=>obtain⟨_,_,_,_,e⟩:=x;exact⟨_,e⟩
 |tup xs=>obtain⟨_,_,_,_,e,_⟩:=x;exact⟨_,e⟩
 |dK kvs=>obtain⟨_,_,_,_,o,_,_,e,_⟩:=x;exact⟨_,e⟩
 |dT kvs=>obtain⟨_,_,_,_,o,_,_,e,_⟩:=x;exact⟨_,e⟩
 |set S n=>obtain⟨o,_,_,_,e,_⟩:=x;exact⟨_,e⟩
 |ins C dx fs=>obtain⟨_,_,_,e,_⟩:=x;exact⟨_,e⟩
 |own y=>exact x
 |xd fs=>obtain⟨_,⟨_,_,_,e,_⟩,_⟩:=x;exact⟨_,e⟩
 |rng lo hi=>obtain⟨_,_,_,e⟩:=x;exact⟨_,e⟩
 |frz o u=>exact⟨_,x.1⟩
 |tbl ps=>exact⟨_,x⟩
 |met f x'=>exact⟨_,x⟩
 |ext φ=>exact x.2.1
theorem HOk.none{P:Program}{w:World}{h:Heap}{a:Addr}(x:HOk P w H h)(e:h.get? a=none):H a=none:=by
 cases q:H a with
 |none=>rfl
 |some o=>
  obtain⟨u,z⟩:=(x a o q).there;rw[e]at z;cases z
theorem Inv.laidL{a:Addr}{o:HO}(I:Inv X pins σ H s)(k:∀b u,b≠X.env.locals->s.heap.get? b=some u->h'.get? b=some u)(ns:∀m,s.heap.Ns X.env.locals m->h'.Ns X.env.locals m)(hp:s.heap.get? a=none)(new:dG X.prog X.w (upd H a o) h' a o):
 Inv X pins σ (upd H a o) { s with heap:=h' }:=by
 have hn:=I.hok.none hp;have nt:∀b u,H b=some u->b≠X.env.locals:=fun b u e z=>by rw[z,I.free]at e;cases e
 refine I.step (g':=s.gens) (t':=s.toks) (d':=s.drawn) (ch:=[]) (fun _ z=>nomatch z) (fun b o h1 _ _ e _=>k b o h1 e) (fun b o h1 _ _ e _=>⟨o.slots,k b o h1 e⟩) (fun b o _ e n=>?_) (fun b o _ e=>?_) (fun b xs e=>?_) (fun b o u e=>?_) (fun b ps e=>⟨#[],?_⟩) ns ?_ I.bare
 .rw[aM (fun z=>by subst z;rw[hp]at e;cases e)];exact n
 .by_cases z:b=X.env.locals
  .subst z;obtain⟨m,hm,_⟩:=I.loc;obtain⟨o',_,_,q,_⟩:=ns m hm;exact⟨o',q⟩
  .exact⟨o,k b o z e⟩
 .rw[aM (aQ e hn)];exact e
 .rw[aM (aQ e hn)];exact e
 .rw[aM (aQ e hn)];simpa using e
 .intro b u e;by_cases hb:b=a
  .subst hb;rw[aN]at e;cases e;exact new
  .rw[aM hb]at e;refine(I.hok b u e).stay (fun c v hc q=>k c v ?_ q) (fun c q=>by rw[aM (aQ q hn)];exact q) fun c xs q=>by rw[aM (aQ q hn)];exact q
   rcases hc with z|z
   .rw[z];exact nt b _ e
   .exact nt c _ z
theorem KP{h:Heap}{L:Addr}{m m':Str->Option Value}(a:h.Ns L m)(b:h.Ns L m'):m=m':=by
 obtain⟨o,es,ep,h1,h2,_,h3⟩:=a;obtain⟨o',es',ep',k1,k2,_,k3⟩:=b;rw[h1]at k1;cases k1;rw[h2]at k2;cases k2;funext x;rw[<- h3 x,k3 x]
noncomputable def fR(rows:List (List PyData))(i j:Nat):Bool:=(cP (rows.getD i []) (rows.getD j [])).getD false
noncomputable def IA(K:Fg):List V->Hp->VK->Prop:=fun xs H Q=>∃(p:Addr)(vs:List V)(rows:List (List PyData)),xs=[.ref p]/\SqL K H p vs/\aI K H (rows.map .tuple) vs/\2<=rows.length/\rows.length<64 /\
 (∀r∈rows,r.all SeqAt.shaped=true/\dB r=true)/\(kU rows=true\/qT rows=true)/\(∀i j,i<rows.length->j<rows.length->(cP (rows.getD i []) (rows.getD j [])).isSome=true) /\
 ∀l,H l=none->Q (.ref l) (upd H l (.lst ((eC (fR rows) rows.length).map fun i=>vs.getD i .non)))
theorem yJ{vs:List V}{us:List Value}(r:aV vs us):∀ps:List Nat,aV (ps.map fun i=>vs.getD i .non) (ps.map fun i=>us.getD i .none)
 |[]=>.nil
 |p::ps=>by
  refine .cons ?_ (yJ r ps)
  have go:∀{vs:List V}{us:List Value}(i:Nat),aV vs us->RelV (vs.getD i .non) (us.getD i .none):=by
   intro vs us i r
   induction r generalizing i with
   |nil=>exact rfl
   |cons a b ih=>cases i with
    |zero=>exact a
    |succ i=>exact ih i
  exact go p r
theorem zQ(hu:X.A.in1.in1.units+64<cLine):dO X (.builtin "sorted") (IA X.K):=by
 intro pins s σ H xs us Q I r h;obtain⟨p,vs,rows,rfl,hp,hrep,h2,h64,hsh,hknd,hlt,q⟩:=h;obtain⟨u,rfl,ru⟩:=vals1 r;cases ru;obtain⟨its,rv,pl,hz⟩:=I.list hp;obtain⟨as,hr⟩:=aI.reads I _ vs its hrep rv;have hlen:its.length=rows.length:=by rw[ReadsAll.len hr,A3]
 obtain⟨m,F⟩:=I.fr;have N:News X.base X.env.locals s.heap (jU X.base s.heap X.env.locals):=FL;refine PySem.W.kat_sorted F N pl.isList (by omega) (by omega) fun D e1 h' F' N' hD=>?_
 have kp:∀(h1:Heap),Fr X.base X.env.locals h1 m->(∀q∈jU X.base s.heap X.env.locals,h1.get? q.1=some q.2)->∀b o,b≠X.env.locals->s.heap.get? b=some o->h1.get? b=some o:=fun h1 G1 M1 b o hb e=>by
  cases z:X.base.get? b with
  |some v=>
   have:=I.bk b v z;rw[e]at this;cases this;exact G1.keep b _ z
  |none=>exact M1 (b,o) (jO hb z e)
 have k':=kp h' F' (fun q hq=>(N' q (B3 _ hq)).1)
 have hsz:s.heap.get? D=none:=by
  have hN:=N' _ B5;cases e:s.heap.get? D with
  |none=>rfl
  |some o=>exact absurd (hD (D,o) (jO hN.2.1 hN.2.2 e)) (F6 _)
 have seqL:∀b o vs n,s.heap.get? b=some o->o.data=.seq vs n->b≠X.env.locals:=fun b o vs n e d z=>by
  obtain⟨o',es,ep,x1,x2,_⟩:=F.ns;subst z;rw[e]at x1;cases x1;rw[d]at x2;cases x2
 have onl:dB (rows.map .tuple)=true:=by
  clear hrep hr hlen q hknd hlt h2 h64
  induction rows with
  |nil=>rfl
  |cons x r ih=>
   show(dB x&&dB (r.map .tuple))=true;rw[(hsh x B5).2,ih fun y hy=>hsh y (B3 _ hy)];rfl
 have hr':ReadsAll h' its (rows.map .tuple) as:=VU (fun b o vs n e d=>k' b o (seqL b o vs n e d) e) _ _ _ onl hr;refine OH (s:={ s with heap:=h' }) hr' (by omega) hknd ?_;rw[hlen];refine KS.wp (lt:=fR rows) (n:=rows.length) (fun i j C hi hj c=>?_) (fun p hp'=>?_) ((KB (by omega)).ks (lt:=fR rows))
 .have at_:∀i,i<rows.length->∃bs,Reads h' (its.getD i .none) (.tuple (rows.getD i [])) bs:=fun i hi=>by
   obtain⟨bs,x⟩:=ReadsAll.at i hr' (by simpa using hi)
   have:(rows.map PyData.tuple).getD i .none=.tuple (rows.getD i []):=by
    rw[A8,C3,A8,A9 hi];rfl
   rw[this]at x;exact⟨bs,x⟩
  obtain⟨b1,r1⟩:=at_ i hi;obtain⟨b2,r2⟩:=at_ j hj
  have mem:∀i,i<rows.length->rows.getD i []∈rows:=fun i hi=>by
   rw[A8,A9 hi];exact J3 hi
  have hd:kU rows=true->∀r∈rows,r.head?.all isI=true:=fun z r hr=>by
   unfold kU at z;have:=List.all_eq_true.mp z r hr;cases r with
   |nil=>rfl
   |cons d ds=>cases d<;>first|rfl|exact absurd this (by intro z;cases z)
  obtain⟨c0,hc0⟩:=Option.isSome_iff_exists.mp (hlt i j hi hj);have hc:fR rows i j=c0:=by unfold fR;rw[hc0];rfl
  rw[hc]at c;exact aDf (s:={ s with heap:=h' }) hu r1 r2 (hsh _ (mem i hi)).1 (hsh _ (mem j hj)).1 hc0 (fun z=>⟨hd z _ (mem i hi),hd z _ (mem j hj)⟩) c
 .obtain⟨e,_⟩:=hp';subst e;refine PySem.W.KasFin.intro F' N' (.head fun q hq=>D1 (hD q hq)) fun h'' c F'' N''=>?_;have k'':=kp h'' F'' (fun q hq=>(N'' q (B3 _ hq)).1);refine⟨.ref D,upd H D (.lst ((eC (fR rows) rows.length).map fun i=>vs.getD i .non)),?_,rfl,q D (I.hok.none hsz)⟩;refine I.laidL k'' (fun m' hm'=>?_) hsz ⟨?_,_,c,yJ rv _,(N'' _ B5).1⟩
  .rw[<- KP F.ns hm'];exact F''.ns
  .rw[A3,(mT (fR rows) (by omega)).length_eq,U5];have:64<=sizeLine:=by decide
   omega
end
noncomputable def rowsOf:List PyData->Option (List (List PyData))
 |[]=>some []
 |.tuple r::ds=>(rowsOf ds).bind fun rs=>some (r::rs)
 |_=>none
theorem qY:∀{ds:List PyData}{rows:List (List PyData)},rowsOf ds=some rows->ds=rows.map .tuple
 |[],_=>fun h=>by cases h;rfl
 |d::ds,rows=>fun h=>by
  cases d with
  |tuple r=>
   have h:(rowsOf ds).bind (fun rs=>some (r::rs))=some rows:=h;obtain⟨rs,h1,h2⟩:=Option.bind_eq_some_iff.mp h;cases h2;rw[qY h1];rfl
  |_=>cases h
noncomputable def sortable(rows:List (List PyData)):Bool:=decide (2<=rows.length)&&decide (rows.length<64)&&rows.all (fun r=>r.all SeqAt.shaped&&dB r)&&(kU rows || qT rows)&&(List.range rows.length).all fun i=>(List.range rows.length).all fun j=>(cP (rows.getD i []) (rows.getD j [])).isSome
noncomputable def yO(rows:List (List PyData)):List PyData:=(eC (fR rows) rows.length).map fun i=>.tuple (rows.getD i [])
noncomputable def uB:FN:=fun xs M=>match xs with
 |[.d (.list ds)]=>(rowsOf ds).bind fun rows=>if sortable rows=true then some (.d (.list (yO rows)),M)else none
 |[.c i]=>match M[i]? with
  |some (.lst ys)=>(kZ ys).bind fun ds=>(rowsOf ds).bind fun rows=>if sortable rows=true then some (.d (.list (yO rows)),M)else none
  |_=>none
 |_=>none
theorem jQ{rows:List (List PyData)}(h:sortable rows=true):2<=rows.length/\rows.length<64/\(∀r∈rows,r.all SeqAt.shaped=true/\dB r=true)/\(kU rows=true\/qT rows=true)/\(∀i j,i<rows.length->j<rows.length->(cP (rows.getD i []) (rows.getD j [])).isSome=true):=by
 unfold sortable at h;rw[C2,C2,C2,C2,Bool.or_eq_true]at h;obtain⟨⟨⟨⟨h1,h2⟩,h3⟩,h4⟩,h5⟩:=h;refine⟨D7 h1,D7 h2,fun r hr=>?_,h4,fun i j hi hj=>?_⟩
 .have:=List.all_eq_true.mp h3 r hr
  rwa [C2]at this
 .exact List.all_eq_true.mp (List.all_eq_true.mp h5 i (List.mem_range.mpr hi)) j (List.mem_range.mpr hj)
section
variable{K:Fg}
theorem aI.len{H:Hp}:∀{ds:List PyData}{vs:List V},aI K H ds vs->vs.length=ds.length
 |[],_=>fun h=>by
  have h:_=[]:=h;rw[h];rfl
 |d::ds,_=>fun h=>by
  obtain⟨v,r,rfl,_,h2⟩:=(show ∃v r,_=v::r/\Rep K H d v/\aI K H ds r from h);simp[aI.len h2]
theorem wL{H:Hp}{rows:List (List PyData)}{us:List V}(r:aI K H (rows.map .tuple) us):∀ps:List Nat,(∀i∈ps,i<rows.length)->aI K H (ps.map fun i=>.tuple (rows.getD i [])) (ps.map fun i=>us.getD i .non)
 |[]=>fun _=>rfl
 |p::ps=>fun hp=>by
  refine⟨_,_,rfl,?_,wL r ps fun i hi=>hp i (B3 _ hi)⟩;have hi:=hp p B5;have hl:=aI.len r;rw[A3]at hl
  have hu:us[p]?=some (us.getD p .non):=by
   rw[A8,A9 (by omega)];rfl
  obtain⟨d,h1,h2⟩:=aI.get r hu;rw[C3,A9 hi]at h1;cases h1;have e:rows.getD p []=rows[p]:=by rw[A8,A9 hi];rfl
  show Rep K H (.tuple (rows.getD p [])) (us.getD p .non);rw[e];exact h2
theorem aBI{lt:Nat->Nat->Bool}{n:Nat}(h0:0<n):∀i∈eC lt n,i<n:=fun i hi=>List.mem_range.mp ((mT lt h0).mem_iff.mp hi)
theorem NS:PN K (IA K) uB:=by
 intro xs M z M' h W H vs Q G r k;unfold uB at h;split at h
 .rename_i ds;obtain⟨rows,h1,h⟩:=aH h;by_cases hs:sortable rows=true
  .rw[A7 hs]at h;cases h;obtain⟨a1,a2,a3,a4,a5⟩:=jQ hs;rcases r with _|⟨r1,_|_⟩;obtain⟨p,us,rfl,hq,hr⟩:=(show ∃a us,_=V.ref a/\SqL K W.F a us/\aI K W.F ds us from r1);rw[qY h1]at hr;refine⟨p,us,rows,rfl,G.fh.seq hq,aI.same G.fh _ _ hr,a1,a2,a3,a4,a5,fun l hl=>?_⟩;obtain⟨e2,G2⟩:=G.lay (o:=.lst ((eC (fR rows) rows.length).map fun i=>us.getD i .non)) hl;exact k _ _ _ e2 G2 ⟨l,_,rfl,SqL.of aN,wL (aI.same e2.ff _ _ hr) _ (aBI (by omega))⟩
  .rw[B0 hs]at h;cases h
 .rename_i i;split at h
  .rename_i ys hy;obtain⟨ds,h0,h⟩:=aH h;obtain⟨rows,h1,h⟩:=aH h;by_cases hs:sortable rows=true
   .rw[A7 hs]at h;cases h;obtain⟨a1,a2,a3,a4,a5⟩:=jQ hs;rcases r with _|⟨r1,_|_⟩;obtain⟨us,hv,hr⟩:=G.lstAt hy;have hr:=dI h0 hr;rw[qY h1]at hr;rw[r1.2];refine⟨_,us,rows,rfl,SqL.of hv,aI.same G.fh _ _ hr,a1,a2,a3,a4,a5,fun l hl=>?_⟩;obtain⟨e2,G2⟩:=G.lay (o:=.lst ((eC (fR rows) rows.length).map fun i=>us.getD i .non)) hl;exact k _ _ _ e2 G2 ⟨l,_,rfl,SqL.of aN,wL (aI.same e2.ff _ _ hr) _ (aBI (by omega))⟩
   .rw[B0 hs]at h;cases h
  .cases h
 .cases h
end
theorem dF.units2{k:Nat}{A:Around}(r:dF k A):A.in1.in1.units+64<cLine:=by have:=r.un;show A.units+1+1+64<_;omega
section
variable{prog:Program}{w:World}{A:Around}{E:Value->Shared->Prop}{s:Shared}
theorem tU{a:Addr}{vs:List Value}{n:Nat}{P:PySem.Fin->Shared->Prop}(g:s.heap.get? a=some (seqObj "list" vs.toArray n))(h2:vs.length<2)
 (k:P (.done (.ret .none)) { s with heap:=sortedHeap s.heap a vs vs.toArray }):wpAny (model prog w) A (Builtin.«list.sort» ⟨[.ref a],[]⟩) P E s:=by
 rw[list_sort_plain];have hz:vs.toArray.size<=sizeLine:=by rw[C4,E4];omega
 refine A4 (listItems_at g rfl ?_);refine A4 (listUpdate_at g rfl ?_ hz (by simp));have g1:=Z5 g (fun _=>#[]);have hlt:=B8 g1;refine A4 (seqEpoch_at g1 rfl ?_);refine A4 (wpAny_newTuple ?_ (by simpa using hz));refine A4 (wpAny_newList ?_);refine L4 ?_;have hs:vs.toArray.size<2:=by simpa using h2
 dsimp only;rw[A7 hs,A7 hs];refine A4 (B7 ?_);refine A4 ?_;show wpAny (model prog w) A (pure ((),SortSt.mk' general' (vs.toArray.zip vs.toArray) #[] 7 none)) _ E _;refine B7 ?_;dsimp only;have g2:=A6 { cls:=.type "tuple",data:=.seq vs.toArray.toList.toArray } g1;have g3:=A6 { cls:=.type "list",data:=.seq ([]:List Value).toArray } g2;refine A4 (seqEpoch_at g3 rfl ?_)
 have hm:Array.map (fun x=>x.snd) (arrOf (SortSt.mk' general' (vs.toArray.zip vs.toArray) #[] 7 none))=vs.toArray:=by
  show Array.map (fun x=>x.snd) (vs.toArray.zip vs.toArray)=vs.toArray
  apply Array.ext
  .simp
  .intro i h1 h2;simp
 rw[hm];refine A4 (listUpdate_at g3 rfl ?_ (by simp) (by omega));rw[B0 (by simp)];exact B7 k
theorem zW{l:Addr}{vs:List Value}{Q:Value->Shared->Prop}(g:s.heap.IsList l vs.toArray)(h2:vs.length<2)
 (k:∀(h':Heap)(D:Addr),(∀b o,s.heap.get? b=some o->h'.get? b=some o)->s.heap.objs.size<=D->(∃c,h'.get? D=some (seqObj "list" vs.toArray c))->Q (.ref D) { s with heap:=h' }):wpAny (model prog w) A (call (.builtin "sorted") [.ref l]) Q E s:=by
 refine Calls.call_function_entry kind_sorted plain_sorted entry_sorted (args_sorted1 _) ?_;have hz:vs.length<=sizeLine:=by rw[E4];omega
 unfold Builtin.sorted;refine A4 (show wpAny _ _ (pure ()) _ _ _ from B7 ?_);refine A4 (collect_list g ?_ hz);refine A4 (wpAny_newList ?_ hz);generalize hh1:(s.heap.push (seqObj "list" #[] 0)).update s.heap.objs.size (Obj.mapSeq fun x=>x++vs.toArray)=h1
 have k1:∀b o,s.heap.get? b=some o->h1.get? b=some o:=fun b o e=>by
  rw[<- hh1,U0 _ _ _ _ (D1 (B8 e))];exact A6 _ e
 have sz1:s.heap.objs.size<=h1.objs.size:=by
  have e1:(s.heap.push (seqObj "list" #[] 0)).get? s.heap.objs.size=some (seqObj "list" #[] 0):=D2 _ rfl;have e2:=Z5 e1 (fun x=>x++vs.toArray);rw[hh1]at e2;exact Z9 (B8 e2)
 refine A4 (L4 ?_);have gD:(h1.push { cls:=.type "list",data:=.seq vs.toArray }).get? h1.objs.size=some (seqObj "list" vs.toArray 0):=D2 _ rfl;refine Y7 slot_list_sort ⟨_,gD,rfl⟩ entry_list_sort (tU gD h2 ⟨_,rfl,?_⟩) (args_list_sort _);refine B7 ⟨_,rfl,k _ _ (fun b o e=>?_) sz1 ?_⟩
 .have hb:b≠h1.objs.size:=D1 (B8 (k1 b o e));unfold sortedHeap;rw[U0 _ _ _ _ hb];refine A6 _ (A6 _ ?_);rw[U0 _ _ _ _ hb];exact A6 _ (k1 b o e)
 .unfold sortedHeap;have g1:=Z5 gD (fun _=>#[]);have g2:=A6 (seqObj "tuple" vs.toArray 0) g1;have g3:=A6 (seqObj "list" #[] 0) g2;exact⟨_,Z5 g3 (fun _=>vs.toArray)⟩
end
noncomputable def GI(K:Fg):List V->Hp->VK->Prop:=fun xs H Q=>∃(p:Addr)(vs:List V),xs=[.ref p]/\SqL K H p vs/\vs.length<2/\∀l,H l=none->Q (.ref l) (upd H l (.lst vs))
theorem zT{X:Cx}:dO X (.builtin "sorted") (GI X.K):=by
 intro pins s σ H xs us Q I r h;obtain⟨p,vs,rfl,hp,h2,q⟩:=h;obtain⟨u,rfl,ru⟩:=vals1 r;cases ru;obtain⟨its,rv,pl,hz⟩:=I.list hp;have hl:=rv.length;refine zW pl.isList (by omega) fun h' D k hD ⟨c,g⟩=>?_;exact⟨.ref D,upd H D (.lst vs),I.laid (t':=s.toks) k hD ⟨hz,its,c,rv,g⟩,rfl,q D (I.hok.fresh hD)⟩
noncomputable def UY(K:Fg):List V->Hp->VK->Prop:=fun xs H Q=>IA K xs H Q\/GI K xs H Q
theorem aCF{X:Cx}(h:X.K=K)(hu:X.A.in1.in1.units+64<cLine):dO X (.builtin "sorted") (UY K):=by
 subst h;intro pins s σ H xs us Q I r h;rcases h with h|h
 .exact zQ hu pins s σ H xs us Q I r h
 .exact zT pins s σ H xs us Q I r h
noncomputable def pH:FN:=fun xs M=>match xs with
 |[.d (.list ds)]=>if ds.length<2 then some (.d (.list ds),M)else none
 |[.c i]=>match M[i]? with
  |some (.lst ys)=>(kZ ys).bind fun ds=>if ds.length<2 then some (.d (.list ds),M)else none
  |_=>none
 |_=>none
theorem SJ:PN K (GI K) pH:=by
 intro xs M z M' h W H vs Q G r k;unfold pH at h;split at h
 .rename_i ds;by_cases hs:ds.length<2
  .rw[A7 hs]at h;cases h;rcases r with _|⟨r1,_|_⟩;obtain⟨p,us,rfl,hq,hr⟩:=(show ∃a us,_=V.ref a/\SqL K W.F a us/\aI K W.F ds us from r1);refine⟨p,us,rfl,G.fh.seq hq,by rw[aI.len hr];exact hs,fun l hl=>?_⟩;obtain⟨e2,G2⟩:=G.lay (o:=.lst us) hl;exact k _ _ _ e2 G2 ⟨l,_,rfl,SqL.of aN,aI.same e2.ff _ _ hr⟩
  .rw[B0 hs]at h;cases h
 .rename_i i;split at h
  .rename_i ys hy;obtain⟨ds,h0,h⟩:=aH h;by_cases hs:ds.length<2
   .rw[A7 hs]at h;cases h;rcases r with _|⟨r1,_|_⟩;obtain⟨us,hv,hr⟩:=G.lstAt hy;have hr:=dI h0 hr;rw[r1.2];refine⟨_,us,rfl,SqL.of hv,by rw[aI.len hr];exact hs,fun l hl=>?_⟩;obtain⟨e2,G2⟩:=G.lay (o:=.lst us) hl;exact k _ _ _ e2 G2 ⟨l,_,rfl,SqL.of aN,aI.same e2.ff _ _ hr⟩
   .rw[B0 hs]at h;cases h
  .cases h
 .cases h
noncomputable def sM:FN:=fun xs M=>match pH xs M with
 |some r=>some r
 |none=>uB xs M
theorem TN:PN K (UY K) sM:=by
 intro xs M z M' h W H vs Q G r k;unfold sM at h;split at h
 .rename_i q hq;cases h;exact .inr (SJ xs M z M' hq W H vs Q G r k)
 .exact .inl (NS xs M z M' h W H vs Q G r k)
theorem aAb{ι:Type}{X:ι->Cx}(hK:∀i,(X i).K=K)(hu:∀i,(X i).A.in1.in1.units+64<cLine):QN K X (.builtin "sorted") sM:=⟨_,fun i=>aCF (hK i) (hu i),TN⟩
mutual
theorem AR:∀(x y:PyData),dP x=true->dP y=true->(PyData.eqv x y=true↔x=y)
 |.int a,.int b=>fun _ _=>by rw[PyData.eqv.eq_def];simp
 |.int a,.tuple b=>fun _ _=>by rw[PyData.eqv.eq_def];simp
 |.tuple a,.int b=>fun _ _=>by rw[PyData.eqv.eq_def];simp
 |.tuple xs,.tuple ys=>fun h k=>by
  unfold dP at h k;rw[PyData.eqv.eq_def];have:=aBJ xs ys h k;simpa using this
 |.none,_=>fun h _=>by unfold dP at h;cases h
 |.bool _,_=>fun h _=>by unfold dP at h;cases h
 |.str _,_=>fun h _=>by unfold dP at h;cases h
 |.list _,_=>fun h _=>by unfold dP at h;cases h
 |.dict _,_=>fun h _=>by unfold dP at h;cases h
 |.int _,.none=>fun _ h=>by unfold dP at h;cases h
 |.int _,.bool _=>fun _ h=>by unfold dP at h;cases h
 |.int _,.str _=>fun _ h=>by unfold dP at h;cases h
 |.int _,.list _=>fun _ h=>by unfold dP at h;cases h
 |.int _,.dict _=>fun _ h=>by unfold dP at h;cases h
 |.tuple _,.none=>fun _ h=>by unfold dP at h;cases h
 |.tuple _,.bool _=>fun _ h=>by unfold dP at h;cases h
 |.tuple _,.str _=>fun _ h=>by unfold dP at h;cases h
 |.tuple _,.list _=>fun _ h=>by unfold dP at h;cases h
 |.tuple _,.dict _=>fun _ h=>by unfold dP at h;cases h
theorem aBJ:∀(xs ys:List PyData),dB xs=true->dB ys=true->(PyData.eqvAll xs ys=true↔xs=ys)
 |[],[]=>fun _ _=>by rw[A0a];simp
 |[],_::_=>fun _ _=>by rw[A0a];simp
 |_::_,[]=>fun _ _=>by rw[A0a];simp
 |x::xs,y::ys=>fun h k=>by
  unfold dB at h k;rw[C2]at h k;rw[A0a];show(PyData.eqv x y&&PyData.eqvAll xs ys)=true↔_;rw[C2,AR x y h.1 k.1,aBJ xs ys h.2 k.2,List.cons.injEq]
end
theorem PR:∀a b:List Int,HT.lexLt a b=true->HT.lexLt b a=false
 |[],[]=>fun h=>by cases h
 |[],_::_=>fun _=>rfl
 |_::_,[]=>fun h=>by cases h
 |x::xs,y::ys=>fun h=>by
  rw[HT.lexLt_cons]at h ⊢;by_cases e:x=y
  .rw[A7 e]at h;rw[A7 e.symm];exact PR xs ys h
  .rw[B0 e]at h;rw[B0 (J9 e)];have:=D7 h;exact C1 (by omega)
theorem WR:∀a b c:List Int,HT.lexLt b a=false->HT.lexLt c b=false->HT.lexLt c a=false
 |[],_,[]=>fun _ _=>rfl
 |[],_,_::_=>fun _ _=>rfl
 |x::xs,[],_=>fun h _=>by cases h
 |x::xs,y::ys,[]=>fun _ h=>by cases h
 |x::xs,y::ys,z::zs=>fun h k=>by
  rw[HT.lexLt_cons]at h k ⊢;by_cases e:y=x
  .rw[A7 e]at h;by_cases e':z=y
   .rw[A7 e']at k;rw[A7 (e'.trans e)];exact WR xs ys zs h k
   .rw[B0 e']at k;subst e;rw[B0 e'];exact k
  .rw[B0 e]at h;have h:=J5 h;by_cases e':z=y
   .subst e';rw[B0 e];exact C1 h
   .rw[B0 e']at k;have k:=J5 k;rw[B0 (by omega)];exact C1 (by omega)
theorem UQ:∀a b:List Int,HT.lexLt a b=false->HT.lexLt b a=false->a=b
 |[],[]=>fun _ _=>rfl
 |[],_::_=>fun h _=>by cases h
 |_::_,[]=>fun _ h=>by cases h
 |x::xs,y::ys=>fun h k=>by
  rw[HT.lexLt_cons]at h k;by_cases e:x=y
  .rw[A7 e]at h;rw[A7 e.symm]at k;rw[e,UQ xs ys h k]
  .rw[B0 e]at h;rw[B0 (J9 e)]at k;have h:=J5 h;have k:=J5 k;omega
theorem MN:∀{xs ys:List PyData}{ns:List Int},gE xs=some ns->gE ys=some ns->xs=ys:=by
 have go:∀{xs:List PyData}{ns:List Int},gE xs=some ns->xs=ns.map .int:=by
  intro xs
  induction xs with
  |nil=>intro ns h;cases h;rfl
  |cons d ds ih=>
   intro ns h;cases d with
   |int n=>
    have h:(gE ds).bind (fun ns=>some (n::ns))=some ns:=h;obtain⟨ms,h1,h2⟩:=Option.bind_eq_some_iff.mp h;cases h2;rw[ih h1];rfl
   |_=>cases h
 intro xs ys ns h k;rw[go h,go k]
theorem oI{x y:PyData}{c:Bool}(h:dU x y=some c):(∃a b,x=.int a/\y=.int b/\c=decide (a<b))\/∃xs ys ns ms,x=.tuple xs/\y=.tuple ys/\gE xs=some ns/\gE ys=some ms/\c=HT.lexLt ns ms:=by
 unfold dU at h;split at h
 .cases h;exact .inl ⟨_,_,rfl,rfl,rfl⟩
 .obtain⟨ns,h1,h⟩:=Option.bind_eq_some_iff.mp h;obtain⟨ms,h2,h⟩:=Option.bind_eq_some_iff.mp h;cases h;exact .inr ⟨_,_,_,_,rfl,rfl,h1,h2,rfl⟩
 .cases h
theorem DV{x y:PyData}{c:Bool}(h:dU x y=some c):∃d,dU y x=some d/\(c=true->d=false)/\(c=false->d=false->x=y):=by
 rcases oI h with⟨a,b,rfl,rfl,rfl⟩|⟨xs,ys,ns,ms,rfl,rfl,h1,h2,rfl⟩
 .refine⟨decide (b<a),rfl,fun z=>C1 (by have:=D7 z;omega),fun z z'=>?_⟩;have z:=J5 z;have z':=J5 z';rw[show a=b by omega]
 .refine⟨HT.lexLt ms ns,?_,fun z=>PR _ _ z,fun z z'=>?_⟩
  .show(gE ys).bind _=_;rw[h2];show(gE xs).bind _=_;rw[h1];rfl
  .have:=UQ _ _ z z';subst this;rw[MN h1 h2]
theorem aAX{x y z:PyData}(h:dU y x=some false)(k:dU z y=some false):dU z x=some false:=by
 rcases oI h with⟨a,b,rfl,rfl,hh⟩|⟨xs,ys,ns,ms,rfl,rfl,h1,h2,hh⟩
 .rcases oI k with⟨c,d,rfl,e,kk⟩|⟨_,_,_,_,_,e,_⟩
  .cases e;have hh:=J5 hh.symm;have kk:=J5 kk.symm;show some (decide (c<b))=some false;rw[C1 (by omega)]
  .cases e
 .rcases oI k with⟨c,d,rfl,e,kk⟩|⟨zs,ys',ns',ms',rfl,e,k1,k2,kk⟩
  .cases e
  .cases e;rw[h1]at k2;cases k2;have:=WR _ _ _ hh.symm kk.symm;show(gE zs).bind _=_;rw[k1];show(gE ys).bind _=_;rw[h2];show some _=some false;rw[this]
theorem PF:∀a b:List PyData,dB a=true->dB b=true->cP a b=some true->cP b a=some false
 |[],[]=>fun _ _ h=>by cases h
 |[],_::_=>fun _ _ _=>rfl
 |_::_,[]=>fun _ _ h=>by cases h
 |x::xs,y::ys=>fun p q h=>by
  unfold dB at p q;rw[C2]at p q;have h:(if PyData.eqv x y=true then cP xs ys else dU x y)=some true:=h;show(if PyData.eqv y x=true then cP ys xs else dU y x)=some false;by_cases e:PyData.eqv x y=true
  .rw[A7 e]at h;have e':=(AR x y p.1 q.1).mp e;rw[A7 ((AR y x q.1 p.1).mpr e'.symm)];exact PF xs ys p.2 q.2 h
  .rw[B0 e]at h;rw[B0 fun z=>e ((AR x y p.1 q.1).mpr ((AR y x q.1 p.1).mp z).symm)];obtain⟨d,h1,h2,_⟩:=DV h;rw[h1,h2 rfl]
theorem UW:∀a b c:List PyData,dB a=true->dB b=true->dB c=true->cP b a=some false->cP c b=some false->cP c a=some false
 |[],_,[]=>fun _ _ _ _ _=>rfl
 |[],_,_::_=>fun _ _ _ _ _=>rfl
 |x::xs,[],_=>fun _ _ _ h _=>by cases h
 |x::xs,y::ys,[]=>fun _ _ _ _ h=>by cases h
 |x::xs,y::ys,z::zs=>fun p q r h k=>by
  unfold dB at p q r;rw[C2]at p q r;have hA:(if PyData.eqv y x=true then cP ys xs else dU y x)=some false:=h;clear h;have kA:(if PyData.eqv z y=true then cP zs ys else dU z y)=some false:=k;clear k;show(if PyData.eqv z x=true then cP zs xs else dU z x)=some false;by_cases e:PyData.eqv y x=true
  .rw[A7 e]at hA;have e1:=(AR y x q.1 p.1).mp e;subst e1;by_cases e':PyData.eqv z y=true
   .rw[A7 e']at kA ⊢;exact UW xs ys zs p.2 q.2 r.2 hA kA
   .rw[B0 e']at kA ⊢;exact kA
  .rw[B0 e]at hA;by_cases e':PyData.eqv z y=true
   .have e1:=(AR z y r.1 q.1).mp e';subst e1;rw[B0 e];exact hA
   .rw[B0 e']at kA
    have ez:¬PyData.eqv z x=true:=fun w=>by
     have w:=(AR z x r.1 p.1).mp w;subst w;obtain⟨d,h1,_,h3⟩:=DV hA;rw[h1]at kA;cases kA;exact e ((AR y z q.1 p.1).mpr (h3 rfl rfl))
    rw[B0 ez];exact aAX hA kA
theorem TR{rows:List (List PyData)}(h:sortable rows=true):qK (fR rows):=by
 obtain⟨a1,a2,a3,a4,a5⟩:=jQ h
 have onl:∀i,dB (rows.getD i [])=true:=fun i=>by
  rw[A8];cases e:rows[i]? with
  |none=>rfl
  |some r=>exact(a3 r (E5 e)).2
 have out:∀i,¬i<rows.length->rows.getD i []=[]:=fun i hi=>by
  rw[A8,Z0 (by omega)];rfl
 have ans:∀i j,∃c,cP (rows.getD i []) (rows.getD j [])=some c:=fun i j=>by
  by_cases hi:i<rows.length
  .by_cases hj:j<rows.length
   .exact Option.isSome_iff_exists.mp (a5 i j hi hj)
   .rw[out j hj];cases rows.getD i []with
    |nil=>exact⟨_,rfl⟩
    |cons _ _=>exact⟨_,rfl⟩
  .rw[out i hi];exact⟨_,rfl⟩
 have is:∀i j c,fR rows i j=c->cP (rows.getD i []) (rows.getD j [])=some c:=fun i j c e=>by
  obtain⟨d,hd⟩:=ans i j;unfold fR at e;rw[hd]at e ⊢;exact E9 some e
 have un:∀i j c,cP (rows.getD i []) (rows.getD j [])=some c->fR rows i j=c:=fun i j c e=>by
  unfold fR;rw[e];rfl
 exact⟨fun a b e=>un _ _ _ (PF _ _ (onl a) (onl b) (is _ _ _ e)),fun a b c e e'=>un _ _ _ (UW _ _ _ (onl a) (onl b) (onl c) (is _ _ _ e) (is _ _ _ e'))⟩
theorem xI{rows:List (List PyData)}(h:sortable rows=true):fV (fR rows) (NC (fR rows) (PySem.W.kas_sort rows.length)) rows.length:=
 (KS.run (aAn (TR h) (by have:=(jQ h).1;omega))).2
noncomputable def TrS(h B:Heap)(e:Addr)(vs:Array Value):Option Value->Prop
 |none=>vs[1]?=some .none
 |some fl=>∃T oT ts,vs[1]?=some (.ref T)/\B.get? T=none/\T≠e/\h.get? T=some oT/\oT.data=.fields ts/\ts[3]?=some fl
noncomputable def Tr(h B:Heap)(e:Addr)(c:Value)(dx:Option Addr)(st:Option Value):Prop:=
 ∃oe vs,h.get? e=some oe/\(oe.cls=c/\oe.dict=dx)/\oe.data=.fields vs/\1<vs.size/\TrS h B e vs st
structure Fly(B:Heap)(l:List Env)(e:Addr)(c:Value)(dx:Option Addr)(st:Option Value)(h:Heap):Prop where
 stays:B.StaysIn h
 new:B.get? e=none
 frames:h.FunFrames B l
 tr:Tr h B e c dx st
theorem Fly.obj{B h:Heap}{l:List Env}{e:Addr}{c:Value}{dx:Option Addr}{st:Option Value}(F:Fly B l e c dx st h):∃oe vs,h.get? e=some oe/\oe.cls=c/\oe.dict=dx/\oe.data=.fields vs:=by
 obtain⟨oe,vs,h1,h2,h3,_⟩:=F.tr;exact⟨oe,vs,h1,h2.1,h2.2,h3⟩
theorem ZS(o:Obj)(f:Array Value->Array Value):(o.mapFields f).dict=o.dict:=by
 obtain⟨c,d,dt,sl⟩:=o;cases dt<;>rfl
section
variable{M:Model}{A:Around}{E:Value->Shared->Prop}{s:Shared}{B:Heap}{env:Env}{outer l:List Env}{L e:Addr}{c:Value}{dx:Option Addr}{st:Option Value}{Q:Unit->Shared->Prop}
theorem iX{h:Heap}{a b:Addr}{o oa:Obj}{vs:Array Value}(ha:h.get? a=some oa)(hd:oa.data=.fields vs)(hb:h.get? b=some o)(hn:∀ws,o.data≠.fields ws):b≠a:=fun q=>by
 subst q;rw[ha]at hb;cases hb;exact hn vs hd
theorem DX{oe:Obj}{vs:Array Value}{hd:Value}{nx:Bool}(hfr:A.frames=some (env::outer))(hf:env.frame=some L)(stays:B.StaysIn s.heap)(new:B.get? e=none)(fr:s.heap.FunFrames B (env::outer))
 (he:s.heap.get? e=some oe) (hk:oe.cls=c/\oe.dict=dx) (hv:oe.data=.fields vs) (hz:1<vs.size)
 (q:∀h',Fly B (env::outer) e c dx (some (rawInt L)) h'->s.heap.UpToSlots h'->Q () { s with heap:=h' }):
 wpAny M A (do let a <- frameOf env;let pl <- entryPlaceOf L nx;let b <- EntryCells.newEntry hd a .none (rawInt L) .none pl;setField (.ref e) 1 b) Q E s:=by
 have notF:e∉(env::outer).filterMap (·.frame):=fun hm=>by
  obtain⟨_,o,ho,hnf⟩:=fr.mem hm;exact iX he hv ho hnf rfl
 refine A4 (wpAny_frameOf_fun hfr fr hf fun g1 so=>A4 (wpAny_entryPlaceOf fun pl hpl=>?_));unfold EntryCells.newEntry newFields;refine A4 (D9 ?_ (hpl.sizeOk5 _ _ _ _ _));generalize hnw:({ cls:=.type "traceback",dict:=none,data:=.fields ([hd,Value.ref L,.none,rawInt L,.none]++(if pl.isEmpty then List.replicate 6 Value.none else pl)).toArray }:Obj)=nw;have nwd:nw.data=.fields ([hd,Value.ref L,.none,rawInt L,.none]++(if pl.isEmpty then List.replicate 6 Value.none else pl)).toArray:=by rw[<- hnw]
 have e1:g1.get? e=some oe:=(so.2.1 e notF).trans he;have st1:B.StaysIn g1:=fun b o hb=>(so.2.1 b fun hm=>by rw[(fr.mem hm).1]at hb;cases hb).trans (stays b o hb);have e2:(g1.push nw).get? e=some oe:=A6 nw e1;refine A0h e2 hv hz (q _ ?_ ?_)
 all_goals
  have nTe:g1.objs.size≠e:=Nat.ne_of_gt (B8 e1);have e3:=Z7 (Obj.mapFields (·.setIfInBounds 1 (Value.ref g1.objs.size))) e2 (Obj.isFreed_of_fields (U7 hv _))
  have kp:∀b o,b≠e->g1.get? b=some o->((g1.push nw).update e (Obj.mapFields (·.setIfInBounds 1 (Value.ref g1.objs.size)))).get? b=some o:=fun b o hbe hb=>by
   rw[S0 _ _ (J9 hbe)];exact A6 _ hb
 .refine⟨fun b o hb=>kp b o (fun z=>by rw[z,new]at hb;cases hb) (st1 b o hb),new,fr.of_keeps fun b o hb hnf=>?_,?_⟩
  .obtain⟨sl,hs⟩:=so.2.2 b o hb;exact⟨_,kp b _ (iX he hv hb hnf) hs,rfl⟩
  .refine⟨_,_,e3,⟨(Obj.cls_mapFields _ _).trans hk.1,(ZS _ _).trans hk.2⟩,U7 hv _,by simpa using hz,g1.objs.size,nw,_,by simp[hz],st1.fresh,nTe,?_,nwd,by simp⟩;rw[S0 _ _ (J9 nTe)];exact D2 g1 (by rw[<- hnw];rfl)
 .intro b o hb hnf;obtain⟨sl,hs⟩:=so.2.2 b o hb;exact⟨sl,kp b _ (iX he hv hb hnf) hs⟩
theorem BX(hfr:A.frames=some (env::outer))(hf:env.frame=some L)(F:Fly B (env::outer) e c dx st s.heap)(hst:st=none\/st=some .none\/st=some (rawInt L))
 (q:∀h',Fly B (env::outer) e c dx (some (rawInt L)) h'->s.heap.UpToSlots h'->Q () { s with heap:=h' }):wpAny M A (noteFrame (.ref e) env) Q E s:=by
 obtain⟨oe,vs,he,hk,hv,hz,ht⟩:=id F.tr;unfold noteFrame;simp only[hf];rcases hst with rfl|rfl|rfl
 .refine A4 (J4 he hv (show vs[1]?=some .none from ht) ?_);rw[B0 (by decide)];exact DX hfr hf F.stays F.new F.frames he hk hv hz q
 .obtain⟨T,oT,ts,t1,t2,t3,t4,t5,t6⟩:=ht;refine A4 (J4 he hv t1 ?_);rw[A7 (show(Value.ref T != Value.none)=true from by simp)];refine A4 (J4 t4 t5 t6 ?_);rw[B0 (show ¬((Value.none==rawInt L)=true)from by simp[rawInt])];refine A4 (A0h t4 t5 (Array.getElem?_eq_some_iff.mp t6).1 ?_);have oth:∀b,b≠T->(s.heap.update T (Obj.mapFields (·.setIfInBounds 3 Value.none))).get? b=s.heap.get? b:=fun b hb=>S0 _ _ (J9 hb)
  refine DX (s:={ s with heap:=s.heap.update T (Obj.mapFields (·.setIfInBounds 3 Value.none)) }) hfr hf (fun b o hb=>(oth b fun z=>by rw[z,t2]at hb;cases hb).trans (F.stays b o hb)) F.new
   (F.frames.of_keeps fun b o hb hnf=>⟨o,(oth b (iX t4 t5 hb hnf)).trans hb,rfl⟩) ((oth e (J9 t3)).trans he) hk hv hz fun h' F' u=>q h' F' fun b o hb hnf=>u b o ((oth b (iX t4 t5 hb hnf)).trans hb) hnf
 .obtain⟨T,oT,ts,t1,t2,t3,t4,t5,t6⟩:=ht;refine A4 (J4 he hv t1 ?_);rw[A7 (show(Value.ref T != Value.none)=true from by simp)];refine A4 (J4 t4 t5 t6 ?_);rw[A7 (show(rawInt L==rawInt L)=true from by simp)];exact B7 (q _ F (.refl _))
theorem tX{fl:Value}{fo:Option Addr}(F:Fly B l e c dx (some fl) s.heap)
 (q:∀h',Fly B l e c dx (some (fo.elim .none fun f=>rawInt f)) h'->s.heap.UpToSlots h'->Q () { s with heap:=h' }):wpAny M A (setFlight (.ref e) fo) Q E s:=by
 obtain⟨oe,vs,he,hk,hv,hz,T,oT,ts,t1,t2,t3,t4,t5,t6⟩:=id F.tr;have z3:3<ts.size:=(Array.getElem?_eq_some_iff.mp t6).1;unfold setFlight;refine A4 (J4 he hv t1 ?_);rw[A7 (show(Value.ref T != Value.none)=true from by simp)];have oth:∀b,b≠T->(s.heap.update T (Obj.mapFields (·.setIfInBounds 3 (fo.elim .none fun f=>rawInt f)))).get? b=s.heap.get? b:=fun b hb=>S0 _ _ (J9 hb)
 refine A0h t4 t5 z3 (q _ ⟨fun b o hb=>(oth b fun z=>by rw[z,t2]at hb;cases hb).trans (F.stays b o hb),F.new,F.frames.of_keeps fun b o hb hnf=>⟨o,(oth b (iX t4 t5 hb hnf)).trans hb,rfl⟩,
  oe,vs,(oth e (J9 t3)).trans he,hk,hv,hz,T,_,_,t1,t2,t3,Z7 _ t4 (Obj.isFreed_of_fields (U7 t5 _)),U7 t5 _,by simp[z3]⟩
  fun b o hb hnf=>⟨o.slots,(oth b (iX t4 t5 hb hnf)).trans hb⟩)
theorem SV(hfr:A.frames=some (env::outer))(hf:env.frame=some L)(F:Fly B (env::outer) e c dx st s.heap)(hst:st=none\/st=some .none\/st=some (rawInt L))
 (q:∀h',Fly B outer e c dx (some .none) h'->s.heap.UpToSlots h'->Q () { s with heap:=h' }):wpAny M A (leaving env (.ref e)) Q E s:=by
 unfold leaving;refine A4 (BX hfr hf F hst fun h1 F1 u1=>tX (fo:=none) F1 fun h2 F2 u2=>?_);obtain⟨a,b,⟨_,_,c'⟩,d⟩:=F2;exact q h2 ⟨a,b,c',d⟩ (u1.trans u2)
theorem aAB{X:Value->Shared->Prop}(hfr:A.frames=some (env::outer))(hf:env.frame=some L)(F:Fly B (env::outer) e c dx st s.heap)(hst:st=none\/st=some .none\/st=some (rawInt L))
 (q:∀h',Fly B (env::outer) e c dx (some (rawInt L)) h'->s.heap.UpToSlots h'->X (.ref e) { s with heap:=h' }):notedBy M A env (cameBackBy M A env X) (.ref e) s:=by
 unfold notedBy;refine BX hfr hf F hst fun h1 F1 u1=>?_;unfold cameBackBy;obtain⟨oe,vs,he,hk,hv,hz,T,oT,ts,t1,t2,t3,t4,t5,t6⟩:=id F1.tr;refine A4 (J4 he hv t1 ?_);rw[B0 (show ¬((Value.ref T==Value.none)=true)from by simp),hf];exact tX (s:={ s with heap:=h1 }) (fo:=some L) F1 fun h2 F2 u2=>q h2 F2 (u1.trans u2)
end
structure Body(X:Cx):Prop where
 stk:X.stack=X.env::X.outer
 fr:X.env.frame=some X.env.locals
 ex:X.ex=[]
structure Kp(X:Cx)(H:Hp)(B h:Heap):Prop where
 trk:∀b u o,H b=some u->h.get? b=some o->B.get? b=some o
 ent:∀b o,X.s₀.heap.get? b=some o->b∉X.fs->(∃o',B.get? b=some o')/\(X.H₀ b=none->B.get? b=some o)
 pin:∀p∈X.pn,B.get? p.1=some p.2
section
variable{X:Cx}{pins:List (Addr×Obj)}{σ:St}{H:Hp}{s:Shared}{B h':Heap}
theorem Inv.up(I:Inv X [] σ H s)(b:Body X)(k:Kp X H B s.heap)(stays:B.StaysIn h')(u:s.heap.UpToSlots h'):Inv X [] σ H { s with heap:=h' }/\Kp X H B h':=by
 have tr:∀a v o,H a=some v->s.heap.get? a=some o->h'.get? a=some o:=fun a v o e q=>stays a o (k.trk a v o e q)
 have cell:∀c v,s.heap.IsCell c v->h'.IsCell c v:=fun c v ⟨o,ho,hd⟩=>by
  obtain⟨sl,q⟩:=u c o ho fun vs z=>by rw[hd]at z;cases z
  exact⟨_,q,hd⟩
 have frm:∀a∈X.fs,∀o,s.heap.get? a=some o->∃sl,h'.get? a=some { o with slots:=sl }:=fun a ha o e=>by
  obtain⟨_,o1,h1,hn⟩:=I.funs.mem ha;rw[e]at h1;cases h1;exact u a o e hn
 refine⟨⟨I.ok,I.os,I.bare,⟨fun a o e n ha hx=>?_,fun a o e n ha hx=>?_,I.base.free,fun a o e hx=>?_,I.base.tups,I.base.frzs,I.base.tbls⟩,?_,fun x c e=>?_,I.free,I.freeC,fun p hp=>?_,fun a v e=>?_,I.len⟩,⟨fun a v o e q=>?_,k.ent,k.pin⟩⟩
 .exact stays a o ((k.ent a o e ha).2 n)
 .obtain⟨sl,e1⟩:=I.base.slot a o e n ha hx;obtain⟨sl',e2⟩:=frm a ha _ e1;exact⟨sl',e2⟩
 .by_cases ha:a∈X.fs
  .obtain⟨o1,e1⟩:=I.base.there a o e hx;obtain⟨sl,e2⟩:=frm a ha o1 e1;exact⟨_,e2⟩
  .obtain⟨⟨o',q⟩,_⟩:=k.ent a o e ha;exact⟨o',stays a o' q⟩
 .obtain⟨m,hn,hl⟩:=I.loc;refine⟨m,u.ns hn,fun i x v e1 e2 e3=>?_⟩;obtain⟨uu,r,l⟩:=hl i x v e1 e2 e3;refine⟨uu,r,?_⟩;rcases l with l|⟨kk,c,e,z⟩
  .exact .inl l
  .exact .inr ⟨kk,c,e,cell c _ z⟩
 .obtain⟨v,z⟩:=I.cell x c e;exact⟨v,cell c v z⟩
 .rw[D6]at hp;obtain⟨_,n,ne,nf,d⟩:=I.pin p (D0 _ hp);exact⟨stays _ _ (k.pin p hp),n,ne,nf,d⟩
 .exact(I.hok a v e).stay (fun c w hc q=>by
   rcases hc with rfl|hc
   .exact tr c v w e q
   .exact tr c _ w hc q) (fun _ q=>q) fun _ _ q=>q
 .obtain⟨o1,q1⟩:=(I.hok a v e).there;have:=tr a v o1 e q1;rw[q]at this;cases this;exact k.trk a v o e q1
noncomputable def XS(X:Cx)(EE:St->XK)(ev:Value)(s:Shared):Prop:=
 ∃e c dx st σ H B,ev=.ref e/\Inv X [] σ H s/\Kp X H B s.heap/\Fly B X.stack e c dx st s.heap/\(st=none\/st=some .none\/st=some (rawInt X.env.locals))/\EE σ c dx H
theorem XS.unwish{EE:St->XK}{E:Value->Shared->Prop}{ev:Value}(h:XS (X.wish E) EE ev s):XS X EE ev s:=by
 obtain⟨e,c,dx,st,σ,H,B,h1,I,k,F,hst,q⟩:=h;exact⟨e,c,dx,st,σ,H,B,h1,I.unwish,⟨k.trk,k.ent,k.pin⟩,F,hst,q⟩
noncomputable def CX1(P:Program)(w:World):CXT:=fun outer H s E ev s'=>∃e c dx H' B,ev=.ref e/\s'.os=s.os/\AllBare s'.gens/\Un (frs outer) [] H H' s.heap s'.heap/\HOk P w H' s'.heap/\Fly B outer e c dx (some .none) s'.heap /\
 (∀b u o,H' b=some u->s'.heap.get? b=some o->B.get? b=some o)/\(∀b o,s.heap.get? b=some o->b∉frs outer->(∃o',B.get? b=some o')/\(H b=none->B.get? b=some o))/\E c dx H'
theorem Inv.entry(I:Inv X pins σ H s)(bd:Body X){b:Addr}{o:Obj}(e:X.s₀.heap.get? b=some o)(hb:b∉X.fs):b∉frs X.stack/\(∃o1,s.heap.get? b=some o1)/\(X.H₀ b=none->s.heap.get? b=some o/\H b=none):=by
 have nx:b∉X.ex:=by rw[bd.ex];simp
 refine⟨fun z=>?_,I.base.there b o e nx,fun n=>⟨I.base.keep b o e n hb nx,I.base.free b o e n nx⟩⟩;rcases List.mem_cons.mp (I.stkSub b z)with q|q
 .exact absurd (q▸C0 (B8 e) I.ok.above) (F6 _)
 .exact hb q
theorem aCx{EE:St->XK}{ev:Value}{s':Shared}(bd:Body X)(I:Inv X pins σ H s)(h:CX1 X.prog X.w X.stack H s (EE σ) ev s'):XS X EE ev s':=by
 obtain⟨e,c,dx,H',B,rfl,os,bare,un,hok,F,trk,ent,q⟩:=h;have I':Inv X pins σ H' s':=I.call' os un hok bare fun b z=>absurd z (by simp);refine⟨e,c,dx,some .none,σ,H',B,rfl,I'.pins_of fun p hp=>absurd hp (by simp),⟨trk,fun b o e hb=>?_,fun p hp=>?_⟩,F,.inr (.inl rfl),q⟩
 .obtain⟨h1,⟨o1,h2⟩,h3⟩:=I.entry bd e hb;exact⟨(ent b o1 h2 h1).1,fun n=>(ent b o (h3 n).1 h1).2 (h3 n).2⟩
 .obtain⟨h1,n,ne,nf,_⟩:=I.pin p (D0 _ hp);exact(ent p.1 p.2 h1 fun z=>(List.mem_cons.mp (I.stkSub p.1 z)).elim ne nf).2 n
theorem aCz{EE:St->XK}{e:Addr}{oe:Obj}{vs:Array Value}(bd:Body X)(I:Inv X pins σ H s)(he:s.heap.get? e=some oe)(hn:H e=none)(h0:X.s₀.heap.get? e=none)(hp:∀p∈X.pn,p.1≠e)(hv:oe.data=.fields vs)(hz:1<vs.size)(h1:vs[1]?=some .none)
 (q:EE σ oe.cls oe.dict H):XS X EE (.ref e) s:=by
 have nf:e∉frs X.stack:=fun hm=>by
  obtain⟨_,o,ho,hnf⟩:=I.stack.mem hm;exact iX he hv ho hnf rfl
 have get:∀b o,b≠e->b∉frs X.stack->s.heap.get? b=some o->(PySem.W.hideAll s.heap (e::frs X.stack)).get? b=some o:=fun b o h1 h2 h3=>PySem.W.hideAll_get _ h3 fun hm=>(List.mem_cons.mp hm).elim h1 h2;refine⟨e,oe.cls,oe.dict,none,σ,H,PySem.W.hideAll s.heap (e::frs X.stack),rfl,I.pins_of fun p hp=>absurd hp (by simp),⟨fun b u o h1 h2=>?_,fun b o h1 h2=>?_,fun p h1=>?_⟩,⟨fun b o h1=>PySem.W.of_hideAll _ h1,PySem.W.hideAll_none _ B5,?_,oe,vs,he,⟨rfl,rfl⟩,hv,hz,h1⟩,.inl rfl,q⟩
 .exact get b o (aQ h1 hn) (fun z=>by rw[I.stkFree b z]at h1;cases h1) h2
 .obtain⟨k1,⟨o1,k2⟩,k3⟩:=I.entry bd h1 h2;have ne:b≠e:=fun z=>by rw[z,h0]at h1;cases h1
  exact⟨⟨o1,get b o1 ne k1 k2⟩,fun n=>get b o ne k1 (k3 n).1⟩
 .obtain⟨q1,n,ne,nf,_⟩:=I.pin p (D0 _ h1);exact get p.1 p.2 (hp p h1) (fun z=>(List.mem_cons.mp (I.stkSub p.1 z)).elim ne nf) q1
 .exact PySem.W.funFrames_hide I.stack fun env hm a ha=>B3 _ (List.mem_filterMap.mpr ⟨env,hm,ha⟩)
theorem VM{EE:St->XK}(bd:Body X):PassesOwn (model X.prog X.w) X.A X.env (XS X EE):=by
 rintro ev s ⟨e,c,dx,st,σ,H,B,rfl,I,k,F,hst,q⟩;have hf:=I.ok.frames;rw[bd.stk]at hf F;refine aAB hf bd.fr F hst fun h' F' u=>?_;obtain⟨I',k'⟩:=I.up bd k F'.stays u;exact⟨e,c,dx,_,σ,H,B,rfl,I',k',by rw[bd.stk];exact F',.inr (.inr rfl),q⟩
end
section
variable{P:Program}{w:World}{K:Fg}{mg:Str->Option Value}{base:Heap}{N:List Str}{qual:Str}{scope:Scope}{f:Addr}{cd:Value}{A:Around}{outer:List Env}{s:Shared}{H:Hp}{E:XK}{CX:CXT}
theorem JC:Body (lP CX P w K mg base N qual scope f cd A outer s H E):=⟨rfl,rfl,rfl⟩
theorem Body.wish{X:Cx}(b:Body X)(E:Value->Shared->Prop):Body (X.wish E):=⟨b.stk,b.fr,b.ex⟩
theorem QT{ev:Value}{s':Shared}(h:XS (lP (CX1 P w) P w K mg base N qual scope f cd A outer s H E) (fun _=>E) ev s'):(lP (CX1 P w) P w K mg base N qual scope f cd A outer s H E).xe ev s':=by
 obtain⟨e,c,dx,st,σ,H',B,rfl,I,k,F,hst,q⟩:=h;refine SV (c:=c) (dx:=dx) (st:=st) (B:=B) (outer:=outer) (L:=s.heap.objs.size) I.ok.frames rfl F hst fun h' F' u=>?_;obtain⟨I',k'⟩:=I.up JC k F'.stays u;exact⟨e,c,dx,H',B,rfl,I'.os,I'.bare,I'.base,I'.hok,F',k'.trk,k'.ent,q⟩
theorem aED{k:Nat}{name:Str}{params:Arguments}{body:List Stmt}{dV kV doc pm cdv ct oc:Value}{an od:Option Addr}
 {osl:Array (Option Value)} {ps:List Str} {sp:Sp} (lk:K.lookup f=some ⟨oc,od,.func (PySem.W.fnOf name qual params body scope dV kV doc pm an cdv ct),osl⟩) (hcd:PySem.W.codeIn K cdv qual=true) (S:aT N ps scope)
 (len:∀vs H Q E,sp vs H Q E->vs.length=ps.length)
 (hbody:∀(A:Around)(outer:List Env)(s:Shared)(H:Hp)(vs:List V)(Q:VK)(E:XK),dF k (A.deeper (envOfC qual scope s.heap.objs.size f cdv))->sp vs H Q E->
  ∃t,PSs ((lP (CX1 P w) P w K mg base N qual scope f cdv A outer s H E).wish (XS (lP (CX1 P w) P w K mg base N qual scope f cdv A outer s H E) fun _=>E)) body t/\t { nx:=fun _ H'=>Q .non H',rt:=Q } (start N vs) H):
 oQ P w K mg base (CX1 P w) (k+1) f (PySem.W.fnOf name qual params body scope dV kV doc pm an cdv ct) ps sp:=
 aCa lk hcd S len fun A outer s H vs Q E hr h=>by
  obtain⟨t,ht,hq⟩:=hbody A outer s H vs Q E hr h;exact⟨t,fun pins s' σ H' D I hw=>L5 (ht pins s' σ H' D (I.wish _) hw) (fun _ _ q=>q.unwish) fun _ _ z=>QT z,hq⟩
end
structure VL(K:Fg)(C:Addr):Prop where
 ga:PySem.W.findIn K (.ref C) "__getattribute__"=some (some (.builtin "BaseException.__getattribute__"))
 gh:PySem.W.findIn K (.ref C) "__getattr__"=some none
 be:PySem.W.subIn K (.ref C) (.type "BaseException")=some true
 cl:(PySem.W.clsIn K C).isSome=true
section
variable{prog:Program}{w:World}{A:Around}{E:Value->Shared->Prop}{s:Shared}{K:Fg}{x C:Addr}{ox:Obj}{od:Option Obj}{name:Str}
theorem AE{tk:Tok}{Q:Value->Shared->Prop}(X:K.In s.heap)(I:PySem.W.InstAt s.heap x ox C od)(c:VL K C)
 (h:wpAny (model prog w) A.in1 (Builtin.«object.__getattribute__» ⟨[.ref x,.str name tk],[]⟩)
  (fun fin s'=>match fin with|.done (.ret v)=>Q v s'|.done _=>False|.again c'=>c'.quiet=true/\codeAny (model prog w) A c' (fun r s'=>match r with|.ok (.ret v)=>Q v s'|.ok _=>False|.error e=>E e s') s') E s):
 wpAny (model prog w) A (call (.builtin "BaseException.__getattribute__") [.ref x,.str name tk]) Q E s:=by
 have hb:=F.entry_bexc_ga;generalize Builtin.«object.__getattribute__»=b at hb h;refine wpAny_call (codeAny_call_builtin F.excAttr_ValueError.ga.plain hb ?_);have hk:builtinKind "BaseException.__getattribute__"=some .slot:=by decide +kernel
 have hsplit:splitId "BaseException.__getattribute__"=some ("BaseException","__getattribute__"):=by decide +kernel
 have ha:=F.args_bexc_ga (.ref x) (.str name tk);have L0:=I.type (M:=model prog w);have L1:=PySem.W.looks_subIn (M:=model prog w) X c.be;obtain⟨hh,g,d,t,os⟩:=s;simp only[checkBuiltinCall,hk,hsplit];refine A4 ?_;unfold isInstance;refine A4 (L0.at (L1.at ?_))
 repeat (first|assumption|wp_step)
 refine L5 h (fun fin s' z=>?_) fun _ _ z=>z;rcases fin with(_|_|_|_)|c'
 .exact z
 .exact z
 .exact z
 .exact z
 .exact⟨z.1,A0d z.2 fun r s' q=>by cases r with
   |error e=>exact q
   |ok f=>cases f<;>exact q⟩
theorem LH{tk:Tok}{fill ex:Bool}{Q:Value->Shared->Prop}(X:K.In s.heap)(I:PySem.W.InstAt s.heap x ox C od)(c:VL K C)
 (h:wpAny (model prog w) A.in1 (Builtin.«object.__getattribute__» ⟨[.ref x,.str name tk],[]⟩)
  (fun fin s'=>match fin with|.done (.ret v)=>wpAny (model prog w) A (handedOut v) Q E s'|.done _=>False|.again c'=>c'.quiet=true/\codeAny (model prog w) A c' (fun r s'=>match r with|.ok (.ret v)=>wpAny (model prog w) A (handedOut v) Q E s'|_=>False) s') (fun _ _=>False) s):
 wpAny (model prog w) A (getAttrBy (.ref x) (.str name tk) fill ex) Q E s:=by
 have L0:=I.type (M:=model prog w);have L1:=PySem.W.looks_findIn (M:=model prog w) X c.ga;have L2:=PySem.W.looks_findIn (M:=model prog w) X c.gh;unfold getAttrBy;refine L4 (A4 (L0.here (A4 (L1.here ?_))));have hx2:(Value.builtin "BaseException.__getattribute__"==Value.builtin "object.__getattribute__")=false:=by decide +kernel
 have hx1:(onTheHeap (Value.ref C)&&Value.builtin "BaseException.__getattribute__"==Value.builtin "object.__getattribute__")=false:=by rw[hx2];rfl
 dsimp only;rw[hx1,B0 B2];unfold getAttrByItsOwn hookBefore;rw[A7 (show onTheHeap (Value.ref C)=true from rfl)];refine A4 (L2.here (A4 (wpAny_attempt (L4 ?_))));unfold callGetattribute;rw[B0 (show ¬((ex&&onTheHeap (Value.builtin "BaseException.__getattribute__"))=true)from by cases ex<;>exact B2)];unfold boundAndCalled;rw[F.excAttr_ValueError.ga.bind (.ref x)];refine A4 (B7 ?_);refine L5 (AE (tk:=tk) (name:=name) (E:=fun _ _=>False) (Q:=fun v s'=>wpAny (model prog w) A (handedOut v) Q E s') X I c ?_) (fun v s' z=>z) fun _ _ z=>z.elim;refine L5 h (fun fin s' z=>?_) fun _ _ z=>z;rcases fin with(_|_|_|_)|c'
 .exact z
 .exact z
 .exact z
 .exact z
 .exact⟨z.1,A0d z.2 fun r s' q=>by cases r with
   |error e=>exact q
   |ok f=>cases f<;>exact q⟩
theorem OL{Q:Option Value->Shared->Prop}(X:K.In s.heap)(I:PySem.W.InstAt s.heap x ox C od)(c:VL K C)(ha:PySem.W.findIn K (.ref C) "__class__"=some (some (.builtin "object.__class__")))
 (hn:PySem.W.specialIn K (.builtin "object.__class__") "__get__"=some (some (.builtin "getset_descriptor.__get__"))) (htk:PySem.W.takesIn K (.builtin "object.__class__")=some true) (hm:PySem.W.mroIn K C (.type "object")=some true)
 (h:Q (some (.ref C)) { s with toks:=s.toks+1 }):wpAny (model prog w) A (getAttr? (.ref x) "__class__") Q E s:=by
 have hf:PySem.W.findObj K C od "__class__"=some (.bind (.builtin "getset_descriptor.__get__") (.builtin "object.__class__")):=by
  obtain⟨cd,hc⟩:=Option.isSome_iff_exists.mp c.cl;unfold PySem.W.findObj;rw[hc,A2,ha,A2];simp[hn,htk]
 unfold getAttr? getAttrBy?;refine A4 (wpAny_mkText (A4 (wpAny_attempt (LH (s:={ s with toks:=s.toks+1 }) X I c ?_))));obtain⟨h0,g,d,t,os⟩:=s;have L0:=I.type (M:=model prog w);have L1:=PySem.W.looks_find (M:=model prog w) X I hf;refine A4 (B7 (A4 (B7 (A4 (L0.at (A4 (L1.at ?_)))))));show wpAny _ _ (Builtin.ObjectAttr.bindTo (.builtin "getset_descriptor.__get__") (.builtin "object.__class__") (.ref x) (.ref C)) _ _ _;unfold Builtin.ObjectAttr.bindTo;refine A4 (L4 (wpAny_call (PySem.W.class_get (ox:=ox) (od:=od) X I hm ?_)));refine B7 ?_;show wpAny _ _ (handedOut (.ref C)) _ _ _;exact B7 (B7 h)
theorem UZ(c:VL K C)(ha:PySem.W.findIn K (.ref C) "__class__"=some (some (.builtin "object.__class__")))
 (hn:PySem.W.specialIn K (.builtin "object.__class__") "__get__"=some (some (.builtin "getset_descriptor.__get__"))) (htk:PySem.W.takesIn K (.builtin "object.__class__")=some true) (hm:PySem.W.mroIn K C (.type "object")=some true):
 PySem.W.KitX K (.ref x) (.ref C) (fun h=>∃ox od,PySem.W.InstAt h x ox C od) where
 ty:=fun _ _ _ ⟨_,_,I⟩=>I.type
 it:=fun _ _ X _=>by
  have hc:=c.cl;unfold PySem.W.clsIn at hc;split at hc
  .rename_i c' d' cd' sl' ho;intro A' Q' E' s' k q;unfold isType loadHead;exact A4 (wpAny_loadPart (k _ _ (X _ _ ho)) (B7 q))
  .cases hc
 ne:=fun h tp dd its n sl X htp=>by
  have hc:=c.cl;refine Bool.eq_false_iff.mpr fun q=>?_;have e:C=tp:=Value.ref.inj (beq_iff_eq.mp q);subst e;unfold PySem.W.clsIn at hc;split at hc
  .rename_i c' d' cd' sl' ho;have z:=(X _ _ ho).symm.trans htp;cases z
  .cases hc
 ca:=fun X ⟨_,_,I⟩ k=>OL X I c ha hn htk hm k
end
section
variable{X:Cx}{pins:List (Addr×Obj)}{σ:St}{H:Hp}{s:Shared}
noncomputable def BF(sp:Sp)(EE:St->XK)(t:TA):TE:=fun σ H Q=>t σ H fun vs H1=>sp vs H1 Q (EE σ)
structure lL(P:Program)(w:World)(K:Fg)(mg:Str->Option Value)(base:Heap)(k:Nat)(x:Str)(ps:List Str)(sp:Sp):Prop where
 ex:∃f fd,oQ P w K mg base (CX1 P w) k f fd ps sp/\mg x=some (.ref f)/\PySem.W.keepIn K (.ref f)=true/\Binds K fd ps []
structure XOk(X:Cx)(EE:St->XK):Prop where
 bd:Body X
 pass:∀ev s,XS X EE ev s->X.xe ev s
 own:PassesOwn (model X.prog X.w) X.A X.env X.xe
theorem XOk.of{X:Cx}(bd:Body X)(EE:St->XK):XOk (X.wish (XS X EE)) EE:=⟨bd.wish _,fun _ _ h=>h.unwish,VM bd⟩
theorem aAR{EE:St->XK}{k:Nat}{f:Addr}{fd:FuncData}{ps:List Str}{sp:Sp}{Q:VK}{us:List Value}{vs:List V}(ok:XOk X EE)(F:oQ X.prog X.w X.K X.mg X.base (CX1 X.prog X.w) k f fd ps sp)(hr:dF k X.A)(hb:Binds X.K fd ps [])
 (I:Inv X pins σ H s) (r:aV vs us) (h:sp vs H Q (EE σ)):wpAny (model X.prog X.w) X.A (call (.ref f) us) (EP X pins σ Q) X.xe s:=by
 have hl:us.length=ps.length:=by rw[<- r.length];exact F.len _ _ _ _ h
 have b:=hb s us I.kIn (by rw[D6];exact hl);rw[D6]at b;refine wpAny_call (A0d (F.run X.A X.stack s H ⟨us,[]⟩ us vs Q (EE σ) hr I.env0 b r h) fun r s' hq=>?_);cases r with
 |error e=>exact ok.pass _ _ (aCx ok.bd I hq)
 |ok fl=>
  cases fl with
  |ret u=>exact I.after hq
  |next=>exact False.elim hq
  |brk=>exact False.elim hq
  |cont=>exact False.elim hq
theorem YI{EE:St->XK}{k:Nat}{x:Str}{ps:List Str}{sp:Sp}{p pos:Pos}{e:Expr}{es:List Expr}{t:TA}(ok:XOk X EE)(C:lL X.prog X.w X.K X.mg X.base k x ps sp)(hr:dF k X.A)(ha:PA X (e::es) t)(hg:Gl X x)
 (hdb:(x==("__debug__":Str))=false) (he:starEach (e::es) X.env=(false,eval e X.env)::starEach es X.env) (hpl:(backTo pos (starEach es X.env)).any (·.1)=false):
 PE X (.Call (.Name x p) (e::es) [] pos) (BF sp EE t):=by
 intro pins s σ H Q I h;obtain⟨f,fd,F,m,kp,b⟩:=C.ex;refine U6 (qP I hg m ?_ hdb);exact PySem.W.callWith_K (h₀:=X.base) I.ok.mod.kin kp (thn (ha pos pins s σ H _ I h) fun us s1 ⟨vs,H1,I1,r,q⟩=>⟨I1.kIn,aAR ok F hr b I1 r q⟩) he hpl
noncomputable abbrev bmV:List Value:=[.type "ValueError",.type "Exception",.type "BaseException",.type "object"]
theorem ZR{h:Heap}{C:Addr}{bmB:List Value}{nid:String}(X:K.In h)(q:PySem.W.excIn K C bmB nid=true):
 ∃bm N nm qn bs hd sn sub ab col dd k0 k1 k2 k3 k5 mN,h.get? C=some (excClassObj nm qn C N bs bm hd sn sub ab col dd k0 k1 k2 k3 k5 nid)/\h.Ns N mN/\mN "__init__"=none/\OwnTail h bmB bm:=by
 unfold PySem.W.excIn at q;split at q
 case h_2=>cases q
 case h_1 dd cd sl lk=>
  split at q
  case h_2=>cases q
  case h_1 C' bm k0 k1 k2 k3 n k5 hm hs=>
   simp only[Bool.and_eq_true,beq_iff_eq,Bool.not_eq_true']at q;obtain⟨⟨⟨⟨⟨q1,q2⟩,q3⟩,q4⟩,q5⟩,q6⟩:=q;subst q1 q2;cases cd with
   |mk nm bs mro ns qn hd sn sub ab col del=>
    cases hm;cases q3
    have es:sl=#[k0,k1,k2,k3,some (.builtin n),k5]:=by
     cases sl with
     |mk l=>exact E9 Array.mk hs
    cases es;exact⟨bm,ns,nm,qn,bs,hd,sn,sub,ab,col,dd,k0,k1,k2,k3,k5,_,X _ _ lk,.of_isNs (PySem.W.isNs_of_in X q5),PySem.W.nsMap_none_of_in X q5 q6,PySem.W.tail_of_in X q4⟩
noncomputable def BE(EE:St->XK)(C:Addr):TS:=fun _ σ H=>EE σ (.ref C) none H
theorem MV{EE:St->XK}{C:Addr}{x:Str}{np cpos pos:Pos}(ok:XOk X EE)(hc:X.calm=true)(hm:X.mg x=some (.ref C))(q:PySem.W.excIn X.K C bmV "ValueError.__new__"=true)(hg:Gl X x)
 (hdb:(x==("__debug__":Str))=false):PS X (.Raise (some (.Call (.Name x np) [] [] cpos)) none pos) (BE EE C):=by
 intro pins s σ H D I h;obtain⟨bm,N,nm,qn,bs,hd,sn,sub,ab,col,dd,k0,k1,k2,k3,k5,mN,oC,oN,oi,ot⟩:=ZR I.kIn q
 refine wpAny_Raise_call_subT (C:=C) (nm:=nm) (q:=qn) (N:=N) (bs:=bs) (bm:=bm) (hdct:=hd) (sn:=sn) (sub:=sub) (ab:=ab) (col:=col) (dd:=dd) (k0:=k0) (k1:=k1) (k2:=k2) (k3:=k3) (k5:=k5) (mN:=mN)
  F.excBase_ValueError (ot.hasType F.excBase_ValueError.hasBase) (I.ok.hd hc) rfl oi (qP I hg hm ⟨rfl,evalArgs_empty ⟨rfl,F9 _,oC,oN,ot,fun h' e mk=>ok.pass _ _ ?_⟩⟩ hdb)
 obtain⟨t,he,_,_⟩:=mk.there;have I':Inv X pins σ H { s with heap:=h' }:=I.kept mk.keeps
 have hn:H e=none:=by
  cases z:H e with
  |none=>rfl
  |some u=>
   obtain⟨o,z'⟩:=(I.hok e u z).there;rw[mk.new]at z';cases z'
 refine aCz ok.bd I' he hn ?_ (fun p hp z=>?_) rfl (show 1<6 by decide) rfl h
 .cases z:X.s₀.heap.get? e with
  |none=>rfl
  |some o=>
   obtain⟨o1,z1⟩:=I.base.there e o z (by rw[ok.bd.ex];simp);rw[mk.new]at z1;cases z1
 .have:=(I.pin p (D0 _ hp)).1;rw[z,mk.new]at this;cases this
end
noncomputable def hCx(X:Cx)(e:Addr):Cx:={ X with A:=X.A.mark (some (.ref e)),calm:=false,xe:=fun _ _=>False }
noncomputable def tR(X:Cx)(pins:List (Addr×Obj)):Cx:={ X with pn:=X.pn++pins }
section
variable{X:Cx}{pins:List (Addr×Obj)}{σ:St}{H:Hp}{s:Shared}
theorem Inv.toH(I:Inv X pins σ H s)(e:Addr):Inv (hCx X e) pins σ H s:=
 ⟨⟨I.ok.mod,I.ok.kind,I.ok.glob,I.ok.blt,I.ok.above,I.ok.inj,I.ok.has,I.ok.cab,fun z=>(by cases z),I.ok.frames,I.ok.stk,I.ok.exf,I.ok.bs,I.ok.bsz,I.ok.noex,I.ok.exfs,I.ok.funs,I.ok.frf⟩,I.os,I.bare,I.base,I.loc,I.cell,I.free,I.freeC,I.pin,I.hok,I.len⟩
theorem Inv.ofH{e:Addr}(I:Inv (hCx X e) pins σ H s)(ok:X.Ok):Inv X pins σ H s:=⟨ok,I.os,I.bare,I.base,I.loc,I.cell,I.free,I.freeC,I.pin,I.hok,I.len⟩
theorem Inv.toP(I:Inv X pins σ H s):Inv (tR X pins) [] σ H s:=
 ⟨⟨I.ok.mod,I.ok.kind,I.ok.glob,I.ok.blt,I.ok.above,I.ok.inj,I.ok.has,I.ok.cab,I.ok.hd,I.ok.frames,I.ok.stk,I.ok.exf,I.ok.bs,I.ok.bsz,I.ok.noex,I.ok.exfs,I.ok.funs,I.ok.frf⟩,I.os,I.bare,I.base,I.loc,I.cell,I.free,I.freeC,fun p hp=>I.pin p (by rw[D6]at hp;exact hp),I.hok,I.len⟩
theorem Inv.ofP(I:Inv (tR X pins) [] σ H s)(ok:X.Ok):Inv X pins σ H s:=⟨ok,I.os,I.bare,I.base,I.loc,I.cell,I.free,I.freeC,fun p hp=>I.pin p (by rw[D6];exact hp),I.hok,I.len⟩
theorem Inv.track{e:Addr}{oe:Obj}{vs:Array Value}(I:Inv X pins σ H s)(he:s.heap.get? e=some oe)(hv:oe.data=.fields vs)(hn:H e=none)(h0:X.s₀.heap.get? e=none)(hp:∀p∈X.pn++pins,p.1≠e):
 Inv X pins σ (upd H e (.ext (DL e oe.cls oe.dict false))) s:=by
 have ne:∀b u,H b=some u->b≠e:=fun b u z=>aQ z hn;refine⟨I.ok,I.os,I.bare,⟨I.base.keep,I.base.slot,fun b o q n hx=>?_,I.base.there,fun b xs q=>?_,fun b o u q=>?_,fun b ps q=>?_⟩,I.loc,I.cell,?_,fun x c q=>?_,fun p h=>?_,fun b u q=>?_,I.len⟩
 .rw[aM (fun z=>by rw[z,h0]at q;cases q)];exact I.base.free b o q n hx
 .have:=I.base.tups b xs q;rw[aM (ne _ _ this)];exact this
 .have:=I.base.frzs b o u q;rw[aM (ne _ _ this)];exact this
 .obtain⟨more,this⟩:=I.base.tbls b ps q;exact⟨more,by rw[aM (ne _ _ this)];exact this⟩
 .obtain⟨m,⟨o,es,ep,ho,hd,_⟩,_⟩:=I.loc;rw[aM (iX he hv ho fun ws z=>by rw[hd]at z;cases z)];exact I.free
 .obtain⟨v,o,ho,hd⟩:=I.cell x c q;rw[aM (iX he hv ho fun ws z=>by rw[hd]at z;cases z)];exact I.freeC x c q
 .obtain⟨q1,q2,q3⟩:=I.pin p h;exact⟨q1,by rw[aM (hp p h)];exact q2,q3⟩
 .by_cases hb:b=e
  .subst hb;rw[aN]at q;cases q;exact⟨⟨oe,vs,he,rfl,rfl,hv,fun z=>by cases z⟩,⟨oe,he⟩,fun h1 h2 ⟨o,ws,z1,z2⟩ k=>⟨o,ws,k o z1,z2⟩⟩
  .rw[aM hb]at q;exact(I.hok b u q).stay (fun _ _ _ z=>z) (fun c z=>by rw[aM (ne _ _ z)];exact z) fun c xs z=>by rw[aM (ne _ _ z)];exact z
theorem oF{M:Model}{A:Around}{E:Value->Shared->Prop}{i:Nat}{x:Str}{pos:Pos}{Q:Unit->Shared->Prop}(I:Inv X pins σ H s)(hN:X.N.Nodup)(hi:X.N[i]?=some x)(hk:X.env.scope.names.lookup x=some .local)
 (h:∀s',Inv X pins (σ.set i none) H s'->Q () s'):wpAny M A (do bindName X.env x .none;unbindBehindTheSuite X.env x pos) Q E s:=by
 obtain⟨m,hn,hl⟩:=id I.loc;have hcls:(X.env.scope.kind==.class || (X.env.scope.kind==.module&&X.env.locals != X.env.globals))=false:=by rw[I.ok.kind];rfl
 have hiσ:i<σ.length:=by rw[I.len];exact(List.getElem?_eq_some_iff.mp hi).1
 obtain⟨oL,_,_,hoL,_⟩:=id hn;refine wpAny_nameGoes_keeps hk hn hcls fun h' v hn' hs=>h _ ?_;have ltL:∀b o,X.s₀.heap.get? b=some o->b≠X.env.locals:=fun b o q=>D1 (C0 (B8 q) I.ok.above);refine⟨I.ok,I.os,I.bare,⟨fun b o q n hb hx=>(hs.2 b (ltL b o q)).trans (I.base.keep b o q n hb hx),fun b o q n hb hx=>?_,I.base.free,fun b o q hx=>?_,I.base.tups,I.base.frzs,I.base.tbls⟩,⟨_,hn',fun j y v' e1 e2 e3=>?_⟩,fun y c q=>?_,I.free,I.freeC,fun p hp=>?_,fun b u q=>?_,by simpa using I.len⟩
 .obtain⟨sl,e1⟩:=I.base.slot b o q n hb hx;exact⟨sl,(hs.2 b (ltL b o q)).trans e1⟩
 .obtain⟨o',e1⟩:=I.base.there b o q hx;exact⟨o',(hs.2 b (ltL b o q)).trans e1⟩
 .have hj:j≠i:=fun z=>by
   subst z;rw[J1 hiσ]at e2;cases e2
  rw[J7 (J9 hj)]at e2;obtain⟨u',r',z⟩:=hl j y v' e1 e2 e3;refine⟨u',r',?_⟩;rcases z with⟨k,e⟩|⟨k,c,e,z⟩
  .have:y≠x:=fun e=>hj (vA hN e1 (e▸hi));exact .inl ⟨k,by simp[this,e]⟩
  .exact .inr ⟨k,c,e,z.sameBut hs (I.cne y c e)⟩
 .obtain⟨w',z⟩:=I.cell y c q;exact⟨w',z.sameBut hs (I.cne y c q)⟩
 .obtain⟨e,n,ne,nf,d⟩:=I.pin p hp;exact⟨(hs.2 p.1 ne).trans e,n,ne,nf,d⟩
 .refine(I.hok b u q).stay (fun c w' hc z=>(hs.2 c ?_).trans z) (fun _ z=>z) fun _ _ z=>z;rintro rfl;rcases hc with rfl|hc
  .rw[I.free]at q;cases q
  .rw[I.free]at hc;cases hc
structure HR where
 c:Value
 n:Option Nat
 t:TS
noncomputable def unbN:Option Nat->St->St
 |none,σ=>σ
 |some i,σ=>σ.set i none
noncomputable def setN:Option Nat->St->V->St
 |none,σ,_=>σ
 |some i,σ,v=>σ.set i (some v)
noncomputable def UP(D:Ends)(n:Option Nat):Ends:={ nx:=fun σ H=>D.nx (unbN n σ) H,rt:=D.rt,bk:=fun σ H=>D.bk (unbN n σ) H,ct:=fun σ H=>D.ct (unbN n σ) H }
noncomputable def tHs(K:Fg)(D:Ends):List HR->St->XK
 |[],_,_,_,_=>False
 |h::r,σ,c,dx,H=>∃b,PySem.W.exmOne K c h.c=some b/\(if b=true then ∀e,H e=none->h.t (UP D h.n) (setN h.n σ (.ref e)) (upd H e (.ext (DL e c dx false)))else tHs K D r σ c dx H)
noncomputable def TY(X:Cx)(hs:List ExceptHandler)(rs:List HR):Prop:=∀(pins:List (Addr×Obj))(D:Ends)(e:Addr)(c:Value)(dx:Option Addr)(σ:St)(H:Hp)(s:Shared)(B:Heap)(E:Value->Shared->Prop),X.Ok->Inv (tR X pins) [] σ H s->Kp (tR X pins) H B s.heap->
 Fly B X.stack e c dx (some .none) s.heap->tHs X.K D rs σ c dx H->wpAny (model X.prog X.w) X.A (handleBy (.ref e) X.env hs) (SP X pins D) E s
theorem aDx:TY X [] []:=fun _ _ _ _ _ _ _ _ _ _ _ _ _ _ h=>h.elim
noncomputable def UR(X:Cx)(x:Str)(c:Value):Prop:=X.mg x=some c\/(X.mg x=none/\bootBuiltins x=some c/\x≠"__name__")
theorem aDY{x:Str}{c:Value}{pos:Pos}{E:Value->Shared->Prop}{Q:Value->Shared->Prop}(n:UR X x c)(I:Inv X pins σ H s)(hg:Gl X x)(hd:(x==("__debug__":Str))=false)(h:Q c s):
 wpAny (model X.prog X.w) X.A (eval (.Name x pos) X.env) Q E s:=by
 rcases n with m|⟨m,b,z⟩
 .exact qP I hg m h hd
 .exact hZ I hg m b h z hd
theorem Fly.fresh{B h:Heap}{e:Addr}{c:Value}{dx st:_}(bd:Body X)(I:Inv X pins σ H s)(k:Kp X H B s.heap)(F:Fly B X.stack e c dx st s.heap):H e=none/\X.s₀.heap.get? e=none/\∀p∈X.pn,p.1≠e:=by
 obtain⟨oe,vs,he,_,_,hv⟩:=F.obj;refine⟨?_,?_,fun p hp z=>?_⟩
 .cases z:H e with
  |none=>rfl
  |some u=>
   have:=k.trk e u oe z he;rw[F.new]at this;cases this
 .cases z:X.s₀.heap.get? e with
  |none=>rfl
  |some o=>
   by_cases hf:e∈X.fs
   .obtain⟨_,o1,z1,hn⟩:=I.funs.mem hf;exact absurd rfl (iX he hv z1 hn)
   .obtain⟨⟨o',q⟩,_⟩:=k.ent e o z hf;rw[F.new]at q;cases q
 .have:=k.pin p hp;rw[z,F.new]at this;cases this
noncomputable def aFD(X:Cx):Option Str->Option Nat->Prop
 |none,none=>True
 |some n,some i=>X.N.Nodup/\X.N[i]?=some n/\X.env.scope.names.lookup n=some .local
 |_,_=>False
theorem aBx{x:Str}{np pos:Pos}{nm:Option Str}{b₀:Stmt}{suite:List Stmt}{hs:List ExceptHandler}{h:HR}{rs:List HR}(bd:Body X)(hc:UR X x h.c)(hg:Gl X x)(hd:(x==("__debug__":Str))=false)
 (hn:aFD X nm h.n)
 (hS:∀e,PSs (hCx X e) (b₀::suite) h.t) (hR:TY X hs rs):TY X (.ExceptHandler (some (.Name x np)) nm (b₀::suite) pos::hs) (h::rs):=by
 intro pins D e c dx σ H s B E ok I k F hq;obtain⟨b,hb,hq⟩:=hq;have bp:Body (tR X pins):=⟨bd.stk,bd.fr,bd.ex⟩;obtain⟨oe,vs,he,hoc,_,hv⟩:=F.obj;have LT:PySem.W.Looks (model X.prog X.w) s.heap (typeOf (.ref e)) c:=hoc▸(PySem.W.Looks.ld he).andThen .now;have IH:=(I.ofP ok).toH e;have hA:(hCx X e).A=X.A.mark (some (.ref e)):=rfl;refine wpAny_handleBy_cons (codeAny_handlers_test (aDY (X:=hCx X e) hc IH hg hd ?_)) (by intro z;cases z);refine(PySem.W.exm_one IH.kIn LT hb).here ?_;cases b with
 |false=>exact hR pins D e c dx σ H s B E ok I k F hq
 |true=>
  rw[A7 rfl]at hq;have F':Fly B (tR X pins).stack e c dx (some .none) s.heap:=F
  have go:∀(P:Shared->Prop),(∀s',Inv X pins σ (upd H e (.ext (DL e c dx false))) s'->P s')->wpAny (model X.prog X.w) (X.A.mark (some (.ref e))) (setFlight (.ref e) none) (fun _ s1=>P s1) (notedBy (model X.prog X.w) (X.A.mark (some (.ref e))) X.env fun x s'=>cameBackBy (model X.prog X.w) X.A X.env E x s') s:=fun P hP=>by
   refine tX (fo:=none) F' fun h1 F1 u1=>hP _ ?_;obtain⟨I1,k1⟩:=I.up bp k F1.stays u1;obtain⟨n1,n2,n3⟩:=Fly.fresh (s:={ s with heap:=h1 }) (h:=h1) bp I1 k1 F1;obtain⟨oe1,vs1,he1,hc1,hd1,hv1⟩:=F1.obj;have I2:=Inv.track I1 he1 hv1 n1 n2 fun p hp=>n3 p (by rw[D6]at hp;exact hp);rw[hc1,hd1]at I2;exact I2.ofP ok
  have hne:H e=none:=(Fly.fresh (h:=s.heap) bp I k F').1;have q0:=hq e hne;cases nm with
  |none=>
   cases hni:h.n with
   |some i=>rw[hni]at hn;exact False.elim hn
   |none=>
    rw[hni]at q0;refine codeAny_handlers_suite (go _ fun s1 I1=>?_);refine L5 (hS e pins s1 σ _ (UP D none) (I1.toH e) q0) (fun f s2 z=>?_) fun _ _ z=>z.elim;cases f with
    |next=>obtain⟨σ',H',I',q⟩:=z;exact⟨σ',H',I'.ofH ok,q⟩
    |brk=>obtain⟨σ',H',I',q⟩:=z;exact⟨σ',H',I'.ofH ok,q⟩
    |cont=>obtain⟨σ',H',I',q⟩:=z;exact⟨σ',H',I'.ofH ok,q⟩
    |ret u=>obtain⟨v,σ',H',I',r,q⟩:=z;exact⟨v,σ',H',I'.ofH ok,r,q⟩
  |some n=>
   cases hni:h.n with
   |none=>rw[hni]at hn;exact False.elim hn
   |some i=>
    rw[hni]at hn q0;obtain⟨nd,hi,lo⟩:=hn;refine codeAny_handlers_suite_as (go _ fun s1 I1=>?_);refine nW (X:=X) I1 nd hi (.inl lo) (v:=.ref e) rfl (fun s2 I2=>?_) (.inr lo);refine L5 (hS e pins s2 _ _ (UP D (some i)) (I2.toH e) q0) (fun f s3 z=>?_) fun _ _ z=>z.elim;show wpAny _ _ _ (fun _ s₃=>SP X pins D f s₃) E s3;cases f with
    |next=>obtain⟨σ',H',I',q⟩:=z;exact oF (I'.ofH ok) nd hi lo fun s4 I4=>⟨_,H',I4,q⟩
    |brk=>obtain⟨σ',H',I',q⟩:=z;exact oF (I'.ofH ok) nd hi lo fun s4 I4=>⟨_,H',I4,q⟩
    |cont=>obtain⟨σ',H',I',q⟩:=z;exact oF (I'.ofH ok) nd hi lo fun s4 I4=>⟨_,H',I4,q⟩
    |ret u=>obtain⟨v,σ',H',I',r,q⟩:=z;exact oF (I'.ofH ok) nd hi lo fun s4 I4=>⟨v,_,H',I4,r,q⟩
noncomputable def aEo(K:Fg)(tb:(St->XK)->TS)(rs:List HR):TS:=fun D σ H=>tb (tHs K D rs) D σ H
theorem aCU{body:List Stmt}{h₀:ExceptHandler}{hs:List ExceptHandler}{pos:Pos}{tb:(St->XK)->TS}{rs:List HR}(bd:Body X)
 (hb:∀pins EE,PSs ((tR X pins).wish (XS (tR X pins) EE)) body (tb EE)) (hh:TY X (h₀::hs) rs):PS X (.Try body (h₀::hs) [] [] pos) (aEo X.K tb rs):=by
 intro pins s σ H D I h;have bp:Body (tR X pins):=⟨bd.stk,bd.fr,bd.ex⟩;refine wpAny_Try_except (L5 (hb pins (tHs X.K D rs) [] s σ H D (I.toP.wish _) h) (fun f s1 z=>?_) fun ev s1 z=>?_)
 .cases f with
  |next=>obtain⟨σ',H',I',q⟩:=z;exact A0c ⟨σ',H',I'.unwish.ofP I.ok,q⟩
  |brk=>obtain⟨σ',H',I',q⟩:=z;exact⟨σ',H',I'.unwish.ofP I.ok,q⟩
  |cont=>obtain⟨σ',H',I',q⟩:=z;exact⟨σ',H',I'.unwish.ofP I.ok,q⟩
  |ret u=>obtain⟨v,σ',H',I',r,q⟩:=z;exact⟨v,σ',H',I'.unwish.ofP I.ok,r,q⟩
 .obtain⟨e,c,dx,st,σ1,H1,B,rfl,I1,k1,F1,hst,q⟩:=z;have hf:=I1.ok.frames;have F1':=F1;rw[bp.stk]at F1' hf;refine BX hf bp.fr F1' hst fun h2 F2 u2=>tX (s:={ s1 with heap:=h2 }) (fo:=none) F2 fun h3 F3 u3=>?_;obtain⟨I2,k2⟩:=I1.up bp k1 F2.stays u2;obtain⟨I3,k3⟩:=I2.up bp k2 F3.stays u3;exact hh pins D e c dx σ1 H1 _ B _ I.ok I3 k3 (by rw[bd.stk];exact F3) q
end
structure Exc where
 nm:Str
 fs:List (Str×CD)
inductive Rs where
 |v (x:CD)|x (e:Exc)
inductive aGL where
 |o (o:Out)|xc (γ:Ga) (e:Exc)
noncomputable abbrev EX:=Ga->Sto->Option (Rs×Sto)
noncomputable abbrev AX:=Ga->Sto->Option ((List CD ⊕ Exc)×Sto)
noncomputable abbrev SFX:=Ga->Sto->Option (aGL×Sto)
noncomputable abbrev FX:=List CD->Sto->Option (Rs×Sto)
section
variable(K:Fg)
noncomputable def ExR(W:Wd)(ex:Exc)(c:Value)(dx:Option Addr):Prop:=c=.ref (cR K ex.nm)/\EN K W dx ex.fs
noncomputable def aCj(E:XK)(Q:VK)(W:Wd)(H:Hp):Rs->Prop
 |.v x=>∀v,bV K W x v->Q v H
 |.x ex=>∀c dx,ExR K W ex c dx->E c dx H
noncomputable def SEX(EE:St->XK)(t:TE)(f:EX):Prop:=∀γ M r M',f γ M=some (r,M')->∀(W:Wd)(H:Hp)(σ:St)(Q:VK),Good K W M H->cJ K W γ σ->(∀W' H',W.Ext W'->Good K W' M' H'->aCj K (EE σ) Q W' H' r)->t σ H Q
noncomputable def aGw(E:XK)(Q:List V->Hp->Prop)(W:Wd)(H:Hp):List CD ⊕ Exc->Prop
 |.inl xs=>∀vs,bS K W xs vs->Q vs H
 |.inr ex=>∀c dx,ExR K W ex c dx->E c dx H
noncomputable def SAX(EE:St->XK)(t:TA)(f:AX):Prop:=∀γ M r M',f γ M=some (r,M')->∀(W:Wd)(H:Hp)(σ:St)(Q:List V->Hp->Prop),Good K W M H->cJ K W γ σ->(∀W' H',W.Ext W'->Good K W' M' H'->aGw K (EE σ) Q W' H' r)->t σ H Q
noncomputable def aDs(EE:St->XK)(D:Ends)(W:Wd)(H:Hp):aGL->Prop
 |.o o=>TM K D W H o
 |.xc γ ex=>∀σ c dx,cJ K W γ σ->ExR K W ex c dx->EE σ c dx H
noncomputable def SSX(EE:St->XK)(t:TS)(f:SFX):Prop:=∀γ M o M',f γ M=some (o,M')->∀(W:Wd)(H:Hp)(σ:St)(D:Ends),Good K W M H->cJ K W γ σ->(∀W' H',W.Ext W'->Good K W' M' H'->aDs K EE D W' H' o)->t D σ H
noncomputable def spX(f:FX):Sp:=fun vs H Q E=>∃xs M W r M',Good K W M H/\bS K W xs vs/\f xs M=some (r,M')/\∀W' H',W.Ext W'->Good K W' M' H'->aCj K E Q W' H' r
end
noncomputable def liE(f:EF):EX:=fun γ M=>(f γ M).bind fun r=>some (.v r.1,r.2)
noncomputable def liA(f:AF):AX:=fun γ M=>(f γ M).bind fun r=>some (.inl r.1,r.2)
noncomputable def liS(f:SF):SFX:=fun γ M=>(f γ M).bind fun r=>some (.o r.1,r.2)
noncomputable def xCons(f:EX)(g:AX):AX:=fun γ M=>(f γ M).bind fun r=>match r.1 with
 |.x e=>some (.inr e,r.2)
 |.v x=>(g γ r.2).bind fun q=>match q.1 with
  |.inr e=>some (.inr e,q.2)
  |.inl xs=>some (.inl (x::xs),q.2)
noncomputable def aFV(f:EX)(k:CD->Sto->Option (Rs×Sto)):EX:=fun γ M=>(f γ M).bind fun r=>match r.1 with
 |.x e=>some (.x e,r.2)
 |.v x=>k x r.2
noncomputable def JO(f:AX)(k:List CD->Sto->Option (Rs×Sto)):EX:=fun γ M=>(f γ M).bind fun r=>match r.1 with
 |.inr e=>some (.x e,r.2)
 |.inl xs=>k xs r.2
noncomputable def qX(h:FX)(f:AX):EX:=JO f h
noncomputable def mC(f g:SFX):SFX:=fun γ M=>(f γ M).bind fun r=>match r.1 with
 |.o (.nx γ')=>g γ' r.2
 |o=>some (o,r.2)
noncomputable def aGG(f:EX):SFX:=fun γ M=>(f γ M).bind fun r=>match r.1 with
 |.x e=>some (.xc γ e,r.2)
 |.v x=>some (.o (.rt x),r.2)
noncomputable def lQ(f:EX):SFX:=fun γ M=>(f γ M).bind fun r=>match r.1 with
 |.x e=>some (.xc γ e,r.2)
 |.v _=>some (.o (.nx γ),r.2)
noncomputable def aFy(f:EX)(g:GF):SFX:=fun γ M=>(f γ M).bind fun r=>match r.1 with
 |.x e=>some (.xc γ e,r.2)
 |.v x=>(g x γ r.2).bind fun q=>some (.o (.nx q.1),q.2)
noncomputable def OU(c:TF)(f g:SFX):SFX:=fun γ M=>(c γ M).bind fun r=>if r.1=true then f γ r.2 else g γ r.2
noncomputable def rO(nm:Str):SFX:=fun γ M=>some (.xc γ ⟨nm,[]⟩,M)
noncomputable def fnX(ps N:Nat)(b:SFX):FX:=fun xs M=>if xs.length=ps then(b (xs.map some++List.replicate (N-xs.length) none) M).bind fun r=>match r.1 with
 |.o (.rt x)=>some (.v x,r.2)
 |.o (.nx _)=>some (.v (.d .none),r.2)
 |.xc _ e=>some (.x e,r.2)
 |_=>none else none
noncomputable def RP:Option Nat->Ga->Ga
 |none,γ=>γ
 |some i,γ=>γ.set i none
noncomputable def setG:Option Nat->Ga->CD->Ga
 |none,γ,_=>γ
 |some i,γ,x=>γ.set i (some x)
noncomputable def aDh(n:Option Nat):Out->Out
 |.nx γ=>.nx (RP n γ)
 |.bk γ=>.bk (RP n γ)
 |.ct γ=>.ct (RP n γ)
 |.rt x=>.rt x
structure HMi where
 tab:List (Str×Bool)
 n:Option Nat
 f:SF
noncomputable def HH:List HMi->Ga->Exc->Sto->Option (Out×Sto)
 |[],_,_,_=>none
 |h::r,γ,ex,M=>match h.tab.lookup ex.nm with
  |some true=>(h.f (setG h.n γ (.c M.length)) (M++[.exc false ex.nm ex.fs])).bind fun q=>some (aDh h.n q.1,q.2)
  |some false=>HH r γ ex M
  |none=>none
noncomputable def NT(b:SFX)(hs:List HMi):SF:=fun γ M=>(b γ M).bind fun r=>match r.1 with
 |.o o=>some (o,r.2)
 |.xc γ' ex=>HH hs γ' ex r.2
section
variable{K:Fg}{EE:St->XK}{ta tb:TE}{tA:TA}{t u:TS}{f g:EX}{fa:AX}{p q:SFX}{tt:TT}{ft:TF}{tg:TG}{hg:GF}
theorem aEM{f:AF}(a:SA K tA f):SAX K EE tA (liA f):=by
 intro γ M r M' h W H σ Q G R k;obtain⟨⟨x,M1⟩,h1,h⟩:=aH h;cases h;exact a _ _ _ _ h1 W H σ Q G R fun v W' H' e G' rv=>k W' H' e G' v rv
theorem aEP{f:SF}(a:SS K t f):SSX K EE t (liS f):=by
 intro γ M r M' h W H σ D G R k;obtain⟨⟨x,M1⟩,h1,h⟩:=aH h;cases h;exact a _ _ _ _ h1 W H σ D G R fun W' H' e G'=>k W' H' e G'
theorem XY{h:FX}(a:SAX K EE tA fa):SEX K EE (BF (spX K h) EE tA) (qX h fa):=by
 intro γ M r M' hh W H σ Q G R k;obtain⟨⟨x,M1⟩,h1,hh⟩:=aH hh;refine a _ _ _ _ h1 W H σ _ G R fun W1 H1 e1 G1=>?_;cases x with
 |inr e=>cases hh;exact k W1 H1 e1 G1
 |inl xs=>exact fun vs rs=>⟨xs,M1,W1,r,M',G1,rs,hh,fun W2 H2 e2 G2=>k W2 H2 (e1.trans e2) G2⟩
theorem ZD(a:SSX K EE t p)(b:SSX K EE u q):SSX K EE (aCw t u) (mC p q):=by
 intro γ M o M' hh W H σ D G R k;obtain⟨⟨x,M1⟩,h1,hh⟩:=aH hh;refine a _ _ _ _ h1 W H σ _ G R fun W1 H1 e1 G1=>?_;cases x with
 |xc γ' e=>cases hh;exact k W1 H1 e1 G1
 |o x=>
  cases x with
  |nx γ'=>exact fun σ' R'=>b _ _ _ _ hh W1 H1 σ' D G1 R' fun W2 H2 e2 G2=>k W2 H2 (e1.trans e2) G2
  |bk γ'=>cases hh;exact k W1 H1 e1 G1
  |ct γ'=>cases hh;exact k W1 H1 e1 G1
  |rt x=>cases hh;exact k W1 H1 e1 G1
theorem QF(a:SEX K EE ta f):SSX K EE (RM ta) (lQ f):=by
 intro γ M o M' hh W H σ D G R k;obtain⟨⟨x,M1⟩,h1,hh⟩:=aH hh;refine a _ _ _ _ h1 W H σ _ G R fun W1 H1 e1 G1=>?_;cases x with
 |x e=>cases hh;exact fun c dx z=>k W1 H1 e1 G1 σ c dx (R.up e1) z
 |v x=>cases hh;exact fun v rv=>k W1 H1 e1 G1 σ (R.up e1)
theorem aEB(c:STt K tt ft)(a:SSX K EE t p)(b:SSX K EE u q):SSX K EE (aCr tt t u) (OU ft p q):=by
 intro γ M o M' hh W H σ D G R k;obtain⟨⟨x,M1⟩,h1,hh⟩:=aH hh;refine c _ _ _ _ h1 W H σ _ G R fun W1 H1 e1 G1=>?_;cases x with
 |true=>rw[A7 rfl];rw[A7 rfl]at hh;exact a _ _ _ _ hh W1 H1 σ D G1 (R.up e1) fun W2 H2 e2 G2=>k W2 H2 (e1.trans e2) G2
 |false=>rw[B0 B2];rw[B0 B2]at hh;exact b _ _ _ _ hh W1 H1 σ D G1 (R.up e1) fun W2 H2 e2 G2=>k W2 H2 (e1.trans e2) G2
theorem NB{nm:Str}:SSX K EE (BE EE (cR K nm)) (rO nm):=by
 intro γ M o M' hh W H σ D G R k;cases hh;exact k W H (.refl _) G σ _ none R ⟨rfl,rfl⟩
theorem cJ.setN{γ:Ga}{n:Option Nat}{x:CD}{v:V}(R:cJ K W γ σ)(r:bV K W x v):cJ K W (setG n γ x) (setN n σ v):=by
 cases n with
 |none=>exact R
 |some i=>exact Paired.set (x:=some x) (y:=some v) r i R
theorem cJ.unbN{γ:Ga}{n:Option Nat}(R:cJ K W γ σ):cJ K W (RP n γ) (unbN n σ):=by
 cases n with
 |none=>exact R
 |some i=>exact Paired.set (x:=none) (y:=none) True.intro i R
inductive HsM(K:Fg):List HR->List HMi->Prop
 |nil:HsM K [] []
 |cons {h:HR} {m:HMi} {hs:List HR} {ms:List HMi} (hn:h.n=m.n) (ht:∀nm b,m.tab.lookup nm=some b->PySem.W.exmOne K (.ref (cR K nm)) h.c=some b) (hS:SS K h.t m.f) (r:HsM K hs ms):HsM K (h::hs) (m::ms)
theorem SZ{D:Ends}{W:Wd}{M M':Sto}{H:Hp}{γ:Ga}{σ:St}{ex:Exc}{c:Value}{dx:Option Addr}{o:Out}(G:Good K W M H)(R:cJ K W γ σ)(E:ExR K W ex c dx):
 ∀{hs:List HR}{ms:List HMi},HsM K hs ms->HH ms γ ex M=some (o,M')->(∀W' H',W.Ext W'->Good K W' M' H'->TM K D W' H' o)->tHs K D hs σ c dx H
 |_,_,.nil=>fun h _=>by cases h
 |_,_,@HsM.cons _ h m hs ms hn ht hS r=>fun hh k=>by
  obtain⟨rfl,rx⟩:=E;unfold HH at hh;cases e:m.tab.lookup ex.nm with
  |none=>rw[e]at hh;cases hh
  |some b=>
   rw[e]at hh;refine⟨b,ht _ _ e,?_⟩;cases b with
   |false=>rw[B0 B2];exact SZ G R ⟨rfl,rx⟩ r hh k
   |true=>
    rw[A7 rfl];intro a ha;obtain⟨⟨o1,M1⟩,h1,hh⟩:=aH (show(m.f _ _).bind _=_ from hh);have hh':some (aDh m.n o1,M1)=some (o,M'):=hh;cases hh';have G':Good K (W.more a) (M++[.exc false ex.nm ex.fs]) (upd H a (.ext (DL a (.ref (cR K ex.nm)) dx false))):=G.new ha ⟨dx,rfl,rx⟩;have e1:=W.ext_more a;have ra:bV K (W.more a) (.c M.length) (.ref a):=⟨by show M.length<W.n+1;rw[G.n];exact L9 _,by show _=V.ref (if M.length=W.n then a else _);rw[A7 G.n.symm]⟩;rw[hn];refine hS _ _ _ _ h1 (W.more a) _ _ _ G' ((R.up e1).setN ra) fun W2 H2 e2 G2=>?_;have kk:=k W2 H2 (e1.trans e2) G2;cases o1 with
    |nx γ2=>exact fun σ2 R2=>kk _ R2.unbN
    |bk γ2=>exact fun σ2 R2=>kk _ R2.unbN
    |ct γ2=>exact fun σ2 R2=>kk _ R2.unbN
    |rt x=>exact kk
theorem aDp{tb:(St->XK)->TS}{rs:List HR}{ms:List HMi}(b:∀EE,SSX K EE (tb EE) p)(h:HsM K rs ms):SS K (aEo K tb rs) (NT p ms):=by
 intro γ M o M' hh W H σ D G R k;obtain⟨⟨x,M1⟩,h1,hh⟩:=aH hh;refine b _ _ _ _ _ h1 W H σ D G R fun W1 H1 e1 G1=>?_;cases x with
 |o x=>cases hh;exact k W1 H1 e1 G1
 |xc γ' ex=>exact fun σ' c dx R' E=>SZ G1 R' E h hh fun W2 H2 e2 G2=>k W2 H2 (e1.trans e2) G2
end
section
variable{ι:Type}
structure MX(K:Fg)(X:ι->Cx)(EE:ι->St->XK)(e:Expr)(f:EX):Prop where
 ex:∃t:ι->TE,(∀i,PE (X i) e (t i))/\∀i,SEX K (EE i) (t i) f
structure MAX(K:Fg)(X:ι->Cx)(EE:ι->St->XK)(es:List Expr)(f:AX):Prop where
 ex:∃t:ι->TA,(∀i,PA (X i) es (t i))/\∀i,SAX K (EE i) (t i) f
 st:DQ es
structure MSX(K:Fg)(X:ι->Cx)(EE:ι->St->XK)(st:Stmt)(f:SFX):Prop where
 ex:∃t:ι->TS,(∀i,PS (X i) st (t i))/\∀i,SSX K (EE i) (t i) f
structure MLX(K:Fg)(X:ι->Cx)(EE:ι->St->XK)(st:List Stmt)(f:SFX):Prop where
 ex:∃t:ι->TS,(∀i,PSs (X i) st (t i))/\∀i,SSX K (EE i) (t i) f
variable{K:Fg}{X:ι->Cx}{EE:ι->St->XK}{e a b c tg iter:Expr}{es:List Expr}{f g:EX}{fa:AX}{p q:SFX}{ft:TF}{gf:GF}{st:Stmt}{sts sts':List Stmt}{pos:Pos}
theorem XB{f:AF}(x:MA K X es f):MAX K X EE es (liA f):=by
 obtain⟨t,x1,x2⟩:=x.ex;exact⟨⟨fun _=>t,x1,fun _=>aEM x2⟩,x.st⟩
theorem FW{f:SF}(x:ML K X sts f):MLX K X EE sts (liS f):=by
 obtain⟨t,x1,x2⟩:=x.ex;exact⟨fun _=>t,x1,fun _=>aEP x2⟩
theorem JK{k:Nat}{x:Str}{ps:List Str}{F:FX}{p:Pos}(ok:∀i,XOk (X i) (EE i))(C:∀i,lL (X i).prog (X i).w (X i).K (X i).mg (X i).base k x ps (spX K F))(hr:∀i,dF k (X i).A)(y:MAX K X EE (e::es) fa)(hg:∀i,Gl (X i) x:=by intro _;rfl)(hd:(x==("__debug__":Str))=false:=by decide):
 MX K X EE (.Call (.Name x p) (e::es) [] pos) (qX F fa):=by
 obtain⟨u,y1,y2⟩:=y.ex;exact⟨_,fun i=>YI (ok i) (C i) (hr i) (y1 i) (hg i) hd (y.st.1 _) (y.st.2.plain _ _),fun i=>XY (y2 i)⟩
theorem uC(x:MSX K X EE st p):MLX K X EE [st] p:=by
 obtain⟨t,x1,x2⟩:=x.ex;exact⟨t,fun i=>IV (x1 i),x2⟩
theorem DO(x:MSX K X EE st p)(y:MLX K X EE sts q):MLX K X EE (st::sts) (mC p q):=by
 obtain⟨t,x1,x2⟩:=x.ex;obtain⟨u,y1,y2⟩:=y.ex;exact⟨_,fun i=>CN (x1 i) (y1 i),fun i=>ZD (x2 i) (y2 i)⟩
theorem DF(x:MX K X EE e f)(hs:∀i,swapsWith e none pos.line (X i).env=pure false:=by intro _;rfl):MSX K X EE (.Expr e pos) (lQ f):=by
 obtain⟨t,x1,x2⟩:=x.ex;exact⟨_,fun i=>KH (x1 i) (hs i),fun i=>QF (x2 i)⟩
theorem UA(x:MT K X c ft)(y:MLX K X EE sts p)(z:MLX K X EE sts' q):MSX K X EE (.If c sts sts' pos) (OU ft p q):=by
 obtain⟨t,x1,x2⟩:=x.ex;obtain⟨u,y1,y2⟩:=y.ex;obtain⟨v,z1,z2⟩:=z.ex;exact⟨_,fun i=>aCg (x1 i) (y1 i) (z1 i),fun i=>aEB x2 (y2 i) (z2 i)⟩
theorem vY{x:Str}{np cpos:Pos}(ok:∀i,XOk (X i) (EE i))(hK:∀i,(X i).K=K)(hc:∀i,(X i).calm=true)(hm:∀i,(X i).mg x=some (.ref (cR K x)))(q:PySem.W.excIn K (cR K x) bmV "ValueError.__new__"=true)(hg:∀i,Gl (X i) x:=by intro _;rfl)(hd:(x==("__debug__":Str))=false:=by decide):
 MSX K X EE (.Raise (some (.Call (.Name x np) [] [] cpos)) none pos) (rO x):=
 ⟨fun i=>BE (EE i) (cR K x),fun i=>MV (ok i) (hc i) (hm i) (by rw[hK i];exact q) (hg i) hd,fun _=>NB⟩
noncomputable def aFX(X:ι->Cx):ι×List (Addr×Obj)×(St->XK)->Cx:=fun j=>(tR (X j.1) j.2.1).wish (XS (tR (X j.1) j.2.1) j.2.2)
noncomputable def aGt:ι×List (Addr×Obj)×(St->XK)->St->XK:=fun j=>j.2.2
noncomputable def aHm(X:ι->Cx):ι×Addr->Cx:=fun j=>hCx (X j.1) j.2
theorem aHi(bd:∀i,Body (X i))(j:ι×List (Addr×Obj)×(St->XK)):XOk (aFX X j) (aGt (ι:=ι) j):=
 XOk.of (X:=tR (X j.1) j.2.1) ⟨(bd j.1).stk,(bd j.1).fr,(bd j.1).ex⟩ _
structure MH(K:Fg)(X:ι->Cx)(hs:List ExceptHandler)(ms:List HMi):Prop where
 ex:∃rs,(∀i,TY (X i) hs rs)/\HsM K rs ms
theorem aCv:MH K X [] []:=⟨[],fun _=>aDx,.nil⟩
theorem ZW{x:Str}{np hp:Pos}{nm:Option Str}{b₀:Stmt}{suite:List Stmt}{hs:List ExceptHandler}{ms:List HMi}{tab:List (Str×Bool)}{n:Option Nat}{f:SF}(cv:Value)(bd:∀i,Body (X i))(hc:∀i,UR (X i) x cv)
 (hn:∀i,aFD (X i) nm n)
 (ht:∀p∈tab,PySem.W.exmOne K (.ref (cR K p.1)) cv=some p.2) (hS:ML K (aHm X) (b₀::suite) f) (r:MH K X hs ms) (hg:∀i,Gl (X i) x:=by intro _;rfl) (hd:(x==("__debug__":Str))=false:=by decide):
 MH K X (.ExceptHandler (some (.Name x np)) nm (b₀::suite) hp::hs) (⟨tab,n,f⟩::ms):=by
 obtain⟨t,h1,h2⟩:=hS.ex;obtain⟨rs,r1,r2⟩:=r.ex;refine⟨⟨cv,n,t⟩::rs,fun i=>aBx (h:=⟨cv,n,t⟩) (bd i) (hc i) (hg i) hd (hn i) (fun e=>h1 (i,e)) (r1 i),.cons rfl (fun nm b z=>?_) h2 r2⟩;exact ht (nm,b) (E8 z)
theorem aFt{h₀:ExceptHandler}{hs:List ExceptHandler}{ms:List HMi}(bd:∀i,Body (X i))(hK:∀i,(X i).K=K)(x:MLX K (aFX X) (aGt (ι:=ι)) sts p)(h:MH K X (h₀::hs) ms):MS K X (.Try sts (h₀::hs) [] [] pos) (NT p ms):=by
 obtain⟨rs,r1,r2⟩:=h.ex;obtain⟨t,x1,x2⟩:=x.ex;refine⟨aEo K (fun EE D σ H=>∀i pins,t (i,pins,EE) D σ H) rs,fun i=>?_,aDp (fun EE=>?_) r2⟩
 .have:=aCU (X:=X i) (tb:=fun EE D σ H=>∀i pins,t (i,pins,EE) D σ H) (pos:=pos) (bd i) (fun pins EE ps s σ H D I h=>x1 (i,pins,EE) ps s σ H D I (h i pins)) (r1 i);rw[hK i]at this;exact this
 .exact fun γ M o M' hh W H σ D G R k i pins=>x2 (i,pins,EE) γ M o M' hh W H σ D G R k
section
variable{P:Program}{w:World}{K:Fg}{mg:Str->Option Value}{base:Heap}
noncomputable abbrev aEX(P:Program)(w:World)(K:Fg)(mg:Str->Option Value)(base:Heap)(N:List Str)(x:Str)(st:Stmt)(f:Addr)(cdv:Value)(A:Around)(outer:List Env)(s:Shared)(H:Hp)(E:XK):Unit->Cx:=fun _=>
 (lP (CX1 P w) P w K mg base N x (aJ st) f cdv A outer s H E).wish (XS (lP (CX1 P w) P w K mg base N x (aJ st) f cdv A outer s H E) fun _=>E)
theorem WL{N:List Str}{x:Str}{st:Stmt}{f:Addr}{cdv:Value}{A:Around}{outer:List Env}{s:Shared}{E:XK}(i:Unit):XOk (aEX P w K mg base N x st f cdv A outer s H E i) ((fun _ _=>E:Unit->St->XK) i):=XOk.of JC _
theorem Fun.okXF{x qual:Str}{st:Stmt}{N ps:List Str}{k:Nat}{b:SFX}{f:Addr}{fd:FuncData}(Fu:Fun K x qual st f fd)(S:aT N ps (aJ st))
 (hbody:∀(f:Addr)(cdv:Value)(A:Around)(outer:List Env)(s:Shared)(H:Hp)(E:XK),dF k (A.deeper (envOfC qual (aJ st) s.heap.objs.size f cdv))->
  MLX K (aEX P w K mg base N qual st f cdv A outer s H E) (fun _ _=>E) (cK st) b):oQ P w K mg base (CX1 P w) (k+1) f fd ps (spX K (fnX ps.length N.length b)):=by
 obtain⟨oc,od,kV,doc,pm,an,cdv,ct,osl,rfl,lk,hcd⟩:=Fu.ex
 have len:∀vs H Q E,spX K (fnX ps.length N.length b) vs H Q E->vs.length=ps.length:=fun vs H Q E h=>by
  obtain⟨xs,M,W,y,M',G,R,hf,_⟩:=h;by_cases hl:xs.length=ps.length
  .rw[<- Paired.len R];exact hl
  .unfold fnX at hf;rw[B0 hl]at hf;cases hf
 refine aED lk hcd S len fun A outer s H vs Q E hr h=>?_;obtain⟨t,h1,h2⟩:=(hbody f cdv A outer s H E hr).ex;refine⟨t (),h1 (),?_⟩;obtain⟨xs,M,W,r,M',G,R,hf,kk⟩:=h
 have hl:xs.length=ps.length:=by
  by_cases hl:xs.length=ps.length
  .exact hl
  .unfold fnX at hf;rw[B0 hl]at hf;cases hf
 unfold fnX at hf;rw[A7 hl]at hf;obtain⟨⟨o,M1⟩,h3,hf⟩:=aH hf
 have hR:cJ K W (xs.map some++List.replicate (N.length-xs.length) none) (start N vs):=by
  unfold start;rw[<- Paired.len R];exact Paired.app (bS.some R) (qJ _)
 refine h2 () _ _ _ _ h3 W H _ _ G hR fun W1 H1 e1 G1=>?_;cases o with
 |xc γ e=>cases hf;exact fun σ c dx _ z=>kk W1 H1 e1 G1 c dx z
 |o o=>
  cases o with
  |rt x=>cases hf;exact fun v r=>kk W1 H1 e1 G1 v r
  |nx γ=>cases hf;exact fun σ r=>kk W1 H1 e1 G1 .non rfl
  |bk γ=>cases hf
  |ct γ=>cases hf
theorem Def.okX{x:Str}{st:Stmt}{N ps:List Str}{k:Nat}{b:SFX}(D:Def K mg x st)(S:aT N ps (aJ st))
 (hb:∀(kV doc pm:Value)(an:Option Addr)(cdv ct:Value)(us:List Value),us.length=ps.length->bindArgs (PySem.W.fnOf x x (fW st) (cK st) (aJ st) .none kV doc pm an cdv ct) ⟨us,[]⟩=pure (ps.zip us))
 (hbody:∀(f:Addr)(cdv:Value)(A:Around)(outer:List Env)(s:Shared)(H:Hp)(E:XK),dF k (A.deeper (envOfC x (aJ st) s.heap.objs.size f cdv))->
  MLX K (aEX P w K mg base N x st f cdv A outer s H E) (fun _ _=>E) (cK st) b):lL P w K mg base (k+1) x ps (spX K (fnX ps.length N.length b)):=by
 obtain⟨f,fd,Fu,m⟩:=D.ex;exact⟨f,fd,Fu.okXF S hbody,m,Fu.kp,Fu.binds hb⟩
end
end
structure XC(K:Fg)(C:Addr):Prop where
 c:VL K C
 ha:PySem.W.findIn K (.ref C) "__class__"=some (some (.builtin "object.__class__"))
 hn:PySem.W.specialIn K (.builtin "object.__class__") "__get__"=some (some (.builtin "getset_descriptor.__get__"))
 htk:PySem.W.takesIn K (.builtin "object.__class__")=some true
 hm:PySem.W.mroIn K C (.type "object")=some true
noncomputable def aEC(H:Hp):Option Addr->Prop
 |none=>True
 |some d=>∃us,H d=some (.xd us)
inductive ClV:V->Value->Prop
 |own (C:Addr):ClV (.ref C) (.ref C)
 |ty (T:String):ClV (.ty T) (.type T)
theorem ClV.is{v:V}{c u:Value}(h:ClV v c)(r:RelV v u):u=c:=by cases h<;>exact r
noncomputable def UC(K:Fg):List V->Hp->VK->Prop:=fun xs H Q=>∃v cv c b,xs=[v,cv]/\ClV cv c/\Q (.bl b) H /\
 ((v=.non/\PySem.W.kitOne K (.type "NoneType") c=some b)\/∃a C dx fr,v=.ref a/\H a=some (.ext (DL a (.ref C) dx fr))/\aEC H dx/\XC K C/\PySem.W.kitOne K (.ref C) c=some b)
section
variable{X:Cx}{K:Fg}
theorem WO{pins:List (Addr×Obj)}{s:Shared}{a C:Addr}{dx:Option Addr}{fr:Bool}(I:Inv X pins σ H s)(h:H a=some (.ext (DL a (.ref C) dx fr)))(d:aEC H dx):∃ox od,PySem.W.InstAt s.heap a ox C od/\ox.dict=dx:=by
 obtain⟨⟨o,vs,h1,h2,h3,h4,_⟩,_⟩:=I.hok a _ h
 have no:PySem.W.notCls o=true:=by
  obtain⟨_,_,dt,_⟩:=o;cases h4;rfl
 cases dx with
 |none=>exact⟨o,none,⟨h1,h2,no,by rw[h3];exact True.intro⟩,h3⟩
 |some d'=>
  obtain⟨us,hd⟩:=d;obtain⟨od,q⟩:=(I.hok d' _ hd).there;exact⟨o,some od,⟨h1,h2,no,by rw[h3];exact q⟩,h3⟩
theorem LW:dO X (.builtin "isinstance") (UC X.K):=by
 intro pins s σ H vs us Q I r h;obtain⟨v,cv,c,b,rfl,rc,q,h⟩:=h;obtain⟨u,u',rfl,ru,ru'⟩:=vals2 r;cases rc.is ru';rcases h with⟨rfl,e⟩|⟨a,C,dx,fr,rfl,ha,d,xc,e⟩
 .cases (show u=Value.none from ru);exact PySem.W.kia_one PySem.W.kitx_none I.kIn True.intro e (fun z=>nomatch z) fun tk=>⟨.bl _,H,I.tok tk,rfl,q⟩
 .cases (show u=Value.ref a from ru);obtain⟨ox,od,J,_⟩:=WO I ha d;exact PySem.W.kia_one (UZ xc.c xc.ha xc.hn xc.htk xc.hm) I.kIn ⟨ox,od,J⟩ e (fun z=>nomatch z) fun tk=>⟨.bl _,H,I.tok tk,rfl,q⟩
theorem aGa(h:X.K=K):dO X (.builtin "isinstance") (UC K):=by subst h;exact LW
noncomputable def yM(tab:List (Str×Bool))(nn:Option Bool)(f:EF):EF:=fun γ M=>(f γ M).bind fun r=>match r.1 with
 |.c i=>(match r.2[i]? with
  |some (.exc _ nm _)=>(tab.lookup nm).bind fun b=>some (.d (.bool b),r.2)
  |_=>none)
 |.d .none=>nn.bind fun b=>some (.d (.bool b),r.2)
 |_=>none
theorem EN.ok{dx:Option Addr}{fs:List (Str×CD)}(r:EN K W dx fs)(s:gY W.F H):aEC H dx:=by
 cases dx with
 |none=>exact True.intro
 |some d=>obtain⟨_,us,h,_⟩:=r;exact⟨us,s _ _ h⟩
theorem Good.excAt{M:Sto}{i:Nat}{fr:Bool}{nm:Str}{fs:List (Str×CD)}(G:Good K W M H)(h:M[i]?=some (.exc fr nm fs)):∃dx,H (W.α i)=some (.ext (DL (W.α i) (.ref (cR K nm)) dx fr))/\EN K W dx fs:=by
 obtain⟨_,o,h2,h3⟩:=G.cs i _ h (by intro z;cases z);cases o with
 |ext φ=>
  obtain⟨dx,rfl,r⟩:=h3;exact⟨dx,h2,r⟩
 |_=>exact False.elim h3
theorem ZQ{tab:List (Str×Bool)}{nn:Option Bool}{ta:TE}{f:EF}{cv:V}{c:Value}(hc:ClV cv c)(ht:∀p∈tab,XC K (cR K p.1)/\PySem.W.kitOne K (.ref (cR K p.1)) c=some p.2)(hn:∀b,nn=some b->PySem.W.kitOne K (.type "NoneType") c=some b)
 (a:SE K ta f):SE K (tCB (UC K) (oW ta (oW (tC cv) NX))) (yM tab nn f):=by
 intro γ M x M' hh W H σ Q G R k;obtain⟨⟨y,M1⟩,h1,hh⟩:=aH hh;refine a _ _ _ _ h1 W H σ _ G R fun v W1 H1 e1 G1 r1=>?_;cases y with
 |t _=>cases hh
 |f _=>cases hh
 |c i=>
  dsimp only at hh;cases e:M1[i]? with
  |none=>rw[e]at hh;cases hh
  |some cl=>
   rw[e]at hh;cases cl with
   |exc fr nm fs=>
    obtain⟨b,h2,hh⟩:=aH (show(tab.lookup nm).bind _=_ from hh);cases hh;obtain⟨h3,h4⟩:=ht (nm,b) (E8 h2);obtain⟨dx,h5,h6⟩:=G1.excAt e;exact⟨v,cv,c,b,rfl,hc,k _ W1 H1 e1 G1 rfl,.inr ⟨_,_,dx,fr,r1.2,h5,h6.ok G1.fh,h3,h4⟩⟩
   |_=>cases hh
 |d y=>
  cases y with
  |none=>
   obtain⟨b,h2,hh⟩:=aH (show nn.bind _=_ from hh);cases hh;exact⟨v,cv,c,b,rfl,hc,k _ W1 H1 e1 G1 rfl,.inl ⟨r1,hn b h2⟩⟩
  |_=>cases hh
end
section
variable{ι:Type}{K:Fg}{X:ι->Cx}{a:Expr}{f:EF}{pos:Pos}
theorem PY{y:Str}{C:Addr}(hm:∀i,(X i).mg y=some (.ref C))(hg:∀i,Gl (X i) y:=by intro _;rfl)(hd:(y==("__debug__":Str))=false:=by decide):∀i p',PE (X i) (.Name y p') (tC (.ref C)):=fun i _=>IT (hg i) (hm i) rfl hd
theorem aHf{y:Str}{T:String}(hm:∀i,(X i).mg y=none)(hb:bootBuiltins y=some (.type T))(hg:∀i,Gl (X i) y:=by intro _;rfl)(hn:y≠"__name__":=by decide)(hd:(y==("__debug__":Str))=false:=by decide):∀i p',PE (X i) (.Name y p') (tC (.ty T)):=fun i _=>uG (v:=.ty T) (hg i) (hm i) hb rfl hn hd
theorem AQ{y:Str}{p p':Pos}{tab:List (Str×Bool)}{nn:Option Bool}{cv:V}{c:Value}(hK:∀i,(X i).K=K)(hc:ClV cv c)(hy:∀i p',PE (X i) (.Name y p') (tC cv))(ht:∀p∈tab,XC K (cR K p.1)/\PySem.W.kitOne K (.ref (cR K p.1)) c=some p.2)(hn:∀b,nn=some b->PySem.W.kitOne K (.type "NoneType") c=some b)
 (x:ME K X a f) (hs:QO a [.Name y p']) (hm:∀i,(X i).mg "isinstance"=none) (hg:∀i,Gl (X i) "isinstance":=by intro _;rfl):ME K X (.Call (.Name "isinstance" p) [a,.Name y p'] [] pos) (yM tab nn f):=by
 obtain⟨t,x1,x2⟩:=x.ex;exact⟨_,fun i=>qM (aGa (hK i)) (hg i) (hm i) boot_isinstance (iQ (x1 i) (iQ (hy i _) xD cL) (hs _)) (by decide) (by decide) (hs _) (lF cL sE),ZQ hc ht hn x2⟩
end
noncomputable def nA(h:FX)(f:AF):EF:=fun γ M=>(f γ M).bind fun r=>(h r.1 r.2).bind fun q=>match q.1 with
 |.v x=>some (x,q.2)
 |.x _=>none
noncomputable def noX:St->XK:=fun _ _ _ _=>False
section
variable{X:Cx}{K:Fg}
theorem PK{k:Nat}{x:Str}{ps:List Str}{sp:Sp}{p pos:Pos}{e:Expr}{es:List Expr}{t:TA}(C:lL X.prog X.w X.K X.mg X.base k x ps sp)(hr:dF k X.A)(ha:PA X (e::es) t)(hg:Gl X x)
 (hdb:(x==("__debug__":Str))=false) (he:starEach (e::es) X.env=(false,eval e X.env)::starEach es X.env) (hpl:(backTo pos (starEach es X.env)).any (·.1)=false):
 PE X (.Call (.Name x p) (e::es) [] pos) (BF sp noX t):=by
 obtain⟨f,fd,F,m,kp,b⟩:=C.ex
 exact LD (dvs:=[]) (E:=noX []) F hr hg m kp b .nil (fun _ _ _ _ _ _ _ h=>by obtain⟨_,_,_,_,_,_,_,_,_,_,_,_,_,z⟩:=h;exact z.elim) ha hdb he hpl |> fun h pins s σ H Q I hq=>h pins s σ H Q I (by
  show t σ H fun vs H1=>sp (vs++[]) H1 Q (noX []);simpa only[List.append_nil]using hq)
theorem OK{h:FX}{tA:TA}{fa:AF}(a:SA K tA fa):SE K (BF (spX K h) noX tA) (nA h fa):=by
 intro γ M x M' hh W H σ Q G R k;obtain⟨⟨xs,M1⟩,h1,hh⟩:=aH hh;obtain⟨⟨r,M2⟩,h2,hh⟩:=aH hh;refine a _ _ _ _ h1 W H σ _ G R fun vs W1 H1 e1 G1 r1=>?_;refine⟨xs,M1,W1,r,M2,G1,r1,h2,fun W2 H2 e2 G2=>?_⟩;cases r with
 |x e=>cases hh
 |v y=>cases hh;exact fun v rv=>k v W2 H2 (e1.trans e2) G2 rv
end
theorem zJ{ι:Type}{X:ι->Cx}{e:Expr}{es:List Expr}{fa:AF}{pos:Pos}{k:Nat}{x:Str}{ps:List Str}{F:FX}{p:Pos}(C:∀i,lL (X i).prog (X i).w (X i).K (X i).mg (X i).base k x ps (spX K F))(hr:∀i,dF k (X i).A)(y:MA K X (e::es) fa)(hg:∀i,Gl (X i) x:=by intro _;rfl)(hd:(x==("__debug__":Str))=false:=by decide):
 ME K X (.Call (.Name x p) (e::es) [] pos) (nA F fa):=by
 obtain⟨u,y1,y2⟩:=y.ex;exact⟨_,fun i=>PK (C i) (hr i) (y1 i) (hg i) hd (y.st.1 _) (y.st.2.plain _ _),OK y2⟩
theorem tQ:bootBuiltins "ValueError"=some (.type "ValueError"):=by decide +kernel
section
variable{K:Fg}{cv:Value}{a:Str}{b:Bool}{l:List (Str×Bool)}
theorem RC:∀p∈([]:List (Str×Bool)),PySem.W.exmOne K (.ref (cR K p.1)) cv=some p.2:=fun _ h=>absurd h (by simp)
theorem zI(h:PySem.W.exmOne K (.ref (cR K a)) cv=some b)(r:∀p∈l,PySem.W.exmOne K (.ref (cR K p.1)) cv=some p.2):∀p∈(a,b)::l,PySem.W.exmOne K (.ref (cR K p.1)) cv=some p.2:=fun p hp=>by
 rcases List.mem_cons.mp hp with rfl|z
 .exact h
 .exact r p z
theorem zY{b:Bool}(h:PySem.W.kitOne K (.type "NoneType") cv=some b):∀c,some b=some c->PySem.W.kitOne K (.type "NoneType") cv=some c:=fun c e=>by cases e;exact h
theorem zU{nm:Str}{C:Addr}(h:PySem.W.nsIn K mainGlobals nm=some (some (.ref C))):cR K nm=C:=by unfold cR;rw[h]
end
mutual
noncomputable def snap:Nat->Sto->CD->Option PyData
 |_,_,.d x=>some x
 |0,_,.c _=>none
 |n+1,M,.c i=>match M[i]? with
  |some (.lst xs)=>(mB n M xs).bind fun ds=>some (.list ds)
  |_=>none
 |_,_,.f _=>none
 |0,_,.t _=>none
 |n+1,M,.t xs=>(mB n M (xs.map cdA)).bind fun ds=>some (.tuple ds)
noncomputable def mB:Nat->Sto->List CD->Option (List PyData)
 |_,_,[]=>some []
 |n,M,x::xs=>(snap n M x).bind fun d=>(mB n M xs).bind fun ds=>some (d::ds)
end
section
variable{K:Fg}{W:Wd}{M:Sto}{H:Hp}
theorem Good.lstAt'(G:Good K W M H){i:Nat}{xs:List CD}(h:M[i]?=some (.lst xs)):∃vs,H (W.α i)=some (.lst vs)/\bS K W xs vs:=by
 obtain⟨_,o,h2,h3⟩:=G.cs i _ h (by intro z;cases z);cases o with
 |lst vs=>exact⟨vs,h2,h3⟩
 |_=>exact False.elim h3
mutual
theorem nM(G:Good K W M H):∀(n:Nat)(x:CD)(d:PyData)(v:V),snap n M x=some d->bV K W x v->Rep K H d v
 |0,.d x=>fun d v h r=>by unfold snap at h;cases h;exact Rep.same G.fh _ _ r
 |n+1,.d x=>fun d v h r=>by unfold snap at h;cases h;exact Rep.same G.fh _ _ r
 |0,.c i=>fun d v h r=>by unfold snap at h;cases h
 |n+1,.c i=>fun d v h r=>by
  unfold snap at h;cases e:M[i]? with
  |none=>rw[e]at h;cases h
  |some c=>
   rw[e]at h;cases c with
   |lst xs=>
    obtain⟨ds,h1,h⟩:=aH (show(mB n M xs).bind _=_ from h);cases h;obtain⟨vs,h2,h3⟩:=G.lstAt' e;exact⟨W.α i,vs,r.2,SqL.of h2,rA G n xs ds vs h1 h3⟩
   |_=>cases h
 |0,.f xs=>fun d v h r=>by unfold snap at h;cases h
 |n+1,.f xs=>fun d v h r=>by unfold snap at h;cases h
 |0,.t xs=>fun d v h r=>by unfold snap at h;cases h
 |n+1,.t xs=>fun d v h r=>by
  unfold snap at h;obtain⟨ds,h1,h⟩:=aH h;cases h;obtain⟨a,vs,rfl,h2,h3⟩:=r;exact⟨a,vs,rfl,SqT.of (G.fh _ _ h2),rA G n _ ds vs h1 (LC h3)⟩
theorem rA(G:Good K W M H):∀(n:Nat)(xs:List CD)(ds:List PyData)(vs:List V),mB n M xs=some ds->bS K W xs vs->aI K H ds vs
 |_,[]=>fun ds vs h r=>by
  unfold mB at h;cases h;cases r;rfl
 |n,x::xs=>fun ds vs h r=>by
  unfold mB at h;obtain⟨d,h1,h⟩:=aH h;obtain⟨es,h2,h⟩:=aH h;cases h;cases r with
  |@cons _ v _ vs' r1 r2=>exact⟨v,vs',rfl,nM G n x d v h1 r1,rA G n xs es vs' h2 r2⟩
end
end
theorem HY{n:Nat}{M:Sto}{x:PyData}:snap n M (.d x)=some x:=by cases n<;>simp only[snap]
open PySem PySem.Spec PyProof.Rows PySem.Builtin PySem.Builtin.ObjectAttr
end L2
namespace L2
variable{W:Wd}{M:Sto}{H:Hp}
open PySem PySem.Spec PyProof.Rows
section
variable{K:Fg}
noncomputable def OO:F2:=fun x y M=>(sZ M x).bind fun xs=>(sZ M y).bind fun ys=>if xs.length+ys.length<=sizeLine then some (.c M.length,M++[.lst (xs++ys)])else none
theorem aBj:P2 K (CO K) OO:=by
 intro x y M z M' h W H v u Q G rx ry k;obtain⟨xs,h1,h⟩:=aH h;obtain⟨ys,h2,h⟩:=aH h;by_cases hl:xs.length+ys.length<=sizeLine
 .rw[A7 hl]at h;cases h;obtain⟨p,vs,rfl,hp,hr⟩:=oA G h1 rx;obtain⟨q,us,rfl,hq,hs⟩:=oA G h2 ry;refine⟨p,q,vs,us,rfl,rfl,hp,hq,by rw[<- Paired.len hr,<- Paired.len hs];exact hl,fun l hl=>?_⟩;exact k _ (W.more l) _ (W.ext_more l) (G.new hl (c:=.lst (xs++ys)) (o:=.lst (vs++us)) (Paired.app hr hs)) G.newV
 .rw[B0 hl]at h;cases h
end
section
variable{K:Fg}
noncomputable def uV(K:Fg)(c:Value)(tab:List (Str×Bool)):Bool:=tab.all fun p=>match PySem.W.kitOne K (.ref (cR K p.1)) c with
 |some b=>b==p.2
 |none=>false
theorem AW{c:Value}{tab:List (Str×Bool)}{ns:List Str}(hx:∀nm∈ns,XC K (cR K nm))(h:uV K c tab=true)(e:tab.map Prod.fst=ns):∀p∈tab,XC K (cR K p.1)/\PySem.W.kitOne K (.ref (cR K p.1)) c=some p.2:=by
 intro p hp;refine⟨hx _ (by rw[<- e];exact List.mem_map_of_mem hp),?_⟩;have:=List.all_eq_true.mp h p hp;split at this
 .rename_i b hb;rw[hb,eq_of_beq this]
 .cases this
theorem ZG:∀nm∈([]:List Str),XC K (cR K nm):=fun _ h=>absurd h (by simp)
theorem DH{a:Str}{l:List Str}(x:XC K (cR K a))(r:∀nm∈l,XC K (cR K nm)):∀nm∈a::l,XC K (cR K nm):=fun p hp=>by
 rcases List.mem_cons.mp hp with rfl|z
 .exact x
 .exact r p z
end
noncomputable abbrev KY:=Key ⊕ List Key
noncomputable abbrev KF:=Ga->Sto->Option (KY×Sto)
noncomputable def NR(W:Wd):KY->V->Prop
 |.inl k,v=>v=kV k
 |.inr ks,v=>∃b,v=.ref b/\W.F b=some (.tup (ks.map kV))
theorem NR.up{W':Wd}{k:KY}{v:V}(h:NR W k v)(e:W.Ext W'):NR W' k v:=by
 cases k with
 |inl k=>exact h
 |inr ks=>obtain⟨b,h1,h2⟩:=h;exact⟨b,h1,e.ff _ _ h2⟩
section
variable{K:Fg}
noncomputable def SK(K:Fg)(t:TE)(f:KF):Prop:=∀γ M k M',f γ M=some (k,M')->∀(W:Wd)(H:Hp)(σ:St)(Q:VK),Good K W M H->cJ K W γ σ->(∀v W' H',W.Ext W'->Good K W' M' H'->NR W' k v->Q v H')->t σ H Q
noncomputable def xA(f:EF):KF:=fun γ M=>(f γ M).bind fun r=>(keyOf r.1).bind fun k=>some (.inl k,r.2)
variable{t td ty tx tv:TE}{tA:TA}{f fo fx fv:EF}{fk:KF}{fa:AF}
theorem aDn(a:SE K t f):SK K t (xA f):=by
 intro γ M k M' hh W H σ Q G R c;obtain⟨⟨x,M1⟩,h1,hh⟩:=aH hh;obtain⟨k',h2,hh⟩:=aH hh;cases hh;exact a _ _ _ _ h1 W H σ _ G R fun v W1 H1 e1 G1 r1=>c v W1 H1 e1 G1 (rX h2 r1)
section
variable{κ:Type}[DecidableEq κ]
noncomputable def lkC(kvs:List (κ×CD))(k:κ):Option CD:=(kvs.find? fun kv=>decide (kv.1=k)).map (·.2)
noncomputable def putD(kvs:List (κ×CD))(k:κ)(v:CD):List (κ×CD):=
 if (kvs.any fun kv=>decide (kv.1=k))=true then kvs.map (fun kv=>if kv.1=k then(kv.1,v)else kv)else kvs++[(k,v)]
noncomputable abbrev PKV(K:Fg)(W:Wd)(kvs:List (κ×CD))(us:List (κ×V)):Prop:=Paired (fun p q=>p.1=q.1/\bV K W p.2 q.2) kvs us
theorem AU{W:Wd}{k:κ}:∀{kvs:List (κ×CD)}{us:List (κ×V)},PKV K W kvs us->CZ K W (lkC kvs k) (gH us k)
 |_,_,.nil=>True.intro
 |_,_,.cons (a:=p) (b:=q) (l₁:=ps) (l₂:=qs) r1 r2=>by
  by_cases h:p.1=k
  .have h':q.1=k:=r1.1▸h;rw[show lkC (p::ps) k=some p.2 by simp[lkC,List.find?_cons,h],show gH (q::qs) k=some q.2 by simp[gH,List.find?_cons,h']];exact r1.2
  .have h':¬q.1=k:=r1.1▸h;rw[show lkC (p::ps) k=lkC ps k by simp[lkC,List.find?_cons,h],show gH (q::qs) k=gH qs k by simp[gH,List.find?_cons,h']];exact AU r2
theorem FH{W:Wd}{k:κ}:∀{kvs:List (κ×CD)}{us:List (κ×V)},PKV K W kvs us->(kvs.any fun kv=>decide (kv.1=k))=us.any fun kv=>decide (kv.1=k)
 |_,_,.nil=>rfl
 |_,_,.cons r1 r2=>by rw[O6,O6,FH r2,r1.1]
theorem CL{W:Wd}{k:κ}{x:CD}{v:V}(rv:bV K W x v):∀{kvs:List (κ×CD)}{us:List (κ×V)},PKV K W kvs us->PKV K W (kvs.map fun kv=>if kv.1=k then(kv.1,x)else kv) (us.map fun kv=>if kv.1=k then(kv.1,v)else kv)
 |_,_,.nil=>.nil
 |_,_,.cons (a:=p) (b:=q) r1 r2=>by
  rw[B6,B6];refine .cons ?_ (CL rv r2);by_cases h:p.1=k
  .rw[A7 h,A7 (r1.1▸h)];exact⟨r1.1,rv⟩
  .rw[B0 h,B0 (r1.1▸h)];exact r1
theorem yQ{k:κ}{x:CD}{v:V}{kvs:List (κ×CD)}{us:List (κ×V)}(r:PKV K W kvs us)(rv:bV K W x v):PKV K W (putD kvs k x) (putK us k v):=by
 unfold putD putK;rw[FH r];split
 .exact CL rv r
 .exact Paired.app r (.cons ⟨rfl,rv⟩ .nil)
end
noncomputable def lkP(kvs:List (List Key×PyData))(k:List Key):Option PyData:=(kvs.find? fun kv=>decide (kv.1=k)).map (·.2)
theorem DY{W:Wd}{k:List Key}:∀{kvs:List (List Key×PyData)}{us:List (List Key×V)},Paired (fun p q=>p.1=q.1/\Rep K W.F p.2 q.2) kvs us->CZ K W ((lkP kvs k).map .d) (gH us k)
 |_,_,.nil=>True.intro
 |_,_,.cons (a:=p) (b:=q) (l₁:=ps) (l₂:=qs) r1 r2=>by
  by_cases h:p.1=k
  .have h':q.1=k:=r1.1▸h;rw[show lkP (p::ps) k=some p.2 by simp[lkP,List.find?_cons,h],show gH (q::qs) k=some q.2 by simp[gH,List.find?_cons,h']];exact r1.2
  .have h':¬q.1=k:=r1.1▸h;rw[show lkP (p::ps) k=lkP ps k by simp[lkP,List.find?_cons,h],show gH (q::qs) k=gH qs k by simp[gH,List.find?_cons,h']];exact DY r2
noncomputable def atD(M:Sto):CD->KY->Option (Option CD)
 |.c i,.inl k=>match M[i]? with
  |some (.dk kvs)=>some (lkC kvs k)
  |_=>none
 |.c i,.inr ks=>match M[i]? with
  |some (.dt kvs)=>some (lkC kvs ks)
  |_=>none
 |.f kvs,.inr ks=>some ((lkP kvs ks).map .d)
 |_,_=>none
noncomputable def II(M:Sto):CD->KY->CD->Option Sto
 |.c i,.inl k,x=>match M[i]? with
  |some (.dk kvs)=>if kvs.length<sizeLine then some (M.set i (.dk (putD kvs k x)))else none
  |_=>none
 |.c i,.inr ks,x=>match M[i]? with
  |some (.dt kvs)=>if kvs.length<sizeLine then some (M.set i (.dt (putD kvs ks x)))else none
  |_=>none
 |_,_,_=>none
theorem Good.dkAt{i:Nat}{kvs:List (Key×CD)}(G:Good K W M H)(h:M[i]?=some (.dk kvs)):∃us,H (W.α i)=some (.dK us)/\PKV K W kvs us:=by
 obtain⟨_,o,h2,h3⟩:=G.cs i _ h (by intro z;cases z);cases o<;>first|exact⟨_,h2,h3⟩|exact False.elim h3
theorem Good.dtAt{i:Nat}{kvs:List (List Key×CD)}(G:Good K W M H)(h:M[i]?=some (.dt kvs)):∃us,H (W.α i)=some (.dT us)/\PKV K W kvs us:=by
 obtain⟨_,o,h2,h3⟩:=G.cs i _ h (by intro z;cases z);cases o<;>first|exact⟨_,h2,h3⟩|exact False.elim h3
theorem JS{x:CD}{k:KY}{r:Option CD}{v y:V}(G:Good K W M H)(h:atD M x k=some r)(rx:bV K W x v)(ry:NR W k y):∃a o,v=.ref a/\vI H a y o/\CZ K W r o:=by
 unfold atD at h;split at h
 .rename_i i k';split at h
  .rename_i kvs hk;cases h;obtain⟨us,h1,h2⟩:=G.dkAt hk;refine⟨_,_,rx.2,?_,AU h2⟩;rw[show y=kV k' from ry];exact vI.k h1
  .cases h
 .rename_i i ks;split at h
  .rename_i kvs hk;cases h;obtain⟨us,h1,h2⟩:=G.dtAt hk;obtain⟨b,rfl,hb⟩:=ry;exact⟨_,_,rx.2,vI.t h1 (G.fh _ _ hb),AU h2⟩
  .cases h
 .rename_i kvs ks;cases h;obtain⟨a,o,us,rfl,h1,h2⟩:=rx;obtain⟨b,rfl,hb⟩:=ry;exact⟨_,_,rfl,.inr ⟨us,ks,b,.inr ⟨o,G.fh _ _ h1⟩,rfl,G.fh _ _ hb,rfl⟩,DY h2⟩
 .cases h
theorem XU{M':Sto}{x z:CD}{k:KY}{v y u:V}(G:Good K W M H)(h:II M x k z=some M')(rx:bV K W x v)(ry:NR W k y)(rz:bV K W z u):∃a H',v=.ref a/\zS H a y u H'/\Good K W M' H':=by
 unfold II at h;split at h
 .rename_i z' i k';split at h
  .rename_i kvs hk;by_cases hl:kvs.length<sizeLine
   .rw[A7 hl]at h;cases h;obtain⟨us,h1,h2⟩:=G.dkAt hk;refine⟨_,_,rx.2,?_,G.set hk (by intro q;cases q) (o':=.dK (putK us k' u)) (yQ h2 rz)⟩;rw[show y=kV k' from ry];exact zS.k h1 (by rw[<- Paired.len h2];exact hl)
   .rw[B0 hl]at h;cases h
  .cases h
 .rename_i z' i ks;split at h
  .rename_i kvs hk;by_cases hl:kvs.length<sizeLine
   .rw[A7 hl]at h;cases h;obtain⟨us,h1,h2⟩:=G.dtAt hk;obtain⟨b,rfl,hb⟩:=ry;exact⟨_,_,rx.2,zS.t h1 (G.fh _ _ hb) (by rw[<- Paired.len h2];exact hl),G.set hk (by intro q;cases q) (o':=.dT (putK us ks u)) (yQ h2 rz)⟩
   .rw[B0 hl]at h;cases h
  .cases h
 .cases h
noncomputable def BG:EF:=fun _ M=>some (.c M.length,M++[.dk []])
noncomputable def xF(neg:Bool)(fk:KF)(fo:EF):EF:=fun γ M=>(fk γ M).bind fun k=>(fo γ k.2).bind fun o=>(atD o.2 o.1 k.1).bind fun r=>some (.d (.bool (if neg then !r.isSome else r.isSome)),o.2)
noncomputable def pN(fo:EF)(fk:KF)(fv:EF):SF:=fun γ M=>(fv γ M).bind fun v=>(fo γ v.2).bind fun o=>(fk γ o.2).bind fun k=>(II k.2 o.1 k.1 v.1).bind fun M'=>some (.nx γ,M')
theorem VH:SE K ID BG:=by
 intro γ M x M' hh W H σ Q G R k;cases hh;exact fun p hp=>k _ (W.more p) _ (W.ext_more p) (G.new hp (c:=.dk []) (o:=.dK []) .nil) G.newV
theorem yL{r:Option CD}{o:Option V}(h:CZ K W r o):o.isSome=r.isSome:=by
 cases r<;>cases o<;>first|rfl|exact False.elim h
theorem aEa(b:SK K ty fk)(a:SE K td fo):SE K (aGA ty td) (xF false fk fo):=by
 intro γ M x M' hh W H σ Q G R k;obtain⟨⟨ky,M1⟩,h1,hh⟩:=aH hh;obtain⟨⟨o,M2⟩,h2,hh⟩:=aH hh;obtain⟨r,h3,hh⟩:=aH hh;cases hh;refine b _ _ _ _ h1 W H σ _ G R fun y W1 H1 e1 G1 r1=>a _ _ _ _ h2 W1 H1 σ _ G1 (R.up e1) fun v W2 H2 e2 G2 r2=>?_;obtain⟨p,ov,ev,g,ro⟩:=JS G2 h3 r2 (r1.up e2);refine⟨p,ov,ev,g,k _ W2 H2 (e1.trans e2) G2 ?_⟩;show _=V.bl r.isSome;rw[yL ro]
theorem LS(b:SK K ty fk)(a:SE K td fo):SE K (JA ty td) (xF true fk fo):=by
 intro γ M x M' hh W H σ Q G R k;obtain⟨⟨ky,M1⟩,h1,hh⟩:=aH hh;obtain⟨⟨o,M2⟩,h2,hh⟩:=aH hh;obtain⟨r,h3,hh⟩:=aH hh;cases hh;refine b _ _ _ _ h1 W H σ _ G R fun y W1 H1 e1 G1 r1=>a _ _ _ _ h2 W1 H1 σ _ G1 (R.up e1) fun v W2 H2 e2 G2 r2=>?_;obtain⟨p,ov,ev,g,ro⟩:=JS G2 h3 r2 (r1.up e2);refine⟨p,ov,ev,g,k _ W2 H2 (e1.trans e2) G2 ?_⟩;show _=V.bl (!r.isSome);rw[yL ro]
theorem aAp(a:SE K td fo)(b:SK K ty fk)(c:SE K tv fv):SS K (aBZ td ty tv) (pN fo fk fv):=by
 intro γ M o M' hh W H σ D G R k;obtain⟨⟨z,M1⟩,h1,hh⟩:=aH hh;obtain⟨⟨x,M2⟩,h2,hh⟩:=aH hh;obtain⟨⟨ky,M3⟩,h3,hh⟩:=aH hh;obtain⟨M4,h4,hh⟩:=aH hh;cases hh;refine c _ _ _ _ h1 W H σ _ G R fun u W1 H1 e1 G1 r1=>a _ _ _ _ h2 W1 H1 σ _ G1 (R.up e1) fun v W2 H2 e2 G2 r2=>b _ _ _ _ h3 W2 H2 σ _ G2 (R.up (e1.trans e2)) fun y W3 H3 e3 G3 r3=>?_;obtain⟨p,H4,ev,g,G4⟩:=XU G3 h4 (r2.up e3) r3 ((r1.up e2).up e3);exact⟨p,H4,ev,g,k W3 H4 ((e1.trans e2).trans e3) G4 σ (R.up ((e1.trans e2).trans e3))⟩
end
section
variable{ι:Type}
structure MK(K:Fg)(X:ι->Cx)(e:Expr)(f:KF):Prop where
 ex:∃t,(∀i,PE (X i) e t)/\SK K t f
variable{K:Fg}{X:ι->Cx}{e o i a b:Expr}{es:List Expr}{f g fx:EF}{fk:KF}{fa:AF}{pos:Pos}
theorem mk_one(x:ME K X e f):MK K X e (xA f):=by
 obtain⟨t,x1,x2⟩:=x.ex;exact⟨_,x1,aDn x2⟩
theorem WB:ME K X (.Dict [] [] pos) BG:=⟨_,fun _=>DJ,VH⟩
theorem aDe(hu:∀j,(X j).A.units+1<cLine)(y:MK K X i fk)(x:ME K X o f)(hm:behindInMarks .In o=false:=by rfl):MT K X (.Compare i [.In] [o] pos) (gB (xF false fk f)):=by
 obtain⟨t,x1,x2⟩:=x.ex;obtain⟨u,y1,y2⟩:=y.ex;exact⟨_,fun j=>VZ (aCM (hu j) (y1 j) (x1 j)) hm,YQ (aEa y2 x2)⟩
theorem OJ(hu:∀j,(X j).A.units+1<cLine)(y:MK K X i fk)(x:ME K X o f)(hm:behindInMarks .NotIn o=false:=by rfl):MT K X (.Compare i [.NotIn] [o] pos) (gB (xF true fk f)):=by
 obtain⟨t,x1,x2⟩:=x.ex;obtain⟨u,y1,y2⟩:=y.ex;exact⟨_,fun j=>VZ (NV (hu j) (y1 j) (x1 j)) hm,YQ (LS y2 x2)⟩
theorem KJ{pos':Pos}(hu:∀j,(X j).A.units+1<cLine)(x:ME K X o f)(y:MK K X i fk)(z:ME K X e g)(hs:∀j,swapsWith e (some (.Subscript o i pos')) pos.line (X j).env=pure false:=by intro _;rfl):MS K X (.Assign [.Subscript o i pos'] e pos) (pN f fk g):=by
 obtain⟨t,x1,x2⟩:=x.ex;obtain⟨u,y1,y2⟩:=y.ex;obtain⟨v,z1,z2⟩:=z.ex;exact⟨_,fun j=>aAK (hu j) (x1 j) (y1 j) (z1 j) (hs j),aAp x2 y2 z2⟩
end
end L2
namespace PySem
open Sem (wp)
open AutoSeq1 (wpAny_loadPart')
section
variable{prog:Program}{w:World}{A:Around}{E:Value->Shared->Prop}{s:Shared}
theorem xU{it l:Addr}{i:Nat}{items}{x:Value}{Q:Value->Shared->Prop}(hit:s.heap.IsTupleIter it l i)(hl:s.heap.IsTuple l items)(hx:items[i]?=some x)
 (hQ:∀h',h'.IsTupleIter it l (i+1)->Heap.SameBut it s.heap h'->Q x { s with heap:=h' }):wpAny (model prog w) A (Builtin.SmallTypes.nextOf (.ref it)) Q E s:=by
 obtain⟨o,ho,hc,hd⟩:=id hit;obtain⟨ol,hol,_,nl,hdl⟩:=hl;unfold Builtin.SmallTypes.nextOf;refine A4 (U1 (name:=Str.ofString "__next__") hit.typeIs Y4 (Y7 Y4 hit.typeIs F.entry_tuple_iterator_next ?_ (F.args_tuple_iterator_next_1 _)));show wpAny _ _ (field (.ref it) 0 >>= _) _ _ s;refine A4 (J4 ho hd (x:=.ref l) rfl ?_);show wpAny _ _ (if (Value.ref l==Value.none)=true then _ else _) _ _ s;rw[B0 (show ¬((Value.ref l==Value.none)=true)from B2)];show wpAny _ _ (field (.ref it) 1 >>= _) _ _ s;refine A4 (J4 ho hd (x:=.int i 0) rfl ?_);show wpAny _ _ (seqItems? (.ref l) >>= _) _ _ s;refine A4 (wpAny_seqItems hol hdl ?_);simp only[Int.toNat_natCast,hx];refine A4 (A0h ho hd (by simp) (B7 ⟨x,rfl,B7 (hQ _ ?_ (Heap.SameBut.update ..))⟩));exact⟨_,Z7 _ ho (Obj.isFreed_of_fields (U7 hd _)),(Obj.cls_mapFields ..).trans hc,by rw[U7 hd];simp[rawInt]⟩
theorem rY{it l:Addr}{i:Nat}{items}{Q:Value->Shared->Prop}(hh:A.handled=none)(hit:s.heap.IsTupleIter it l i)(hl:s.heap.IsTuple l items)(hx:items[i]?=none)
 (hE:∀h' e,Heap.ExtBut it s.heap h'->(∃o,h'.get? e=some o/\o.cls=.type "StopIteration")->E (.ref e) { s with heap:=h' }):wpAny (model prog w) A (Builtin.SmallTypes.nextOf (.ref it)) Q E s:=by
 obtain⟨o,ho,hc,hd⟩:=id hit;obtain⟨ol,hol,_,nl,hdl⟩:=hl;unfold Builtin.SmallTypes.nextOf;refine A4 (U1 (name:=Str.ofString "__next__") hit.typeIs Y4 (Y7 Y4 hit.typeIs F.entry_tuple_iterator_next ?_ (F.args_tuple_iterator_next_1 _)));show wpAny _ _ (field (.ref it) 0 >>= _) _ _ s;refine A4 (J4 ho hd (x:=.ref l) rfl ?_);show wpAny _ _ (if (Value.ref l==Value.none)=true then _ else _) _ _ s;rw[B0 (show ¬((Value.ref l==Value.none)=true)from B2)];show wpAny _ _ (field (.ref it) 1 >>= _) _ _ s;refine A4 (J4 ho hd (x:=.int i 0) rfl ?_);show wpAny _ _ (seqItems? (.ref l) >>= _) _ _ s;refine A4 (wpAny_seqItems hol hdl ?_);simp only[Int.toNat_natCast,hx];refine A4 (wpAny_rule (A4 (A0h ho hd (by simp) ?_)));show wpAny _ _ (newExc (.type "StopIteration") [] >>= _) _ _ _;refine A4 ?_;simp only[newExc,newTuple];refine A4 (D9 ?_ (by size_fits));refine A4 (m:=firstArgMember _ _) (wpAny_of_eq (a:=Value.none) (by first|rfl|(simp only[firstArgMember];rfl)) ?_);refine D9 ?_ (by size_fits);simp only[raiseNew];refine A4 (wpAny_handled ?_)
 first|rw[show A.in1.handled=none from hh]|rw[hh]
 refine A4 (B7 (wpAny_throw ?_));exact hE _ _ (((Heap.SameBut.update ..).extBut.push _).push _) ⟨_,D2 _ rfl,rfl⟩
end
theorem NA{prog:Program}{w:World}{A:Around}(hh:A.handled=none)(it l:Addr)(hne:l≠it)(items:Array Value):
 Draws prog w A it [it,l] items.size (fun i v=>items[i]?=some v) (fun i h=>h.IsTupleIter it l i/\h.IsTuple l items) where
 live:=fun _ _ st=>let⟨o,ho,_⟩:=st.1;⟨o,ho⟩
 frame:=fun _ _ _ st hk=>⟨st.1.at fun o e=>hk it (by simp) o e,let⟨o,ho,r⟩:=st.2;⟨o,hk l (by simp) o ho,r⟩⟩
 item:=fun i s Q E hi st hQ=>by
  refine xU st.1 st.2 (x:=items[i]) (by simp[hi]) fun h' hit' hs'=>?_;exact hQ _ h' s.toks (by simp[hi]) ⟨hit',let⟨o,ho,r⟩:=st.2;⟨o,(hs'.2 l hne).trans ho,r⟩⟩ hs'
 done:=fun s Q E st hE=>rY hh st.1 st.2 (by simp) hE
theorem vW(l:Addr)(items:Array Value)(n:Nat)(dct:Option Addr)(sl:Array (Option Value)):
 Meets (Builtin.«enumerate.__new__» ⟨[.type "enumerate",.ref l],[]⟩) (fun _ R s=>s.heap.get? l=some { cls:=.type "tuple",dict:=dct,data:=.seq items n,slots:=sl } /\
  R (.ok (.ret (.ref (s.heap.push { cls:=.type "tuple_iterator",data:=.fields #[.ref l,.int 0 0] }).objs.size)))
   { s with heap:=(s.heap.push { cls:=.type "tuple_iterator",data:=.fields #[.ref l,.int 0 0] }).push { cls:=.type "enumerate",data:=.fields #[.none,.bool false,.ref s.heap.objs.size,rawInt 0,.none,.none] } }):=
 .of_wp fun prog w A R s h=>by
  obtain⟨hp,g,d,tk,os⟩:=s;obtain⟨hl,h⟩:=h;have hsub:=sub_enumerate;have hL:Heap.IsTuple (Shared.heap ⟨hp,g,d,tk,os⟩) l items:=⟨_,hl,rfl,n,rfl⟩
  wp_walk using S5 hl
  refine wpAny_stack_any fun st=>B7 ?_;split
  .rename_i c _ _ _ _ _;cases (c==Value.type "enumerate")
   .wp_walk using S5 hl,A0g hL
    exact⟨_,rfl,h⟩
   .wp_walk using S5 hl,A0g hL
    exact⟨_,rfl,h⟩
  .wp_walk using S5 hl,A0g hL
   exact⟨_,rfl,h⟩
section
variable{prog:Program}{w:World}{A:Around}{E:Value->Shared->Prop}{s:Shared}
theorem xN{l:Addr}{items:Array Value}{Q:Value->Shared->Prop}(hL:s.heap.IsTuple l items)
 (h:∀h',IsEnum h' (s.heap.objs.size+1) s.heap.objs.size 0 .none->h'.IsTupleIter s.heap.objs.size l 0->h'.objs.size=s.heap.objs.size+2->
  (∀b o,s.heap.get? b=some o->h'.get? b=some o)->Q (.ref (s.heap.objs.size+1)) { s with heap:=h' }):
 wpAny (model prog w) A (call (.type "enumerate") [.ref l]) Q E s:=by
 obtain⟨⟨c,dct,dt,sl⟩,hl,hc,n,hd⟩:=hL
 replace hc:c=.type "tuple":=hc
 replace hd:dt=.seq items n:=hd
 subst hc hd
 refine callType_new F.called_enumerate (by decide) (F.typeCall_enumerate_1 _) (F.newCall_enumerate_1 _) (fun obj=>F.args_object_init_2 obj _) F.entry_enumerate_new
  (vW l items n dct sl) ⟨hl,?_⟩
 have hz:(s.heap.push { cls:=.type "tuple_iterator",data:=.fields #[.ref l,.int 0 0] }).objs.size=s.heap.objs.size+1:=A0f ..;show _/\_;rw[hz]
 have he:IsEnum ((s.heap.push { cls:=.type "tuple_iterator",data:=.fields #[.ref l,.int 0 0] }).push
  { cls:=.type "enumerate",data:=.fields #[.none,.bool false,.ref s.heap.objs.size,rawInt 0,.none,.none] }) (s.heap.objs.size+1) s.heap.objs.size 0 .none:=by
  have:=D2 (s.heap.push { cls:=.type "tuple_iterator",data:=.fields #[.ref l,.int 0 0] })
   (o:={ cls:=.type "enumerate",data:=.fields #[.none,.bool false,.ref s.heap.objs.size,rawInt 0,.none,.none] }) rfl
  rw[hz]at this;exact this
 refine⟨⟨_,he,rfl⟩,h _ he ⟨_,A6 _ (D2 _ rfl),rfl,rfl⟩ (by rw[A0f,hz]) fun b o x=>A6 _ (A6 _ x)⟩
end
end PySem
namespace L2
open PySem PySem.Spec PyProof.Rows
section
variable{X:Cx}{pins:List (Addr×Obj)}{σ:St}{H:Hp}{s:Shared}{h':Heap}
theorem Inv.turnLay{fp:List Addr}{a:Addr}{o:HO}{t':Nat}(I:Inv X pins σ H s)(hf:∀b∈fp,qU X pins H b)(k:∀b u,b∉fp->s.heap.get? b=some u->h'.get? b=some u)(hp:s.heap.objs.size<=a)(new:dG X.prog X.w (upd H a o) h' a o):
 Inv X pins σ (upd H a o) { s with heap:=h',toks:=t' }:=by
 have hn:H a=none:=I.hok.fresh hp;have nf:∀b u,H b=some u->b∉fp:=fun b u e z=>by rw[(hf b z).1]at e;cases e
 refine I.step (g':=s.gens) (d':=s.drawn) (ch:=fp) (fun b hb=>?_) (fun b o _ _ hc e _=>k b o hc e) (fun b o _ _ hc e _=>⟨o.slots,k b o hc e⟩) (fun b o _ e n=>?_) (fun b o hc e=>⟨o,k b o hc e⟩)
  (fun b xs e=>?_) (fun b o u e=>?_) (fun b ps e=>⟨#[],?_⟩) (fun m hm=>?_) ?_ I.bare
 .obtain⟨_,f1,_,f3,f4,f5⟩:=hf b hb;exact⟨f3,f1,f4,f5⟩
 .rw[aM (fun z=>by subst z;exact absurd (B8 e) (Nat.not_lt.mpr hp))];exact n
 .rw[aM (aQ e hn)];exact e
 .rw[aM (aQ e hn)];exact e
 .rw[aM (aQ e hn)];simpa using e
 .obtain⟨o,es,ep,ho,r⟩:=hm;exact⟨o,es,ep,k _ o (fun z=>(hf _ z).2.1 rfl) ho,r⟩
 .intro b u e;by_cases hb:b=a
  .subst hb;rw[aN]at e;cases e;exact new
  .rw[aM hb]at e;refine(I.hok b u e).stay (fun c v hc q=>k c v ?_ q) (fun c q=>by rw[aM (aQ q hn)];exact q) fun c xs q=>by rw[aM (aQ q hn)];exact q
   rcases hc with z|z
   .rw[z];exact nf b _ e
   .exact nf c _ z
theorem Inv.turnF{fp:List Addr}{t':Nat}(I:Inv X pins σ H s)(hf:∀b∈fp,qU X pins H b)(k:∀b u,b∉fp->s.heap.get? b=some u->h'.get? b=some u):Inv X pins σ H { s with heap:=h',toks:=t' }:=by
 have nf:∀b u,H b=some u->b∉fp:=fun b u e z=>by rw[(hf b z).1]at e;cases e
 refine I.step (g':=s.gens) (d':=s.drawn) (ch:=fp) (fun b hb=>?_) (fun b o _ _ hc e _=>k b o hc e) (fun b o _ _ hc e _=>⟨o.slots,k b o hc e⟩) (fun _ _ _ _ n=>n) (fun b o hc e=>⟨o,k b o hc e⟩)
  (fun _ _ e=>e) (fun _ _ _ e=>e) (fun b ps e=>⟨#[],by simpa using e⟩) (fun m hm=>?_) (fun b u e=>?_) I.bare
 .obtain⟨_,f1,_,f3,f4,f5⟩:=hf b hb;exact⟨f3,f1,f4,f5⟩
 .obtain⟨o,es,ep,ho,r⟩:=hm;exact⟨o,es,ep,k _ o (fun z=>(hf _ z).2.1 rfl) ho,r⟩
 .refine(I.hok b u e).stay (fun c v hc q=>k c v ?_ q) (fun _ q=>q) fun _ _ q=>q;rcases hc with z|z
  .rw[z];exact nf b _ e
  .exact nf c _ z
end
noncomputable def Ite(Sq:Hp->List V->Prop):It:=
 ⟨fun i H=>∃xs x,Sq H xs/\xs[i]?=some x,fun i H v H'=>∃p x,H p=none/\v=.ref p/\H'=upd H p (.tup [.int i,x])/\∀xs,Sq H xs->xs[i]?=some x,fun i H=>∃xs,Sq H xs/\xs.length=i⟩
noncomputable def tnE(e it:Addr)(It:Heap->Nat->Prop)(i:Nat)(h:Heap):Prop:=(∃old,IsEnum h e it i old)/\It h i
section
variable{P:Program}{w:World}{K:Fg}{elts:List Expr}{x1:Nat}{tpos:Pos}
theorem yK{e it a:Addr}{Sq:Hp->List V->Prop}{It:Heap->Nat->Prop}(hei:e≠it)
 (hobj:∀h i,It h i->∃o vs,h.get? it=some o/\o.data=.fields vs) (hkeep:∀h h' i,It h i->(∀o,h.get? it=some o->h'.get? it=some o)->It h' i)
 (hinj:∀(X:Cx),X.K=K->∀pins σ H s,Inv X pins σ H s->∀xs ys,Sq H xs->Sq H ys->xs=ys)
 (draw:∀(X:Cx),X.prog=P->X.w=w->X.K=K->X.calm=true->∀pins σ H s,Inv X pins σ H s->∀xs,Sq H xs->(∃o vs,s.heap.get? it=some o/\o.data=.fields vs)->(∃o vs,s.heap.get? e=some o/\o.data=.fields vs)->∃(its:List Value)(fp:List Addr)(S:Nat->Heap->Prop),aV xs its/\e∉fp /\
  Draws P w X.A.in1 it fp its.length (fun i v=>its[i]?=some v) S/\(∀i,It s.heap i->S i s.heap)/\∀i h,S i h->It h i):
 Turn P w K (.Tuple elts x1 tpos) (Ite Sq) [e,it] e (tnE e it It) where
 mem:=by simp
 obj:=fun i h st b hb=>by
  obtain⟨⟨old,h1⟩,h2⟩:=st;rcases List.mem_cons.mp hb with rfl|hb
  .exact⟨_,h1,fun v z=>by cases z⟩
  .obtain⟨o,vs,q1,q2⟩:=hobj _ _ h2;rw[List.mem_singleton.mp hb];exact⟨o,q1,fun v z=>by rw[q2]at z;cases z⟩
 keep:=fun i h h' st k=>by
  obtain⟨⟨old,h1⟩,h2⟩:=st;exact⟨⟨old,k e (by simp) _ h1⟩,hkeep _ _ _ h2 fun o q=>k it (by simp) o q⟩
 item:=by
  intro X hP hw hK hc i pins s σ H E I hf st hg;obtain⟨xs,x,hq,hx⟩:=hg;obtain⟨⟨old,he⟩,hit⟩:=st;obtain⟨its,fp,S,rv,hef,D,s1,s2⟩:=draw X hP hw hK hc pins σ H s I xs hq (hobj _ _ hit) ⟨_,_,he,rfl⟩;subst hP hw hK;obtain⟨u,hu,ru⟩:=rv.get hx;have hlt:i<its.length:=(List.getElem?_eq_some_iff.mp hu).1;refine wpAny_pyNext_enum_itemD D he (s1 _ hit) hlt hei hef fun v h1 tk hv ho st1 ht hsz hk=>⟨_,rfl,?_⟩;rw[hu]at hv;cases hv;refine wpAny_letOwnedTupleGo_enum ho fun h2 he2 sb=>?_;have ne:s.heap.objs.size≠e:=Nat.ne_of_gt (B8 he);have ht2:h2.get? s.heap.objs.size=some { cls:=.type "tuple",data:=.seq #[.int i tk,u] }:=(sb.2 _ ne).trans ht
  have I2:Inv X pins σ (upd H s.heap.objs.size (.tup [.int i,x])) { s with heap:=h2,toks:=tk+1 }:=by
   refine I.turnLay hf (fun b o hb q=>(sb.2 b fun z=>hb (by simp[z])).trans (hk b o (fun z=>hb (by simp[z])) (fun z=>hb (by simp[z])) q)) (B1 _) ⟨by show 2<=sizeLine;rw[E4];decide,[.int i tk,u],.cons ⟨tk,rfl⟩ (.cons ru .nil),⟨_,ht2,rfl,_,rfl⟩⟩
  refine⟨.ref s.heap.objs.size,_,I2,rfl,⟨_,x,I.hok.fresh (B1 _),rfl,rfl,fun ys hy=>by rw[hinj X rfl _ _ _ _ I ys xs hy hq];exact hx⟩,⟨⟨_,by have:=he2;push_cast;exact this⟩,?_⟩,fun b hb=>?_⟩
  .exact hkeep _ _ _ (s2 _ _ st1) fun o q=>(sb.2 it (J9 hei)).trans q
  .have hb0:=(hf b hb).1;rw[aM (fun z=>?_)]
   .exact hb0
   .subst z;rcases List.mem_cons.mp hb with q|q
    .exact ne q
    .obtain⟨o,vs,q1,_⟩:=hobj _ _ hit;rw[<- List.mem_singleton.mp q]at q1;exact absurd (B8 q1) (F6 _)
 done:=by
  intro X hP hw hK hc i pins s σ H E I hf st hg;obtain⟨xs,hq,hx⟩:=hg;obtain⟨⟨old,he⟩,hit⟩:=st;obtain⟨its,fp,S,rv,hef,D,s1,s2⟩:=draw X hP hw hK hc pins σ H s I xs hq (hobj _ _ hit) ⟨_,_,he,rfl⟩;subst hP hw hK;have hl:=rv.length;rw[hl]at hx;subst hx;exact wpAny_pyNext_enum_endD D he (s1 _ hit) fun h1 hx=>⟨rfl,I.turnF (t':=s.toks) hf fun b o hb q=>hx b o (fun z=>hb (by simp[z])) q⟩
 self:=fun A i s Q E st h=>by
  obtain⟨⟨old,he⟩,_⟩:=st;exact wpAny_pyIter_enum he h
theorem GS{e it a:Addr}(hei:e≠it):Turn P w K (.Tuple elts x1 tpos) (Ite fun H xs=>SqL K H a xs) [e,it] e (tnE e it fun h i=>h.IsListIter it a i):=by
 refine yK (a:=a) hei (fun h i st=>?_) (fun h h' i st k=>st.at k) (fun X hK pins σ H s I xs ys h1 h2=>?_) fun X hP hw hK hc pins σ H s I xs hq hi he=>?_
 .obtain⟨o,q,_,d⟩:=st;exact⟨o,_,q,d⟩
 .subst hK;exact I.list_inj h1 h2
 .subst hP hw hK;obtain⟨its,rv,p,hz⟩:=I.list hq
  have ne:∀b,(∃o vs,s.heap.get? b=some o/\o.data=.fields vs)->a≠b:=fun b ⟨o,vs,q,d⟩ z=>by
   subst z;obtain⟨o',q',_,n,d'⟩:=p.isList;rw[q]at q';cases q';rw[d]at d';cases d'
  refine⟨its,[it,a],fun i h=>h.IsListIter it a i/\h.IsList a its.toArray,rv,?_,?_,fun i st=>⟨st,p.isList⟩,fun i h st=>st.1⟩
  .intro z;rcases List.mem_cons.mp z with z|z
   .exact hei z
   .exact ne e he (List.mem_singleton.mp z).symm
  .have:=Draws.list (prog:=X.prog) (w:=X.w) (A:=X.A.in1) (I.ok.hd hc) it a (ne it hi) its.toArray;simpa using this
theorem HK{e it a:Addr}(hei:e≠it):Turn P w K (.Tuple elts x1 tpos) (Ite fun H xs=>SqT K H a xs) [e,it] e (tnE e it fun h i=>h.IsTupleIter it a i):=by
 refine yK (a:=a) hei (fun h i st=>?_) (fun h h' i st k=>st.at k) (fun X hK pins σ H s I xs ys h1 h2=>?_) fun X hP hw hK hc pins σ H s I xs hq hi he=>?_
 .obtain⟨o,q,_,d⟩:=st;exact⟨o,_,q,d⟩
 .subst hK;exact I.tuple_inj h1 h2
 .subst hP hw hK;obtain⟨its,rv,p,hz⟩:=I.tuple hq;have pt:s.heap.IsTuple a its.toArray:=p
  have ne:∀b,(∃o vs,s.heap.get? b=some o/\o.data=.fields vs)->a≠b:=fun b ⟨o,vs,q,d⟩ z=>by
   subst z;obtain⟨o',q',_,n,d'⟩:=pt;rw[q]at q';cases q';rw[d]at d';cases d'
  refine⟨its,[it,a],fun i h=>h.IsTupleIter it a i/\h.IsTuple a its.toArray,rv,?_,?_,fun i st=>⟨st,pt⟩,fun i h st=>st.1⟩
  .intro z;rcases List.mem_cons.mp z with z|z
   .exact hei z
   .exact ne e he (List.mem_singleton.mp z).symm
  .have:=NA (prog:=X.prog) (w:=X.w) (A:=X.A.in1) (I.ok.hd hc) it a (ne it hi) its.toArray;simpa using this
end
section
variable{X:Cx}{elts:List Expr}{x1:Nat}{tpos:Pos}
noncomputable def aCc(K:Fg)(ta:TA):TI:=fun σ H R=>ta σ H fun vs H1=>∃a,vs=[.ref a]/\((∃xs,SqL K H1 a xs/\R (Ite fun H xs=>SqL K H a xs) H1)\/(∃xs,SqT K H1 a xs/\R (Ite fun H xs=>SqT K H a xs) H1))
theorem YW{a:Expr}{ta:TA}{p pos:Pos}(hg:Gl X "enumerate")(hm:X.mg "enumerate"=none)(ha:PA X [a] ta)(hs:starEach [a] X.env=[(false,eval a X.env)]:=by rfl):PI X (.Tuple elts x1 tpos) (.Call (.Name "enumerate" p) [a] [] pos) (aCc X.K ta):=by
 intro pins s σ H R I h;refine Call_ (hZ I hg hm boot_enumerate (E1 (thn (ha pos pins s σ H _ I h) fun us s1 ⟨vs,H1,I1,r1,q1⟩=>?_) hs rfl));obtain⟨l,e,q⟩:=q1;subst e;cases r1 with
 |cons r rr=>
  cases rr;cases (show _=Value.ref l from r)
  have fp:∀b∈[s1.heap.objs.size+1,s1.heap.objs.size],qU X pins H1 b:=fun b hb=>by
   rcases List.mem_cons.mp hb with rfl|hb
   .exact I1.fpOk (Y0 _) (I1.hok.fresh (Y0 _))
   .rw[List.mem_singleton.mp hb];exact I1.fpOk (B1 _) (I1.hok.fresh (B1 _))
  rcases q with⟨xs,hq,q⟩|⟨xs,hq,q⟩
  .obtain⟨its,rv,p,hz⟩:=I1.list hq;refine call_enumerate_list p.isList fun h' he hit hsz hk=>?_;refine wpAny_pyIter_enum he ?_;exact⟨_,_,_,_,H1,rfl,I1.kept (t':=s1.toks) hk,GS (a:=l) (Nat.succ_ne_self _),⟨⟨_,he⟩,hit⟩,fp,q⟩
  .obtain⟨its,rv,p,hz⟩:=I1.tuple hq;refine xN (show s1.heap.IsTuple l its.toArray from p) fun h' he hit hsz hk=>?_;refine wpAny_pyIter_enum he ?_;exact⟨_,_,_,_,H1,rfl,I1.kept (t':=s1.toks) hk,HK (a:=l) (Nat.succ_ne_self _),⟨⟨_,he⟩,hit⟩,fp,q⟩
end
noncomputable def yA(ds:List PyData):List CD:=ds.zipIdx.map fun p=>.d (.tuple [.int (p.2:Nat),p.1])
noncomputable def DS(f:AF):AF:=fun γ M=>(f γ M).bind fun r=>match r.1 with
 |[.d x]=>(aP x).bind fun ds=>some (yA ds,r.2)
 |_=>none
theorem MP{ds:List PyData}{i:Nat}{x:CD}(h:(yA ds)[i]?=some x):∃d,ds[i]?=some d/\x=.d (.tuple [.int (i:Nat),d]):=by
 unfold yA at h;rw[C3,List.getElem?_zipIdx]at h;cases e:ds[i]? with
 |none=>rw[e]at h;cases h
 |some d=>
  rw[e]at h;exact⟨d,rfl,by simpa using h.symm⟩
theorem YJ{K:Fg}{tA:TA}{fa:AF}(b:SA K tA fa):SI K (aCc K tA) (DS fa):=by
 intro γ M xs M' hh W H σ R G Rs k;obtain⟨⟨ys,M1⟩,h1,hh⟩:=aH hh;refine b _ _ _ _ h1 W H σ _ G Rs fun vs W1 H1 e1 G1 r1=>?_;revert hh;dsimp only;split
 .rename_i y;intro hh;obtain⟨ds,h2,hh⟩:=aH hh;cases hh;cases r1 with
  |cons r r'=>
   cases r';obtain⟨p,us,rfl,hs,hr⟩:=iK (show Rep K W1.F y _ from r) h2
   have gv:∀Sq:Hp->List V->Prop,(∀W2 M2 H2,W1.Ext W2->Good K W2 M2 H2->Sq H2 us)->GN K (Ite Sq) (yA ds) W1:=fun Sq hS W2 M2 H2 e2 G2=>by
    have hq:=hS W2 M2 H2 e2 G2;refine⟨fun i x hx=>?_,us,hq,by rw[show(yA ds).length=ds.length by simp[yA],hr.length]⟩;obtain⟨d,hd,rfl⟩:=MP hx;obtain⟨u,hu,ru⟩:=Paired.get (eJ hr) (show(ds.map CD.d)[i]?=some (.d d)by rw[C3,hd];rfl);refine⟨⟨us,u,hq,hu⟩,fun v H3 hy=>?_⟩;obtain⟨p',x',hn,rfl,rfl,hx'⟩:=hy;have:=hx' us hq;rw[hu]at this;cases this;obtain⟨e3,G3⟩:=G2.lay (o:=.tup [.int i,u]) hn;refine⟨_,e3,G3,⟨p',_,rfl,SqT.of aN,?_⟩⟩;exact⟨_,_,rfl,rfl,_,_,rfl,Rep.same e3.ff _ _ (show Rep K W2.F d u from(ru.up e2)),rfl⟩
   refine⟨p,rfl,?_⟩;rcases hs with hs|hs
   .exact .inl ⟨us,G1.fh.seq hs,k _ W1 H1 e1 G1 (gv _ fun W2 M2 H2 e2 G2=>G2.fh.seq (e2.ff.seq hs))⟩
   .exact .inr ⟨us,G1.fh.seqT hs,k _ W1 H1 e1 G1 (gv _ fun W2 M2 H2 e2 G2=>G2.fh.seqT (e2.ff.seqT hs))⟩
 .intro hh;cases hh
theorem aAl{ι:Type}{K:Fg}{X:ι->Cx}{a:Expr}{fa:AF}{pos:Pos}{elts:List Expr}{x1:Nat}{tpos p:Pos}(hK:∀i,(X i).K=K)(hm:∀i,(X i).mg "enumerate"=none)(x:MA K X [a] fa)(hg:∀i,Gl (X i) "enumerate":=by intro _;rfl):MI K X (.Tuple elts x1 tpos) (.Call (.Name "enumerate" p) [a] [] pos) (DS fa):=by
 obtain⟨t,x1',x2⟩:=x.ex;exact⟨_,fun i=>by have:=YW (elts:=elts) (x1:=x1) (tpos:=tpos) (p:=p) (pos:=pos) (hg i) (hm i) (x1' i) (x.st.1 _);rw[hK i]at this;exact this,YJ x2⟩
end L2
namespace PySem
open PySem.Calls PyProof.Rows
end PySem
namespace PySem.W
open PySem PySem.Calls PyProof.Rows PyProof.V PySem.Spec
end PySem.W
namespace L2
variable{H:Hp}{W:Wd}
open PySem PySem.Spec PyProof.Rows
section
variable{X:Cx}{pins:List (Addr×Obj)}{σ:St}{H:Hp}{s:Shared}{E:Value->Shared->Prop}
end
section
variable{K:Fg}{td:TE}{fo:EF}
noncomputable def AM(kv:List Key×PyData):List PyData:=[.tuple (kv.1.map aBt),kv.2]
noncomputable def uM(rows:List (List PyData)):Option (List PyData):=if sortable rows=true then some (yO rows)else if rows.length<2 then some (rows.map .tuple)else none
end
section
variable{K:Fg}
theorem Good.freezeL{M:Sto}{i:Nat}{xs:List CD}{ds:List PyData}(G:Good K W M H)(hi:M[i]?=some (.lst xs))(hd:kZ xs=some ds):
 ∃W',W.Ext W'/\Good K W' (M.set i .dead) H/\W'.α i=W.α i/\bV K W' (.d (.list ds)) (.ref (W.α i)):=by
 obtain⟨vs,hv,rv⟩:=G.lstAt hi;obtain⟨hn,_⟩:=G.cs i _ hi (by intro q;cases q);have lt:i<M.length:=(List.getElem?_eq_some_iff.mp hi).1;have e:W.Ext { W with F:=upd W.F (W.α i) (.lst vs) }:=⟨gY.upd hn,B1 _,fun _ _=>rfl⟩
 have at_:∀j d,(M.set i .dead)[j]?=some d->d≠.dead->j≠i/\M[j]?=some d:=fun j d h hd=>by
  by_cases q:i=j
  .subst q;rw[J1 lt]at h;exact absurd (D5 h).symm hd
  .rw[J7 q]at h;exact⟨fun z=>q z.symm,h⟩
 refine⟨_,e,⟨fun c o hc=>?_,by show W.n=_;rw[G.n,O3],fun j d hj hd=>?_,fun j k d1 d2 hj hk e1 e2 he=>?_⟩,rfl,⟨_,vs,rfl,SqL.of aN,aI.same e.ff _ _ (dI hd rv)⟩⟩
 .have hc:upd W.F (W.α i) (.lst vs) c=some o:=hc;by_cases q:c=W.α i
  .subst q;rw[aN]at hc;cases hc;exact hv
  .rw[aM q]at hc;exact G.fh c o hc
 .obtain⟨q,h⟩:=at_ j d hj hd;obtain⟨k1,u,k2,k3⟩:=G.cs j d h hd;have ne:W.α j≠W.α i:=fun z=>q (G.inj j i d _ h hi hd (by intro z;cases z) z);exact⟨by show upd W.F (W.α i) (.lst vs) (W.α j)=none;rw[aM ne];exact k1,u,k2,k3.up e⟩
 .exact G.inj j k d1 d2 (at_ j d1 hj e1).2 (at_ k d2 hk e2).2 e1 e2 he
noncomputable def gQ(f:EF):EF:=fun γ M=>(f γ M).bind fun r=>match r.1 with
 |.c i=>match r.2[i]? with
  |some (.lst xs)=>(kZ xs).bind fun ds=>some (.d (.list ds),r.2.set i .dead)
  |_=>none
 |.d x=>some (.d x,r.2)
 |_=>none
theorem OS{t:TE}{f:EF}(a:SE K t f):SE K t (gQ f):=by
 intro γ M x M' hh W H σ Q G R k;obtain⟨⟨o,M1⟩,h1,hh⟩:=aH hh;revert hh;dsimp only;split
 .rename_i i;split
  .rename_i xs hx;intro hh;obtain⟨ds,h2,hh⟩:=aH hh;cases hh;refine a _ _ _ _ h1 W H σ _ G R fun v W1 H1 e1 G1 r1=>?_;obtain⟨W2,e2,G2,_,r2⟩:=G1.freezeL hx h2;rw[r1.2];exact k _ W2 H1 (e1.trans e2) G2 r2
  .intro hh;cases hh
 .intro hh;cases hh;exact a _ _ _ _ h1 W H σ _ G R k
 .intro hh;cases hh
theorem zA{ι:Type}{X:ι->Cx}{e:Expr}{f:EF}(x:ME K X e f):ME K X e (gQ f):=by
 obtain⟨t,x1,x2⟩:=x.ex;exact⟨t,x1,OS x2⟩
noncomputable def yT:FN:=fun xs M=>match xs with
 |[.d a]=>(aP a).bind fun ds=>some (.c M.length,M++[.lst (ds.map .d)])
 |[.c i]=>match M[i]? with
  |some (.lst ys)=>some (.c M.length,M++[.lst ys])
  |_=>none
 |_=>none
theorem UJ:PN K (IF K) yT:=by
 intro xs M z M' h W H vs Q G r k;unfold yT at h;split at h
 .rename_i a;obtain⟨ds,h1,h⟩:=aH h;cases h;rcases r with _|⟨r1,_|_⟩;obtain⟨p,us,rfl,hs,hr⟩:=iK (show Rep K W.F a _ from r1) h1;refine⟨p,us,rfl,hs.elim (fun q=>.inl (G.fh.seq q)) (fun q=>.inr (G.fh.seqT q)),fun l hl=>?_⟩;exact k _ (W.more l) _ (W.ext_more l) (G.new hl (c:=.lst (ds.map .d)) (o:=.lst us) (eJ hr)) G.newV
 .rename_i i;split at h
  .rename_i ys hy;cases h;rcases r with _|⟨r1,_|_⟩;obtain⟨us,hv,hr⟩:=G.lstAt hy;refine⟨_,us,by rw[r1.2],.inl (SqL.of hv),fun l hl=>?_⟩;exact k _ (W.more l) _ (W.ext_more l) (G.new hl (c:=.lst ys) (o:=.lst us) hr) G.newV
  .cases h
 .cases h
theorem aAW{ι:Type}{X:ι->Cx}(hK:∀i,(X i).K=K):QN K X (.type "list") yT:=⟨_,fun i=>aCl (hK i),UJ⟩
noncomputable def eqC(neg:Bool):F2:=fun x y M=>(snap 5 M x).bind fun a=>(snap 5 M y).bind fun b=>if (SeqAt.shaped a&&SeqAt.shaped b)=true then some (.d (.bool (if neg then !PyData.eqv a b else PyData.eqv a b)),M)else none
theorem aEf{neg:Bool}:P2 K (HS K neg) (eqC neg):=by
 intro x y M z M' h W H v u Q G rx ry k;obtain⟨a,h1,h⟩:=aH h;obtain⟨b,h2,h⟩:=aH h;by_cases hs:(SeqAt.shaped a&&SeqAt.shaped b)=true
 .rw[A7 hs]at h;cases h;rw[C2]at hs;exact⟨a,b,nM G 5 x a v h1 rx,nM G 5 y b u h2 ry,hs.1,hs.2,k _ W H (.refl _) G rfl⟩
 .rw[B0 hs]at h;cases h
noncomputable def eqY(neg:Bool):F2:=BL (eqX neg) (eqC neg)
theorem aHb{ι:Type}{X:ι->Cx}(hK:∀i,(X i).K=K)(hu:∀i,(X i).A.units+64<cLine):Q2 K X (compareOp .Eq) (eqY false):=⟨_,fun i=>(kEq (hK i) (hu i)).or (show OpR (X i) (compareOp .Eq) (HS K false)by have:=QV (X:=X i) (hu i);rw[hK i]at this;exact this),P2.or TC aEf⟩
end
theorem dF.u1{k:Nat}{A:Around}(r:dF k A):A.units+1<cLine:=by have:=r.un;omega
noncomputable abbrev IPF:=Ga->Sto->Option ((List CD×(Sto->Prop))×Sto)
noncomputable def aCK(K:Fg)(J:It)(P:Sto->Prop)(xs:List CD)(W:Wd):Prop:=∀W' M' H',W.Ext W'->Good K W' M' H'->P M'->
 (∀i x,xs[i]?=some x->J.go i H'/\∀y H'',J.yld i H' y H''->∃W'',W'.Ext W''/\Good K W'' M' H''/\bV K W'' x y)/\J.stop xs.length H'
noncomputable def SIP(K:Fg)(wi:TI)(f:IPF):Prop:=∀γ M xs P M',f γ M=some ((xs,P),M')->∀(W:Wd)(H:Hp)(σ:St)(R:It->Hp->Prop),Good K W M H->cJ K W γ σ->(∀J W' H',W.Ext W'->Good K W' M' H'->aCK K J P xs W'->R J H')->wi σ H R
noncomputable def walked(M:Sto):CD->Option (List CD×(Sto->Prop))
 |.d x=>(aP x).bind fun ds=>some (ds.map .d,fun _=>True)
 |.c i=>match M[i]? with
  |some (.lst xs)=>some (xs,fun M'=>M'[i]?=some (.lst xs))
  |_=>none
 |_=>none
noncomputable def oB(f:EF):IPF:=fun γ M=>(f γ M).bind fun r=>(walked r.2 r.1).bind fun p=>some (p,r.2)
open Classical in
noncomputable def tN(P:Sto->Prop)(g:GF)(b:SF):List CD->Ga->Sto->Option (Out×Sto)
 |[],γ,M=>if P M then some (.nx γ,M)else none
 |x::xs,γ,M=>if P M then(g x γ M).bind fun r=>(b r.1 r.2).bind fun q=>match q.1 with
  |.nx γ'=>tN P g b xs γ' q.2
  |.ct γ'=>tN P g b xs γ' q.2
  |.bk γ'=>some (.nx γ',q.2)
  |.rt x=>some (.rt x,q.2)else none
noncomputable def yY(f:IPF)(g:GF)(b:SF):SF:=fun γ M=>(f γ M).bind fun r=>tN r.1.2 g b r.1.1 γ r.2
section
variable{K:Fg}{ta:TE}{f:EF}{fp:IPF}{tg:TG}{hg:GF}{t:TS}{p:SF}
theorem HU{M:Sto}{x:CD}{v:V}{xs:List CD}{P:Sto->Prop}(h:walked M x=some (xs,P))(G:Good K W M H)(r:bV K W x v):
 ∃a,v=.ref a/\((∃vs,SqL K H a vs)/\(∀W' M' H',W.Ext W'->Good K W' M' H'->P M'->∃vs,SqL K H' a vs/\bS K W' xs vs)\/(∃vs,SqT K H a vs)/\∀W' M' H',W.Ext W'->Good K W' M' H'->P M'->∃vs,SqT K H' a vs/\bS K W' xs vs):=by
 unfold walked at h;split at h
 .rename_i y;obtain⟨ds,h2,h⟩:=aH h;cases h;obtain⟨a,vs,rfl,hs,hr⟩:=iK (show Rep K W.F y v from r) h2;refine⟨a,rfl,?_⟩;rcases hs with hs|hs
  .exact .inl ⟨⟨vs,G.fh.seq hs⟩,fun W' M' H' e G' _=>⟨vs,G'.fh.seq (e.ff.seq hs),bS.up (eJ hr) e⟩⟩
  .exact .inr ⟨⟨vs,G.fh.seqT hs⟩,fun W' M' H' e G' _=>⟨vs,G'.fh.seqT (e.ff.seqT hs),bS.up (eJ hr) e⟩⟩
 .rename_i i;split at h
  .rename_i ys hy;cases h;obtain⟨vs,hv,hr⟩:=G.lstAt hy;refine⟨_,r.2,.inl ⟨⟨vs,SqL.of hv⟩,fun W' M' H' e G' hP=>?_⟩⟩;obtain⟨us,hu,hr'⟩:=G'.lstAt hP;rw[e.al i r.1]at hu;exact⟨us,SqL.of hu,hr'⟩
  .cases h
 .cases h
theorem aAg(a:SE K ta f):SIP K (aAN K ta) (oB f):=by
 intro γ M xs P M' hh W H σ R G Rs k;obtain⟨⟨y,M1⟩,h1,hh⟩:=aH hh;obtain⟨q,h2,hh⟩:=aH hh;cases hh;refine a _ _ _ _ h1 W H σ _ G Rs fun v W1 H1 e1 G1 r1=>?_;obtain⟨l,rfl,hw⟩:=HU h2 G1 r1;refine⟨l,rfl,?_⟩;rcases hw with⟨⟨vs,hv⟩,hw⟩|⟨⟨vs,hv⟩,hw⟩
 .refine .inl ⟨vs,hv,k _ W1 H1 e1 G1 fun W2 M2 H2 e2 G2 hP=>?_⟩;obtain⟨us,hu,hr⟩:=hw W2 M2 H2 e2 G2 hP;refine⟨fun i x hx=>?_,us,hu,by rw[Paired.len hr];exact B1 _⟩;obtain⟨u,hu',ru⟩:=Paired.get hr hx;refine⟨⟨us,u,hu,hu'⟩,fun y H3 hy=>⟨W2,.refl _,by rw[hy.1];exact G2,?_⟩⟩;have:=hy.2 us hu;rw[hu']at this;cases this;exact ru
 .refine .inr ⟨vs,hv,k _ W1 H1 e1 G1 fun W2 M2 H2 e2 G2 hP=>?_⟩;obtain⟨us,hu,hr⟩:=hw W2 M2 H2 e2 G2 hP;refine⟨fun i x hx=>?_,us,hu,by rw[Paired.len hr];exact B1 _⟩;obtain⟨u,hu',ru⟩:=Paired.get hr hx;refine⟨⟨us,u,hu,hu'⟩,fun y H3 hy=>⟨W2,.refl _,by rw[hy.1];exact G2,?_⟩⟩;have:=hy.2 us hu;rw[hu']at this;cases this;exact ru
theorem aAd{wi:TI}(i:SIP K wi fp)(a:SG K tg hg)(b:SS K t p):SS K (aDC wi tg t) (yY fp hg p):=by
 intro γ M o M' hh W H σ D G R k;obtain⟨⟨⟨xs,P⟩,M1⟩,h1,hh⟩:=aH hh;have hh:tN P hg p xs γ M1=some (o,M'):=hh;refine i _ _ _ _ _ h1 W H σ _ G R fun J W1 H1 e1 G1 gv=>?_;refine⟨fun j m σ' H'=>∃γ' M2 W2,j<=xs.length/\m=xs.length-j/\W1.Ext W2/\Good K W2 M2 H'/\cJ K W2 γ' σ'/\tN P hg p (xs.drop j) γ' M2=some (o,M'),⟨_,γ,M1,W1,F9 _,rfl,.refl _,G1,R.up e1,hh⟩,?_⟩;rintro j m σ' H' ⟨γ',M2,W2,hj,rfl,e2,G2,R2,h2⟩
 have hP:P M2:=by
  by_cases hP:P M2
  .exact hP
  .cases hd:xs.drop j<;>rw[hd]at h2<;>unfold tN at h2<;>rw[B0 hP]at h2<;>cases h2
 obtain⟨gv1,gv2⟩:=gv W2 M2 H' e2 G2 hP;by_cases hlt:j<xs.length
 .obtain⟨go,yl⟩:=gv1 j xs[j] (A9 hlt);rw[S1 hlt]at h2;unfold tN at h2;rw[A7 hP]at h2;refine .inr ⟨go,fun σ3 H3=>∃γ3 M3 W3,W2.Ext W3/\Good K W3 M3 H3/\cJ K W3 γ3 σ3/\tN P hg p (xs.drop (j+1)) γ3 M3=some (o,M'),?_,fun y H3 hy=>?_⟩
  .rintro σ3 H3 ⟨γ3,M3,W3,e3,G3,R3,h3⟩;exact⟨_,by omega,γ3,M3,W3,hlt,rfl,e2.trans e3,G3,R3,h3⟩
  .obtain⟨W8,e8,G8,ry⟩:=yl y H3 hy;obtain⟨⟨γ4,M4⟩,h4,h2⟩:=aH h2;obtain⟨⟨o5,M5⟩,h5,h2⟩:=aH h2;refine a _ _ _ _ _ h4 W8 _ σ' y _ G8 (R2.up e8) ry fun σ4 W4 H4 e4 G4 R4=>?_;refine b _ _ _ _ h5 W4 H4 σ4 _ G4 R4 fun W5 H5 e5 G5=>?_;have e25:=(e8.trans e4).trans e5;cases o5 with
   |nx γ5=>exact fun σ5 R5=>⟨γ5,M5,W5,e25,G5,R5,h2⟩
   |ct γ5=>exact fun σ5 R5=>⟨γ5,M5,W5,e25,G5,R5,h2⟩
   |bk γ5=>cases h2;exact k W5 H5 ((e1.trans e2).trans e25) G5
   |rt x=>cases h2;exact k W5 H5 ((e1.trans e2).trans e25) G5
 .have e:j=xs.length:=by omega
  subst e;rw[List.drop_length]at h2;unfold tN at h2;rw[A7 hP]at h2;cases h2;exact .inl ⟨gv2,k W2 H' (e1.trans e2) G2 σ' R2⟩
end
section
variable{ι:Type}{K:Fg}{X:ι->Cx}{tg iter a:Expr}{es sts':List Expr}{sts:List Stmt}{f:EF}{fa:AF}{gf:GF}{gs:GsF}{sf:SF}{pos:Pos}
theorem aBw(hp:∀i,PassesOwn (model (X i).prog (X i).w) (X i).A (X i).env (X i).xe)(hc:∀i,(X i).calm=true)(hK:∀i,(X i).K=K)(x:ME K X iter f)(y:MG K X tg gf)(z:ML K X sts sf)(hs:∀(env:Env)(x:Value),foldedSetIterable iter env x=pure x:=by intro _ _;rfl):MS K X (.For tg iter sts [] pos) (yY (oB f) gf sf):=by
 obtain⟨t,x1,x2⟩:=x.ex;obtain⟨u,y1,y2⟩:=y.ex;obtain⟨v,z1,z2⟩:=z.ex;exact⟨_,fun i=>QW (hp i) (hc i) (JZ (hK i) (x1 i)) (y1 i) (z1 i) (hs _),aAd (aAg x2) y2 z2⟩
end
section
variable{X:Cx}{a b:Expr}{ta:TA}{p p' pos pos':Pos}
noncomputable def mD(lo:Int)(n:Nat):List V:=(List.range n).map fun(i:Nat)=>V.int (lo+(i:Nat))
theorem zB{lo:Int}{n:Nat}{acc:Array Value}(h:ItemsOf (fun i v=>∃t,v=.int (lo+i*1) t) acc n):aV (mD lo n) acc.toList:=by
 have key:∀(k:Nat)(l:List Value)(m:Nat),l.length=k->(∀j v,l[j]?=some v->∃t,v=Value.int (lo+((m+j:Nat):Int)*1) t)->aV ((List.range' m k).map fun(i:Nat)=>V.int (lo+(i:Nat))) l:=by
  intro k
  induction k with
  |zero=>intro l m hl _;rw[List.eq_nil_of_length_eq_zero hl];exact .nil
  |succ k ih=>
   intro l m hl hv
   match l,hl,hv with
   |v::l,hl,hv=>
    obtain⟨t,rfl⟩:=hv 0 v rfl;rw[List.range'_succ,B6];refine .cons ⟨t,by simp⟩ (ih l (m+1) (Nat.succ.inj hl) fun j v e=>?_);obtain⟨t',e'⟩:=hv (j+1) v e;exact⟨t',by rw[e'];congr 2;omega⟩
 have:=key n acc.toList 0 (by rw[Z6];exact h.1) fun j v e=>by
  obtain⟨t,e'⟩:=h.2 j v (by rw[<- U4];exact e);exact⟨t,by rw[e',Nat.zero_add]⟩
 unfold mD;rw[List.range_eq_range'];exact this
theorem RJ{pins:List (Addr×Obj)}{σ:St}{s:Shared}{Q:VK}{lo hi:Int}{t u v:Tok}{tk:Nat}(hc:X.calm=true)(I:Inv X pins σ H s)(h1:-(2 ^ 62)<=lo)(h2:lo<2 ^ 62)(h3:-(2 ^ 62)<=hi)(h4:hi<2 ^ 62)(hz:(hi-lo).toNat<=sizeLine)
 (q:∀l,H l=none->Q (.ref l) (upd H l (.lst (mD lo (hi-lo).toNat)))):
 wpAny (model X.prog X.w) X.A (call (.type "list") [.ref s.heap.objs.size]) (fun v s'=>∃x H',Inv X pins σ H' s'/\RelV x v/\Q x H') X.xe { s with heap:=s.heap.push { cls:=.type "range",data:=.fields #[.int lo t,.int hi u,.int 1 v] },toks:=tk }:=by
 have hsz:(hi-lo).toNat<=2 ^ 24:=by rw[E4]at hz;exact hz
 refine call_list_range (n:=(hi-lo).toNat) (I.ok.hd hc) (IsRange.new ..) (small_one h1 h2 h3 h4) (by rw[rangeSize_one];split<;>omega) hsz fun h' tk' acc c hk hS hacc=>?_;have I1:Inv X pins σ H { s with heap:=s.heap.push { cls:=.type "range",data:=.fields #[.int lo t,.int hi u,.int 1 v] },toks:=tk }:=I.kept fun b o e=>A6 _ e;refine⟨.ref _,upd H _ (.lst (mD lo (hi-lo).toNat)),I1.laid (t':=tk') hk (B1 _) ⟨by rw[mD,A3,U5];exact hz,acc.toList,c,zB hacc,by simpa using hS⟩,rfl,q _ (I1.hok.fresh (B1 _))⟩
noncomputable def UG(ta:TA):TE:=fun σ H Q=>ta σ H fun vs H1=>∃j:Int,vs=[.int j]/\-(2 ^ 62)<=j/\j<2 ^ 62/\j.toNat<=sizeLine/\∀l,H1 l=none->Q (.ref l) (upd H1 l (.lst (mD 0 j.toNat)))
theorem VC(hc:X.calm=true)(hg:Gl X "range")(hm:X.mg "range"=none)(hgl:Gl X "list")(hml:X.mg "list"=none)(ha:PA X [a] ta)(hs:starEach [a] X.env=[(false,eval a X.env)]):
 PE X (.Call (.Name "list" p) [.Call (.Name "range" p') [a] [] pos'] [] pos) (UG ta):=by
 intro pins s σ H Q I h;refine U6 (hZ I hgl hml boot_list ?_ (by decide) (by decide));refine E1 ?_ oK rfl;rw[oK];show wpAny _ _ (spliced ((false,eval (.Call (.Name "range" p') [a] [] pos') X.env)::[])) _ _ s;refine Calls.spliced_cons ?_;refine Call_ (hZ I hg hm boot_range (E1 (thn (ha pos' pins s σ H _ I h) fun us s1 ⟨vs,H1,I1,r1,q1⟩=>?_) hs rfl));obtain⟨j,e,q1,q2,q3,q⟩:=q1;subst e;cases r1 with
 |cons r rr=>
  cases rr;obtain⟨t,rfl⟩:=r;refine call_range_1 (Calls.spliced_nil ?_);exact RJ hc I1 (by omega) (by omega) q1 q2 (by simpa using q3) (by simpa using q)
end
section
variable{K:Fg}{tA:TA}{fa:AF}
noncomputable def mG(lo:Int)(n:Nat):List PyData:=(List.range n).map fun(i:Nat)=>.int (lo+(i:Nat))
noncomputable def vU(cell:Bool)(f:AF):EF:=fun γ M=>(f γ M).bind fun r=>match r.1 with
 |[.d (.int j)]=>if aZ j=true/\j.toNat<=sizeLine then(if cell=true then some (.c r.2.length,r.2++[.lst (dM 0 j.toNat)])else some (.d (.list (mG 0 j.toNat)),r.2))else none
 |_=>none
theorem IW{lo:Int}{n:Nat}:aI K H (mG lo n) (mD lo n):=by
 unfold mG mD;generalize List.range n=l
 induction l with
 |nil=>rfl
 |cons i l ih=>exact⟨_,_,rfl,rfl,ih⟩
theorem LO{lo:Int}{n:Nat}:bS K W (dM lo n) (mD lo n):=by
 unfold dM mD;generalize List.range n=l
 induction l with
 |nil=>exact .nil
 |cons i l ih=>exact .cons rfl ih
theorem QH{cell:Bool}(b:SA K tA fa):SE K (UG tA) (vU cell fa):=by
 intro γ M x M' hh W H σ Q G R k;obtain⟨⟨ys,M1⟩,h1,hh⟩:=aH hh;refine b _ _ _ _ h1 W H σ _ G R fun vs W1 H1 e1 G1 r1=>?_;revert hh;dsimp only;split
 .rename_i j;intro hh;by_cases hs:aZ j=true/\j.toNat<=sizeLine
  .rw[A7 hs]at hh;cases r1 with
   |cons r r'=>
    cases r';refine⟨j,by rw[show _=V.int j from r],(dC hs.1).1,(dC hs.1).2,hs.2,fun l hl=>?_⟩;cases cell with
    |true=>
     rw[A7 rfl]at hh;cases hh;exact k _ (W1.more l) _ (e1.trans (W1.ext_more l)) (G1.new hl (c:=.lst (dM 0 j.toNat)) (o:=.lst (mD 0 j.toNat)) LO) G1.newV
    |false=>
     rw[B0 B2]at hh;cases hh;obtain⟨e2,G2⟩:=G1.lay (o:=.lst (mD 0 j.toNat)) hl;exact k _ _ _ (e1.trans e2) G2 ⟨l,_,rfl,SqL.of aN,IW⟩
  .rw[B0 hs]at hh;cases hh
 .intro hh;cases hh
theorem SN(cell:Bool){ι:Type}{X:ι->Cx}{a:Expr}{p p' pos pos':Pos}(hc:∀i,(X i).calm=true)(hm:∀i,(X i).mg "range"=none)(hml:∀i,(X i).mg "list"=none)(x:MA K X [a] fa)(hg:∀i,Gl (X i) "range":=by intro _;rfl)(hgl:∀i,Gl (X i) "list":=by intro _;rfl):
 ME K X (.Call (.Name "list" p) [.Call (.Name "range" p') [a] [] pos'] [] pos) (vU cell fa):=by
 obtain⟨t,x1,x2⟩:=x.ex;exact⟨_,fun i=>VC (hc i) (hg i) (hm i) (hgl i) (hml i) (x1 i) (x.st.1 _),QH x2⟩
end
noncomputable def Itz(K:Fg)(l1 l2:Addr):It:=
 ⟨fun i H=>∃xs ys x y,SqL K H l1 xs/\SqL K H l2 ys/\xs[i]?=some x/\ys[i]?=some y,
  fun i H v H'=>∃p x y,H p=none/\v=.ref p/\H'=upd H p (.tup [x,y])/\(∀xs,SqL K H l1 xs->xs[i]?=some x)/\∀ys,SqL K H l2 ys->ys[i]?=some y,
  fun i H=>∃xs ys,SqL K H l1 xs/\SqL K H l2 ys/\(xs[i]?=none\/ys[i]?=none)⟩
noncomputable def tnZ(z TI TO i1 i2 l1 l2:Addr)(i:Nat)(h:Heap):Prop:=IsZip h z TI TO .none/\IsPair h TI (.ref i1) (.ref i2)/\(∃a b,IsPair h TO a b)/\h.IsListIter i1 l1 i/\h.IsListIter i2 l2 i
structure HP(z TI TO i1 i2:Addr):Prop where
 TIz:TI≠z
 TOz:TO≠z
 i1z:i1≠z
 i2z:i2≠z
 TITO:TI≠TO
 TIi1:TI≠i1
 TIi2:TI≠i2
 TOi1:TO≠i1
 TOi2:TO≠i2
 i12:i1≠i2
theorem MC(n:Nat):HP (n+4) (n+2) (n+3) n (n+1):=by
 have key:∀a b:Nat,¬a=b->(a:Addr)≠b:=fun _ _ h=>h;exact⟨key _ _ (by omega),key _ _ (by omega),key _ _ (by omega),key _ _ (by omega),key _ _ (by omega),key _ _ (by omega),key _ _ (by omega),key _ _ (by omega),key _ _ (by omega),key _ _ (by omega)⟩
section
variable{P:Program}{w:World}{K:Fg}{elts:List Expr}{x1:Nat}{tpos:Pos}{z TI TO i1 i2 l1 l2:Addr}
theorem xZ{h:Heap}{i:Nat}{xs ys:Array Value}(A5:HP z TI TO i1 i2)(st:tnZ z TI TO i1 i2 l1 l2 i h)(h1:h.IsList l1 xs)(h2:h.IsList l2 ys):ZipApart z TI TO i1 i2 l1 l2:=by
 obtain⟨hz,hTI,⟨a,b,hTO⟩,⟨o1,e1,c1,d1⟩,⟨o2,e2,c2,d2⟩⟩:=st
 have nl:∀(l:Addr)(ws:Array Value),h.IsList l ws->∀(b:Addr)(o:Obj),h.get? b=some o->o.cls≠.type "list"->l≠b:=fun l ws hl b o e n q=>by
  subst q;obtain⟨o',e',c',_⟩:=hl;rw[e]at e';cases e';exact n c'
 have nz:(Value.type "zip")≠.type "list":=by intro q;injection q with q;exact absurd q (by decide)
 have nt:(Value.type "tuple")≠.type "list":=by intro q;injection q with q;exact absurd q (by decide)
 have ni:(Value.type "list_iterator")≠.type "list":=by intro q;injection q with q;exact absurd q (by decide)
 exact⟨A5.TIz,A5.TOz,A5.i1z,A5.i2z,A5.TITO,A5.TIi1,A5.TIi2,A5.TOi1,A5.TOi2,A5.i12,
  nl l1 xs h1 z _ hz nz,nl l1 xs h1 TO _ hTO nt,nl l1 xs h1 i1 _ e1 (by rw[c1];exact ni),nl l1 xs h1 i2 _ e2 (by rw[c2];exact ni),
  nl l2 ys h2 z _ hz nz,nl l2 ys h2 TO _ hTO nt,nl l2 ys h2 i1 _ e1 (by rw[c1];exact ni),nl l2 ys h2 i2 _ e2 (by rw[c2];exact ni)⟩
theorem QJ(A5:HP z TI TO i1 i2):Turn P w K (.Tuple elts x1 tpos) (Itz K l1 l2) [z,TI,TO,i1,i2] z (tnZ z TI TO i1 i2 l1 l2) where
 mem:=by simp
 obj:=fun i h st b hb=>by
  obtain⟨hz,hTI,⟨a,c,hTO⟩,⟨o1,e1,_,d1⟩,⟨o2,e2,_,d2⟩⟩:=st;simp only[List.mem_cons,List.not_mem_nil,or_false]at hb;rcases hb with rfl|rfl|rfl|rfl|rfl
  .exact⟨_,hz,fun v q=>by cases q⟩
  .exact⟨_,hTI,fun v q=>by cases q⟩
  .exact⟨_,hTO,fun v q=>by cases q⟩
  .exact⟨_,e1,fun v q=>by rw[d1]at q;cases q⟩
  .exact⟨_,e2,fun v q=>by rw[d2]at q;cases q⟩
 keep:=fun i h h' st k=>by
  obtain⟨hz,hTI,⟨a,c,hTO⟩,h1,h2⟩:=st;exact⟨k z (by simp) _ hz,k TI (by simp) _ hTI,⟨a,c,k TO (by simp) _ hTO⟩,h1.at fun o e=>k i1 (by simp) o e,h2.at fun o e=>k i2 (by simp) o e⟩
 item:=by
  intro X hP hw hK hc i pins s σ H E I hf st hg;subst hP hw hK;obtain⟨xs,ys,x,y,hq1,hq2,hx,hy⟩:=hg;obtain⟨its,rv,p,_⟩:=I.list hq1;obtain⟨jts,rw',p',_⟩:=I.list hq2;obtain⟨u,hu,ru⟩:=rv.get hx;obtain⟨v,hv,rv'⟩:=rw'.get hy;have D:=xZ A5 st p.isList p'.isList;obtain⟨hz,hTI,⟨a,c,hTO⟩,h1,h2⟩:=id st;refine wpAny_pyNext_zip_item D hz hTI hTO h1 h2 p.isList p'.isList (x:=u) (y:=v) (by simpa using hu) (by simpa using hv) fun h' a1 a2 a3 a4 a5 a6 hk=>⟨_,rfl,?_⟩;refine wpAny_letOwnedTupleGo_zip a1 fun h2' hz2 sb=>?_
  have lt:∀b∈[z,TI,TO,i1,i2],s.heap.objs.size≠b:=fun b hb q=>by
   obtain⟨o1,e1,_⟩:=id h1;obtain⟨o2,e2,_⟩:=id h2;simp only[List.mem_cons,List.not_mem_nil,or_false]at hb
   have:∃o,s.heap.get? b=some o:=by
    rcases hb with rfl|rfl|rfl|rfl|rfl
    .exact⟨_,hz⟩
    .exact⟨_,hTI⟩
    .exact⟨_,hTO⟩
    .exact⟨_,e1⟩
    .exact⟨_,e2⟩
   obtain⟨o,e⟩:=this;rw[<- q]at e;exact absurd (B8 e) (F6 _)
  have kk:∀b o,b∉[z,TI,TO,i1,i2]->s.heap.get? b=some o->h2'.get? b=some o:=fun b o hb q=>by
   simp only[List.mem_cons,List.not_mem_nil,or_false,not_or]at hb;exact(sb.2 b hb.1).trans (hk b o hb.1 hb.2.2.1 hb.2.2.2.1 hb.2.2.2.2 q)
  have ht2:h2'.get? s.heap.objs.size=some { cls:=.type "tuple",data:=.seq #[u,v] }:=(sb.2 _ (lt z (by simp))).trans a5
  have I2:Inv X pins σ (upd H s.heap.objs.size (.tup [x,y])) { s with heap:=h2',toks:=s.toks }:=
   I.turnLay hf kk (B1 _) ⟨by show 2<=sizeLine;rw[E4];decide,[u,v],.cons ru (.cons rv' .nil),⟨_,ht2,rfl,_,rfl⟩⟩
  refine⟨.ref s.heap.objs.size,_,I2,rfl,⟨_,x,y,I.hok.fresh (B1 _),rfl,rfl,fun ws hw=>by rw[I.list_inj hw hq1];exact hx,fun ws hw=>by rw[I.list_inj hw hq2];exact hy⟩,⟨hz2,?_,⟨_,_,(sb.2 TO A5.TOz).trans a2⟩,a3.at fun o e=>(sb.2 i1 A5.i1z).trans e,a4.at fun o e=>(sb.2 i2 A5.i2z).trans e⟩,fun b hb=>?_⟩
  .exact(sb.2 TI A5.TIz).trans (hk TI _ A5.TIz A5.TITO A5.TIi1 A5.TIi2 hTI)
  .rw[aM (fun q=>lt b hb q.symm)];exact(hf b hb).1
 done:=by
  intro X hP hw hK hc i pins s σ H E I hf st hg;subst hP hw hK;obtain⟨xs,ys,hq1,hq2,hend⟩:=hg;obtain⟨its,rv,p,_⟩:=I.list hq1;obtain⟨jts,rw',p',_⟩:=I.list hq2;have D:=xZ A5 st p.isList p'.isList;obtain⟨hz,hTI,⟨a,c,hTO⟩,h1,h2⟩:=id st;have l1':=rv.length;have l2':=rw'.length;refine wpAny_pyNext_zip_end (I.ok.hd hc) D hz hTI hTO h1 h2 p.isList p'.isList ?_ fun h' hk=>⟨rfl,I.turnF (t':=s.toks) hf fun b o hb q=>?_⟩
  .rcases hend with e|e
   .refine .inl ?_;have:=List.getElem?_eq_none_iff.mp e;exact Array.getElem?_eq_none (by rw[C4];omega)
   .refine .inr ?_;have:=List.getElem?_eq_none_iff.mp e;exact Array.getElem?_eq_none (by rw[C4];omega)
  .simp only[List.mem_cons,List.not_mem_nil,or_false,not_or]at hb;exact hk b o hb.1 hb.2.2.1 hb.2.2.2.1 hb.2.2.2.2 q
 self:=fun A i s Q E st h=>wpAny_pyIter_zip st.1 h
end
section
variable{X:Cx}{elts:List Expr}{x1:Nat}{tpos:Pos}
noncomputable def aFA(K:Fg)(ta:TA):TI:=fun σ H R=>ta σ H fun vs H1=>∃a b xs ys,vs=[.ref a,.ref b]/\SqL K H1 a xs/\SqL K H1 b ys/\R (Itz K a b) H1
theorem boot_zip:bootBuiltins "zip"=some (.type "zip"):=by decide +kernel
theorem aDX{a b:Expr}{ta:TA}{p pos:Pos}(hg:Gl X "zip")(hm:X.mg "zip"=none)(ha:PA X [a,b] ta)(hs:starEach [a,b] X.env=[(false,eval a X.env),(false,eval b X.env)])(hs2:starEach [b] X.env=[(false,eval b X.env)]):PI X (.Tuple elts x1 tpos) (.Call (.Name "zip" p) [a,b] [] pos) (aFA X.K ta):=by
 intro pins s σ H R I h;refine Call_ (hZ I hg hm boot_zip (E1 (thn (ha pos pins s σ H _ I h) fun us s1 ⟨vs,H1,I1,r1,q1⟩=>?_) (by rw[hs,hs2]) (by rw[hs2];rfl)));obtain⟨l,l',xs,ys,e,hq1,hq2,q⟩:=q1;subst e;cases r1 with
 |cons r rr=>
  cases rr with
  |cons r' rr=>
   cases rr;cases (show _=Value.ref l from r);cases (show _=Value.ref l' from r');obtain⟨its,rv,p1,_⟩:=I1.list hq1;obtain⟨jts,rw',p2,_⟩:=I1.list hq2;refine call_zip_2 p1.isList p2.isList fun h' hz hTI hTO h1 h2 hsz hk=>?_;refine wpAny_pyIter_zip hz ?_
   have fp:∀b∈[s1.heap.objs.size+4,s1.heap.objs.size+2,s1.heap.objs.size+3,s1.heap.objs.size,s1.heap.objs.size+1],qU X pins H1 b:=fun b hb=>by
    have hb':s1.heap.objs.size<=b:=by
     simp only[List.mem_cons,List.not_mem_nil,or_false]at hb;omega
    exact I1.fpOk hb' (I1.hok.fresh hb')
   exact⟨_,_,_,_,H1,rfl,I1.kept (t':=s1.toks) hk,QJ (z:=s1.heap.objs.size+4) (TI:=s1.heap.objs.size+2) (TO:=s1.heap.objs.size+3) (i1:=s1.heap.objs.size) (i2:=s1.heap.objs.size+1) (l1:=l) (l2:=l') (MC _),⟨hz,hTI,⟨_,_,hTO⟩,h1,h2⟩,fp,q⟩
end
noncomputable def oO:List PyData->List PyData->List CD
 |x::xs,y::ys=>.d (.tuple [x,y])::oO xs ys
 |_,_=>[]
noncomputable def aBb(f:AF):AF:=fun γ M=>(f γ M).bind fun r=>match r.1 with
 |[.d (.list xs),.d (.list ys)]=>some (oO xs ys,r.2)
 |_=>none
theorem CU:∀{xs ys:List PyData}{i:Nat}{x:CD},(oO xs ys)[i]?=some x->∃a b,xs[i]?=some a/\ys[i]?=some b/\x=.d (.tuple [a,b])
 |[],_,i,x=>fun h=>by unfold oO at h;cases i<;>cases h
 |_::_,[],i,x=>fun h=>by unfold oO at h;cases i<;>cases h
 |a::xs,b::ys,0,x=>fun h=>⟨a,b,rfl,rfl,by unfold oO at h;exact(D5 h).symm⟩
 |a::xs,b::ys,i+1,x=>fun h=>by
  obtain⟨c,d,h1,h2,h3⟩:=CU (xs:=xs) (ys:=ys) (i:=i) (by unfold oO at h;exact h);exact⟨c,d,h1,h2,h3⟩
theorem CK:∀{xs ys:List PyData},xs[(oO xs ys).length]?=none\/ys[(oO xs ys).length]?=none
 |[],_=>.inl rfl
 |_::_,[]=>.inr rfl
 |a::xs,b::ys=>by
  show(a::xs)[(oO xs ys).length+1]?=none\/(b::ys)[(oO xs ys).length+1]?=none;exact CK (xs:=xs) (ys:=ys)
theorem aCm{K:Fg}{tA:TA}{fa:AF}(b:SA K tA fa):SI K (aFA K tA) (aBb fa):=by
 intro γ M xs M' hh W H σ R G Rs k;obtain⟨⟨ys,M1⟩,h1,hh⟩:=aH hh;refine b _ _ _ _ h1 W H σ _ G Rs fun vs W1 H1 e1 G1 r1=>?_;revert hh;dsimp only;split
 .rename_i as bs;intro hh;cases hh;cases r1 with
  |cons r r'=>
   cases r' with
   |cons r2 r''=>
    cases r'';obtain⟨p,us,rfl,hs,hr⟩:=(show ∃a us,_=V.ref a/\SqL K W1.F a us/\aI K W1.F as us from r);obtain⟨p',us',rfl,hs',hr'⟩:=(show ∃a us,_=V.ref a/\SqL K W1.F a us/\aI K W1.F bs us from r2);refine⟨p,p',us,us',rfl,G1.fh.seq hs,G1.fh.seq hs',k _ W1 H1 e1 G1 fun W2 M2 H2 e2 G2=>?_⟩;have q1:SqL K H2 p us:=G2.fh.seq (e2.ff.seq hs);have q2:SqL K H2 p' us':=G2.fh.seq (e2.ff.seq hs');refine⟨fun i x hx=>?_,us,us',q1,q2,?_⟩
    .obtain⟨c,d,hc,hd,rfl⟩:=CU hx;obtain⟨u,hu,ru⟩:=Paired.get (eJ hr) (show(as.map CD.d)[i]?=some (.d c)by rw[C3,hc];rfl);obtain⟨v,hv,rv⟩:=Paired.get (eJ hr') (show(bs.map CD.d)[i]?=some (.d d)by rw[C3,hd];rfl);refine⟨⟨us,us',u,v,q1,q2,hu,hv⟩,fun y H3 hy=>?_⟩;obtain⟨p3,x',y',hn,rfl,rfl,hx',hy'⟩:=hy;have:=hx' us q1;rw[hu]at this;cases this;have:=hy' us' q2;rw[hv]at this;cases this;obtain⟨e3,G3⟩:=G2.lay (o:=.tup [u,v]) hn;refine⟨_,e3,G3,⟨p3,_,rfl,SqT.of aN,?_⟩⟩;exact⟨_,_,rfl,Rep.same e3.ff _ _ (show Rep K W2.F c u from ru.up e2),_,_,rfl,Rep.same e3.ff _ _ (show Rep K W2.F d v from rv.up e2),rfl⟩
    .rcases CK (xs:=as) (ys:=bs)with e|e
     .exact .inl (by have:=List.getElem?_eq_none_iff.mp e;rw[hr.length]at this;exact List.getElem?_eq_none_iff.mpr this)
     .exact .inr (by have:=List.getElem?_eq_none_iff.mp e;rw[hr'.length]at this;exact List.getElem?_eq_none_iff.mpr this)
 .intro hh;cases hh
theorem aDi{ι:Type}{K:Fg}{X:ι->Cx}{a b:Expr}{fa:AF}{pos:Pos}{elts:List Expr}{x1:Nat}{tpos p:Pos}(hK:∀i,(X i).K=K)(hm:∀i,(X i).mg "zip"=none)(x:MA K X [a,b] fa)(hg:∀i,Gl (X i) "zip":=by intro _;rfl):MI K X (.Tuple elts x1 tpos) (.Call (.Name "zip" p) [a,b] [] pos) (aBb fa):=by
 obtain⟨t,x1',x2⟩:=x.ex;exact⟨_,fun i=>by have:=aDX (elts:=elts) (x1:=x1) (tpos:=tpos) (p:=p) (pos:=pos) (hg i) (hm i) (x1' i) (by rw[x.st.1,x.st.2.1];rfl) (by rw[x.st.2.1];rfl);rw[hK i]at this;exact this,aCm x2⟩
end L2
namespace PySem
open Sem (wp)
namespace F
end F
end PySem
namespace L2
open PySem PySem.Spec PyProof.Rows
theorem dF.le{ι:Type}{j k:Nat}{A:Around}{q:Bool}(r:dF k A q)(h:j<=k:=by decide):ι->dF j A q:=fun _=>r.mono h
section
variable{K:Fg}
noncomputable def inC(neg:Bool):F2:=fun x y M=>(snap 5 M x).bind fun a=>(snap 5 M y).bind fun b=>(aP b).bind fun ds=>if (SeqAt.shaped a&&ds.all SeqAt.shaped)=true then some (.d (.bool (if neg then !ds.any fun d=>PyData.eqv d a else ds.any fun d=>PyData.eqv d a)),M)else none
theorem QL{neg:Bool}:P2 K (PJ K neg) (inC neg):=by
 intro x y M z M' h W H v u Q G rx ry k;obtain⟨a,h1,h⟩:=aH h;obtain⟨b,h2,h⟩:=aH h;obtain⟨ds,h3,h⟩:=aH h;by_cases hs:(SeqAt.shaped a&&ds.all SeqAt.shaped)=true
 .rw[A7 hs]at h;cases h;rw[C2]at hs;obtain⟨p,vs,rfl,hq,hr⟩:=iK (nM G 5 y b u h2 ry) h3;exact⟨a,ds,p,vs,nM G 5 x a v h1 rx,rfl,hq,hr,hs.1,hs.2,k _ W H (.refl _) G rfl⟩
 .rw[B0 hs]at h;cases h
theorem RY{ι:Type}{X:ι->Cx}(hK:∀i,(X i).K=K)(hu:∀i,(X i).A.in1.units+64<cLine):Q2 K X (compareOp .In) (inC false):=⟨_,fun i=>L2.kIn (hK i) (hu i),QL⟩
theorem PL{ι:Type}{X:ι->Cx}(hK:∀i,(X i).K=K)(hu:∀i,(X i).A.in1.units+64<cLine):Q2 K X (compareOp .NotIn) (inC true):=⟨_,fun i=>aFj (hK i) (hu i),QL⟩
end
section
variable{X:Cx}
noncomputable def KQ:List V->Hp->VK->Prop:=fun xs H Q=>∃(a:Addr)(kvs:List (Key×V))(ns:List Int),xs=[.ref a]/\H a=some (.dK kvs)/\kvs.map (·.1)=ns.map .inl/\ns.length<64 /\
 ∀ns':List Int,ns'.Perm ns->ns'.Pairwise (·<=·)->∀l,H l=none->Q (.ref l) (upd H l (.lst (ns'.map .int)))
theorem zF:∀{vs:List Value}{ns:List Int},IntsAre vs ns->aV (ns.map V.int) vs
 |_,_,.nil=>.nil
 |_,_,.cons _ t h=>.cons ⟨t,rfl⟩ (zF h)
theorem LB:∀{ws:List Value}{ns:List Int},ws.length=ns.length->(∀(j:Nat) v i,ws[j]?=some v->ns[j]?=some i->∃t,v=Value.int i t)->IntsAre ws ns
 |[],[],_,_=>.nil
 |v::ws,n::ns,hl,h=>by
  obtain⟨t,rfl⟩:=h 0 v n rfl rfl;exact .cons n t (LB (Nat.succ.inj hl) fun j=>h (j+1))
theorem FO(hc:X.calm=true):dO X (.builtin "sorted") KQ:=by
 intro pins s σ H xs us Q I r h;obtain⟨a,kvs,ns,rfl,ea,hk,h64,q⟩:=h;obtain⟨u,rfl,ru⟩:=vals1 r;cases ru;obtain⟨z,hs,vs,rk,dd⟩:=UT I.hok ea;obtain⟨ep,hat⟩:=dd.dictAt;obtain⟨m,F⟩:=I.fr;have N:News X.base X.env.locals s.heap (jU X.base s.heap X.env.locals):=FL
 have hl:vs.length=ns.length:=by
  have h1:kvs.length=vs.length:=Paired.len rk;have h2:=E9 List.length hk;rw[A3,A3]at h2;omega
 refine PySem.W.kdu_sorted (PySem.W.kdl_dict (knd:=cO X.prog X.w) (kvs:=vs) (ep:=ep) hs) (I.ok.hd hc) F N hat (by rw[hl,E4];omega) fun D h' tk ws F' N' hD hlen hw=>?_
 have hi:IntsAre ws ns:=LB (by rw[hlen,hl]) fun j v i e1 e2=>by
  obtain⟨k,x,e3,e4⟩:=hw j v e1;have e5:(vs.map (·.1))=ns.map Sum.inl:=by rw[<- hk];exact(KV.keys rk).symm
  have e6:(vs.map (·.1))[j]?=some k:=by rw[C3,e3];rfl
  rw[e5,C3,e2]at e6;cases e6;rw[HA]at e4;rcases cD e4 with⟨i',t,e7,e8⟩|⟨_,_,e7,_⟩
  .cases e7;exact⟨t,e8⟩
  .cases e7
 refine PySem.W.ksk_lsort (its:=ws.toArray) (n:=0) (news':=fun o=>(D,o)::jU X.base s.heap X.env.locals) F' N' (fun o=>.head fun p hp=>D1 (hD p hp)) (by simp) hi h64 fun ws' ns' c h'' F'' N'' hi' _ pm pw _=>?_
 have hsz:s.heap.get? D=none:=by
  have hN:=N'' _ B5;cases e:s.heap.get? D with
  |none=>rfl
  |some o=>exact absurd (hD (D,o) (jO hN.2.1 hN.2.2 e)) (F6 _)
 have kp:∀b o,b≠X.env.locals->s.heap.get? b=some o->h''.get? b=some o:=fun b o hb e=>by
  cases z:X.base.get? b with
  |some v=>
   have:=I.bk b v z;rw[e]at this;cases this;exact F''.keep b _ z
  |none=>exact(N'' (b,o) (B3 _ (jO hb z e))).1
 have hz:(ns'.map V.int).length<=sizeLine:=by rw[A3,pm.length_eq,E4];omega
 have I2:Inv X pins σ (upd H D (.lst (ns'.map .int))) { s with heap:=h'' }:=I.laidL kp (fun m' hm'=>by rw[<- KP F.ns hm'];exact F''.ns) hsz ⟨hz,ws',c,zF hi',(N'' _ B5).1⟩;exact⟨.ref D,_,I2.tok tk,rfl,q ns' pm pw D (I.hok.none hsz)⟩
end
theorem iS:∀{xs ys:List Int},xs.Pairwise (·<=·)->ys.Pairwise (·<=·)->xs.Perm ys->xs=ys
 |[],ys=>fun _ _ p=>(List.nil_perm.mp p).symm
 |x::xs,[]=>fun _ _ p=>by have:=p.length_eq;simp at this
 |x::xs,y::ys=>fun hx hy p=>by
  have h1:=List.pairwise_cons.mp hx;have h2:=List.pairwise_cons.mp hy
  have e:x=y:=by
   have a:y<=x:=by
    rcases List.mem_cons.mp (p.mem_iff.mp B5)with q|q
    .exact Int.le_of_eq q.symm
    .exact h2.1 x q
   have b:x<=y:=by
    rcases List.mem_cons.mp (p.mem_iff.mpr B5)with q|q
    .exact Int.le_of_eq q.symm
    .exact h1.1 y q
   omega
  subst e;rw[iS h1.2 h2.2 (List.perm_cons x |>.mp p)]
noncomputable def fX(ns:List Int):List Int:=ns.mergeSort fun a b=>decide (a<=b)
theorem iT(ns:List Int):(fX ns).Perm ns:=List.mergeSort_perm _ _
theorem fY(ns:List Int):(fX ns).Pairwise (·<=·):=by
 have:=List.pairwise_mergeSort (le:=fun a b:Int=>decide (a<=b)) (fun a b c h1 h2=>C8 (Int.le_trans (D7 h1) (D7 h2))) (fun a b=>by simp;omega) ns;exact this.imp fun h=>D7 h
noncomputable def zO:List Key->Option (List Int)
 |[]=>some []
 |.inl i::r=>(zO r).map (i::·)
 |.inr _::_=>none
theorem DM:∀{ks:List Key}{ns:List Int},zO ks=some ns->ks=ns.map .inl
 |[],ns=>fun h=>by cases h;rfl
 |.inl i::r,ns=>fun h=>by
  obtain⟨m,h1,h2⟩:=Option.map_eq_some_iff.mp (show(zO r).map (i::·)=some ns from h);subst h2;rw[DM h1];rfl
 |.inr _::_,ns=>fun h=>by cases h
section
variable{K:Fg}
noncomputable def oE:FN:=fun xs M=>match xs with
 |[.c i]=>match M[i]? with
  |some (.dk kvs)=>(zO (kvs.map (·.1))).bind fun ns=>if ns.length<64 then some (.d (.list ((fX ns).map .int)),M)else none
  |_=>none
 |_=>none
theorem HZ{H:Hp}:∀ns:List Int,aI K H (ns.map .int) (ns.map .int)
 |[]=>rfl
 |n::ns=>⟨_,_,rfl,rfl,HZ ns⟩
theorem zE{W:Wd}:∀{kvs:List (Key×CD)}{us:List (Key×V)},PKV K W kvs us->us.map (·.1)=kvs.map (·.1)
 |_,_,.nil=>rfl
 |_,_,.cons h t=>by rw[B6,B6,zE t,h.1]
theorem MU:PN K KQ oE:=by
 intro xs M z M' h W H vs Q G r k;unfold oE at h;split at h
 .rename_i i;split at h
  .rename_i kvs hi;obtain⟨ns,h1,h⟩:=aH h;by_cases hl:ns.length<64
   .rw[A7 hl]at h;cases h;obtain⟨us,ha,hp⟩:=G.dkAt hi;rcases r with _|⟨r1,_|_⟩;refine⟨W.α i,us,ns,by rw[r1.2],ha,by rw[zE hp];exact DM h1,hl,fun ns' pm pw l hln=>?_⟩;have e:ns'=fX ns:=iS pw (fY ns) (pm.trans (iT ns).symm);subst e;obtain⟨e2,G2⟩:=G.lay (o:=.lst ((fX ns).map .int)) hln;exact k _ _ _ e2 G2 ⟨l,_,rfl,SqL.of aN,HZ _⟩
   .rw[B0 hl]at h;cases h
  .cases h
 .cases h
theorem PQ{ι:Type}{X:ι->Cx}(hc:∀i,(X i).calm=true):QN K X (.builtin "sorted") oE:=⟨_,fun i=>FO (hc i),MU⟩
end
end L2
namespace PySem
open PySem.Calls PyProof.Rows
end PySem
namespace L2
open PySem PySem.Spec PyProof.Rows
section
variable{K:Fg}
end
section
variable{ι:Type}{K:Fg}{X:ι->Cx}{N':List Str}{cap:List (Option Nat)}{scope:Scope}{tg iter elt:Expr}{ifs:List Expr}{f fi:EF}{gf:GF}{ft:TF}{pos:Pos}
theorem aDN(hK:∀i,(X i).K=K):Q2 K X (binaryOp .Add) OO:=⟨_,fun i=>(show OpR (X i) (binaryOp .Add) (CO K)by have:=op_catS (X:=X i);rw[hK i]at this;exact this),aBj⟩
end
end L2
namespace HT
open PySem  PySem.Spec PyProof.Rows
theorem fm_congr{α β:Type}{f g:α->Option β}:∀{l:List α},(∀x∈l,f x=g x)->l.filterMap f=l.filterMap g
 |[]=>fun _=>rfl
 |x::l=>fun h=>by
  rw[S4,S4,h x B5,fm_congr fun y hy=>h y (B3 _ hy)]
theorem rev_pick{α:Type}(xs:List α):(List.range xs.length).filterMap (fun m=>xs[xs.length-1-m]?)=xs.reverse:=by
 have e:∀m∈List.range xs.length,xs[xs.length-1-m]?=xs.reverse[m]?:=fun m hm=>by
  rw[List.getElem?_reverse (List.mem_range.mp hm)]
 rw[fm_congr e];refine List.ext_getElem? fun i=>?_;have l:xs.length=xs.reverse.length:=List.length_reverse.symm;rw[l];generalize xs.reverse=ys;clear e l xs
 have:(List.range ys.length).filterMap (fun m=>ys[m]?)=ys:=by
  induction ys with
  |nil=>rfl
  |cons y ys ih=>
   rw[C9,List.range_succ_eq_map,S4];show y::_=_;rw[List.filterMap_map];congr 1
 rw[this]
section
variable{prog:Program}{w:World}{A:Around}{E:Value->Shared->Prop}{s:Shared}
theorem HL(n:Nat):Builtin.Slice.slicePlaces ((n:Int)-1) (-1) (-1)=n:=by
 unfold Builtin.Slice.slicePlaces;rw[B0 (by decide)];by_cases h:(n:Int)-1 > -1
 .rw[A7 h,show(-(-1:Int))=1 from rfl,Int.ediv_one];omega
 .rw[B0 h];omega
theorem rJ{sl:Addr}{vs:Value}{n:Nat}{Q:Int×Int×Nat->Shared->Prop}(hs:s.heap.IsSliceOf sl .none .none vs)(ps:IsPart vs (some (-1)))
 (h:Q ((n:Int)-1,-1,n) s):wpAny (model prog w) A (Builtin.Slice.sliceApplied (.ref sl) (pure (n:Int))) Q E s:=by
 obtain⟨os,hos,hcs,hds⟩:=id hs;unfold Builtin.Slice.sliceApplied Builtin.Slice.sliceFields;refine A4 (A4 (J4 hos hds (x:=.none) rfl (A4 (J4 hos hds (x:=.none) rfl (A4 (J4 hos hds (x:=vs) rfl (B7 ?_)))))));refine A4 (qA ps ?_);show wpAny _ _ (if ((-1:Int)==0)=true then _ else _) _ _ s;rw[B0 (by decide)];refine A4 (slicePart_none (A4 (slicePart_none (A4 (B7 ?_)))));show wpAny _ _ (pure ((n:Int)-1,(-1:Int),Builtin.Slice.slicePlaces ((n:Int)-1) (-1) (-1))) _ _ s;rw[HL];exact B7 h
theorem XN(xs:Array Value):((List.range xs.size).filterMap fun(m:Nat)=>xs[((xs.size:Int)-1+(m:Int)*(-1)).toNat]?).toArray=xs.toList.reverse.toArray:=by
 have l:xs.size=xs.toList.length:=Array.length_toList.symm;rw[<- rev_pick xs.toList,l];congr 1;refine fm_congr fun m hm=>?_;have:=List.mem_range.mp hm;rw[show((xs.toList.length:Int)-1+(m:Int)*(-1)).toNat=xs.toList.length-1-m by omega,U4]
theorem getItem_tuple_rev{t sl:Addr}{items:Array Value}{vs:Value}{Q:Value->Shared->Prop}(ht:IsTup s.heap t items)(hs:s.heap.IsSliceOf sl .none .none vs)(ps:IsPart vs (some (-1)))
 (h:Q (.ref s.heap.objs.size) { s with heap:=s.heap.push { cls:=.type "tuple",data:=.seq items.toList.reverse.toArray } })
 (hsz:items.size<=sizeLine):wpAny (model prog w) A (getItem (.ref t) (.ref sl)) Q E s:=by
 have htake:sizeOk (.seq items.toList.reverse.toArray):=by
  show items.toList.reverse.toArray.size<=sizeLine;rw[C4,S6,Z6];exact hsz
 obtain⟨os,hos,hcs,hds⟩:=id hs;have hTs:s.TypeIs (.ref sl) "slice":=⟨os,hos,hcs⟩;unfold getItem
 try with_reducible refine L4 ?_
 first|refine A4 (B7 ?_)|skip
 refine A4 (wpAny_sequenceKey ht.typeIs (by decide) ?_)
 refine A4 (U1 (name:=Str.ofString "__getitem__") ht.typeIs F8
  (Y7 F8 ht.typeIs entry_tuple_getitem ?_ (args_tuple_getitem _ _)))
 show wpAny _ _ (Builtin.Tuple.tupleItemsOf (.ref t) >>= _) _ _ s;refine A4 (tupleItemsOf_ ht ?_);refine A4 (A0e hTs ?_);rw[A7 (by decide)];refine A4 (rJ hs ps ?_);show wpAny _ _ (if (((items.size:Int)-1)==0&&(-1:Int)==1&&items.size==items.size)=true then _ else _) _ _ s;rw[B0 (by rw[show((-1:Int)==1)=false from rfl,O2,U9];exact B2),XN]
 first
  |exact A4 (m:=Builtin.Tuple.tupleExact _) (D9 (B7 ⟨_,rfl,B7 h⟩) htake)
  |exact A4 (m:=Builtin.Tuple.tupleExact _) (D9 (A4 (B7 (B7 ⟨_,rfl,B7 h⟩))) htake)
  |exact A4 (A4 (m:=Builtin.Tuple.tupleExact _) (D9 (B7 (B7 ⟨_,rfl,B7 h⟩)) htake))
  |exact A4 (A4 (m:=Builtin.Tuple.tupleExact _) (D9 (B7 ⟨_,rfl,B7 h⟩) htake))
end
end HT
namespace L2
variable{K:Fg}{s:Shared}{H:Hp}
open PySem PySem.Spec PyProof.Rows
theorem aV.rev:∀{xs:List V}{us:List Value},aV xs us->aV xs.reverse us.reverse
 |_,_,.nil=>.nil
 |_,_,.cons r t=>by
  rw[F7,F7];exact(aV.rev t).append (.cons r .nil)
noncomputable def aEe(K:Fg):V->Hp->VK->Prop:=fun x H Q=>(∃a xs,x=.ref a/\SqL K H a xs/\∀p,H p=none->Q (.ref p) (upd H p (.lst xs.reverse)))\/∃a xs,x=.ref a/\SqT K H a xs/\∀p,H p=none->Q (.ref p) (upd H p (.tup xs.reverse))
theorem xG(its:List Value):slicePick its.toArray none none (some (-1))=its.reverse.toArray:=by
 have b:sliceBounds none none (some (-1)) its.toArray.size=((its.length:Int)-1,-1,-1):=by
  unfold sliceBounds;rfl
 unfold slicePick;rw[b];congr 1;rw[<- HT.rev_pick its];unfold sliceRange;dsimp only;rw[B0 (by decide)]
 have c:(if (its.length:Int)-1 > -1 then((its.length:Int)-1 - -1 - -1-1) / -(-1)else 0).toNat=its.length:=by
  by_cases h:(its.length:Int)-1 > -1
  .rw[A7 h,show(-(-1:Int))=1 from rfl,Int.ediv_one];omega
  .rw[B0 h];omega
 rw[c,List.filterMap_map];refine HT.fm_congr fun m hm=>?_;have:=List.mem_range.mp hm;show its.toArray[((its.length:Int)-1+-1*(m:Int)).toNat]?=_;rw[show((its.length:Int)-1+-1*(m:Int)).toNat=its.length-1-m by omega,List.getElem?_toArray]
section
variable{X:Cx}{e st:Expr}{te:TE}{th:TO}{pos p2:Pos}
theorem ZN{pins:List (Addr×Obj)}{σ:St}{x:V}{v vs:Value}{sl:Addr}{Q:VK}(I:Inv X pins σ H s)(rx:RelV x v)(hs:s.heap.IsSliceOf sl .none .none vs)(ps:IsPart vs (some (-1)))(h:aEe X.K x H Q):
 ∃T id,typeLookup (.type T) "__getitem__"=pure (some (.builtin id))/\s.TypeIs v T/\wpAny (model X.prog X.w) X.A (getItem v (.ref sl)) (EP X pins σ Q) X.xe s:=by
 rcases h with⟨a,xs,rfl,hx,q⟩|⟨a,xs,rfl,hx,q⟩
 .cases rx;obtain⟨its,r,ht,hz⟩:=I.list hx;have hlen:=r.length;refine⟨"list",_,slot_list_getitem.lookup,ht.isList.typeIs,?_⟩;refine wpAny_getItem_list_slice ht.isList hs .none .none ps (by decide) ?_ (by rw[C4]<;>omega);rw[xG];refine⟨.ref s.heap.objs.size,_,I.laid (t':=s.toks) (o:=.lst xs.reverse) (fun b ob q=>A6 _ q) (B1 _) ?_,rfl,q _ (I.hok.fresh (B1 _))⟩;exact⟨by rw[S6];exact hz,_,0,r.rev,D2 _ rfl⟩
 .cases rx;obtain⟨its,r,ht,hz⟩:=I.tuple hx;have hlen:its.toArray.size=xs.length:=by rw[C4];exact r.length.symm
  refine⟨"tuple",_,PyProof.Rows.slot_tuple_getitem.lookup,ht.typeIs,?_⟩;refine HT.getItem_tuple_rev ht hs ps ?_ (by rw[hlen];exact hz);refine⟨.ref s.heap.objs.size,_,I.laid (t':=s.toks) (o:=.tup xs.reverse) (fun b ob q=>A6 _ q) (B1 _) ?_,rfl,q _ (I.hok.fresh (B1 _))⟩;exact⟨by rw[S6];exact hz,_,r.rev,IsTup.new _ _⟩
noncomputable def aGM(K:Fg)(te:TE)(th:TO):TE:=fun σ H Q=>te σ H fun x H1=>th σ H1 fun u H2=>u=some (-1)/\aEe K x H2 Q
theorem aCE(he:PE X e te)(hu:PO X (some st) th):PE X (.Subscript e (.Slice none none (some st) p2) pos) (aGM X.K te th):=by
 intro pins s σ H Q I h;refine Subscript_ (thn (he pins s σ H _ I h) fun v s1 ⟨x,H1,I1,r1,q1⟩=>?_);refine wpAny_Slice ?_;rw[evalPart_none];refine B7 (B7 ?_);refine thn (hu pins s1 σ H1 _ I1 q1) fun vu s3 ⟨u,H3,I3,pu,q3⟩=>?_;obtain⟨rfl,q⟩:=q3;have I4:Inv X pins σ H3 { s3 with heap:=s3.heap.push { cls:=.type "slice",data:=.fields #[.none,.none,vu] } }:=I3.kept (t':=s3.toks) fun b ob q=>A6 _ q;obtain⟨T,id,hT,ht,hg⟩:=ZN I4 r1 (Heap.IsSliceOf.new ..) pu q;show wpAny (model X.prog X.w) X.A (subscriptTail e (.Slice none none (some st) p2) v (.ref s3.heap.objs.size)) (EP X pins σ Q) X.xe { s3 with heap:=s3.heap.push { cls:=.type "slice",data:=.fields #[.none,.none,vu] } };exact tail_any (ops:=[v,.ref s3.heap.objs.size]) ht hT hg (by with_unfolding_all rfl)
end
noncomputable def aAi:CD->Sto->Option (CD×Sto)
 |.d (.list ds),M=>some (.d (.list ds.reverse),M)
 |.d (.tuple ds),M=>some (.d (.tuple ds.reverse),M)
 |_,_=>none
noncomputable def YA(f:EF)(u:OF):EF:=fun γ M=>(f γ M).bind fun r=>(u γ r.2).bind fun q=>if q.1=some (-1)then aAi r.1 q.2 else none
section
variable{K:Fg}
theorem aI.rev{H:Hp}:∀{ds:List PyData}{vs:List V},aI K H ds vs->aI K H ds.reverse vs.reverse
 |[],vs=>fun h=>by rw[show vs=[]from h];rfl
 |d::ds,vs=>fun h=>by
  obtain⟨v,r,rfl,h2,h3⟩:=h;rw[F7,F7];exact aI.app (aI.rev h3) ⟨v,[],rfl,h2,rfl⟩
theorem OI{x:CD}{M:Sto}{z:CD}{M':Sto}(h:aAi x M=some (z,M')){W:Wd}{v:V}{Q:VK}(G:Good K W M H)(rx:bV K W x v)(k:∀w W' H',W.Ext W'->Good K W' M' H'->bV K W' z w->Q w H'):aEe K v H Q:=by
 unfold aAi at h;split at h
 .rename_i ds;cases h;obtain⟨p,us,rfl,hq,hr⟩:=(show ∃a us,_=V.ref a/\SqL K W.F a us/\aI K W.F ds us from rx);refine .inl ⟨p,us,rfl,G.fh.seq hq,fun l hl=>?_⟩;obtain⟨e2,G2⟩:=G.lay (o:=.lst us.reverse) hl;exact k _ _ _ e2 G2 ⟨l,_,rfl,SqL.of aN,aI.same e2.ff _ _ hr.rev⟩
 .rename_i ds;cases h;obtain⟨p,us,rfl,hq,hr⟩:=(show ∃a us,_=V.ref a/\SqT K W.F a us/\aI K W.F ds us from rx);refine .inr ⟨p,us,rfl,G.fh.seqT hq,fun l hl=>?_⟩;obtain⟨e2,G2⟩:=G.lay (o:=.tup us.reverse) hl;exact k _ _ _ e2 G2 ⟨l,_,rfl,SqT.of aN,aI.same e2.ff _ _ hr.rev⟩
 .cases h
theorem aCn{ta:TE}{f:EF}{th:TO}{u:OF}(a:SE K ta f)(c:SO K th u):SE K (aGM K ta th) (YA f u):=by
 intro γ M x M' hh W H σ Q G R k;obtain⟨⟨y,M1⟩,h1,hh⟩:=aH hh;obtain⟨⟨q,M3⟩,h3,hh⟩:=aH hh;refine a _ _ _ _ h1 W H σ _ G R fun v W1 H1 e1 G1 r1=>?_;refine c _ _ _ _ h3 W1 H1 σ _ G1 (R.up e1) fun W3 H3 e3 G3=>?_;have hh:(if q=some (-1)then aAi y M3 else none)=some (x,M'):=hh;by_cases hq:q=some (-1)
 .rw[A7 hq]at hh;exact⟨hq,OI hh G3 (r1.up e3) fun w W4 H4 e4 G4 r4=>k w W4 H4 ((e1.trans e3).trans e4) G4 r4⟩
 .rw[B0 hq]at hh;cases hh
end
section
variable{ι:Type}{K:Fg}{X:ι->Cx}{a st:Expr}{f:EF}{u:OF}{pos p2:Pos}
theorem aDo(hK:∀i,(X i).K=K)(x:ME K X a f)(z:MO K X (some st) u):ME K X (.Subscript a (.Slice none none (some st) p2) pos) (YA f u):=by
 obtain⟨t,x1,x2⟩:=x.ex;obtain⟨t',z1,z2⟩:=z.ex;exact⟨_,fun i=>by have:=aCE (p2:=p2) (pos:=pos) (x1 i) (z1 i);rw[hK i]at this;exact this,aCn x2 z2⟩
end
section
open PySem.SeqAt
open PySem.AutoSeq1 (wpAny_loadPart')
open PySem.MeetsSeq PySem.MeetsSeq2 PySem.MeetsSeq3
theorem YG{prog:Program}{w:World}{A:Around}{E:Value->Shared->Prop}{p q:Value}{x y:PyData}{as bs:List Addr}{c:Bool}(hu:A.units<cLine)(r1:Reads s.heap p x as)(r2:Reads s.heap q y bs)(h:dU x y=some c):
 ∀Q:Value->Shared->Prop,Q (.bool c) s->wpAny (model prog w) A (richCompare .Lt p q) Q E s:=by
 intro Q k;unfold dU at h;split at h
 .rename_i a b;cases r1;cases r2;cases h;exact HT.rcLt_int _ _ _ _ _ _ _ _ _ _ k
 .rename_i xs ys;obtain⟨ns,h1,h⟩:=Option.bind_eq_some_iff.mp h;obtain⟨ms,h2,h⟩:=Option.bind_eq_some_iff.mp h;cases h;cases r1 with
  |tuple g1 g2 g3 g4=>
   cases r2 with
   |tuple k1 k2 k3 k4=>exact HT.lt_tupInts ⟨_,g1,g2,_,g3⟩ ⟨_,k1,k2,_,k3⟩ (kT g4 h1) (kT k4 h2) hu k
 .cases h
theorem xJ(l b:Addr)(us us2:Array Value)(n n2:Nat)(dd dd2:Option Addr)(sl sl2:Array (Option Value))(xs ys:List PyData)(c:Bool):
 Meets (Builtin.«tuple.__lt__» ⟨[.ref l,.ref b],[]⟩)
  (fun A R s=>(A.in1.units+64<cLine/\(∃as,ReadsAll s.heap us.toList xs as)/\(∃bs,ReadsAll s.heap us2.toList ys bs)/\xs.all SeqAt.shaped=true/\ys.all SeqAt.shaped=true/\cP xs ys=some c) /\
   s.heap.get? l=some { cls:=.type "tuple",dict:=dd,data:=.seq us n,slots:=sl }/\s.heap.get? b=some { cls:=.type "tuple",dict:=dd2,data:=.seq us2 n2,slots:=sl2 } /\
   R (.ok (.ret (.bool c))) s):=
 .of_wp fun prog w A R s h=>by
  obtain⟨hp,g,d,tk,os⟩:=s;obtain⟨⟨hu,⟨as,hi⟩,⟨bs,hj⟩,s1,s2,hc⟩,hl,hb,h⟩:=h;have f2:=AutoSeq1.sub_tuple_tuple;have z1:us.size=xs.length:=by rw[<- ReadsAll.len hi];simp
  have z2:us2.size=ys.length:=by rw[<- ReadsAll.len hj];simp
  wp_walk using S5 hl,S5 hb,wpAny_forIn_list _ (fun rest b s'=>b.1=none/\s'=⟨hp,g,d,tk,os⟩/\∃(vs ws:List Value)(xs' ys':List PyData),rest=vs.zip ws /\
   (∃as,ReadsAll hp vs xs' as)/\(∃bs,ReadsAll hp ws ys' bs)/\xs'.all SeqAt.shaped=true/\ys'.all SeqAt.shaped=true/\xs'.length+us2.size=ys'.length+us.size/\cP xs' ys'=some c) _
  case turn=>
   rintro⟨y,x⟩ rest b s' ⟨hb',rfl,vs,ws,xs',ys',hz,⟨as',ha⟩,⟨bs',hb2⟩,t1,t2,hlen,hR⟩;cases ha with
   |nil=>rw[List.zip_nil_left]at hz;cases hz
   |cons a1 a2=>
    cases hb2 with
    |nil=>rw[List.zip_nil_right]at hz;cases hz
    |cons b1 b2=>
     rename_i dx dxs _ dy dys _;rw[Y6]at hz;injection hz with hyx hrest
     injection hyx with hy hx
     subst hy hx;rw[U3,C2]at t1 t2;simp only[List.length_cons]at hlen;refine A4 (SeqAt.eqAt_reads _ _ A.in1 ⟨hp,g,d,tk,os⟩ _ _ _ _ a1 b1 (L8 t1.1) (L8 t2.1) (SeqAt.room_of_shaped t1.1 hu) prog w _ _ ?_);have hR:(if PyData.eqv _ _=true then cP _ _ else dU _ _)=some c:=hR;revert hR;split
     .rename_i e;intro hR;rw[e]
      wp_walk
      exact⟨rfl,rfl,_,_,_,_,hrest,⟨_,a2⟩,⟨_,b2⟩,t1.2,t2.2,by omega,hR⟩
     .rename_i e;intro hR;rw[Bool.eq_false_iff.mpr e];have hri:=fun E=>YG (prog:=prog) (w:=w) (A:=A.in1) (E:=E) (s:=⟨hp,g,d,tk,os⟩) (Nat.lt_of_le_of_lt (O0 _ 64) hu) a1 b1 hR
      wp_walk using hri
      exact⟨_,rfl,by simpa using h⟩
  case fin=>
   rintro⟨b1,b2⟩ s' ⟨hb',rfl,vs,ws,xs',ys',hz,⟨as',ha⟩,⟨bs',hb2⟩,t1,t2,hlen,hR⟩;simp only at hb';subst hb'
   have hv:c=decide (us.size<us2.size):=by
    cases ha with
    |nil=>
     have hR:some (decide (0<ys'.length))=some c:=hR;cases hR;simp only[List.length_nil]at hlen;exact decide_eq_decide.mpr (by omega)
    |cons a1 a2=>
     cases hb2 with
     |nil=>
      cases hR;simp only[List.length_nil,List.length_cons]at hlen;exact(C1 (by omega)).symm
     |cons b1 b2=>
      rw[Y6]at hz;cases hz
   rw[hv]at h
   wp_walk
   exact⟨_,rfl,by simpa[Builtin.Tuple.tupleCompareSizes]using h⟩
  case h=>
   exact⟨rfl,rfl,us.toList,us2.toList,xs,ys,rfl,⟨_,hi⟩,⟨_,hj⟩,s1,s2,by omega,hc⟩
end
section
variable{prog:Program}{w:World}{A:Around}{E:Value->Shared->Prop}{s:Shared}
theorem aAk{p q:Value}{xs ys:List PyData}{as bs:List Addr}{c:Bool}{Q:Value->Shared->Prop}(r1:Reads s.heap p (.tuple xs) as)(r2:Reads s.heap q (.tuple ys) bs)(s1:xs.all SeqAt.shaped=true)(s2:ys.all SeqAt.shaped=true)(hc:cP xs ys=some c)
 (hu:A.in1.units+64<cLine) (h:Q (.bool c) s):wpAny (model prog w) A (compareOp .Lt p q) Q E s:=by
 cases r1 with
 |tuple a1 a2 a3 a4=>
  cases r2 with
  |tuple b1 b2 b3 b4=>
   rename_i o1 _ _ _ o2 _ _;obtain⟨cls,dd,data,sl⟩:=o1;obtain⟨cls2,dd2,data2,sl2⟩:=o2;simp only at a2 a3 b2 b3;subst a2 a3 b2 b3
   exact richCompare_meets_room (op:=.Lt) ⟨_,a1,rfl⟩ ⟨_,b1,rfl⟩ PySem.F.slot_tuple_lt PySem.F.entry_tuple_lt (PySem.F.args_tuple_lt_2 _ _) (xJ _ _ _ _ _ _ dd dd2 sl sl2 xs ys c)
    ⟨⟨hu,⟨_,a4⟩,⟨_,b4⟩,s1,s2,hc⟩,a1,b1,show Value.bool c≠Value.notImplemented/\Q (.bool c) s from⟨(fun x=>nomatch x),h⟩⟩ (Nat.lt_of_le_of_lt (Z9 (C0 (L9 _) (O0 _ 64))) hu)
end
section
variable{X:Cx}
noncomputable def aFw(K:Fg):R2:=fun x y H Q=>∃xs ys c,Rep K H (.tuple xs) x/\Rep K H (.tuple ys) y/\xs.all SeqAt.shaped=true/\ys.all SeqAt.shaped=true/\cP xs ys=some c/\Q (.bl c) H
theorem aDH(hu:X.A.in1.units+64<cLine):OpR X (compareOp .Lt) (aFw X.K):=by
 intro pins s σ H x y v u Q I rx ry h;obtain⟨xs,ys,c,hx,hy,s1,s2,hc,q⟩:=h;obtain⟨as,ha⟩:=Rep.reads I _ x v hx rx;obtain⟨bs,hb⟩:=Rep.reads I _ y u hy ry;exact aAk ha hb s1 s2 hc hu ⟨.bl _,H,I,rfl,q⟩
end
noncomputable def ltD:F2:=fun x y M=>match x,y with
 |.d (.tuple xs),.d (.tuple ys)=>if (xs.all SeqAt.shaped&&ys.all SeqAt.shaped)=true then(cP xs ys).bind fun c=>some (.d (.bool c),M)else none
 |_,_=>none
noncomputable def ltX:F2:=BL ltI ltD
section
variable{K:Fg}
theorem aEd:P2 K (aFw K) ltD:=by
 intro x y M z M' h W H v u Q G rx ry k;unfold ltD at h;split at h
 .rename_i xs ys;by_cases hs:(xs.all SeqAt.shaped&&ys.all SeqAt.shaped)=true
  .rw[A7 hs]at h;obtain⟨c,h1,h⟩:=aH h;cases h;rw[C2]at hs;exact⟨xs,ys,c,Rep.same G.fh _ _ rx,Rep.same G.fh _ _ ry,hs.1,hs.2,h1,k _ W H (.refl _) G rfl⟩
  .rw[B0 hs]at h;cases h
 .cases h
end
section
variable{ι:Type}{K:Fg}{X:ι->Cx}
theorem ZC{X:Cx}(e:X.K=K)(hu:X.A.in1.units+64<cLine):OpR X (compareOp .Lt) (aFw K):=by subst e;exact aDH hu
theorem aGS(hK:∀i,(X i).K=K)(hu:∀i,(X i).A.in1.units+64<cLine):Q2 K X (compareOp .Lt) ltX:=⟨_,fun i=>op_lt.or (ZC (hK i) (hu i)),P2.or aBE aEd⟩
end
noncomputable def GM:List (CD×CD)->Option (List (Key×CD))
 |[]=>some []
 |(k,x)::r=>(keyOf k).bind fun k'=>(GM r).bind fun q=>some ((k',x)::q)
noncomputable def vH(fs:List (EF×EF)):EF:=fun γ M=>(rF fs γ (M++[.dk []])).bind fun r=>match r.2[M.length]? with
 |some (.dk [])=>(GM r.1).bind fun kvs=>if kvs.length<=15/\(kvs.map (·.1)).Nodup then some (.c M.length,r.2.set M.length (.dk kvs))else none
 |_=>none
section
variable{K:Fg}
theorem uH{W:Wd}:∀{xs:List (CD×CD)}{kvs:List (Key×CD)}{vs:List (V×V)},GM xs=some kvs->Paired (fun a b=>bV K W a.1 b.1/\bV K W a.2 b.2) xs vs->
 ∃us:List (Key×V),vs=us.map (fun p=>(kV p.1,p.2))/\us.map (·.1)=kvs.map (·.1)/\Paired (fun p q=>p.1=q.1/\bV K W p.2 q.2) kvs us
 |[],kvs,vs=>fun h r=>by
  cases h;cases r;exact⟨[],rfl,rfl,.nil⟩
 |(k,x)::xs,kvs,vs=>fun h r=>by
  obtain⟨k',h1,h⟩:=aH (show(keyOf k).bind _=_ from h);obtain⟨q,h2,h⟩:=aH h;cases h;cases r with
  |@cons _ b _ vs' r1 r2=>
   obtain⟨us,e1,e2,e3⟩:=uH h2 r2;refine⟨(k',b.2)::us,?_,?_,.cons ⟨rfl,r1.2⟩ e3⟩
   .rw[B6,<- e1,<- rX h1 r1.1]
   .rw[B6,B6,e2]
theorem VO{ts:List (TE×TE)}{fs:List (EF×EF)}(sp:SPs K ts fs):SE K (QB ts) (vH fs):=by
 intro γ M x M' hh W H σ Q G R k;obtain⟨⟨xs,M1⟩,h1,hh⟩:=aH hh;intro p hp;have G1:=G.new hp (c:=.dk []) (o:=.dK []) (show Paired _ [] []from .nil);have e1:=W.ext_more p;refine FV sp h1 G1 (R.up e1) fun vs W2 H2 e2 G2 r2=>?_;dsimp only at hh;split at hh
 .rename_i hM;obtain⟨kvs,h2,hh⟩:=aH hh;by_cases hc:kvs.length<=15/\(kvs.map (·.1)).Nodup
  .rw[A7 hc]at hh;cases hh
   have al:W2.α M.length=p:=by
    rw[e2.al M.length (by show M.length<W.n+1;rw[G.n];exact L9 _)];show(if M.length=W.n then p else _)=p;rw[A7 G.n.symm]
   obtain⟨_,o,g2,g3⟩:=G2.cs _ _ hM (by intro z;cases z);rw[al]at g2
   have ho:o=.dK []:=by
    cases o with
    |dK us=>cases g3;rfl
    |_=>exact False.elim g3
   subst ho;obtain⟨us,z1,z2,z3⟩:=uH h2 r2;have nd:(us.map (·.1)).Nodup:=by rw[z2];exact hc.2
   have hl:us.length<=15:=by
    have:=E9 List.length z2;rw[A3,A3]at this;omega
   refine⟨g2,us,z1,hl,?_⟩;rw[rG us [] (by simpa using nd),List.nil_append];have G3:=G2.set (o':=.dK us) (c':=.dk kvs) hM (by intro z;cases z) z3;rw[al]at G3;refine k _ _ _ (e1.trans e2) G3 ⟨?_,by rw[al]⟩;exact C0 (by show M.length<W.n+1;rw[G.n];exact L9 _) e2.ln
  .rw[B0 hc]at hh;cases hh
 .cases hh
end
section
variable{ι:Type}{K:Fg}{X:ι->Cx}
theorem QZ{pos:Pos}{ks:List (Option Expr)}{vs:List Expr}{fs:List (EF×EF)}(x:MD K X pos ks vs fs)(hall:ks.all (·.isSome)=true:=by rfl)(hl:ks.length=vs.length:=by rfl)(h0:ks≠[]:=by simp)(h15:ks.length<=15:=by simp):ME K X (.Dict ks vs pos) (vH fs):=by
 obtain⟨t,x1,x2⟩:=x.ex;exact⟨_,fun i=>JG (x1 i) hall hl h0 h15,VO x2⟩
end
section
variable{prog:Program}{w:World}{A:Around}{E:Value->Shared->Prop}{s:Shared}
theorem EW{r:Addr}{a b c:Int}{t u v:Tok}{n:Nat}{Q:List Value->Shared->Prop}(hh:A.handled=none)(hr:IsRange s.heap r a b c t u v)(hs:Builtin.Range.small a b c=true)(hn:Builtin.Range.rangeSize a b c=(n:Nat))(h24:n<=2 ^ 24)
 (hQ:∀(h':Heap)(tk:Nat)(acc:Array Value),(∀b o,s.heap.get? b=some o->h'.get? b=some o)->ItemsOf (fun i v=>∃t,v=Value.int (a+(i:Nat)*c) t) acc n->Q acc.toList { s with heap:=h',toks:=tk }):wpAny (model prog w) A (collect (.ref r)) Q E s:=by
 obtain⟨H,g,dr,tk,os⟩:=s;refine A4 (wpAny_runValue (codeAny_builtin entry_proto_collect' ?_));rw[Around.under_plainId PySem.F.plain_proto_collect _];refine A4 (m:=newList []) (D9 (B7 ⟨plainId_quiet PySem.F.plain_list_iadd _,codeAny_builtin entry_list_iadd' ?_⟩));rw[Around.under_plainId PySem.F.plain_list_iadd _];have p0:∀b o,H.get? b=some o->(H.push { cls:=.type "list",data:=.seq #[] }).get? b=some o:=fun b o e=>A6 _ e;have r0:=(D2 H (o:={ cls:=.type "list",data:=.seq #[] }) rfl);show wpAny _ A.in1 (Builtin.List.listExtendWith (.ref H.objs.size) (.ref r) (.ref H.objs.size)) _ _ ⟨H.push { cls:=.type "list",data:=.seq #[] },g,dr,tk,os⟩;refine wpAny_extend_range (R:=fun r s'=>match r with|.ok (.ret v)=>wpAny (model prog w) A (match v with|.ref a=>load a >>= fun o=>(match o.data with|.seq xs _=>pure xs.toList|_=>unsupported "internal:collect")|_=>unsupported "internal:collect") Q E s'|.ok _=>False|.error e=>E e s') (s:=⟨H.push { cls:=.type "list",data:=.seq #[] },g,dr,tk,os⟩) hh (p0 _ _ hr) hs hn h24 H.objs.size (.ref H.objs.size) 0 r0 fun h' tk' acc c' hk hS hacc=>?_;exact A4 (wpAny_load hS (B7 (hQ h' tk' acc (fun b o e=>hk b o (D1 (B8 e)) (p0 b o e)) hacc)))
end
theorem tO(r:Addr)(a b c:Int)(t u v:Tok)(n:Nat)(hs:Builtin.Range.small a b c=true)(hn:Builtin.Range.rangeSize a b c=(n:Nat))(h24:n<=2 ^ 24):
 Meets (Builtin.«tuple.__new__» ⟨[.type "tuple",.ref r],[]⟩) (fun A R s=>A.in1.handled=none/\IsRange s.heap r a b c t u v /\
  ∀(h':Heap)(tk:Nat)(acc:Array Value),(∀b o,s.heap.get? b=some o->h'.get? b=some o)->ItemsOf (fun i v=>∃t,v=Value.int (a+(i:Nat)*c) t) acc n->R (.ok (.ret (.ref h'.objs.size))) { s with heap:=h'.push { cls:=.type "tuple",data:=.seq acc },toks:=tk }):=
 .of_wp fun prog w A R s h=>by
  obtain⟨hp,g,d,tk,os⟩:=s;obtain⟨hh,hr,h⟩:=h;have f1:=sub_tuple_self;have f2:=init_tuple_lookup;have f3:=madeHere_tuple;have ht:Shared.TypeIs ⟨hp,g,d,tk,os⟩ (.ref r) "range":=⟨_,hr,rfl⟩
  wp_walk using A0e ht,EW hh hr hs hn h24
  intro h' tk' acc hk hacc
  have hz:acc.toList.toArray.size<=sizeLine:=by
   have:=hacc.1;rw[E4];simp only[Array.toArray_toList];omega
  refine A4 (B7 ?_);refine A4 (m:=Builtin.Tuple.tupleExact _) (D9 ?_ hz);refine B7 ⟨_,rfl,?_⟩;simpa using h h' tk' acc hk hacc
section
variable{X:Cx}{a b:Expr}{ta:TA}{p p' pos pos':Pos}
theorem LU{pins:List (Addr×Obj)}{σ:St}{Q:VK}{lo hi:Int}{t u v:Tok}{tk:Nat}(hc:X.calm=true)(I:Inv X pins σ H s)(h1:-(2 ^ 62)<=lo)(h2:lo<2 ^ 62)(h3:-(2 ^ 62)<=hi)(h4:hi<2 ^ 62)(hz:(hi-lo).toNat<=sizeLine)
 (q:∀l,H l=none->Q (.ref l) (upd H l (.tup (mD lo (hi-lo).toNat)))):
 wpAny (model X.prog X.w) X.A (call (.type "tuple") [.ref s.heap.objs.size]) (fun v s'=>∃x H',Inv X pins σ H' s'/\RelV x v/\Q x H') X.xe { s with heap:=s.heap.push { cls:=.type "range",data:=.fields #[.int lo t,.int hi u,.int 1 v] },toks:=tk }:=by
 have hsz:(hi-lo).toNat<=2 ^ 24:=by rw[E4]at hz;exact hz
 have I1:Inv X pins σ H { s with heap:=s.heap.push { cls:=.type "range",data:=.fields #[.int lo t,.int hi u,.int 1 v] },toks:=tk }:=I.kept fun b o e=>A6 _ e;have hr:IsRange (s.heap.push { cls:=.type "range",data:=.fields #[.int lo t,.int hi u,.int 1 v] }) s.heap.objs.size lo hi 1 t u v:=IsRange.new ..;refine callType_new PySem.F.called_tuple (by decide) (PySem.F.typeCall_tuple_1 _) (PySem.F.newCall_tuple_1 _) (fun obj=>PySem.F.args_object_init_2 _ _) PySem.F.entry_tuple_new (tO _ lo hi 1 t u v (hi-lo).toNat (small_one h1 h2 h3 h4) (by rw[rangeSize_one];split<;>omega) hsz) ⟨I.ok.hd hc,hr,fun h' tk' acc hk hacc=>?_⟩
 have sz:(s.heap.push { cls:=.type "range",data:=.fields #[.int lo t,.int hi u,.int 1 v] }).objs.size<=h'.objs.size:=by
  rw[A0f];exact B8 (hk _ _ hr)
 refine⟨⟨_,D2 _ rfl,rfl⟩,.ref h'.objs.size,upd H h'.objs.size (.tup (mD lo (hi-lo).toNat)),I1.laid (t':=tk') (o:=.tup (mD lo (hi-lo).toNat)) (fun b o e=>A6 _ (hk b o e)) sz ?_,rfl,q _ (I1.hok.fresh sz)⟩;exact⟨by rw[mD,A3,U5];exact hz,acc.toList,zB hacc,IsTup.new _ _⟩
noncomputable def YC(ta:TA):TE:=fun σ H Q=>ta σ H fun vs H1=>∃j:Int,vs=[.int j]/\-(2 ^ 62)<=j/\j<2 ^ 62/\j.toNat<=sizeLine/\∀l,H1 l=none->Q (.ref l) (upd H1 l (.tup (mD 0 j.toNat)))
theorem WJ(hc:X.calm=true)(hg:Gl X "range")(hm:X.mg "range"=none)(hgl:Gl X "tuple")(hml:X.mg "tuple"=none)(ha:PA X [a] ta)(hs:starEach [a] X.env=[(false,eval a X.env)]):
 PE X (.Call (.Name "tuple" p) [.Call (.Name "range" p') [a] [] pos'] [] pos) (YC ta):=by
 intro pins s σ H Q I h;refine U6 (hZ I hgl hml A0i ?_ (by decide) (by decide));refine E1 ?_ oK rfl;rw[oK];show wpAny _ _ (spliced ((false,eval (.Call (.Name "range" p') [a] [] pos') X.env)::[])) _ _ s;refine Calls.spliced_cons ?_;refine Call_ (hZ I hg hm boot_range (E1 (thn (ha pos' pins s σ H _ I h) fun us s1 ⟨vs,H1,I1,r1,q1⟩=>?_) hs rfl));obtain⟨j,e,q1,q2,q3,q⟩:=q1;subst e;cases r1 with
 |cons r rr=>
  cases rr;obtain⟨t,rfl⟩:=r;refine call_range_1 (Calls.spliced_nil ?_);exact LU hc I1 (by omega) (by omega) q1 q2 (by simpa using q3) (by simpa using q)
end
section
variable{K:Fg}{tA:TA}{fa:AF}
noncomputable def hX(f:AF):EF:=fun γ M=>(f γ M).bind fun r=>match r.1 with
 |[.d (.int j)]=>if aZ j=true/\j.toNat<=sizeLine then some (.d (.tuple (mG 0 j.toNat)),r.2)else none
 |_=>none
theorem VS(b:SA K tA fa):SE K (YC tA) (hX fa):=by
 intro γ M x M' hh W H σ Q G R k;obtain⟨⟨ys,M1⟩,h1,hh⟩:=aH hh;refine b _ _ _ _ h1 W H σ _ G R fun vs W1 H1 e1 G1 r1=>?_;revert hh;dsimp only;split
 .rename_i j;intro hh;by_cases hs:aZ j=true/\j.toNat<=sizeLine
  .rw[A7 hs]at hh;cases hh;cases r1 with
   |cons r r'=>
    cases r';refine⟨j,by rw[show _=V.int j from r],(dC hs.1).1,(dC hs.1).2,hs.2,fun l hl=>?_⟩;obtain⟨e2,G2⟩:=G1.lay (o:=.tup (mD 0 j.toNat)) hl;exact k _ _ _ (e1.trans e2) G2 ⟨l,_,rfl,SqT.of aN,IW⟩
  .rw[B0 hs]at hh;cases hh
 .intro hh;cases hh
theorem UX{ι:Type}{X:ι->Cx}{a:Expr}{p p' pos pos':Pos}(hc:∀i,(X i).calm=true)(hm:∀i,(X i).mg "range"=none)(hml:∀i,(X i).mg "tuple"=none)(x:MA K X [a] fa)(hg:∀i,Gl (X i) "range":=by intro _;rfl)(hgl:∀i,Gl (X i) "tuple":=by intro _;rfl):
 ME K X (.Call (.Name "tuple" p) [.Call (.Name "range" p') [a] [] pos'] [] pos) (hX fa):=by
 obtain⟨t,x1,x2⟩:=x.ex;exact⟨_,fun i=>WJ (hc i) (hg i) (hm i) (hgl i) (hml i) (x1 i) (x.st.1 _),VS x2⟩
end
theorem BR(h:Heap)(vs:List Value)(out:Array Value):(∀b o,h.get? b=some o->(sortedAll h vs out).get? b=some o)/\∃c,(sortedAll h vs out).get? (h.objs.size+1)=some (seqObj "list" out c):=by
 unfold sortedAll
 have z1:((h.push (seqObj "list" #[] 0)).update h.objs.size (Obj.mapSeq fun x=>x++vs.toArray)).objs.size=h.objs.size+1:=by
  rw[Heap.size_update,A0f]
 have k1:∀b o,h.get? b=some o->((h.push (seqObj "list" #[] 0)).update h.objs.size (Obj.mapSeq fun x=>x++vs.toArray)).get? b=some o:=fun b o e=>by
  rw[U0 _ _ _ _ (D1 (B8 e))];exact A6 _ e
 generalize (h.push (seqObj "list" #[] 0)).update h.objs.size (Obj.mapSeq fun x=>x++vs.toArray)=h1 at z1 k1;rw[<- z1];have gD:(h1.push (seqObj "list" vs.toArray 0)).get? h1.objs.size=some (seqObj "list" vs.toArray 0):=D2 _ rfl;constructor
 .intro b o e;have hb:b≠h1.objs.size:=D1 (B8 (k1 b o e));unfold sortedHeap;rw[U0 _ _ _ _ hb];refine A6 _ (A6 _ ?_);rw[U0 _ _ _ _ hb];exact A6 _ (k1 b o e)
 .unfold sortedHeap;have g1:=Z5 gD (fun _=>#[]);have g2:=A6 (seqObj "tuple" vs.toArray 0) g1;have g3:=A6 (seqObj "list" #[] 0) g2;exact⟨_,Z5 g3 (fun _=>out)⟩
theorem vG:∀{ns:List Int}{us:List Value},IntsAre us ns->aV (ns.map .int) us
 |[],_,.nil=>.nil
 |_::_,_,.cons _ t h=>.cons ⟨t,rfl⟩ (vG h)
noncomputable def HB(K:Fg):List V->Hp->VK->Prop:=fun xs H Q=>∃(p:Addr)(ns:List Int),xs=[.ref p]/\SqL K H p (ns.map .int)/\ns.length<64/\∀l,H l=none->Q (.ref l) (upd H l (.lst ((fX ns).map .int)))
theorem GJ{X:Cx}:dO X (.builtin "sorted") (HB X.K):=by
 intro pins s σ H xs us Q I r h;obtain⟨p,ns,rfl,hp,h64,q⟩:=h;obtain⟨u,rfl,ru⟩:=vals1 r;cases ru;obtain⟨its,rv,pl,hz⟩:=I.list hp;have hl:=rv.length;rw[A3]at hl hz;refine sorted_ints pl.isList (intsAre_of rv) (by omega) fun out ns' hi pm pw=>?_;have e:ns'=fX ns:=iS pw (fY ns) (pm.trans (iT ns).symm);subst e;obtain⟨kp,c,gg⟩:=BR s.heap its out;have hz':((fX ns).map V.int).length<=sizeLine:=by rw[A3,pm.length_eq];exact hz
 exact⟨.ref (s.heap.objs.size+1),upd H (s.heap.objs.size+1) (.lst ((fX ns).map .int)),I.laid (t':=s.toks) kp (Y0 _) ⟨hz',out.toList,c,vG hi,by simpa using gg⟩,rfl,q _ (I.hok.fresh (Y0 _))⟩
theorem aFg{X:Cx}(h:X.K=K):dO X (.builtin "sorted") (HB K):=by subst h;exact GJ
noncomputable def mR:FN:=fun xs M=>match xs with
 |[.d (.list ds)]=>(gE ds).bind fun ns=>if ns.length<64 then some (.d (.list ((fX ns).map .int)),M)else none
 |_=>none
theorem FJ:∀{ds:List PyData}{ns:List Int},gE ds=some ns->ds=ns.map .int
 |[],_=>fun h=>by cases h;rfl
 |d::ds,ns=>fun h=>by
  cases d with
  |int n=>
   obtain⟨ms,h1,h2⟩:=Option.bind_eq_some_iff.mp (show(gE ds).bind (fun ns=>some (n::ns))=some ns from h);cases h2;rw[FJ h1];rfl
  |_=>cases h
theorem tF{K:Fg}{H:Hp}:∀{ns:List Int}{us:List V},aI K H (ns.map .int) us->us=ns.map .int
 |[],_=>fun h=>h
 |n::ns,_=>fun h=>by
  obtain⟨v,r,rfl,h1,h2⟩:=(show ∃v r,_=v::r/\Rep K H (.int n) v/\aI K H (ns.map .int) r from h);rw[tF h2,show v=V.int n from h1];rfl
theorem SQ:PN K (HB K) mR:=by
 intro xs M z M' h W H vs Q G r k;unfold mR at h;split at h
 .rename_i ds;obtain⟨ns,h1,h⟩:=aH h;by_cases hl:ns.length<64
  .rw[A7 hl]at h;cases h;rcases r with _|⟨r1,_|_⟩;obtain⟨p,us,rfl,hq,hr⟩:=(show ∃a us,_=V.ref a/\SqL K W.F a us/\aI K W.F ds us from r1);rw[FJ h1]at hr;rw[tF hr]at hq;refine⟨p,ns,rfl,G.fh.seq hq,hl,fun l hln=>?_⟩;obtain⟨e2,G2⟩:=G.lay (o:=.lst ((fX ns).map .int)) hln;exact k _ _ _ e2 G2 ⟨l,_,rfl,SqL.of aN,HZ _⟩
  .rw[B0 hl]at h;cases h
 .cases h
theorem aAw{ι:Type}{X:ι->Cx}(hK:∀i,(X i).K=K):QN K X (.builtin "sorted") mR:=⟨_,fun i=>aFg (hK i),SQ⟩
section
variable{X:Cx}{pos:Pos}
noncomputable def RR(K:Fg)(n:Nat)(t:TGs):TG:=fun v σ H Q=>∃a xs,v=.ref a/\SqL K H a xs/\xs.length=n/\t xs σ H Q
theorem aAY{es:List Expr}{k:Nat}{t:TGs}{n:Nat}(hc:X.calm=true)(h:PGs X es t)
 (hn:(assignEach es X.env).length=n) (hst:(assignEach es X.env).findIdx? (·.1)=none):PG X (.Tuple es k pos) (RR X.K n t):=by
 intro pins s σ H v u Q I r hw;obtain⟨a,xs,e1,hq,hl,hw⟩:=hw;subst e1;cases r;obtain⟨its,rv,pl,hz⟩:=I.list hq;have e:(assignEach es X.env).length=its.toArray.size:=by simp[hn,<- hl,rv.length]
 rw[assign_Tuple];refine A4 (wpAny_standAt ?_);refine A4 (L4 ?_);rw[hst,e];refine PySem.W.kun_itemsOf (I.ok.hd hc) pl.isList fun h' hx=>?_;have I1:Inv X pins σ H { s with heap:=h' }:=I.kept (t':=s.toks) fun b o e=>hx b o (D1 (B8 e)) e;exact h pins _ σ H xs _ Q I1 (by simpa using rv) hw
theorem VQ{es:List Expr}{k:Nat}{t:TGs}{n:Nat}(e:X.K=K)(hc:X.calm=true)(h:PGs X es t)
 (hn:(assignEach es X.env).length=n) (hst:(assignEach es X.env).findIdx? (·.1)=none):PG X (.Tuple es k pos) (RR K n t):=by subst e;exact aAY hc h hn hst
end
noncomputable def zK(n:Nat)(g:GsF):GF:=fun x γ M=>match x with
 |.d (.list ds)=>if ds.length=n then g (ds.map .d) γ M else none
 |_=>none
theorem YO{tgs:TGs}{hgs:GsF}{n:Nat}(b:SGs K tgs hgs):SG K (RR K n tgs) (zK n hgs):=by
 intro x γ M γ' M' hh W H σ v Q G R r k;unfold zK at hh;split at hh
 .rename_i ds;by_cases hl:ds.length=n
  .rw[A7 hl]at hh;obtain⟨a,vs,rfl,h2,h3⟩:=(show ∃a vs,v=.ref a/\SqL K W.F a vs/\aI K W.F ds vs from r);exact⟨a,vs,rfl,G.fh.seq h2,by rw[<- h3.length];exact hl,b _ _ _ _ _ hh W H σ vs Q G R (eJ h3) k⟩
  .rw[B0 hl]at hh;cases hh
 .cases hh
theorem aAI{ι:Type}{X:ι->Cx}{es:List Expr}{pos:Pos}{gs:GsF}{k n:Nat}(hK:∀i,(X i).K=K)(hc:∀i,(X i).calm=true)(x:MGs K X es gs)(hn:∀env:Env,(assignEach es env).length=n:=by intro _;rfl)(hst:∀env:Env,(assignEach es env).findIdx? (·.1)=none:=by intro _;rfl):MG K X (.Tuple es k pos) (zK n gs):=by
 obtain⟨t,x1,x2⟩:=x.ex;exact⟨_,fun i=>VQ (hK i) (hc i) (x1 i) (hn _) (hst _),YO x2⟩
end L2
section
noncomputable section
namespace Q32
open PySem PySem.Spec PyProof.Rows L2
noncomputable def top(i:Nat):Stmt:=PySem.Challenge.pw_cutstree_k32_least_by_tree.main.body.getD i (.Pass ⟨0,0,0,0⟩)
noncomputable def fE:List (Str×Bool):=[("NoTree",true),("OnePlace",true)]
noncomputable def kS:List (Str×Bool):=[("NoTree",true),("OnePlace",false)]
noncomputable def gU:List (Str×Bool):=[("NoTree",false),("OnePlace",true)]
theorem ar1{α:Type}{P:List α->Prop}{us:List α}(hl:us.length=1)(h:∀a0,P [a0]):P us:=by
 rcases us with _|⟨a0,_|⟨c,r⟩⟩<;>first|exact h _|cases hl
theorem ar2{α:Type}{P:List α->Prop}{us:List α}(hl:us.length=2)(h:∀a0 a1,P [a0,a1]):P us:=by
 rcases us with _|⟨a0,_|⟨a1,_|⟨c,r⟩⟩⟩<;>first|exact h _ _|cases hl
theorem ar3{α:Type}{P:List α->Prop}{us:List α}(hl:us.length=3)(h:∀a0 a1 a2,P [a0,a1,a2]):P us:=by
 rcases us with _|⟨a0,_|⟨a1,_|⟨a2,_|⟨c,r⟩⟩⟩⟩<;>first|exact h _ _ _|cases hl
set_option hygiene false
local macro_rules | `(tactic| sleep 990) => `(tactic| exact ⟨rfl, rfl, rfl, by decide +kernel, rfl, by decide +kernel, by decide +kernel⟩)
local macro_rules | `(tactic| sleep 991) => `(tactic| (intro _ _ _ _ _ _ _ hl; apply ar1 hl; intros; rfl))
local macro_rules | `(tactic| sleep 992) => `(tactic| (intro _ _ _ _ _ _ _ hl; apply ar2 hl; intros; rfl))
local macro_rules | `(tactic| sleep 993) => `(tactic| (intro _ _ _ _ _ _ _ hl; apply ar3 hl; intros; rfl))
set_option hygiene true
noncomputable abbrev lS:Stmt:=top 28
noncomputable abbrev sQ:List Str:=["_law_script","_law_many","_law_row","_law_odd","_law_deck_here","_law_k","_law_at","_law_one"]
noncomputable abbrev nE:List Str:=["_law_script","_law_many"]
theorem sc__law_deck:aT sQ nE (aJ lS):=by sleep 990
noncomputable def oY:EF:=(dE (aA (fC (.int 48271)) (aA (fC (.int 69621)) (aA (fC (.int 39373)) (aA (fC (.int 40692)) aF)))))
theorem uU(γ:Ga)(M:Sto):oY γ M=some (.d (.list [(.int 48271),(.int 69621),(.int 39373),(.int 40692)]),M):=rfl
noncomputable def eB:SF:=(aR (bG (fOp iJ (aD 5) (aK bW (aA (aD 2) aF))) (hName 6))
 (aR (bG (fOp iJ (fOp ixF (aD 2) (aD 6)) (fC (.int 1000000))) (hName 7))
 (aR (sIf (gB (fOp (eqX false) (aD 3) (fC (.int 0))))
  (aR (bG (fOp iJ (fOp bM (fOp bM (fOp ixF (aD 2) (aD 6)) (fOp sG (fOp sG (aD 5) (aD 5)) (fC (.int 16807)))) (fOp sG (fC (.int 3)) (aD 5))) (fC (.int 2147483629))) (hName 7))
 (aR (bG (fOp iJ (fOp bM (fOp sG (aD 7) (fOp ixF oY (fOp iJ (aD 5) (fC (.int 4))))) (fC (.int 7))) (fC (.int 2147483647))) (hName 7))
 (bG (fOp iJ (fOp sG (aD 7) (aD 7)) (fC (.int 2147483629))) (hName 7))))
  (bG (fOp wH (fOp ixF (aD 2) (aD 6)) (fC (.int 1000000))) (hSub (aD 2) (aD 6) pQ)))
 (eL (bH "list" bB (aD 4) (aA (aD 7) aF))))))
noncomputable def jN:SF:=(aR (bG (aK yT (aA (aD 0) aF)) (hName 2))
 (aR (sIf (gB (fOp (eqY false) (aD 2) (dE aF)))
  (bG (jB (aA (fC (.int 4)) aF)) (hName 2))
  dN)
 (aR (bG (fOp iJ (fOp ixF (aD 2) (fC (.int 0))) (fC (.int 2))) (hName 3))
 (aR (bG (fOp wH (fOp ixF (aD 2) (fC (.int 0))) (fC (.int 2))) (hSub (aD 2) (fC (.int 0)) pQ))
 (aR (bG (jB aF) (hName 4))
 (aR (jL (dW (aA (aD 1) aF)) (hName 5) eB)
 (aR (eL (bH "list" iU (aD 4) aF))
 (dD (aD 4)))))))))
noncomputable def jW:FN:=fnF 2 8 jN
noncomputable abbrev jI:Stmt:=top 29
noncomputable abbrev oX:List Str:=["_law_draw","_law_some"]
noncomputable abbrev kO:List Str:=["_law_draw"]
theorem sc__law_amount:aT oX kO (aJ jI):=by sleep 990
noncomputable def iD:EF:=(dE (aA (bK (aA (fC (.int 1)) (aA (fC (.int 1)) aF))) (aA (bK (aA (fC (.int 1)) (aA (fC (.int 1)) aF))) (aA (bK (aA (fC (.int 2)) (aA (fC (.int 1)) aF))) (aA (bK (aA (fC (.int 1)) (aA (fC (.int 2)) aF))) (aA (bK (aA (fC (.int 3)) (aA (fC (.int 4)) aF))) (aA (bK (aA (fC (.int 0)) (aA (fC (.int 1)) aF))) (aA (bK (aA (fOp ER (fC (.int 10)) (fC (.int 40))) (aA (fC (.int 3)) aF))) (aA (bK (aA (fC (.int 5)) (aA (fC (.int 7)) aF))) (aA (bK (aA (fC (.int 1)) (aA (fC (.int 1)) aF))) (aA (bK (aA (fC (.int 2)) (aA (fC (.int 1)) aF))) (aA (bK (aA (fC (.int 13)) (aA (fC (.int 55440)) aF))) (aA (bK (aA (fC (.int 4)) (aA (fC (.int 3)) aF))) aF)))))))))))))
theorem rT(γ:Ga)(M:Sto):iD γ M=some (.d (.list [(.tuple [(.int 1),(.int 1)]),(.tuple [(.int 1),(.int 1)]),(.tuple [(.int 2),(.int 1)]),(.tuple [(.int 1),(.int 2)]),(.tuple [(.int 3),(.int 4)]),(.tuple [(.int 0),(.int 1)]),(.tuple [(.int 10000000000000000000000000000000000000000),(.int 3)]),(.tuple [(.int 5),(.int 7)]),(.tuple [(.int 1),(.int 1)]),(.tuple [(.int 2),(.int 1)]),(.tuple [(.int 13),(.int 55440)]),(.tuple [(.int 4),(.int 3)])]),M):=rfl
noncomputable def jZ:SF:=(aR (bG iD (hName 1))
 (dD (fOp ixF (aD 1) (fOp iJ (aD 0) (fC (.int 12))))))
noncomputable def fH:FN:=fnF 1 2 jZ
noncomputable abbrev lY:Stmt:=top 30
noncomputable abbrev sX:List Str:=["_law_deck_here","_law_many","_law_names","_law_k","_law_at","_law_found","_law_i","_law_j"]
noncomputable abbrev mV:List Str:=["_law_deck_here","_law_many"]
theorem sc__law_tree:aT sX mV (aJ lY):=by sleep 990
noncomputable def fJ:SF:=(aR (bG (fOp iJ (bH "list" iR (aD 0) aF) (aD 1)) (hName 4))
 (bG (bK (aA (fOp ixF (aD 2) (aD 4)) (aA (fOp ixF (aD 2) (aD 3)) aF))) (iP 2 (aY (hSub (aD 2) (aD 3) pQ) (aY (hSub (aD 2) (aD 4) pQ) gK)))))
noncomputable def fI:SF:=(aR (bG (aK mR (aA (dE (aA (fOp ixF (aD 2) (aD 3)) (aA (fOp ixF (aD 2) (fOp iJ (bH "list" iR (aD 0) aF) (aD 3))) aF))) aF)) (zK 2 (aY (hName 6) (aY (hName 7) gK))))
 (eL (bH "list" bB (aD 5) (aA (bK (aA (aD 6) (aA (aD 7) (aA (aK fH (aA (bH "list" iR (aD 0) aF) aF)) aF)))) aF))))
noncomputable def nI:SF:=(aR (bG (vU true (aA (aD 1) aF)) (hName 2))
 (aR (jL (dW (aA (aD 1) aF)) (hName 3) fJ)
 (aR (bG (jB aF) (hName 5))
 (aR (jL (nT (aA (fC (.int 1)) (aA (aD 1) aF))) (hName 3) fI)
 (dD (aK sM (aA (aD 5) aF)))))))
noncomputable def jP:FN:=fnF 2 8 nI
noncomputable abbrev rE:Stmt:=top 6
noncomputable abbrev DP:List Str:=["thing"]
noncomputable abbrev wQ:List Str:=["thing"]
theorem NG:aT DP wQ (aJ rE):=by sleep 990
noncomputable def FG:SF:=(dD (IU "list" "tuple" (aD 0)))
noncomputable def qG:FN:=fnF 1 1 FG
noncomputable abbrev lE:Stmt:=top 7
noncomputable abbrev sU:List Str:=["thing","length"]
noncomputable abbrev nF:List Str:=["thing","length"]
theorem BY:aT sU nF (aJ lE):=by sleep 990
noncomputable def sN:SF:=(dD (mH (aK qG (aA (aD 0) aF)) (fOp (eqX false) (aK bW (aA (aD 0) aF)) (aD 1))))
noncomputable def gZ:FN:=fnF 2 2 sN
noncomputable abbrev rP:Stmt:=top 15
noncomputable abbrev FA:List Str:=["one","other"]
noncomputable abbrev uR:List Str:=["one","other"]
theorem sc_common:aT FA uR (aJ rP):=by sleep 990
noncomputable def pT:SF:=(pM (xK (aD 1)) (XE 0 1 (aA (aD 1) (aA (fOp iJ (aD 0) (aD 1)) aF))))
noncomputable def DA:SF:=(aR pT
 (dD (aD 0)))
noncomputable def vB:FN:=fnF 2 2 DA
noncomputable abbrev nB:Stmt:=top 5
noncomputable abbrev wR:List Str:=["thing"]
noncomputable abbrev pG:List Str:=["thing"]
theorem FS:aT wR pG (aJ nB):=by sleep 990
noncomputable def wF:SF:=(dD (mH (BN "int" (aD 0)) (YE (BN "bool" (aD 0)))))
noncomputable def jK:FN:=fnF 1 1 wF
noncomputable abbrev eD:Stmt:=top 14
noncomputable abbrev gT:List Str:=["thing"]
noncomputable abbrev eM:List Str:=["thing"]
theorem mF:aT gT eM (aJ eD):=by sleep 990
noncomputable def cE:SF:=(aR (sIf (gOr (tS (gB (aK gZ (aA (aD 0) (aA (fC (.int 2)) aF))))) (gOr (tS (gB (aK jK (aA (fOp ixF (aD 0) (fC (.int 0))) aF)))) (tS (gB (aK jK (aA (fOp ixF (aD 0) (fC (.int 1))) aF))))))
 (dD (fC (.bool false)))
 dN)
 (dD (mH (fOp geI (fOp ixF (aD 0) (fC (.int 0))) (fC (.int 0))) (fOp geI (fOp ixF (aD 0) (fC (.int 1))) (fC (.int 1))))))
noncomputable def bU:FN:=fnF 1 1 cE
noncomputable abbrev lW:Stmt:=top 13
noncomputable abbrev tK:List Str:=["thing"]
noncomputable abbrev nK:List Str:=["thing"]
theorem BO:aT tK nK (aJ lW):=by sleep 990
noncomputable def gX:SF:=(dD (mH (aK bU (aA (aD 0) aF)) (fOp (eqX false) (aK vB (aA (fOp ixF (aD 0) (fC (.int 0))) (aA (fOp ixF (aD 0) (fC (.int 1))) aF))) (fC (.int 1)))))
noncomputable def eP:FN:=fnF 1 1 gX
noncomputable abbrev mZ:Stmt:=top 8
noncomputable abbrev uX:List Str:=["many","thing"]
noncomputable abbrev pY:List Str:=["many","thing"]
theorem DC:aT uX pY (aJ mZ):=by sleep 990
noncomputable def lU:SF:=(dD (mH (aK jK (aA (aD 1) aF)) (BB leI ltI (fC (.int 0)) (aD 1) (aD 0))))
noncomputable def gF:FN:=fnF 2 2 lU
noncomputable abbrev eI:Stmt:=top 9
noncomputable abbrev iI:List Str:=["many","i","j"]
noncomputable abbrev eY:List Str:=["many","i","j"]
theorem nV:aT iI eY (aJ eI):=by sleep 990
noncomputable def cM:SF:=(dD (mH (aK gF (aA (aD 0) (aA (aD 1) aF))) (mH (aK gF (aA (aD 0) (aA (aD 2) aF))) (fOp (eqX true) (aD 1) (aD 2)))))
noncomputable def bQ:FN:=fnF 3 3 cM
noncomputable abbrev eK:Stmt:=top 10
noncomputable abbrev iG:List Str:=["many","thing"]
noncomputable abbrev eX:List Str:=["many","thing"]
theorem mI:aT iG eX (aJ eK):=by sleep 990
noncomputable def bZ:SF:=(dD (mH (aK gZ (aA (aD 1) (aA (fC (.int 3)) aF))) (mH (aK bQ (aA (aD 0) (aA (fOp ixF (aD 1) (fC (.int 0))) (aA (fOp ixF (aD 1) (fC (.int 1))) aF)))) (fOp ltI (fOp ixF (aD 1) (fC (.int 0))) (fOp ixF (aD 1) (fC (.int 1)))))))
noncomputable def aW:FN:=fnF 2 2 bZ
noncomputable abbrev fU:Stmt:=top 23
noncomputable abbrev kK:List Str:=["tree","beside","at","row"]
noncomputable abbrev kJ:List Str:=["tree"]
theorem sc_rows_beside:aT kK kJ (aJ fU):=by sleep 990
noncomputable def iC:EF:=(PP [none] (dW (aA (fOp bM (aK bW (aA (aD 0) aF)) (fC (.int 1))) aF)) (hName 0) gV (jB aF))
noncomputable def fM:SF:=(aR (eL (bH "list" bB (fOp ixF (aD 1) (fOp ixF (aD 3) (fC (.int 0)))) (aA (bK (aA (fOp ixF (aD 3) (fC (.int 1))) (aA (aD 2) aF))) aF)))
 (eL (bH "list" bB (fOp ixF (aD 1) (fOp ixF (aD 3) (fC (.int 1)))) (aA (bK (aA (fOp ixF (aD 3) (fC (.int 0))) (aA (aD 2) aF))) aF))))
noncomputable def kL:SF:=(aR (bG iC (hName 1))
 (aR (jL (DS (aA (aD 0) aF)) (iP 2 (aY (hName 2) (aY (hName 3) gK))) fM)
 (dD (aD 1))))
noncomputable def gP:FN:=fnF 1 4 kL
noncomputable abbrev kN:Stmt:=top 22
noncomputable abbrev qN:List Str:=["tree","start","beside","seen","waiting","steps","here","there","at"]
noncomputable abbrev lH:List Str:=["tree","start"]
theorem sc_steps_from:aT qN lH (aJ kN):=by sleep 990
noncomputable def cV:SF:=(sIf (gB (xF true (xA (aD 7)) (aD 3)))
 (aR (pN (aD 3) (xA (aD 7)) (fC (.bool true)))
 (aR (eL (bH "list" bB (aD 4) (aA (aD 7) aF)))
 (eL (bH "list" bB (aD 5) (aA (bK (aA (aD 6) (aA (aD 7) (aA (aD 8) aF)))) aF)))))
  dN)
noncomputable def nP:SF:=(pM (xK (aD 4)) (aR (bG (bH "list" iR (aD 4) aF) (hName 6))
 (yY (oB (fOp ixF (aD 2) (aD 6))) (iP 2 (aY (hName 7) (aY (hName 8) gK))) cV)))
noncomputable def lC:SF:=(aR (bG (aK gP (aA (aD 0) aF)) (hName 2))
 (aR (bG (vH [((aD 1),(fC (.bool true)))]) (hName 3))
 (aR (bG (jB (aA (aD 1) aF)) (hName 4))
 (aR (bG (jB aF) (hName 5))
 (aR nP
 (dD (aD 5)))))))
noncomputable def dS:FN:=fnF 2 9 lC
noncomputable abbrev iN:Stmt:=top 11
noncomputable abbrev nX:List Str:=["row"]
noncomputable abbrev nD:List Str:=["row"]
theorem AO:aT nX nD (aJ iN):=by sleep 990
noncomputable def kC:EF:=(fLc [none,none] (aBb (aA (aD 0) (aA (fSl (aD 0) (bY (fC (.int 1))) bF) aF))) (iP 2 (aY (hName 0) (aY (hName 1) gK))) gV (fOp ltX (aD 0) (aD 1)))
noncomputable def mL:SF:=(dD (aK DN (aA kC aF)))
noncomputable def jT:FN:=fnF 1 1 mL
noncomputable abbrev jG:Stmt:=top 19
noncomputable abbrev oD:List Str:=["many","tree"]
noncomputable abbrev rH:List Str:=["many","tree"]
theorem HN:aT oD rH (aJ jG):=by sleep 990
noncomputable def tI:EF:=(fLc [some 0,none] (cF (aD 1)) (hName 1) gV (mH (aK aW (aA (aD 0) (aA (aD 1) aF))) (aK eP (aA (fOp ixF (aD 1) (fC (.int 2))) aF))))
noncomputable def tJ:EF:=(fLc [none] (cF (aD 1)) (hName 0) gV (bK (aA (fOp ixF (aD 0) (fC (.int 0))) (aA (fOp ixF (aD 0) (fC (.int 1))) aF))))
noncomputable def fP:SF:=(aR (sIf (gOr (gB (fOp gtI (aD 0) (fC (.int 40)))) (tS (gB (aK gZ (aA (aD 1) (aA (fOp TV (aD 0) (fC (.int 1))) aF))))))
 (dD (fC (.bool false)))
 dN)
 (aR (sIf (tS (gB (aK DN (aA tI aF))))
  (dD (fC (.bool false)))
  dN)
 (dD (mH (aK jT (aA tJ aF)) (fOp (eqX false) (aK bW (aA (aK dS (aA (aD 1) (aA (fC (.int 0)) aF))) aF)) (fOp TV (aD 0) (fC (.int 1))))))))
noncomputable def cU:FN:=fnF 2 2 fP
noncomputable abbrev gC:Stmt:=top 20
noncomputable abbrev lA:List Str:=["tree"]
noncomputable abbrev gL:List Str:=["tree"]
theorem qB:aT lA gL (aJ gC):=by sleep 990
noncomputable def dJ:SFX:=(OU (gOr (tS (gB (aK qG (aA (aD 0) aF)))) (tS (gB (aK cU (aA (fOp bM (aK bW (aA (aD 0) aF)) (fC (.int 1))) (aA (aD 0) aF))))))
 (rO "NoTree")
 (liS dN))
noncomputable def cC:FX:=fnX 1 1 dJ
noncomputable abbrev nJ:Stmt:=top 16
noncomputable abbrev wU:List Str:=["one","other"]
noncomputable abbrev pL:List Str:=["one","other"]
theorem DZ:aT wU pL (aJ nJ):=by sleep 990
noncomputable def pV:SF:=(dD (fOp ltI (fOp sG (fOp ixF (aD 0) (fC (.int 0))) (fOp ixF (aD 1) (fC (.int 1)))) (fOp sG (fOp ixF (aD 1) (fC (.int 0))) (fOp ixF (aD 0) (fC (.int 1))))))
noncomputable def lJ:FN:=fnF 2 2 pV
noncomputable abbrev iY:Stmt:=top 24
noncomputable abbrev oU:List Str:=["tree","indexes","least","at"]
noncomputable abbrev kG:List Str:=["tree","indexes"]
theorem sc_first_least:aT oU kG (aJ iY):=by sleep 990
noncomputable def dZ:SF:=(sIf (gB (aK lJ (aA (fOp ixF (fOp ixF (aD 0) (aD 3)) (fC (.int 2))) (aA (fOp ixF (fOp ixF (aD 0) (aD 2)) (fC (.int 2))) aF))))
 (bG (aD 3) (hName 2))
 dN)
noncomputable def kD:SF:=(aR (bG (fOp ixF (aD 1) (fC (.int 0))) (hName 2))
 (aR (jL (cF (aD 1)) (hName 3) dZ)
 (dD (aD 2))))
noncomputable def eA:FN:=fnF 2 4 kD
noncomputable abbrev jJ:Stmt:=top 21
noncomputable abbrev pC:List Str:=["tree","k","behind","here","there","at"]
noncomputable abbrev kE:List Str:=["tree","k"]
theorem sc_side_behind:aT pC kE (aJ jJ):=by sleep 990
noncomputable def cZ:SF:=(sIf (gOr (gB (fOp (eqX false) (aD 5) (aD 1))) (gB (xF false (xA (aD 3)) (aD 2))))
 (pN (aD 2) (xA (aD 4)) (fC (.bool true)))
 dN)
noncomputable def kF:SF:=(aR (bG BG (hName 2))
 (aR (jL (cF (gQ (aK dS (aA (aD 0) (aA (fC (.int 0)) aF))))) (iP 3 (aY (hName 3) (aY (hName 4) (aY (hName 5) gK)))) cZ)
 (dD (aK eZ (aA (aK oE (aA (aD 2) aF)) aF)))))
noncomputable def fB:FN:=fnF 2 6 kF
noncomputable abbrev gM:Stmt:=top 26
noncomputable abbrev lZ:List Str:=["tree","k"]
noncomputable abbrev hW:List Str:=["tree"]
theorem sc_least_by_tree:aT lZ hW (aJ gM):=by sleep 990
noncomputable def dY:SFX:=(mC (lQ (qX cC (liA (aA (aD 0) aF))))
 (mC (OU (gB (fOp (eqX false) (aK bW (aA (aD 0) aF)) (fC (.int 0))))
  (rO "OnePlace")
  (liS dN))
 (liS (aR (bG (aK eA (aA (aD 0) (aA (hX (aA (aK bW (aA (aD 0) aF)) aF)) aF))) (hName 1))
 (dD (bK (aA (aK eZ (aA (fOp ixF (fOp ixF (aD 0) (aD 1)) (fC (.int 2))) aF)) (aA (aK fB (aA (aD 0) (aA (aD 1) aF))) aF))))))))
noncomputable def bD:FX:=fnX 1 2 dY
noncomputable abbrev gN:Stmt:=top 31
noncomputable abbrev lV:List Str:=["_law_tree_here","_law_at","_law_near","_law_turn","_law_k","_law_i","_law_j","_law_amount_here"]
noncomputable abbrev lK:List Str:=["_law_tree_here","_law_at"]
theorem sc__law_apart:aT lV lK (aJ gN):=by sleep 990
noncomputable def cG:SF:=(aR (bG (fOp ixF (aD 0) (aD 4)) (iP 3 (aY (hName 5) (aY (hName 6) (aY (hName 7) gK)))))
 (sIf (aBk (gB (fOp (eqX true) (aD 4) (aD 1))) (gB (fOp (eqX true) (fOp (inC false) (aD 5) (aD 2)) (fOp (inC false) (aD 6) (aD 2)))))
  (eL (bH "list" bB (aD 2) (aA (fOp ixF (dE (aA (aD 6) (aA (aD 5) aF))) (aK AB (aA (fOp (inC false) (aD 6) (aD 2)) aF))) aF)))
  dN))
noncomputable def fZ:SF:=(jL (dW (aA (aK bW (aA (aD 0) aF)) aF)) (hName 4) cG)
noncomputable def iW:EF:=(fLc [some 2,none] (dW (aA (fOp bM (aK bW (aA (aD 0) aF)) (fC (.int 1))) aF)) (hName 1) (gB (fOp (inC true) (aD 1) (aD 0))) (aD 1))
noncomputable def lI:SF:=(aR (bG (jB (aA (fC (.int 0)) aF)) (hName 2))
 (aR (jL (dW (aA (aK bW (aA (aD 0) aF)) aF)) (hName 3) fZ)
 (dD (aK eZ (aA iW aF)))))
noncomputable def eT:FN:=fnF 2 8 lI
noncomputable abbrev nO:Stmt:=top 32
noncomputable abbrev vM:List Str:=["_law_tree_here","_law_least","_law_k","_law_one","_law_two"]
noncomputable abbrev pR:List Str:=["_law_tree_here"]
theorem sc__law_due:aT vM pR (aJ nO):=by sleep 990
noncomputable def eU:SF:=(aR (bG (fOp ixF (fOp ixF (aD 0) (aD 2)) (fC (.int 2))) (hName 3))
 (aR (bG (fOp ixF (fOp ixF (aD 0) (aD 1)) (fC (.int 2))) (hName 4))
 (sIf (gB (fOp ltI (fOp sG (fOp ixF (aD 3) (fC (.int 0))) (fOp ixF (aD 4) (fC (.int 1)))) (fOp sG (fOp ixF (aD 4) (fC (.int 0))) (fOp ixF (aD 3) (fC (.int 1))))))
  (bG (aD 2) (hName 1))
  dN)))
noncomputable def pS:SF:=(aR (bG (fC (.int 0)) (hName 1))
 (aR (jL (dW (aA (aK bW (aA (aD 0) aF)) aF)) (hName 2) eU)
 (dD (bK (aA (fOp ixF (fOp ixF (aD 0) (aD 1)) (fC (.int 2))) (aA (aK eT (aA (aD 0) (aA (aD 1) aF))) aF))))))
noncomputable def lG:FN:=fnF 1 5 pS
noncomputable abbrev iM:Stmt:=top 34
noncomputable abbrev nN:List Str:=["_law_tree_here","_law_draw","_law_at","_law_i","_law_j","_law_amount_here","_law_found","_law_odd","_law_star"]
noncomputable abbrev mO:List Str:=["_law_tree_here","_law_draw"]
theorem sc__law_bent:aT nN mO (aJ iM):=by sleep 990
noncomputable def pE:EF:=(dE (aA (bK (aA (fC (.int 2)) (aA (fC (.int 2)) aF))) (aA (bK (aA (fC (.int 0)) (aA (fC (.int 2)) aF))) (aA (bK (aA (fUn EC (fC (.int 1))) (aA (fC (.int 1)) aF))) (aA (bK (aA (fC (.int 1)) (aA (fC (.int 0)) aF))) (aA (bK (aA (fC (.int 1)) (aA (fUn EC (fC (.int 1))) aF))) (aA (bK (aA (fC (.bool true)) (aA (fC (.int 1)) aF))) (aA (bK (aA (fC (.int 1)) (aA (fC (.bool true)) aF))) (aA (bK (aA (fC (.int 1)) aF)) (aA (bK (aA (fC (.int 1)) (aA (fC (.int 1)) (aA (fC (.int 1)) aF)))) (aA (fC .none) (aA (fC (.int 1)) (aA (fC (.str "1")) (aA mQ aF))))))))))))))
noncomputable def kB:SF:=(eL (bH "list" bB (aD 6) (aA (fOp bM (fOp bM (fSl (aD 0) bF (bY (aD 2))) (dE (aA (bK (aA (aD 3) (aA (aD 4) (aA (aD 7) aF)))) aF))) (fSl (aD 0) (bY (fOp bM (aD 2) (fC (.int 1)))) bF)) aF)))
noncomputable def kI:SF:=(eL (bH "list" bB (aD 6) (aA (fOp bM (fOp bM (fSl (aD 0) bF (bY (aD 2))) (dE (aA (aD 7) aF))) (fSl (aD 0) (bY (fOp bM (aD 2) (fC (.int 1)))) bF)) aF)))
noncomputable def gO:EF:=(fLc [some 5,none] (nT (aA (fC (.int 4)) (aA (fOp bM (aK bW (aA (aD 0) aF)) (fC (.int 1))) aF))) (hName 1) gV (bK (aA (fC (.int 3)) (aA (aD 1) (aA (aD 0) aF)))))
noncomputable def mM:SF:=(aR (bG (fOp iJ (aD 1) (aK bW (aA (aD 0) aF))) (hName 2))
 (aR (bG (fOp ixF (aD 0) (aD 2)) (iP 3 (aY (hName 3) (aY (hName 4) (aY (hName 5) gK)))))
 (aR (bG (jB (aA (fOp bM (fOp bM (fSl (aD 0) bF (bY (aD 2))) (fSl (aD 0) (bY (aD 2)) (bY (fOp bM (aD 2) (fC (.int 1)))))) (fSl (aD 0) (bY (aD 2)) bF)) (aA (fOp bM (fOp bM (fSl (aD 0) bF (bY (aD 2))) (dE (aA (bK (aA (aD 4) (aA (aD 3) (aA (aD 5) aF)))) aF))) (fSl (aD 0) (bY (fOp bM (aD 2) (fC (.int 1)))) bF)) aF))) (hName 6))
 (aR (bG (fOp OO (aD 6) (dE (aA (fOp bM (fOp bM (fSl (aD 0) bF (bY (aD 2))) (dE (aA (bK (aA (aD 3) (aA (fOp bM (aK bW (aA (aD 0) aF)) (fC (.int 1))) (aA (aD 5) aF)))) aF))) (fSl (aD 0) (bY (fOp bM (aD 2) (fC (.int 1)))) bF)) aF))) (hName 6))
 (aR (eL (bH "list" bB (aD 6) (aA (fOp bM (fOp bM (fSl (aD 0) bF (bY (aD 2))) (dE (aA (bK (aA (aD 3) (aA (aD 3) (aA (aD 5) aF)))) aF))) (fSl (aD 0) (bY (fOp bM (aD 2) (fC (.int 1)))) bF)) aF)))
 (aR (jL (cF pE) (hName 7) kB)
 (aR (jL (cF (dE (aA (fC .none) (aA (fC (.int 0)) (aA (bK (aA (aD 3) (aA (aD 4) aF))) (aA (bK (aA (aD 3) (aA (aD 4) (aA (aD 5) (aA (fC (.int 0)) aF))))) (aA (fC (.str "abc")) (aA (bK (aA (fC (.bool true)) (aA (aD 4) (aA (aD 5) aF)))) (aA (bK (aA (aD 3) (aA (fC .none) (aA (aD 5) aF)))) (aA mQ aF)))))))))) (hName 7) kI)
 (aR (sIf (gB (fOp gtI (aK bW (aA (aD 0) aF)) (fC (.int 1))))
  (aR (eL (bH "list" bB (aD 6) (aA (YA (aD 0) (bY (fUn EC (fC (.int 1))))) aF)))
 (eL (bH "list" bB (aD 6) (aA (fOp bM (fSl (aD 0) (bY (fC (.int 1))) bF) (fSl (aD 0) bF (bY (fC (.int 1))))) aF))))
  dN)
 (aR (sIf (gB (fOp gtI (aK bW (aA (aD 0) aF)) (fC (.int 2))))
  (aR (bG gO (hName 8))
 (eL (bH "list" bB (aD 6) (aA (fOp bM (dE (aA (bK (aA (fC (.int 0)) (aA (fC (.int 1)) (aA (aD 5) aF)))) (aA (bK (aA (fC (.int 0)) (aA (fC (.int 2)) (aA (aD 5) aF)))) (aA (bK (aA (fC (.int 1)) (aA (fC (.int 2)) (aA (aD 5) aF)))) aF)))) (aD 8)) aF))))
  dN)
 (dD (aD 6)))))))))))
noncomputable def eO:FN:=fnF 2 9 mM
noncomputable abbrev iA:Stmt:=top 33
noncomputable abbrev mJ:List Str:=["_law_thing","_law_caught","error","_law_kind"]
noncomputable abbrev jF:List Str:=["_law_thing"]
theorem sc__law_refused:aT mJ jF (aJ iA):=by sleep 990
noncomputable def eR:SF:=(bG (aD 2) (hName 1))
noncomputable def eS:SFX:=(lQ (qX bD (liA (aA (aD 0) aF))))
noncomputable def kY:EF:=(dE (aA (fC (.str "other")) (aA (fC (.str "no tree")) (aA (fC (.str "one place")) (aA (fC (.str "both")) aF)))))
theorem qC(γ:Ga)(M:Sto):kY γ M=some (.d (.list [(.str "other"),(.str "no tree"),(.str "one place"),(.str "both")]),M):=rfl
noncomputable def jC:SF:=(aR (bG (fC .none) (hName 1))
 (aR (NT eS [⟨[("NoTree",true),("OnePlace",true)],(some 2),eR⟩])
 (aR (sIf (tS (gB (yM fE (some false) (aD 1))))
  (dD (fC (.str "told")))
  dN)
 (aR (bG (fOp bM (aK AB (aA (yM kS (some false) (aD 1)) aF)) (fOp sG (fC (.int 2)) (aK AB (aA (yM gU (some false) (aD 1)) aF)))) (hName 3))
 (dD (fOp ixF kY (aD 3)))))))
noncomputable def bL:FN:=fnF 1 4 jC
noncomputable abbrev rZ:Stmt:=top 35
noncomputable abbrev CV:List Str:=["_law_script","_law_deck_here","_law_tree_here","_law_handed","_law_found","_law_thing","_law_long"]
noncomputable abbrev aBH:List Str:=["_law_script"]
theorem sc_law:aT CV aBH (aJ rZ):=by sleep 990
noncomputable def qE:EF:=(fLc [none,none,none] (cF (aD 2)) (iP 3 (aY (hName 0) (aY (hName 1) (aY (hName 2) gK)))) gV (dE (aA (aD 0) (aA (aD 1) (aA (aK uW (aA (aD 2) aF)) aF)))))
noncomputable def AK:EF:=(fLc [none] (cF (fOp ixF (aD 4) (fC (.int 1)))) (hName 0) gV (BN "bool" (aD 0)))
noncomputable def qF:SF:=(aR (bG (nA bD (aA (aD 3) aF)) (hName 4))
 (aR (sIf (gOr (tS (gB (BN "tuple" (aD 4)))) (gB (fOp (eqX true) (aD 4) (aK lG (aA (aD 2) aF)))))
  (dD (fC (.bool false)))
  dN)
 (sIf (gB (aK anyF (aA AK aF)))
  (dD (fC (.bool false)))
  dN)))
noncomputable def zX:EF:=(dE (aA (dE aF) aF))
theorem VJ(γ:Ga)(M:Sto):zX γ M=some (.d (.list [(.list [])]),M):=rfl
noncomputable def AN:EF:=(dE (aA (fC .none) aF))
theorem WZ(γ:Ga)(M:Sto):AN γ M=some (.d (.list [.none]),M):=rfl
noncomputable def tV:SF:=(sIf (gB (fOp (eqX true) (aK bL (aA (aD 5) aF)) (fC (.str "no tree"))))
 (dD (fC (.bool false)))
 dN)
noncomputable def zR:EF:=(bK (aA (fC (.int 1)) (aA (fC (.int 1)) aF)))
noncomputable def BI:EF:=(fLc [none] (nT (aA (fC (.int 1)) (aA (fC (.int 41)) aF))) (hName 0) gV (bK (aA (fC (.int 0)) (aA (aD 0) (aA zR aF)))))
noncomputable def AC:EF:=(bK (aA (bK (aA (fC (.int 1)) (aA (fC (.int 1)) aF))) (aA (bK (aA (fC (.int 1)) aF)) aF)))
noncomputable def UB:SF:=(aR (bG (aK jW (aA (aD 0) (aA (fC (.int 60)) aF))) (hName 1))
 (aR (bG (aK jP (aA (aD 1) (aA (fOp bM (fC (.int 2)) (fOp iJ (bH "list" iR (aD 1) aF) (fC (.int 11)))) aF))) (hName 2))
 (aR (jL (cF (dE (aA (aD 2) (aA (aK eZ (aA (aD 2) aF)) (aA qE aF))))) (hName 3) qF)
 (aR (jL (cF (fOp bM (gQ (aK eO (aA (aD 2) (aA (bH "list" iR (aD 1) aF) aF)))) (dE (aA (fC .none) (aA (fC (.int 0)) (aA (fC (.bool true)) (aA (fC (.str "")) (aA (fC (.str "ab")) (aA mQ (aA (yI [((fC (.int 0)),(fC (.int 0)))]) (aA AN (aA zX (aA (fOp ER (fC (.int 10)) (fC (.int 60))) aF))))))))))))) (hName 5) tV)
 (aR (bG BI (hName 6))
 (aR (sIf (gOr (gB (fOp (eqX true) (nA bD (aA (fSl (aD 6) bF (bY (fC (.int 39)))) aF)) AC)) (gB (fOp (eqX true) (aK bL (aA (aD 6) aF)) (fC (.str "no tree")))))
  (dD (fC (.bool false)))
  dN)
 (dD (mH (fOp (eqX false) (aK bL (aA (bK aF) aF)) (fC (.str "one place"))) (fOp (eqX false) (aK bL (aA (dE aF) aF)) (fC (.str "one place")))))))))))
noncomputable def F_law:FN:=fnF 1 7 UB
structure Txt(K:Fg)(mg:Str->Option Value):Prop where
 hB:MY mg ["ValueError","all","any","bool","enumerate","int","isinstance","len","list","range","sorted","tuple","zip"]
 v74:∃t:Tok,mg "MOST_PLACES"=some (.int 40 t)
 v69:mg "NoTree"=some (.ref (cR K "NoTree"))
 v15:PySem.W.excIn K (cR K "NoTree") bmV "ValueError.__new__"=true
 v70:mg "OnePlace"=some (.ref (cR K "OnePlace"))
 v17:PySem.W.excIn K (cR K "OnePlace") bmV "ValueError.__new__"=true
 v71:mg "CutError"=some (.ref (cR K "CutError"))
 v19:PySem.W.exmOne K (.ref (cR K "OnePlace")) (.ref (cR K "CutError"))=some true
 v20:PySem.W.exmOne K (.ref (cR K "NoTree")) (.ref (cR K "CutError"))=some true
 v72:XC K (cR K "NoTree")
 v73:XC K (cR K "OnePlace")
 v37:uV K (.type "ValueError") fE=true
 v38:PySem.W.kitOne K (.type "NoneType") (.type "ValueError")=some false
 v39:uV K (.ref (cR K "NoTree")) kS=true
 v40:PySem.W.kitOne K (.type "NoneType") (.ref (cR K "NoTree"))=some false
 v41:uV K (.ref (cR K "OnePlace")) gU=true
 v42:PySem.W.kitOne K (.type "NoneType") (.ref (cR K "OnePlace"))=some false
 v43:Def K mg "_law_deck" lS
 v44:Def K mg "_law_amount" jI
 v45:Def K mg "_law_tree" lY
 v46:Def K mg "is_row" rE
 v47:Def K mg "is_row_of" lE
 v48:Def K mg "common" rP
 v49:Def K mg "is_whole" nB
 v50:Def K mg "has_amount_numbers" eD
 v51:Def K mg "is_amount" lW
 v52:Def K mg "is_place" mZ
 v53:Def K mg "are_unlike_places" eI
 v54:Def K mg "is_between_places" eK
 v55:Def K mg "rows_beside" fU
 v56:Def K mg "steps_from" kN
 v57:Def K mg "is_rising" iN
 v58:Def K mg "is_tree" jG
 v59:Def K mg "refuse_no_tree" gC
 v60:Def K mg "is_below" nJ
 v61:Def K mg "first_least" iY
 v62:Def K mg "side_behind" jJ
 v63:Def K mg "least_by_tree" gM
 v64:Def K mg "_law_apart" gN
 v65:Def K mg "_law_due" nO
 v66:Def K mg "_law_bent" iM
 v67:Def K mg "_law_refused" iA
 v68:Def K mg "law" rZ
section
variable{P:Program}{w:World}{K:Fg}{mg:Str->Option Value}{base:Heap}
theorem CA(T:Txt K mg):∀nm∈(["NoTree","OnePlace"]:List Str),XC K (cR K nm):=(DH T.v72 (DH T.v73 ZG))
theorem BJ(T:Txt K mg):Callee P w K mg base 1 "_law_deck" nE (spM K jW):=
 T.v43.okG (N:=sQ) (ps:=nE) (k:=0) (b:=jN) sc__law_deck (by sleep 992) fun f cdv A outer s H E hr=>
  (aL (bJ 2 (fun _=>sc__law_deck.nd) (fT (aAW (fun _=>rfl)) (fun _=>T.hB.of "list") boot_list (aB (aC 0) aE)))
   (aL (hV (fO (aHb (fun _=>rfl) (fun _=>hr.units)) (aC 2) (cX aE))
    (aO (bJ 2 (fun _=>sc__law_deck.nd) (mW (aB aG aE))))
    eF)
   (aL (bJ 3 (fun _=>sc__law_deck.nd) (aX kW (bA cB (aC 2) aG) aG))
   (aL (rM (aX XZ (bA cB (aC 2) aG) aG) (BK LA (aC 2) aG))
   (aL (bJ 4 (fun _=>sc__law_deck.nd) (mW aE))
   (aL (gI (fun _=>E3) (fun _=>rfl) (lM (fun _=>T.hB.of "range") (aB (aC 1) aE)) (aS 5 (fun _=>sc__law_deck.nd))
    (aL (bJ 6 (fun _=>sc__law_deck.nd) (aX kW (aC 5) (bO iH (fun _=>T.hB.of "len") S8 (aB (aC 2) aE))))
   (aL (bJ 7 (fun _=>sc__law_deck.nd) (aX kW (bA cB (aC 2) (aC 6)) aG))
   (aL (hV (fO (DK (fun _=>rfl) (fun _=>hr.units)) (aC 3) aG)
    (aL (bJ 7 (fun _=>sc__law_deck.nd) (aX kW (aX cW (aX cW (bA cB (aC 2) (aC 6)) (aX oV (aX oV (aC 5) (aC 5)) aG)) (aX oV aG (aC 5))) aG))
   (aL (bJ 7 (fun _=>sc__law_deck.nd) (aX kW (aX cW (aX oV (aC 7) (bA cB (cX (aB aG (aB aG (aB aG (aB aG aE))))) (aX kW (aC 5) aG))) aG) aG))
   (aO (bJ 7 (fun _=>sc__law_deck.nd) (aX kW (aX oV (aC 7) (aC 7)) aG)))))
    (aO (rM (aX XZ (bA cB (aC 2) (aC 6)) aG) (BK LA (aC 2) (aC 6)))))
   (aO (eG (cS (fun _=>rfl) (aC 4) (aB (aC 7) aE))))))))
   (aL (eG (GU (fun _=>rfl) (aC 4)))
   (aO (bP (aC 4))))))))))
theorem wY(T:Txt K mg):Callee P w K mg base 1 "_law_amount" kO (spM K fH):=
 T.v44.okG (N:=oX) (ps:=kO) (k:=0) (b:=jZ) sc__law_amount (by sleep 991) fun f cdv A outer s H E hr=>
  (aL (bJ 1 (fun _=>sc__law_amount.nd) (cX (aB (aU (aB aG (aB aG aE))) (aB (aU (aB aG (aB aG aE))) (aB (aU (aB aG (aB aG aE))) (aB (aU (aB aG (aB aG aE))) (aB (aU (aB aG (aB aG aE))) (aB (aU (aB aG (aB aG aE))) (aB (aU (aB (aX aBG aG aG) (aB aG aE))) (aB (aU (aB aG (aB aG aE))) (aB (aU (aB aG (aB aG aE))) (aB (aU (aB aG (aB aG aE))) (aB (aU (aB aG (aB aG aE))) (aB (aU (aB aG (aB aG aE))) aE))))))))))))))
   (aO (bP (bA cB (aC 1) (aX kW (aC 0) aG)))))
theorem BV(T:Txt K mg):Callee P w K mg base 2 "_law_tree" mV (spM K jP):=
 T.v45.okG (N:=sX) (ps:=mV) (k:=1) (b:=nI) sc__law_tree (by sleep 992) fun f cdv A outer s H E hr=>
  (aL (bJ 2 (fun _=>sc__law_tree.nd) (SN true (fun _=>rfl) (fun _=>T.hB.of "range") (fun _=>T.hB.of "list") (aB (aC 1) aE)))
   (aL (gI (fun _=>E3) (fun _=>rfl) (lM (fun _=>T.hB.of "range") (aB (aC 1) aE)) (aS 3 (fun _=>sc__law_tree.nd))
    (aL (bJ 4 (fun _=>sc__law_tree.nd) (aX kW (rR (fun _=>rfl) (aC 0)) (aC 1)))
   (aO (rM (aU (aB (bA cB (aC 2) (aC 4)) (aB (bA cB (aC 2) (aC 3)) aE))) (nR (fun _=>rfl) (fun _=>rfl) (bN (BK LA (aC 2) (aC 3)) (bN (BK LA (aC 2) (aC 4)) iL)))))))
   (aL (bJ 5 (fun _=>sc__law_tree.nd) (mW aE))
   (aL (gI (fun _=>E3) (fun _=>rfl) (AS (fun _=>T.hB.of "range") (aB aG (aB (aC 1) aE))) (aS 3 (fun _=>sc__law_tree.nd))
    (aL (rM (bO (aAw (fun _=>rfl)) (fun _=>T.hB.of "sorted") boot_sorted (aB (cX (aB (bA cB (aC 2) (aC 3)) (aB (bA cB (aC 2) (aX kW (rR (fun _=>rfl) (aC 0)) (aC 3))) aE))) aE)) (aAI (fun _=>rfl) (fun _=>rfl) (bN (aS 6 (fun _=>sc__law_tree.nd)) (bN (aS 7 (fun _=>sc__law_tree.nd)) iL))))
   (aO (eG (cS (fun _=>rfl) (aC 5) (aB (aU (aB (aC 6) (aB (aC 7) (aB (bC (fun _=>wY T) hr.le (aB (rR (fun _=>rfl) (aC 0)) aE)) aE)))) aE))))))
   (aO (bP (bO (aAb (fun _=>rfl) (fun _=>hr.units2)) (fun _=>T.hB.of "sorted") boot_sorted (aB (aC 5) aE))))))))
theorem yE(T:Txt K mg):Callee P w K mg base 1 "is_row" wQ (spM K qG):=
 T.v46.okG (N:=DP) (ps:=wQ) (k:=0) (b:=FG) NG (by sleep 991) fun f cdv A outer s H E hr=>
  (aO (bP (aAV (T:="list") (U:="tuple") (fun _=>rfl) (by decide) (by decide) (aC 0) (fun _=>cL) (fun _=>T.hB.of "isinstance") (fun _=>T.hB.of "list") (fun _=>T.hB.of "tuple") boot_list A0i)))
theorem lN(T:Txt K mg):Callee P w K mg base 2 "is_row_of" nF (spM K gZ):=
 T.v47.okG (N:=sU) (ps:=nF) (k:=1) (b:=sN) BY (by sleep 992) fun f cdv A outer s H E hr=>
  (aO (bP (iF (bC (fun _=>yE T) hr.le (aB (aC 0) aE)) (kH (gA (DK (fun _=>rfl) (fun _=>hr.units)) (bO iH (fun _=>T.hB.of "len") S8 (aB (aC 0) aE)) (aC 1))))))
theorem LG(T:Txt K mg):Callee P w K mg base 1 "common" uR (spM K vB):=
 T.v48.okG (N:=FA) (ps:=uR) (k:=0) (b:=DA) sc_common (by sleep 992) fun f cdv A outer s H E hr=>
  (aL (FR (fun _=>E3) (WW (fun _=>rfl) (aC 1)) (aO (aCX 0 1 (fun _=>rfl) (fun _=>sc_common.nd) (aB (aC 1) (aB (aX kW (aC 0) (aC 1)) aE)))))
   (aO (bP (aC 0))))
theorem nQ(T:Txt K mg):Callee P w K mg base 1 "is_whole" pG (spM K jK):=
 T.v49.okG (N:=wR) (ps:=pG) (k:=0) (b:=wF) FS (by sleep 991) fun f cdv A outer s H E hr=>
  (aO (bP (iF (zZ (T:="int") (fun _=>rfl) (by decide) (aC 0) (fun _=>cL) (fun _=>T.hB.of "isinstance") (fun _=>T.hB.of "int") boot_int) (kH (aEL (zZ (T:="bool") (fun _=>rfl) (by decide) (aC 0) (fun _=>cL) (fun _=>T.hB.of "isinstance") (fun _=>T.hB.of "bool") boot_bool))))))
theorem mE(T:Txt K mg):Callee P w K mg base 3 "has_amount_numbers" eM (spM K bU):=
 T.v50.okG (N:=gT) (ps:=eM) (k:=2) (b:=cE) mF (by sleep 991) fun f cdv A outer s H E hr=>
  (aL (hV (GG (vQ (lR (jH (bC (fun _=>lN T) hr.le (aB (aC 0) (aB aG aE))))) (vQ (lR (jH (bC (fun _=>nQ T) hr.le (aB (bA cB (aC 0) aG) aE)))) (rB (lR (jH (bC (fun _=>nQ T) hr.le (aB (bA cB (aC 0) aG) aE))))))))
   (aO (bP jM))
   eF)
   (aO (bP (iF (gA aGc (bA cB (aC 0) aG) aG) (kH (gA aGc (bA cB (aC 0) aG) aG))))))
theorem BD(T:Txt K mg):Callee P w K mg base 4 "is_amount" nK (spM K eP):=
 T.v51.okG (N:=tK) (ps:=nK) (k:=3) (b:=gX) BO (by sleep 991) fun f cdv A outer s H E hr=>
  (aO (bP (iF (bC (fun _=>mE T) hr.le (aB (aC 0) aE)) (kH (gA (DK (fun _=>rfl) (fun _=>hr.units)) (bC (fun _=>LG T) hr.le (aB (bA cB (aC 0) aG) (aB (bA cB (aC 0) aG) aE))) aG)))))
theorem sV(T:Txt K mg):Callee P w K mg base 2 "is_place" pY (spM K gF):=
 T.v52.okG (N:=uX) (ps:=pY) (k:=1) (b:=lU) DC (by sleep 992) fun f cdv A outer s H E hr=>
  (aO (bP (iF (bC (fun _=>nQ T) hr.le (aB (aC 1) aE)) (kH (SL aHA aAm aG (aC 1) (aC 0))))))
theorem mK(T:Txt K mg):Callee P w K mg base 3 "are_unlike_places" eY (spM K bQ):=
 T.v53.okG (N:=iI) (ps:=eY) (k:=2) (b:=cM) nV (by sleep 993) fun f cdv A outer s H E hr=>
  (aO (bP (iF (bC (fun _=>sV T) hr.le (aB (aC 0) (aB (aC 1) aE))) (iF (bC (fun _=>sV T) hr.le (aB (aC 0) (aB (aC 2) aE))) (kH (gA (GH (fun _=>rfl) (fun _=>hr.units)) (aC 1) (aC 2)))))))
theorem nH(T:Txt K mg):Callee P w K mg base 4 "is_between_places" eX (spM K aW):=
 T.v54.okG (N:=iG) (ps:=eX) (k:=3) (b:=bZ) mI (by sleep 992) fun f cdv A outer s H E hr=>
  (aO (bP (iF (bC (fun _=>lN T) hr.le (aB (aC 1) (aB aG aE))) (iF (bC (fun _=>mK T) hr.le (aB (aC 0) (aB (bA cB (aC 1) aG) (aB (bA cB (aC 1) aG) aE)))) (kH (gA aAm (bA cB (aC 1) aG) (bA cB (aC 1) aG)))))))
theorem xC(T:Txt K mg):Callee P w K mg base 1 "rows_beside" kJ (spM K gP):=
 T.v55.okG (N:=kK) (ps:=kJ) (k:=0) (b:=kL) sc_rows_beside (by sleep 991) fun f cdv A outer s H E hr=>
  (aL (LN 1 (fun _=>sc_rows_beside.nd) (N':=(["place"]:List Str)) (cap:=[none]) (fun _=>rfl) (fun _=>iO (sc0:=aJ fU) (N:=kK) rfl rfl (by decide +kernel)) (lM (fun _=>T.hB.of "range") (aB (aX cW (bO iH (fun _=>T.hB.of "len") S8 (aB (aC 0) aE)) aG) aE)) (aS 0 (fun _=>(show(["place"]:List Str).Nodup by decide +kernel))) nY (mW aE))
   (aL (gI (fun _=>E3) (fun _=>rfl) (aAl (fun _=>rfl) (fun _=>T.hB.of "enumerate") (aB (aC 0) aE)) (nR (fun _=>rfl) (fun _=>rfl) (bN (aS 2 (fun _=>sc_rows_beside.nd)) (bN (aS 3 (fun _=>sc_rows_beside.nd)) iL)))
    (aL (eG (cS (fun _=>rfl) (bA cB (aC 1) (bA cB (aC 3) aG)) (aB (aU (aB (bA cB (aC 3) aG) (aB (aC 2) aE))) aE)))
   (aO (eG (cS (fun _=>rfl) (bA cB (aC 1) (bA cB (aC 3) aG)) (aB (aU (aB (bA cB (aC 3) aG) (aB (aC 2) aE))) aE))))))
   (aO (bP (aC 1)))))
theorem pB(T:Txt K mg):Callee P w K mg base 2 "steps_from" lH (spM K dS):=
 T.v56.okG (N:=qN) (ps:=lH) (k:=1) (b:=lC) sc_steps_from (by sleep 992) fun f cdv A outer s H E hr=>
  (aL (bJ 2 (fun _=>sc_steps_from.nd) (bC (fun _=>xC T) hr.le (aB (aC 0) aE)))
   (aL (bJ 3 (fun _=>sc_steps_from.nd) (QZ (JX (aC 1) jM RE)))
   (aL (bJ 4 (fun _=>sc_steps_from.nd) (mW (aB (aC 1) aE)))
   (aL (bJ 5 (fun _=>sc_steps_from.nd) (mW aE))
   (aL (FR (fun _=>E3) (WW (fun _=>rfl) (aC 4)) (aL (bJ 6 (fun _=>sc_steps_from.nd) (rR (fun _=>rfl) (aC 4)))
   (aO (aBw (fun _=>E3) (fun _=>rfl) (fun _=>rfl) (bA cB (aC 2) (aC 6)) (nR (fun _=>rfl) (fun _=>rfl) (bN (aS 7 (fun _=>sc_steps_from.nd)) (bN (aS 8 (fun _=>sc_steps_from.nd)) iL)))
    (aO (hV (OJ (fun _=>hr.u1) (mk_one (aC 7)) (aC 3))
    (aL (KJ (fun _=>hr.u1) (aC 3) (mk_one (aC 7)) jM)
   (aL (eG (cS (fun _=>rfl) (aC 4) (aB (aC 7) aE)))
   (aO (eG (cS (fun _=>rfl) (aC 5) (aB (aU (aB (aC 6) (aB (aC 7) (aB (aC 8) aE)))) aE))))))
    eF))))))
   (aO (bP (aC 5))))))))
theorem BW(T:Txt K mg):Callee P w K mg base 1 "is_rising" nD (spM K jT):=
 T.v57.okG (N:=nX) (ps:=nD) (k:=0) (b:=mL) AO (by sleep 991) fun f cdv A outer s H E hr=>
  (aO (bP (bO (aBY (fun _=>rfl) (fun _=>rfl)) (fun _=>T.hB.of "all") boot_all (aB (yW (N':=(["one","other"]:List Str)) (cap:=[none,none]) (fun _=>rfl) (fun _=>iO (sc0:=aJ iN) (N:=nX) rfl rfl (by decide +kernel)) (aDi (fun _=>rfl) (fun _=>T.hB.of "zip") (aB (aC 0) (aB (hG (fun _=>rfl) (aC 0) (cN aG) dH) aE))) (nR (fun _=>rfl) (fun _=>rfl) (bN (aS 0 (fun _=>(show(["one","other"]:List Str).Nodup by decide +kernel))) (bN (aS 1 (fun _=>(show(["one","other"]:List Str).Nodup by decide +kernel))) iL))) nY (gA (aGS (fun _=>rfl) (fun _=>hr.units1)) (aC 0) (aC 1))) aE))))
theorem IJ(T:Txt K mg):Callee P w K mg base 5 "is_tree" rH (spM K cU):=
 T.v58.okG (N:=oD) (ps:=rH) (k:=4) (b:=fP) HN (by sleep 992) fun f cdv A outer s H E hr=>
  (aL (hV (GG (vQ (fO aEI (aC 0) (QE (fun _=>T.v74))) (rB (lR (jH (bC (fun _=>lN T) hr.le (aB (aC 1) (aB (aX aBK (aC 0) aG) aE))))))))
   (aO (bP jM))
   eF)
   (aL (hV (lR (jH (bO (aBY (fun _=>rfl) (fun _=>rfl)) (fun _=>T.hB.of "all") boot_all (aB (yW (N':=(["many","row"]:List Str)) (cap:=[some 0,none]) (fun _=>rfl) (fun _=>iO (sc0:=aJ jG) (N:=oD) rfl rfl (by decide +kernel)) (kM (fun _=>rfl) (aC 1)) (aS 1 (fun _=>(show(["many","row"]:List Str).Nodup by decide +kernel))) nY (iF (bC (fun _=>nH T) hr.le (aB (aC 0) (aB (aC 1) aE))) (kH (bC (fun _=>BD T) hr.le (aB (bA cB (aC 1) aG) aE))))) aE))))
    (aO (bP jM))
    eF)
   (aO (bP (iF (bC (fun _=>BW T) hr.le (aB (yW (N':=(["row"]:List Str)) (cap:=[none]) (fun _=>rfl) (fun _=>iO (sc0:=aJ jG) (N:=oD) rfl rfl (by decide +kernel)) (kM (fun _=>rfl) (aC 1)) (aS 0 (fun _=>(show(["row"]:List Str).Nodup by decide +kernel))) nY (aU (aB (bA cB (aC 0) aG) (aB (bA cB (aC 0) aG) aE)))) aE)) (kH (gA (DK (fun _=>rfl) (fun _=>hr.units)) (bO iH (fun _=>T.hB.of "len") S8 (aB (bC (fun _=>pB T) hr.le (aB (aC 1) (aB aG aE))) aE)) (aX aBK (aC 0) aG))))))))
theorem qH(T:Txt K mg):lL P w K mg base 6 "refuse_no_tree" gL (spX K cC):=
 T.v59.okX (N:=lA) (ps:=gL) (k:=5) (b:=dJ) qB (by sleep 991) fun f cdv A outer s H E hr=>
  (uC (UA (GG (vQ (lR (jH (bC (fun _=>yE T) hr.le (aB (aC 0) aE)))) (rB (lR (jH (bC (fun _=>IJ T) hr.le (aB (aX cW (bO iH (fun _=>T.hB.of "len") S8 (aB (aC 0) aE)) aG) (aB (aC 0) aE))))))))
   (uC (vY (fun i=>WL i) (fun _=>rfl) (fun _=>rfl) (fun _=>T.v69) T.v15))
   (FW eF)))
theorem EA(T:Txt K mg):Callee P w K mg base 1 "is_below" pL (spM K lJ):=
 T.v60.okG (N:=wU) (ps:=pL) (k:=0) (b:=pV) DZ (by sleep 992) fun f cdv A outer s H E hr=>
  (aO (bP (gA aAm (aX oV (bA cB (aC 0) aG) (bA cB (aC 1) aG)) (aX oV (bA cB (aC 1) aG) (bA cB (aC 0) aG)))))
theorem wW(T:Txt K mg):Callee P w K mg base 2 "first_least" kG (spM K eA):=
 T.v61.okG (N:=oU) (ps:=kG) (k:=1) (b:=kD) sc_first_least (by sleep 992) fun f cdv A outer s H E hr=>
  (aL (bJ 2 (fun _=>sc_first_least.nd) (bA cB (aC 1) aG))
   (aL (gI (fun _=>E3) (fun _=>rfl) (kM (fun _=>rfl) (aC 1)) (aS 3 (fun _=>sc_first_least.nd))
    (aO (hV (jH (bC (fun _=>EA T) hr.le (aB (bA cB (bA cB (aC 0) (aC 3)) aG) (aB (bA cB (bA cB (aC 0) (aC 2)) aG) aE))))
    (aO (bJ 2 (fun _=>sc_first_least.nd) (aC 3)))
    eF)))
   (aO (bP (aC 2)))))
theorem vN(T:Txt K mg):Callee P w K mg base 3 "side_behind" kE (spM K fB):=
 T.v62.okG (N:=pC) (ps:=kE) (k:=2) (b:=kF) sc_side_behind (by sleep 992) fun f cdv A outer s H E hr=>
  (aL (bJ 2 (fun _=>sc_side_behind.nd) WB)
   (aL (gI (fun _=>E3) (fun _=>rfl) (kM (fun _=>rfl) (zA (bC (fun _=>pB T) hr.le (aB (aC 0) (aB aG aE))))) (nR (fun _=>rfl) (fun _=>rfl) (bN (aS 3 (fun _=>sc_side_behind.nd)) (bN (aS 4 (fun _=>sc_side_behind.nd)) (bN (aS 5 (fun _=>sc_side_behind.nd)) iL))))
    (aO (hV (GG (vQ (fO (DK (fun _=>rfl) (fun _=>hr.units)) (aC 5) (aC 1)) (rB (aDe (fun _=>hr.u1) (mk_one (aC 3)) (aC 2)))))
    (aO (KJ (fun _=>hr.u1) (aC 2) (mk_one (aC 4)) jM))
    eF)))
   (aO (bP (fT (uD (fun _=>rfl)) (fun _=>T.hB.of "tuple") A0i (aB (bO (PQ (fun _=>rfl)) (fun _=>T.hB.of "sorted") boot_sorted (aB (aC 2) aE)) aE))))))
theorem gG(T:Txt K mg):lL P w K mg base 7 "least_by_tree" hW (spX K bD):=
 T.v63.okX (N:=lZ) (ps:=hW) (k:=6) (b:=dY) sc_least_by_tree (by sleep 991) fun f cdv A outer s H E hr=>
  (DO (DF (JK (fun i=>WL i) (fun _=>qH T) hr.le (XB (aB (aC 0) aE))))
   (DO (UA (fO (DK (fun _=>rfl) (fun _=>hr.units)) (bO iH (fun _=>T.hB.of "len") S8 (aB (aC 0) aE)) aG)
    (uC (vY (fun i=>WL i) (fun _=>rfl) (fun _=>rfl) (fun _=>T.v70) T.v17))
    (FW eF))
   (FW (aL (bJ 1 (fun _=>sc_least_by_tree.nd) (bC (fun _=>wW T) hr.le (aB (aC 0) (aB (UX (fun _=>rfl) (fun _=>T.hB.of "range") (fun _=>T.hB.of "tuple") (aB (bO iH (fun _=>T.hB.of "len") S8 (aB (aC 0) aE)) aE)) aE))))
   (aO (bP (aU (aB (fT (uD (fun _=>rfl)) (fun _=>T.hB.of "tuple") A0i (aB (bA cB (bA cB (aC 0) (aC 1)) aG) aE)) (aB (bC (fun _=>vN T) hr.le (aB (aC 0) (aB (aC 1) aE))) aE)))))))))
theorem xS(T:Txt K mg):Callee P w K mg base 1 "_law_apart" lK (spM K eT):=
 T.v64.okG (N:=lV) (ps:=lK) (k:=0) (b:=lI) sc__law_apart (by sleep 992) fun f cdv A outer s H E hr=>
  (aL (bJ 2 (fun _=>sc__law_apart.nd) (mW (aB aG aE)))
   (aL (gI (fun _=>E3) (fun _=>rfl) (lM (fun _=>T.hB.of "range") (aB (bO iH (fun _=>T.hB.of "len") S8 (aB (aC 0) aE)) aE)) (aS 3 (fun _=>sc__law_apart.nd))
    (aO (gI (fun _=>E3) (fun _=>rfl) (lM (fun _=>T.hB.of "range") (aB (bO iH (fun _=>T.hB.of "len") S8 (aB (aC 0) aE)) aE)) (aS 4 (fun _=>sc__law_apart.nd))
    (aL (rM (bA cB (aC 0) (aC 4)) (nR (fun _=>rfl) (fun _=>rfl) (bN (aS 5 (fun _=>sc__law_apart.nd)) (bN (aS 6 (fun _=>sc__law_apart.nd)) (bN (aS 7 (fun _=>sc__law_apart.nd)) iL)))))
   (aO (hV (GG (aDd (fO (GH (fun _=>rfl) (fun _=>hr.units)) (aC 4) (aC 1)) (YN (fO (GH (fun _=>rfl) (fun _=>hr.units)) (gA (RY (fun _=>rfl) (fun _=>hr.units1)) (aC 5) (aC 2)) (gA (RY (fun _=>rfl) (fun _=>hr.units1)) (aC 6) (aC 2))))))
    (aO (eG (cS (fun _=>rfl) (aC 2) (aB (bA cB (cX (aB (aC 6) (aB (aC 5) aE))) (fT WU (fun _=>T.hB.of "int") boot_int (aB (gA (RY (fun _=>rfl) (fun _=>hr.units1)) (aC 6) (aC 2)) aE))) aE))))
    eF))))))
   (aO (bP (fT (uD (fun _=>rfl)) (fun _=>T.hB.of "tuple") A0i (aB (yW (N':=(["_law_near","_law_place"]:List Str)) (cap:=[some 2,none]) (fun _=>rfl) (fun _=>iO (sc0:=aJ gN) (N:=lV) rfl rfl (by decide +kernel)) (lM (fun _=>T.hB.of "range") (aB (aX cW (bO iH (fun _=>T.hB.of "len") S8 (aB (aC 0) aE)) aG) aE)) (aS 1 (fun _=>(show(["_law_near","_law_place"]:List Str).Nodup by decide +kernel))) (aEQ (fO (PL (fun _=>rfl) (fun _=>hr.units1)) (aC 1) (aC 0))) (aC 1)) aE))))))
theorem CT(T:Txt K mg):Callee P w K mg base 2 "_law_due" pR (spM K lG):=
 T.v65.okG (N:=vM) (ps:=pR) (k:=1) (b:=pS) sc__law_due (by sleep 991) fun f cdv A outer s H E hr=>
  (aL (bJ 1 (fun _=>sc__law_due.nd) aG)
   (aL (gI (fun _=>E3) (fun _=>rfl) (lM (fun _=>T.hB.of "range") (aB (bO iH (fun _=>T.hB.of "len") S8 (aB (aC 0) aE)) aE)) (aS 2 (fun _=>sc__law_due.nd))
    (aL (bJ 3 (fun _=>sc__law_due.nd) (bA cB (bA cB (aC 0) (aC 2)) aG))
   (aL (bJ 4 (fun _=>sc__law_due.nd) (bA cB (bA cB (aC 0) (aC 1)) aG))
   (aO (hV (fO aAm (aX oV (bA cB (aC 3) aG) (bA cB (aC 4) aG)) (aX oV (bA cB (aC 4) aG) (bA cB (aC 3) aG)))
    (aO (bJ 1 (fun _=>sc__law_due.nd) (aC 2)))
    eF)))))
   (aO (bP (aU (aB (bA cB (bA cB (aC 0) (aC 1)) aG) (aB (bC (fun _=>xS T) hr.le (aB (aC 0) (aB (aC 1) aE))) aE)))))))
theorem BA(T:Txt K mg):Callee P w K mg base 1 "_law_bent" mO (spM K eO):=
 T.v66.okG (N:=nN) (ps:=mO) (k:=0) (b:=mM) sc__law_bent (by sleep 992) fun f cdv A outer s H E hr=>
  (aL (bJ 2 (fun _=>sc__law_bent.nd) (aX kW (aC 1) (bO iH (fun _=>T.hB.of "len") S8 (aB (aC 0) aE))))
   (aL (rM (bA cB (aC 0) (aC 2)) (nR (fun _=>rfl) (fun _=>rfl) (bN (aS 3 (fun _=>sc__law_bent.nd)) (bN (aS 4 (fun _=>sc__law_bent.nd)) (bN (aS 5 (fun _=>sc__law_bent.nd)) iL)))))
   (aL (bJ 6 (fun _=>sc__law_bent.nd) (mW (aB (aX cW (aX cW (hG (fun _=>rfl) (aC 0) dH (cN (aC 2))) (hG (fun _=>rfl) (aC 0) (cN (aC 2)) (cN (aX cW (aC 2) aG)))) (hG (fun _=>rfl) (aC 0) (cN (aC 2)) dH)) (aB (aX cW (aX cW (hG (fun _=>rfl) (aC 0) dH (cN (aC 2))) (cX (aB (aU (aB (aC 4) (aB (aC 3) (aB (aC 5) aE)))) aE))) (hG (fun _=>rfl) (aC 0) (cN (aX cW (aC 2) aG)) dH)) aE))))
   (aL (bJ 6 (fun _=>sc__law_bent.nd) (aX (aDN (fun _=>rfl)) (aC 6) (cX (aB (aX cW (aX cW (hG (fun _=>rfl) (aC 0) dH (cN (aC 2))) (cX (aB (aU (aB (aC 3) (aB (aX cW (bO iH (fun _=>T.hB.of "len") S8 (aB (aC 0) aE)) aG) (aB (aC 5) aE)))) aE))) (hG (fun _=>rfl) (aC 0) (cN (aX cW (aC 2) aG)) dH)) aE))))
   (aL (eG (cS (fun _=>rfl) (aC 6) (aB (aX cW (aX cW (hG (fun _=>rfl) (aC 0) dH (cN (aC 2))) (cX (aB (aU (aB (aC 3) (aB (aC 3) (aB (aC 5) aE)))) aE))) (hG (fun _=>rfl) (aC 0) (cN (aX cW (aC 2) aG)) dH)) aE)))
   (aL (gI (fun _=>E3) (fun _=>rfl) (kM (fun _=>rfl) (cX (aB (aU (aB aG (aB aG aE))) (aB (aU (aB aG (aB aG aE))) (aB (aU (aB (UI VX aG) (aB aG aE))) (aB (aU (aB aG (aB aG aE))) (aB (aU (aB aG (aB (UI VX aG) aE))) (aB (aU (aB jM (aB aG aE))) (aB (aU (aB aG (aB jM aE))) (aB (aU (aB aG aE)) (aB (aU (aB aG (aB aG (aB aG aE)))) (aB qZ (aB aG (aB gJ (aB uK aE))))))))))))))) (aS 7 (fun _=>sc__law_bent.nd))
    (aO (eG (cS (fun _=>rfl) (aC 6) (aB (aX cW (aX cW (hG (fun _=>rfl) (aC 0) dH (cN (aC 2))) (cX (aB (aU (aB (aC 3) (aB (aC 4) (aB (aC 7) aE)))) aE))) (hG (fun _=>rfl) (aC 0) (cN (aX cW (aC 2) aG)) dH)) aE)))))
   (aL (gI (fun _=>E3) (fun _=>rfl) (kM (fun _=>rfl) (cX (aB qZ (aB aG (aB (aU (aB (aC 3) (aB (aC 4) aE))) (aB (aU (aB (aC 3) (aB (aC 4) (aB (aC 5) (aB aG aE))))) (aB gJ (aB (aU (aB jM (aB (aC 4) (aB (aC 5) aE)))) (aB (aU (aB (aC 3) (aB qZ (aB (aC 5) aE)))) (aB uK aE)))))))))) (aS 7 (fun _=>sc__law_bent.nd))
    (aO (eG (cS (fun _=>rfl) (aC 6) (aB (aX cW (aX cW (hG (fun _=>rfl) (aC 0) dH (cN (aC 2))) (cX (aB (aC 7) aE))) (hG (fun _=>rfl) (aC 0) (cN (aX cW (aC 2) aG)) dH)) aE)))))
   (aL (hV (fO aEI (bO iH (fun _=>T.hB.of "len") S8 (aB (aC 0) aE)) aG)
    (aL (eG (cS (fun _=>rfl) (aC 6) (aB (aDo (fun _=>rfl) (aC 0) (cN (UI VX aG))) aE)))
   (aO (eG (cS (fun _=>rfl) (aC 6) (aB (aX cW (hG (fun _=>rfl) (aC 0) (cN aG) dH) (hG (fun _=>rfl) (aC 0) dH (cN aG))) aE)))))
    eF)
   (aL (hV (fO aEI (bO iH (fun _=>T.hB.of "len") S8 (aB (aC 0) aE)) aG)
    (aL (CY 8 (fun _=>sc__law_bent.nd) (N':=(["_law_amount_here","_law_k"]:List Str)) (cap:=[some 5,none]) (fun _=>rfl) (fun _=>iO (sc0:=aJ iM) (N:=nN) rfl rfl (by decide +kernel)) (AS (fun _=>T.hB.of "range") (aB aG (aB (aX cW (bO iH (fun _=>T.hB.of "len") S8 (aB (aC 0) aE)) aG) aE))) (aS 1 (fun _=>(show(["_law_amount_here","_law_k"]:List Str).Nodup by decide +kernel))) nY (aU (aB aG (aB (aC 1) (aB (aC 0) aE)))))
   (aO (eG (cS (fun _=>rfl) (aC 6) (aB (aX cW (cX (aB (aU (aB aG (aB aG (aB (aC 5) aE)))) (aB (aU (aB aG (aB aG (aB (aC 5) aE)))) (aB (aU (aB aG (aB aG (aB (aC 5) aE)))) aE)))) (aC 8)) aE)))))
    eF)
   (aO (bP (aC 6))))))))))))
theorem fK(T:Txt K mg):Callee P w K mg base 8 "_law_refused" jF (spM K bL):=
 T.v67.okG (N:=mJ) (ps:=jF) (k:=7) (b:=jC) sc__law_refused (by sleep 991) fun f cdv A outer s H E hr=>
  (aL (bJ 1 (fun _=>sc__law_refused.nd) qZ)
   (aL (aFt (fun _=>⟨rfl,rfl,rfl⟩) (fun _=>rfl) (uC (DF (JK (fun i=>aHi (fun _=>⟨rfl,rfl,rfl⟩) i) (fun _=>gG T) hr.le (XB (aB (aC 0) aE))))) (ZW (tab:=[("NoTree",true),("OnePlace",true)]) (n:=(some 2)) (.ref (cR K "CutError")) (fun _=>⟨rfl,rfl,rfl⟩) (fun _=>.inl T.v71) (fun _=>⟨sc__law_refused.nd,rfl,rfl⟩) (zI T.v20 (zI T.v19 RC)) (aO (bJ 1 (fun _=>sc__law_refused.nd) (aC 2)))
   aCv))
   (aL (hV (lR (jH (AQ (tab:=fE) (nn:=some false) (c:=(.type "ValueError")) (fun _=>rfl) (.ty _) (aHf (fun _=>T.hB.of "ValueError") tQ) (AW (CA T) T.v37 rfl) (zY T.v38) (aC 1) (fun _=>cL) (fun _=>T.hB.of "isinstance"))))
    (aO (bP gJ))
    eF)
   (aL (bJ 3 (fun _=>sc__law_refused.nd) (aX cW (fT WU (fun _=>T.hB.of "int") boot_int (aB (AQ (tab:=kS) (nn:=some false) (c:=(.ref (cR K "NoTree"))) (fun _=>rfl) (.own _) (PY (fun _=>T.v69)) (AW (CA T) T.v39 rfl) (zY T.v40) (aC 1) (fun _=>cL) (fun _=>T.hB.of "isinstance")) aE)) (aX oV aG (fT WU (fun _=>T.hB.of "int") boot_int (aB (AQ (tab:=gU) (nn:=some false) (c:=(.ref (cR K "OnePlace"))) (fun _=>rfl) (.own _) (PY (fun _=>T.v70)) (AW (CA T) T.v41 rfl) (zY T.v42) (aC 1) (fun _=>cL) (fun _=>T.hB.of "isinstance")) aE)))))
   (aO (bP (bA cB (cX (aB gJ (aB gJ (aB gJ (aB gJ aE))))) (aC 3))))))))
theorem fn_law(T:Txt K mg):∃f fd,mg "law"=some (.ref f)/\(∀(s:Shared)(u:Value),BindsTo s fd ⟨[u],[]⟩ [("_law_script",u)])/\∀base,oQ P w K mg base CX0 9 f fd aBH (spM K F_law):=
 T.v68.okLG (N:=CV) (k:=8) (b:=UB) sc_law rfl (by sleep 991) fun base f cdv A outer s H E hr=>
  (aL (bJ 1 (fun _=>sc_law.nd) (bC (fun _=>BJ T) hr.le (aB (aC 0) (aB aG aE))))
   (aL (bJ 2 (fun _=>sc_law.nd) (bC (fun _=>BV T) hr.le (aB (aC 1) (aB (aX cW aG (aX kW (rR (fun _=>rfl) (aC 1)) aG)) aE))))
   (aL (gI (fun _=>E3) (fun _=>rfl) (kM (fun _=>rfl) (cX (aB (aC 2) (aB (fT (uD (fun _=>rfl)) (fun _=>T.hB.of "tuple") A0i (aB (aC 2) aE)) (aB (yW (N':=(["_law_i","_law_j","_law_amount_here"]:List Str)) (cap:=[none,none,none]) (fun _=>rfl) (fun _=>iO (sc0:=aJ rZ) (N:=CV) rfl rfl (by decide +kernel)) (kM (fun _=>rfl) (aC 2)) (nR (fun _=>rfl) (fun _=>rfl) (bN (aS 0 (fun _=>(show(["_law_i","_law_j","_law_amount_here"]:List Str).Nodup by decide +kernel))) (bN (aS 1 (fun _=>(show(["_law_i","_law_j","_law_amount_here"]:List Str).Nodup by decide +kernel))) (bN (aS 2 (fun _=>(show(["_law_i","_law_j","_law_amount_here"]:List Str).Nodup by decide +kernel))) iL)))) nY (cX (aB (aC 0) (aB (aC 1) (aB (fT (aCt (fun _=>rfl)) (fun _=>T.hB.of "list") boot_list (aB (aC 2) aE)) aE))))) aE))))) (aS 3 (fun _=>sc_law.nd))
    (aL (bJ 4 (fun _=>sc_law.nd) (zJ (fun _=>gG T) hr.le (aB (aC 3) aE)))
   (aL (hV (GG (vQ (lR (jH (zZ (T:="tuple") (fun _=>rfl) (by decide) (aC 4) (fun _=>cL) (fun _=>T.hB.of "isinstance") (fun _=>T.hB.of "tuple") A0i))) (rB (fO (GH (fun _=>rfl) (fun _=>hr.units)) (aC 4) (bC (fun _=>CT T) hr.le (aB (aC 2) aE))))))
    (aO (bP jM))
    eF)
   (aO (hV (jH (bO (aFU (fun _=>rfl) (fun _=>rfl)) (fun _=>T.hB.of "any") boot_any (aB (yW (N':=(["_law_one"]:List Str)) (cap:=[none]) (fun _=>rfl) (fun _=>iO (sc0:=aJ rZ) (N:=CV) rfl rfl (by decide +kernel)) (kM (fun _=>rfl) (bA cB (aC 4) aG)) (aS 0 (fun _=>(show(["_law_one"]:List Str).Nodup by decide +kernel))) nY (zZ (T:="bool") (fun _=>rfl) (by decide) (aC 0) (fun _=>cL) (fun _=>T.hB.of "isinstance") (fun _=>T.hB.of "bool") boot_bool)) aE)))
    (aO (bP jM))
    eF)))))
   (aL (gI (fun _=>E3) (fun _=>rfl) (kM (fun _=>rfl) (aX cW (zA (bC (fun _=>BA T) hr.le (aB (aC 2) (aB (rR (fun _=>rfl) (aC 1)) aE)))) (cX (aB qZ (aB aG (aB jM (aB gJ (aB gJ (aB uK (aB (YY (JX aG aG RE)) (aB (cX (aB qZ aE)) (aB (cX (aB (cX aE) aE)) (aB (aX aBG aG aG) aE))))))))))))) (aS 5 (fun _=>sc_law.nd))
    (aO (hV (fO (GH (fun _=>rfl) (fun _=>hr.units)) (bC (fun _=>fK T) hr.le (aB (aC 5) aE)) gJ)
    (aO (bP jM))
    eF)))
   (aL (CY 6 (fun _=>sc_law.nd) (N':=(["_law_k"]:List Str)) (cap:=[none]) (fun _=>rfl) (fun _=>iO (sc0:=aJ rZ) (N:=CV) rfl rfl (by decide +kernel)) (AS (fun _=>T.hB.of "range") (aB aG (aB aG aE))) (aS 0 (fun _=>(show(["_law_k"]:List Str).Nodup by decide +kernel))) nY (aU (aB aG (aB (aC 0) (aB (aU (aB aG (aB aG aE))) aE)))))
   (aL (hV (GG (vQ (fO (GH (fun _=>rfl) (fun _=>hr.units)) (zJ (fun _=>gG T) hr.le (aB (hG (fun _=>rfl) (aC 6) dH (cN aG)) aE)) (aU (aB (aU (aB aG (aB aG aE))) (aB (aU (aB aG aE)) aE)))) (rB (fO (GH (fun _=>rfl) (fun _=>hr.units)) (bC (fun _=>fK T) hr.le (aB (aC 6) aE)) gJ))))
    (aO (bP jM))
    eF)
   (aO (bP (iF (gA (DK (fun _=>rfl) (fun _=>hr.units)) (bC (fun _=>fK T) hr.le (aB (aU aE) aE)) gJ) (kH (gA (DK (fun _=>rfl) (fun _=>hr.units)) (bC (fun _=>fK T) hr.le (aB (cX aE) aE)) gJ)))))))))))
theorem txt_mk{h:Heap}{v75:Tok}{v76:Addr}{v77:Addr}{v78:Addr}(X:K.In h)(G:h.Ns mainGlobals mg)(v0:PySem.W.nsIn K mainGlobals "ValueError"=some none)(v1:PySem.W.nsIn K mainGlobals "all"=some none)(v2:PySem.W.nsIn K mainGlobals "any"=some none)(v3:PySem.W.nsIn K mainGlobals "bool"=some none)(v4:PySem.W.nsIn K mainGlobals "enumerate"=some none)(v5:PySem.W.nsIn K mainGlobals "int"=some none)(v6:PySem.W.nsIn K mainGlobals "isinstance"=some none)(v7:PySem.W.nsIn K mainGlobals "len"=some none)(v8:PySem.W.nsIn K mainGlobals "list"=some none)(v9:PySem.W.nsIn K mainGlobals "range"=some none)(v10:PySem.W.nsIn K mainGlobals "sorted"=some none)(v11:PySem.W.nsIn K mainGlobals "tuple"=some none)(v12:PySem.W.nsIn K mainGlobals "zip"=some none)(v13:PySem.W.nsIn K mainGlobals "MOST_PLACES"=some (some (.int 40 v75)))(v14:PySem.W.nsIn K mainGlobals "NoTree"=some (some (.ref v76)))(v15:PySem.W.excIn K v76 bmV "ValueError.__new__"=true)(v16:PySem.W.nsIn K mainGlobals "OnePlace"=some (some (.ref v77)))(v17:PySem.W.excIn K v77 bmV "ValueError.__new__"=true)(v18:PySem.W.nsIn K mainGlobals "CutError"=some (some (.ref v78)))(v19:PySem.W.exmOne K (.ref v77) (.ref v78)=some true)(v20:PySem.W.exmOne K (.ref v76) (.ref v78)=some true)(v21:PySem.W.findIn K (.ref v76) "__getattribute__"=some (some (.builtin "BaseException.__getattribute__")))(v22:PySem.W.findIn K (.ref v76) "__getattr__"=some none)(v23:PySem.W.subIn K (.ref v76) (.type "BaseException")=some true)(v24:(PySem.W.clsIn K v76).isSome=true)(v25:PySem.W.findIn K (.ref v76) "__class__"=some (some (.builtin "object.__class__")))(v26:PySem.W.specialIn K (.builtin "object.__class__") "__get__"=some (some (.builtin "getset_descriptor.__get__")))(v27:PySem.W.takesIn K (.builtin "object.__class__")=some true)(v28:PySem.W.mroIn K v76 (.type "object")=some true)(v29:PySem.W.findIn K (.ref v77) "__getattribute__"=some (some (.builtin "BaseException.__getattribute__")))(v30:PySem.W.findIn K (.ref v77) "__getattr__"=some none)(v31:PySem.W.subIn K (.ref v77) (.type "BaseException")=some true)(v32:(PySem.W.clsIn K v77).isSome=true)(v33:PySem.W.findIn K (.ref v77) "__class__"=some (some (.builtin "object.__class__")))(v34:PySem.W.specialIn K (.builtin "object.__class__") "__get__"=some (some (.builtin "getset_descriptor.__get__")))(v35:PySem.W.takesIn K (.builtin "object.__class__")=some true)(v36:PySem.W.mroIn K v77 (.type "object")=some true)(v37:uV K (.type "ValueError") fE=true)(v38:PySem.W.kitOne K (.type "NoneType") (.type "ValueError")=some false)(v39:uV K (.ref v76) kS=true)(v40:PySem.W.kitOne K (.type "NoneType") (.ref v76)=some false)(v41:uV K (.ref v77) gU=true)(v42:PySem.W.kitOne K (.type "NoneType") (.ref v77)=some false)(v43:Def K mg "_law_deck" lS)(v44:Def K mg "_law_amount" jI)(v45:Def K mg "_law_tree" lY)(v46:Def K mg "is_row" rE)(v47:Def K mg "is_row_of" lE)(v48:Def K mg "common" rP)(v49:Def K mg "is_whole" nB)(v50:Def K mg "has_amount_numbers" eD)(v51:Def K mg "is_amount" lW)(v52:Def K mg "is_place" mZ)(v53:Def K mg "are_unlike_places" eI)(v54:Def K mg "is_between_places" eK)(v55:Def K mg "rows_beside" fU)(v56:Def K mg "steps_from" kN)(v57:Def K mg "is_rising" iN)(v58:Def K mg "is_tree" jG)(v59:Def K mg "refuse_no_tree" gC)(v60:Def K mg "is_below" nJ)(v61:Def K mg "first_least" iY)(v62:Def K mg "side_behind" jJ)(v63:Def K mg "least_by_tree" gM)(v64:Def K mg "_law_apart" gN)(v65:Def K mg "_law_due" nO)(v66:Def K mg "_law_bent" iM)(v67:Def K mg "_law_refused" iA)(v68:Def K mg "law" rZ):Txt K mg:=by
 cases zU v14;cases zU v16;cases zU v18;exact⟨(cQ (E2 X G v0) (cQ (E2 X G v1) (cQ (E2 X G v2) (cQ (E2 X G v3) (cQ (E2 X G v4) (cQ (E2 X G v5) (cQ (E2 X G v6) (cQ (E2 X G v7) (cQ (E2 X G v8) (cQ (E2 X G v9) (cQ (E2 X G v10) (cQ (E2 X G v11) (cQ (E2 X G v12) RH))))))))))))),⟨_,PySem.W.mg_of X G v13⟩,PySem.W.mg_of X G v14,v15,PySem.W.mg_of X G v16,v17,PySem.W.mg_of X G v18,v19,v20,⟨⟨v21,v22,v23,v24⟩,v25,v26,v27,v28⟩,⟨⟨v29,v30,v31,v32⟩,v33,v34,v35,v36⟩,v37,v38,v39,v40,v41,v42,v43,v44,v45,v46,v47,v48,v49,v50,v51,v52,v53,v54,v55,v56,v57,v58,v59,v60,v61,v62,v63,v64,v65,v66,v67,v68⟩
end
end Q32
end
end
section
namespace Q32
variable{L M M':Sto}{N c m n ps q:Nat}{am d o x x1 x2 x3:PyData}{γ γ':Ga}{A J K a b f h i j p r u vk y z:Int}{S l ws xs:List Int}{ds ys:List PyData}{us vs:List Tie}{g:GF}{g3 g4 g5 g6 g7 g8:Option CD}{s:Tie}{fa:AF}{nm:Str}{E ee:EF}
open PySem PySem.Spec PyProof.Rows L2
local macro_rules | `(tactic| simp! [$a,*]) => `(tactic| simp only [fnF, fnX, mC, OU, aGG, lQ, aFy, qX, JO, aFV, liA, liE, liS, rO, NT, HH, aDh, RP, setG, yM, nA, aR, sIf, dD, aGu, dN, bG, eL, hName, iP, aY, gK, hSub, gOr, aBk, tS, gB, xK, ZP, aK, aA, aF, aD, fC, fOp, fUn, mH, fOr, YE, fIf, BB, asB, bK, dE, jB, kZ, BN, IU, pI, ifS, aDj, TV, sG, wH, iJ, ER, ltI, leI, gtI, geI, Option.bind_some, Option.bind_none, Option.map_some, List.getElem?_cons_zero, List.getElem?_cons_succ, List.length_cons, List.length_nil, List.set_cons_zero, List.set_cons_succ, List.map_cons, List.map_nil, List.replicate_zero, List.replicate_succ, List.cons_append, List.nil_append, List.append_nil, if_true, ite_true, ite_false, Nat.reduceAdd, Nat.reduceSub, reduceIte, Bool.not_true, Bool.not_false, Bool.false_eq_true, $a,*])
noncomputable def mY:PyData->Bool
 |.int _=>true
 |_=>false
noncomputable def uS:PyData->Bool
 |.list _=>true
 |.tuple _=>true
 |_=>false
theorem lX(x:PyData)(M:Sto):jK [.d x] M=some (.d (.bool (mY x)),M):=by cases x<;>rfl
theorem xB(x:PyData)(M:Sto):qG [.d x] M=some (.d (.bool (uS x)),M):=by cases x<;>rfl
noncomputable def dR(d:PyData)(n:Int):Bool:=match aP d with
 |some ds=>((ds.length:Int)==n)
 |none=>false
theorem cA(x:PyData)(n:Int)(M:Sto):gZ [.d x,.d (.int n)] M=some (.d (.bool (dR x n)),M):=by cases x<;>rfl
theorem QX(x y:Int):Int.gcd y (x % y)=Int.gcd x y:=by
 rw[Int.gcd_comm x y];have:x % y=x-y*(x / y):=by have:=Int.emod_add_mul_ediv x y;omega
 rw[this];simp
noncomputable abbrev I(n:Int):CD:=.d (.int n)
theorem fN{x:Int}(h:0<y):jX x y=true:=by simp[jX,h]
theorem sY(M:Sto):∀(n:Nat)(x y:Int),0<=x->0<=y->y.toNat<n->
 eW (xK (aD 1)) (XE 0 1 (aA (aD 1) (aA (fOp iJ (aD 0) (aD 1)) aF))) n [some (I x),some (I y)] M=some (.nx [some (I (Int.gcd x y)),some (I 0)],M)
 |0=>fun _ _ _ _ h=>by omega
 |n+1=>fun x y hx hy h=>by
  by_cases e:y=0
  .subst e;have:(Int.gcd x 0:Int)=x:=by rw[Int.gcd_zero_right];omega
   rw[this];rfl
  .have hp:0<y:=by omega
   have ih:=sY M n y (x % y) hy (S3 _ e) (by have:=O1 x hp;omega);rw[QX]at ih;rw[<- ih];have hb:(y != 0)=true:=by simp[e]
   simp only[eW,xK,aD,ZP,XE,aA,fOp,aF,iJ,pI,ifS,fN hp,hb,Option.bind,List.getElem?_cons_succ,List.getElem?_cons_zero,if_true,List.set]
theorem QC(M:Sto)(ha:0<=a)(hb:0<=b):vB [I a,I b] M=some (I (Int.gcd a b),M):=by
 have h:pT [some (I a),some (I b)] M=_:=FK (sY M (b.toNat+1) a b ha hb (L9 _));show((aR pT _ [some (I a),some (I b)] M).bind _)=_;unfold aR;rw[h];rfl
noncomputable abbrev B(b:Bool):CD:=.d (.bool b)
noncomputable def sW(d:PyData):Bool:=match aP d with
 |some [.int a,.int b]=>decide (0<=a)&&decide (1<=b)
 |_=>false
theorem aEJ(h:dR x 2=true):∃a b,x=.list [a,b]\/x=.tuple [a,b]:=by
 unfold dR at h;cases x with
 |list ds=>
  have h:((ds.length:Int)==2)=true:=h;rcases ds with _|⟨a,_|⟨b,_|⟨c,r⟩⟩⟩
  .simp at h
  .simp at h
  .exact⟨a,b,.inl rfl⟩
  .simp at h;omega
 |tuple ds=>
  have h:((ds.length:Int)==2)=true:=h;rcases ds with _|⟨a,_|⟨b,_|⟨c,r⟩⟩⟩
  .simp at h
  .simp at h
  .exact⟨a,b,.inr rfl⟩
  .simp at h;omega
 |_=>simp[aP]at h
theorem PU(h:dR x 2=false):sW x=false:=by
 unfold sW;unfold dR at h;cases q:aP x with
 |none=>rfl
 |some ds=>
  rw[q]at h;rcases ds with _|⟨a,_|⟨b,_|⟨c,r⟩⟩⟩
  .rfl
  .cases a<;>rfl
  .simp at h
  .cases a<;>cases b<;>rfl
theorem aFK{a b:PyData}:ixF (.d (.list [a,b])) (I 0) M=some (.d a,M):=rfl
theorem aGR{a b:PyData}:ixF (.d (.list [a,b])) (I 1) M=some (.d b,M):=rfl
theorem aFZ{a b:PyData}:ixF (.d (.tuple [a,b])) (I 0) M=some (.d a,M):=rfl
theorem aGZ{a b:PyData}:ixF (.d (.tuple [a,b])) (I 1) M=some (.d b,M):=rfl
theorem aFY{p q:Bool}:(if p=true then some (B q,M)else some (B false,M))=some (B (p&&q),M):=by cases p<;>rfl
theorem eN(x:PyData)(M:Sto):bU [.d x] M=some (B (sW x),M):=by
 cases h:dR x 2 with
 |false=>
  rw[PU h];simp![bU,cE,cA,h]
 |true=>
  obtain⟨a,b,rfl|rfl⟩:=aEJ h
  .cases a<;>cases b<;>first|rfl|(rename_i a b;simp![bU,cE,cA,h,lX,aFK,aGR,mY,aFY];rfl)
  .cases a<;>cases b<;>first|rfl|(rename_i a b;simp![bU,cE,cA,h,lX,aFZ,aGZ,mY,aFY];rfl)
theorem xR:eqX false (I i) (I j) M=some (B (i==j),M):=rfl
theorem NN:eqX true (I i) (I j) M=some (B (!(i==j)),M):=rfl
theorem aGO(n m:Nat):((n:Int)==(m:Int))=(n==m):=by
 rw[S2];simp;omega
noncomputable def CB(a b:Int):Bool:=decide (0<=a)&&decide (1<=b)&&(Int.gcd a b==1)
noncomputable def nL(d:PyData):Bool:=match aP d with
 |some [.int a,.int b]=>CB a b
 |_=>false
theorem aFC(h:sW x=true):∃a b,(x=.list [.int a,.int b]\/x=.tuple [.int a,.int b])/\0<=a/\1<=b:=by
 unfold sW at h;split at h
 .rename_i a b e;rw[C2,decide_eq_true_eq,decide_eq_true_eq]at h;refine⟨a,b,?_,h⟩;cases x with
  |list ds=>left;exact E9 PyData.list (D5 e)
  |tuple ds=>right;exact E9 PyData.tuple (D5 e)
  |_=>cases e
 .cases h
theorem VA(h:sW x=false):nL x=false:=by
 unfold sW at h;unfold nL;split
 .rename_i a b e;rw[e]at h;unfold CB;rw[show(decide (0<=a)&&decide (1<=b))=false from h];rfl
 .rfl
theorem FC(x:PyData)(M:Sto):eP [.d x] M=some (B (nL x),M):=by
 cases h:sW x with
 |false=>
  rw[VA h];simp![eP,gX,eN,h]
 |true=>
  obtain⟨a,b,hx,ha,hb⟩:=aFC h;have e:CB a b=(Int.gcd a b==1):=by unfold CB;rw[C8 ha,C8 hb];rfl
  have c:=fun M=>QC M ha (Int.le_trans (by decide) hb);rcases hx with rfl|rfl
  .rw[show nL (.list [.int a,.int b])=CB a b from rfl,e];simp![eP,gX,eN,h,aFK,aGR,c,xR];rw[show(1:Int)=((1:Nat):Int)from rfl,aGO]
  .rw[show nL (.tuple [.int a,.int b])=CB a b from rfl,e];simp![eP,gX,eN,h,aFZ,aGZ,c,xR];rw[show(1:Int)=((1:Nat):Int)from rfl,aGO]
theorem wsm(h:0<=y)(h2:y<2 ^ 200):y.natAbs<fQ:=by
 have h1:y.natAbs<2 ^ 200:=by omega
 exact C0 h1 (Nat.pow_le_pow_right (by decide) (by decide))
theorem JT{x:Int}(h:0<y)(h2:y.natAbs<fQ):zC x y=true:=by simp[zC,h,h2]
theorem cT(h:aP x=some ds):bW [.d x] M=some (I ds.length,M):=by
 cases x with
 |list l=>cases h;rfl
 |tuple l=>cases h;rfl
 |_=>cases h
theorem xY:uS x=(aP x).isSome:=by cases x<;>rfl
theorem LQ(h:aP x=some ds):eZ [.d x] M=some (.d (.tuple ds),M):=by
 cases x with
 |list l=>cases h;rfl
 |tuple l=>cases h;rfl
 |_=>cases h
theorem cH(h:aP x=some ds):ixF (.d x) (I i) M=(atI ds i).bind fun e=>some (.d e,M):=by
 show(aP x).bind _=_;rw[h];rfl
noncomputable def plB(n:Int):PyData->Bool
 |.int i=>decide (0<=i)&&decide (i<n)
 |_=>false
theorem pJ(n:Int)(x:PyData)(M:Sto):gF [I n,.d x] M=some (B (plB n x),M):=by
 cases x with
 |int i=>
  cases h:decide (0<=i)with
  |true=>
   rw[show plB n (.int i)=(decide (0<=i)&&decide (i<n))from rfl,h,Y5];simp![gF,lU,lX,mY,h]
  |false=>
   rw[show plB n (.int i)=(decide (0<=i)&&decide (i<n))from rfl,h,U9];simp![gF,lU,lX,mY,h]
 |_=>rfl
noncomputable def bI(n:Int)(d:PyData):Option (Int×Int):=match aP d with
 |some [.int i,.int j,a]=>if (decide (0<=i)&&decide (i<j)&&decide (j<n)&&nL a)=true then some (i,j)else none
 |_=>none
noncomputable def NL(n:Int):PyData->PyData->Bool
 |.int i,.int j=>decide (0<=i)&&decide (i<j)&&decide (j<n)
 |_,_=>false
theorem EZ(n i j:Int)(M:Sto):bQ [I n,I i,I j] M=some (B (plB n (.int i)&&(plB n (.int j)&&!(i==j))),M):=by
 cases h1:plB n (.int i)<;>cases h2:plB n (.int j)<;>simp![bQ,cM,pJ,h1,h2,NN,Bool.true_and,Bool.false_and]
theorem CJ(n:Int)(x y:PyData)(M:Sto)(h:plB n x=false\/plB n y=false):bQ [I n,.d x,.d y] M=some (B false,M):=by
 cases h1:plB n x with
 |false=>simp![bQ,cM,pJ,h1]
 |true=>
  have h2:plB n y=false:=h.resolve_left (by rw[h1];decide);simp![bQ,cM,pJ,h1,h2]
theorem aHr(ds:List PyData)(h:((ds.length:Int)==3)=true):∃a b c,ds=[a,b,c]:=by
 rcases ds with _|⟨a,_|⟨b,_|⟨c,_|⟨d,r⟩⟩⟩⟩
 .simp at h
 .simp at h
 .simp at h
 .exact⟨a,b,c,rfl⟩
 .simp at h;omega
theorem PB{n:Int}(h:aP x=some ds)(h2:((ds.length:Int)==3)=false):bI n x=none:=by
 unfold bI;rw[h];rcases ds with _|⟨a,_|⟨b,_|⟨c,_|⟨d,r⟩⟩⟩⟩
 .rfl
 .cases a<;>rfl
 .cases a<;>first|rfl|(cases b<;>rfl)
 .simp at h2
 .cases a<;>first|rfl|(cases b<;>rfl)
theorem IG{n:Int}{a b c:PyData}(h:aP x=some [a,b,c]):(bI n x).isSome=(NL n a b&&nL c):=by
 unfold bI;rw[h];cases a with
 |int i=>
  cases b with
  |int j=>
   show(if (decide (0<=i)&&decide (i<j)&&decide (j<n)&&nL c)=true then some (i,j)else none).isSome=(decide (0<=i)&&decide (i<j)&&decide (j<n)&&nL c);cases (decide (0<=i)&&decide (i<j)&&decide (j<n)&&nL c)<;>rfl
  |_=>rfl
 |_=>cases b<;>rfl
theorem aFk(n i j:Int):(plB n (.int i)&&(plB n (.int j)&&!(i==j))&&decide (i<j))=(decide (0<=i)&&decide (i<j)&&decide (j<n)):=by
 unfold plB;by_cases h1:0<=i
 .by_cases h2:i<j
  .by_cases h3:j<n
   .have a:i<n:=by omega
    have b:0<=j:=by omega
    have c:(i==j)=false:=by rw[Y2];omega
    simp[h1,h2,h3,a,b,c]
   .simp[h3]
  .simp[h2]
 .simp[h1]
theorem TQ(n i j:Int)(M:Sto){c:PyData}(h:aP x=some [.int i,.int j,c]):aW [I n,.d x] M=some (B (NL n (.int i) (.int j)),M):=by
 have r:dR x 3=true:=by unfold dR;rw[h];rfl
 have i0:∀M,ixF (.d x) (I 0) M=some (I i,M):=fun M=>cH h;have i1:∀M,ixF (.d x) (I 1) M=some (I j,M):=fun M=>cH h;rw[show NL n (.int i) (.int j)=(decide (0<=i)&&decide (i<j)&&decide (j<n))from rfl,<- aFk];cases u:(plB n (.int i)&&(plB n (.int j)&&!(i==j)))with
 |false=>simp![aW,bZ,cA,r,i0,i1,EZ,u,Bool.false_and]
 |true=>simp![aW,bZ,cA,r,i0,i1,EZ,u,Bool.true_and]
theorem OQ(n:Int)(M:Sto){a b c:PyData}(h:aP x=some [a,b,c])(q:plB n a=false\/plB n b=false):aW [I n,.d x] M=some (B false,M):=by
 have r:dR x 3=true:=by unfold dR;rw[h];rfl
 have i0:∀M,ixF (.d x) (I 0) M=some (.d a,M):=fun M=>cH h;have i1:∀M,ixF (.d x) (I 1) M=some (.d b,M):=fun M=>cH h;simp![aW,bZ,cA,r,i0,i1,CJ n a b _ q]
theorem WM(n:Int)(M:Sto)(r:dR x 3=false):aW [I n,.d x] M=some (B false,M):=by
 simp![aW,bZ,cA,r]
noncomputable abbrev AM:EF:=(mH (aK aW (aA (aD 0) (aA (aD 1) aF))) (aK eP (aA (fOp ixF (aD 1) (fC (.int 2))) aF)))
theorem aGz(n:Int)(x:PyData)(M:Sto):AM [some (I n),some (.d x)] M=some (B (bI n x).isSome,M):=by
 cases hi:aP x with
 |none=>
  have e:bI n x=none:=by unfold bI;rw[hi]
  have b:=WM n M (x:=x) (by unfold dR;rw[hi]);rw[e];simp![AM,b];rfl
 |some ds=>
  cases h3:((ds.length:Int)==3)with
  |false=>
   have b:=WM n M (x:=x) (by unfold dR;rw[hi];exact h3);rw[PB hi h3];simp![AM,b];rfl
  |true=>
   obtain⟨a,b,c,rfl⟩:=aHr ds h3;have i2:∀M,ixF (.d x) (I 2) M=some (.d c,M):=fun M=>cH hi;rw[IG hi]
   have no:∀(q:plB n a=false\/plB n b=false),NL n a b=false->AM [some (I n),some (.d x)] M=some (B (NL n a b&&nL c),M):=fun q e=>by
    have bt:=OQ n M hi q;rw[e,U9];simp![AM,bt]
   cases a with
   |int i=>
    cases b with
    |int j=>
     have bt:=TQ n i j M hi;cases w:NL n (.int i) (.int j)with
     |false=>rw[w]at bt;simp![AM,bt,Bool.false_and]
     |true=>rw[w]at bt;simp![AM,bt,i2,FC,Bool.true_and]
    |_=>exact no (.inr rfl) rfl
   |_=>exact no (.inl rfl) rfl
theorem sz{k:Nat}(h:k<=1000):k<=sizeLine:=by rw[E4];omega
theorem yR(bs:List Bool):boolsOf (bs.map .bool)=some bs:=by
 induction bs with
 |nil=>rfl
 |cons b bs ih=>
  show(boolsOf (bs.map .bool)).bind _=_;rw[ih];rfl
theorem gS:∀ds:List PyData,kZ (ds.map .d)=some ds
 |[]=>rfl
 |d::ds=>by
  show(kZ (ds.map .d)).map (d::·)=_;rw[gS ds];rfl
theorem KO(n:Int)(M:Sto):∀(ds:List PyData)(g:Option CD),lcF (hName 1) gV AM (ds.map .d) [some (I n),g] M=some ((ds.map fun d=>PyData.bool (bI n d).isSome).map .d,M)
 |[]=>fun g=>rfl
 |d::ds=>fun g=>by
  have ih:=KO n M ds (some (.d d));rw[B6,B6,B6];unfold lcF;rw[show hName 1 (.d d) [some (I n),g] M=some ([some (I n),some (.d d)],M)from rfl,A2];dsimp only;rw[show gV [some (I n),some (.d d)] M=some (true,M)from rfl,A2];dsimp only;rw[A7 rfl,aGz,A2];dsimp only;rw[ih];rfl
theorem mX{cap:List (Option Nat)}{f:AF}{c:TF}{xs:List CD}(it:f γ M=some (xs,M))(hl:xs.length<=sizeLine)(lc:lcF g c ee xs (GX cap γ) M=some (ys.map .d,M))(hy:ys.length<=sizeLine):fLc cap f g c ee γ M=some (.d (.list ys),M):=by
 unfold fLc dE yD;rw[it,A2];dsimp only;rw[A7 hl,lc,A2];dsimp only;rw[gS,A2,A7 hy]
theorem VD{f:EF}(h:aP x=some ds)(hf:f γ M=some (.d x,M)):cF f γ M=some (ds.map .d,M):=by
 unfold cF;rw[hf,A2];dsimp only;rw[h];rfl
theorem aHz{n:Int}(h:aP x=some ds)(hl:ds.length<=1000):tI [some (I n),some (.d x)] M=some (.d (.list (ds.map fun d=>PyData.bool (bI n d).isSome)),M):=
 mX (VD h rfl) (sz (by rw[A3];exact hl)) (KO n M ds none) (sz (by rw[A3];exact hl))
theorem aDJ(ds:List PyData)(p:PyData->Bool)(M:Sto):DN [.d (.list (ds.map fun d=>PyData.bool (p d)))] M=some (B (ds.all p),M):=by
 have:=yR (ds.map p);rw[O4]at this;show(boolsOf (ds.map (PyData.bool ∘ p))).bind _=_;rw[this,A2,List.all_map];rfl
noncomputable abbrev Ed:=Int×Int
noncomputable abbrev at0(l:List Int)(p:Int):Int:=l.getD p.toNat 0
noncomputable def eV(l:List Int)(t:Ed):List Int:=l.map (fun z=>if z=at0 l t.2 then at0 l t.1 else z)
noncomputable def zs(n:Nat):List Int:=(List.range n).map Int.ofNat
noncomputable abbrev Inn(n:Nat)(p:Int):Prop:=0<=p/\p<n
theorem rK(l:List Int)(t:Ed):(eV l t).length=l.length:=by simp[eV]
theorem lT(n:Nat):(zs n).length=n:=by simp[zs]
theorem xW(h:Inn n p):at0 (zs n) p=p:=by
 have:p.toNat<n:=by omega
 simp only[at0,zs,List.getD_eq_getElem?_getD,List.getElem?_map,List.getElem?_range this,Option.map_some,Option.getD_some];show((p.toNat:Nat):Int)=p;omega
theorem zs_mem{q:Int}:q∈zs n↔Inn n q:=by
 unfold zs;rw[List.mem_map];constructor
 .rintro⟨k,hk,rfl⟩;have:=List.mem_range.mp hk;exact⟨A0b k,by show((k:Nat):Int)<n;omega⟩
 .intro h;exact⟨q.toNat,List.mem_range.mpr (by omega),by show((q.toNat:Nat):Int)=q;omega⟩
theorem JR(n:Nat):(zs n).Nodup:=by
 unfold zs;rw[Y1,List.pairwise_map];exact(List.nodup_iff_pairwise_ne.mp List.nodup_range).imp fun h e=>h (by have:((_:Nat):Int)=((_:Nat):Int):=e;omega)
theorem dX{t:Ed}(hl:l.length=n)(hp:Inn n p):at0 (eV l t) p=if at0 l p=at0 l t.2 then at0 l t.1 else at0 l p:=by
 have hp':p.toNat<l.length:=by omega
 unfold eV;simp only[at0,List.getD_eq_getElem?_getD,List.getElem?_map,List.getElem?_eq_getElem hp',Option.map_some,Option.getD_some]
noncomputable abbrev Oks(n:Nat)(us:List Ed):Prop:=∀t∈us,Inn n t.1/\Inn n t.2
theorem EL{n:Nat}:∀(us:List Ed)(l:List Int),l.length=n->Oks n us->∀p q,Inn n p->Inn n q->((p,q)∈us\/at0 l p=at0 l q)->at0 (us.foldl eV l) p=at0 (us.foldl eV l) q
 |[]=>fun l _ _ p q _ _ h=>by
  rcases h with h|h
  .cases h
  .exact h
 |u::us=>fun l hl ok p q hp hq h=>by
  rw[U2];refine EL us (eV l u) (by rw[rK,hl]) (fun t ht=>ok t (B3 _ ht)) p q hp hq ?_;rcases h with h|h
  .rcases List.mem_cons.mp h with e|ht
   .right
    subst e;rw[dX hl hp,dX hl hq,A7 rfl];split<;>rfl
   .exact .inl ht
  .right
   rw[dX hl hp,dX hl hq,h]
theorem wM{n:Nat}{S:Int->Prop}:∀(us:List Ed)(l:List Int),l.length=n->Oks n us->(∀t∈us,(S t.1↔S t.2))->(∀p q,Inn n p->Inn n q->at0 l p=at0 l q->(S p↔S q))->
 ∀p q,Inn n p->Inn n q->at0 (us.foldl eV l) p=at0 (us.foldl eV l) q->(S p↔S q)
 |[]=>fun l _ _ _ h=>h
 |u::us=>fun l hl ok cl h=>by
  rw[U2];refine wM us (eV l u) (by rw[rK,hl]) (fun t ht=>ok t (B3 _ ht)) (fun t ht=>cl t (B3 _ ht)) ?_;intro p q hp hq e;obtain⟨ui,uj⟩:=ok u (B5 ..);rw[dX hl hp,dX hl hq]at e;have c:=cl u (B5 ..);by_cases h1:at0 l p=at0 l u.2
  .rw[A7 h1]at e;by_cases h2:at0 l q=at0 l u.2
   .exact h p q hp hq (h1.trans h2.symm)
   .rw[B0 h2]at e;exact(h p u.2 hp uj h1).trans (c.symm.trans (h u.1 q ui hq e))
  .rw[B0 h1]at e;by_cases h2:at0 l q=at0 l u.2
   .rw[A7 h2]at e;exact(h p u.1 hp ui e).trans (c.trans (h u.2 q uj hq h2.symm))
   .rw[B0 h2]at e;exact h p q hp hq e
noncomputable def fF(n:Nat)(us:List Ed):List Int:=us.foldl eV (zs n)
theorem tL{us:List Ed}{S:Int->Prop}(ok:Oks n us)(cl:∀t∈us,(S t.1↔S t.2)){q:Int}(hp:Inn n p)(hq:Inn n q)(e:at0 (fF n us) p=at0 (fF n us) q):S p↔S q:=
 wM us (zs n) (lT n) ok cl (fun p q hp hq e=>by rw[xW hp,xW hq]at e;rw[e]) p q hp hq e
theorem oM{us:List Ed}(ok:Oks n us){t:Ed}(ht:t∈us):at0 (fF n us) t.1=at0 (fF n us) t.2:=
 EL us (zs n) (lT n) ok t.1 t.2 (ok t ht).1 (ok t ht).2 (.inl ht)
structure Lb(n:Nat)(l:List Int):Prop where
 len:l.length=n
 inn:∀p,Inn n p->Inn n (at0 l p)
 own:∀p,Inn n p->at0 l (at0 l p)=at0 l p
theorem Lb.start(n:Nat):Lb n (zs n):=⟨lT n,fun p hp=>by rw[xW hp];exact hp,fun p hp=>by rw[xW hp,xW hp]⟩
theorem Lb.next{t:Ed}(h:Lb n l)(h1:Inn n t.1)(h2:Inn n t.2):Lb n (eV l t):=by
 refine⟨by rw[rK,h.len],fun p hp=>?_,fun p hp=>?_⟩
 .rw[dX h.len hp];split
  .exact h.inn _ h1
  .exact h.inn _ hp
 .rw[dX h.len hp];by_cases e:at0 l p=at0 l t.2
  .rw[A7 e,dX h.len (h.inn _ h1),h.own _ h1];split<;>rfl
  .rw[B0 e,dX h.len (h.inn _ hp),h.own _ hp,B0 e]
noncomputable def roots(n:Nat)(l:List Int):Nat:=(zs n).countP fun p=>at0 l p==p
theorem zN{r:Int}{f g:Int->Bool}:∀xs:List Int,xs.Nodup->r∈xs->(∀p∈xs,p≠r->f p=g p)->g r=true->f r=false->xs.countP f+1=xs.countP g
 |[]=>fun _ h _ _ _=>by cases h
 |x::xs=>fun nd h e gr fr=>by
  rw[List.nodup_cons]at nd;have same:∀ys:List Int,(∀p∈ys,f p=g p)->ys.countP f=ys.countP g:=fun ys hy=>List.countP_congr fun p hp=>by rw[hy p hp]
  by_cases q:x=r
  .subst q;rw[List.countP_cons,List.countP_cons,gr,fr,same xs fun p hp=>e p (B3 _ hp) fun z=>nd.1 (z▸hp)];simp
  .have hr:r∈xs:=(List.mem_cons.mp h).resolve_left fun z=>q z.symm;have ih:=zN xs nd.2 hr (fun p hp=>e p (B3 _ hp)) gr fr;rw[List.countP_cons,List.countP_cons,e x (B5 ..) q];omega
theorem vZ{t:Ed}(h:Lb n l)(h1:Inn n t.1)(h2:Inn n t.2)(ne:at0 l t.1≠at0 l t.2):roots n (eV l t)+1=roots n l:=by
 refine zN (r:=at0 l t.2) _ (JR n) (zs_mem.mpr (h.inn _ h2)) (fun p hp q=>?_) ?_ ?_
 .have hp:=zs_mem.mp hp;rw[dX h.len hp];by_cases e:at0 l p=at0 l t.2
  .rw[A7 e,e];have a:(at0 l t.2==p)=false:=by rw[Y2];exact fun z=>q z.symm
   have b:(at0 l t.1==p)=false:=by
    rw[Y2];intro z;have:=h.own _ h1;rw[z,e,<- z]at this;exact ne this.symm
   rw[a,b]
  .rw[B0 e]
 .rw[h.own _ h2,Z3]
 .rw[dX h.len (h.inn _ h2),h.own _ h2,A7 rfl,Y2];exact ne
theorem vR{t:Ed}(e:at0 l t.1=at0 l t.2):eV l t=l:=by
 unfold eV;rw[e]
 conv=>rhs;rw[<- List.map_id l]
 refine S7 fun z _=>?_;split
 .rename_i h;exact h.symm
 .rfl
noncomputable def nS:List Int->List Ed->Bool
 |_,[]=>true
 |l,t::us=>!(at0 l t.1==at0 l t.2)&&nS (eV l t) us
theorem CP{n:Nat}:∀(us:List Ed)(l:List Int),Lb n l->Oks n us->Lb n (us.foldl eV l)/\roots n l<=roots n (us.foldl eV l)+us.length/\(nS l us=true↔roots n l=roots n (us.foldl eV l)+us.length)
 |[]=>fun l h _=>⟨h,B1 _,by simp[nS]⟩
 |t::us=>fun l h ok=>by
  obtain⟨h1,h2⟩:=ok t (B5 ..);rw[U2];obtain⟨a,b,c⟩:=CP us (eV l t) (h.next h1 h2) fun u hu=>ok u (B3 _ hu);refine⟨a,?_,?_⟩
  .by_cases e:at0 l t.1=at0 l t.2
   .rw[vR e]at b ⊢;rw[C9];omega
   .have:=vZ h h1 h2 e;rw[C9];omega
  .unfold nS;by_cases e:at0 l t.1=at0 l t.2
   .rw[show(at0 l t.1==at0 l t.2)=true from beq_iff_eq.mpr e];rw[vR e]at b ⊢;rw[C9];constructor
    .intro z;simp at z
    .intro z;omega
   .have:=vZ h h1 h2 e;rw[show(at0 l t.1==at0 l t.2)=false from beq_eq_false_iff_ne.mpr e,C9];rw[Bool.not_false,Y5,c];omega
theorem WE(n:Nat):roots n (zs n)=n:=by
 unfold roots
 have:(zs n).countP (fun p=>at0 (zs n) p==p)=(zs n).length:=List.countP_eq_length.mpr fun p hp=>by
  rw[xW (zs_mem.mp hp),Z3]
 rw[this,lT]
theorem MM(h:Lb n l)(h0:0<n):roots n l=1↔∀p,Inn n p->at0 l p=at0 l 0:=by
 have i0:Inn n 0:=⟨by omega,by omega⟩
 have rt:∀p,Inn n p->at0 l p∈(zs n).filter fun p=>at0 l p==p:=fun p hp=>by
  rw[List.mem_filter,zs_mem,Z3];exact⟨h.inn p hp,h.own p hp⟩
 constructor
 .intro e p hp;unfold roots at e;rw[List.countP_eq_length_filter]at e;obtain⟨c,hc⟩:=List.length_eq_one_iff.mp e;have a:=rt p hp;have b:=rt 0 i0;rw[hc,D4]at a b;rw[a,b]
 .intro e;unfold roots;rw[List.countP_eq_length_filter]
  have:(zs n).filter (fun p=>at0 l p==p)=[at0 l 0]:=by
   have nd:((zs n).filter fun p=>at0 l p==p).Nodup:=(JR n).filter fun p=>at0 l p==p
   have all:∀x∈(zs n).filter (fun p=>at0 l p==p),x=at0 l 0:=fun x hx=>by
    rw[List.mem_filter,zs_mem,Z3]at hx;rw[<- e x hx.1];exact hx.2.symm
   have mem:=rt 0 i0;generalize (zs n).filter (fun p=>at0 l p==p)=xs at nd all mem;rcases xs with _|⟨x,_|⟨y,ys⟩⟩
   .cases mem
   .rw[all x (B5 ..)]
   .rw[List.nodup_cons]at nd;exact absurd (List.mem_cons.mpr (.inl ((all x (B5 ..)).trans (all y (by simp)).symm))) nd.1
  rw[this];rfl
theorem sF{us:List Ed}(h0:0<n)(hl:us.length+1=n)(ok:Oks n us):nS (zs n) us=true↔∀p,Inn n p->at0 (fF n us) p=at0 (fF n us) 0:=by
 obtain⟨a,b,c⟩:=CP us (zs n) (Lb.start n) ok;rw[WE]at b c;rw[c];show _↔∀p,Inn n p->at0 (us.foldl eV (zs n)) p=at0 (us.foldl eV (zs n)) 0;rw[<- MM a h0];omega
noncomputable abbrev Adj:=List (List (Int×Int))
noncomputable def xM(A:Adj)(p:Int)(q:Int×Int):Adj:=A.set p.toNat (A.getD p.toNat []++[q])
noncomputable def EH(A:Adj)(t:Ed)(k:Int):Adj:=xM (xM A t.1 (t.2,k)) t.2 (t.1,k)
noncomputable def iB:Adj->Nat->List Ed->Adj
 |A,_,[]=>A
 |A,k,t::us=>iB (EH A t (k:Nat)) (k+1) us
noncomputable def oP(n:Nat)(us:List Ed):Adj:=iB (List.replicate n []) 0 us
theorem vE(A:Adj)(p:Int)(q:Int×Int):(xM A p q).length=A.length:=by simp[xM]
theorem vL(A:Adj)(t:Ed)(k:Int):(EH A t k).length=A.length:=by simp[EH,vE]
theorem vF:∀(us:List Ed)(A:Adj)(k:Nat),(iB A k us).length=A.length
 |[]=>fun _ _=>rfl
 |t::us=>fun A k=>by unfold iB;rw[vF us,vL]
theorem IQ{A:Adj}{q:Int×Int}(hl:A.length=n)(hp:Inn n p)(hr:Inn n r)(x:Int×Int):x∈(xM A p q).getD r.toNat []↔(x∈A.getD r.toNat []\/(p=r/\x=q)):=by
 have hr':r.toNat<A.length:=by omega
 unfold xM;rw[A8,List.getElem?_set];by_cases h:p.toNat=r.toNat
 .have e:p=r:=by omega
  subst e;rw[A7 rfl,A7 hr',Option.getD_some,List.mem_append,D4];simp
 .have e:p≠r:=fun e=>h (by rw[e]);rw[B0 h,<- A8];simp[e]
noncomputable def Lies(us:List Ed)(k:Nat)(r x m:Int):Prop:=∃(j:Nat)(t:Ed),us[j]?=some t/\m=((k+j:Nat):Int)/\((t.1=r/\t.2=x)\/(t.2=r/\t.1=x))
theorem NH{t:Ed}{us:List Ed}{k:Nat}{x m:Int}:Lies (t::us) k r x m↔(m=(k:Nat)/\((t.1=r/\t.2=x)\/(t.2=r/\t.1=x)))\/Lies us (k+1) r x m:=by
 constructor
 .rintro⟨j,u,h1,h2,h3⟩;cases j with
  |zero=>
   rw[List.getElem?_cons_zero]at h1;cases h1;exact .inl ⟨by simpa using h2,h3⟩
  |succ j=>
   rw[List.getElem?_cons_succ]at h1;exact .inr ⟨j,u,h1,by rw[h2];congr 1;omega,h3⟩
 .rintro(⟨h1,h2⟩|⟨j,u,h1,h2,h3⟩)
  .exact⟨0,t,rfl,by simpa using h1,h2⟩
  .exact⟨j+1,u,by rw[List.getElem?_cons_succ];exact h1,by rw[h2];congr 1;omega,h3⟩
theorem JU{n:Nat}:∀(us:List Ed)(A:Adj)(k:Nat),A.length=n->Oks n us->∀r x m,Inn n r->((x,m)∈(iB A k us).getD r.toNat []↔((x,m)∈A.getD r.toNat []\/Lies us k r x m))
 |[]=>fun A k _ _ r x m _=>by
  unfold iB Lies;simp
 |t::us=>fun A k hl ok r x m hr=>by
  obtain⟨ti,tj⟩:=ok t (B5 ..);unfold iB;rw[JU us (EH A t (k:Nat)) (k+1) (by rw[vL,hl]) (fun s hs=>ok s (B3 _ hs)) r x m hr,NH];unfold EH;rw[IQ (by rw[vE,hl]) tj hr,IQ hl ti hr];simp only[Prod.mk.injEq];constructor
  .rintro(((h|⟨h1,h2,h3⟩)|⟨h1,h2,h3⟩)|h)
   .exact .inl h
   .exact .inr (.inl ⟨h3,.inl ⟨h1,h2.symm⟩⟩)
   .exact .inr (.inl ⟨h3,.inr ⟨h1,h2.symm⟩⟩)
   .exact .inr (.inr h)
  .rintro(h|⟨h1,⟨h2,h3⟩|⟨h2,h3⟩⟩|h)
   .exact .inl (.inl (.inl h))
   .exact .inl (.inl (.inr ⟨h2,h3.symm,h1⟩))
   .exact .inl (.inr ⟨h2,h3.symm,h1⟩)
   .exact .inr h
theorem qQ{us:List Ed}(ok:Oks n us){x m:Int}(hr:Inn n r):(x,m)∈(oP n us).getD r.toNat []↔Lies us 0 r x m:=by
 unfold oP;rw[JU us _ 0 (by simp) ok r x m hr]
 have:(List.replicate n ([]:List (Int×Int))).getD r.toNat []=[]:=by
  rw[A8,Y8];split<;>rfl
 rw[this];simp
structure Sc where
 fs:List Int
 ws:List Int
 ss:List (Int×Int×Int)
noncomputable def see(u:Int)(s:Sc)(x:Int×Int):Sc:=if x.1∈s.fs then s else⟨s.fs++[x.1],s.ws++[x.1],s.ss++[(u,x.1,x.2)]⟩
theorem AV{n:Nat}{P:Int->Prop}{u:Int}:∀(xs:List (Int×Int))(s:Sc),(∀x∈xs,Inn n x.1/\P x.1)->s.fs.Nodup->(∀x∈s.fs,Inn n x/\P x)->
 ∃new:List (Int×Int),xs.foldl (see u) s=⟨s.fs++new.map (·.1),s.ws++new.map (·.1),s.ss++new.map fun y=>(u,y.1,y.2)⟩/\(s.fs++new.map (·.1)).Nodup/\(∀y∈new,y∈xs)/\(∀x∈xs,x.1∈s.fs++new.map (·.1))
 |[]=>fun s _ nd _=>⟨[],by simp,by simpa using nd,(by intro x hx;cases hx),(by intro x hx;cases hx)⟩
 |x::xs=>fun s hx nd hf=>by
  rw[U2];have hx':∀y∈xs,Inn n y.1/\P y.1:=fun y hy=>hx y (B3 _ hy);by_cases h:x.1∈s.fs
  .have e:see u s x=s:=by unfold see;rw[A7 h]
   rw[e];obtain⟨new,h1,h2,h3,h4⟩:=AV (u:=u) xs s hx' nd hf;refine⟨new,h1,h2,fun y hy=>B3 _ (h3 y hy),fun y hy=>?_⟩;rcases List.mem_cons.mp hy with rfl|hy
   .exact D0 _ h
   .exact h4 y hy
  .have e:see u s x=⟨s.fs++[x.1],s.ws++[x.1],s.ss++[(u,x.1,x.2)]⟩:=by unfold see;rw[B0 h]
   rw[e]
   have nd':(s.fs++[x.1]).Nodup:=by
    rw[Y9];exact⟨nd,by simp,fun a ha b hb=>by rw[D4]at hb;rw[hb];exact fun q=>h (q▸ha)⟩
   have hf':∀y∈s.fs++[x.1],Inn n y/\P y:=fun y hy=>by
    rcases List.mem_append.mp hy with hy|hy
    .exact hf y hy
    .rw[D4]at hy;rw[hy];exact hx x (B5 ..)
   obtain⟨new,h1,h2,h3,h4⟩:=AV (u:=u) xs ⟨s.fs++[x.1],s.ws++[x.1],s.ss++[(u,x.1,x.2)]⟩ hx' nd' hf';refine⟨x::new,?_,?_,?_,?_⟩
   .rw[h1];simp
   .simpa using h2
   .intro y hy;rcases List.mem_cons.mp hy with rfl|hy
    .exact B5 ..
    .exact B3 _ (h3 y hy)
   .intro y hy;have r:s.fs++[x.1]++new.map (·.1)=s.fs++(x::new).map (·.1):=by simp
    rw[<- r];rcases List.mem_cons.mp hy with rfl|hy
    .exact D0 _ (C5 _ (List.mem_singleton.mpr rfl))
    .exact h4 y hy
structure tT(n:Nat)(A:Adj)(P:Int->Prop)(p:Int)(s:Sc):Prop where
 nd:s.fs.Nodup
 ok:∀x∈s.fs,Inn n x/\P x
 has:p∈s.fs
 sub:∀x∈s.ws,x∈s.fs
 cl:∀u∈s.fs,u∈s.ws\/∀v∈A.getD u.toNat [],v.1∈s.fs
 st:s.fs=p::s.ss.map (·.2.1)
 od:∀(q:Nat)(h t a:Int),s.ss[q]?=some (h,t,a)->h∈p::(s.ss.take q).map (·.2.1)/\(t,a)∈A.getD h.toNat []
theorem tT.start{A:Adj}{P:Int->Prop}(hp:Inn n p)(h:P p):tT n A P p ⟨[p],[p],[]⟩:=
 ⟨by simp,fun x hx=>by rw[D4]at hx;rw[hx];exact⟨hp,h⟩,List.mem_singleton.mpr rfl,fun x hx=>hx,fun u hu=>.inl hu,rfl,fun q h t a e=>by cases e⟩
theorem tT.step{A:Adj}{P:Int->Prop}{fs:List Int}{ss:List (Int×Int×Int)}(h:tT n A P p ⟨fs,ws++[u],ss⟩)(hA:∀x y,Inn n x->P x->y∈A.getD x.toNat []->Inn n y.1/\P y.1):
 ∃new:List (Int×Int),(A.getD u.toNat []).foldl (see u) ⟨fs,ws,ss⟩=⟨fs++new.map (·.1),ws++new.map (·.1),ss++new.map fun y=>(u,y.1,y.2)⟩/\(∀y∈new,y∈A.getD u.toNat [])/\tT n A P p ⟨fs++new.map (·.1),ws++new.map (·.1),ss++new.map fun y=>(u,y.1,y.2)⟩:=by
 have hu:=h.ok u (h.sub u (C5 _ (List.mem_singleton.mpr rfl)));obtain⟨new,h1,h2,h3,h4⟩:=AV (n:=n) (P:=P) (u:=u) (A.getD u.toNat []) ⟨fs,ws,ss⟩ (fun x hx=>hA u x hu.1 hu.2 hx) h.nd h.ok;refine⟨new,h1,h3,h2,fun x hx=>?_,D0 _ h.has,fun x hx=>?_,fun v hv=>?_,?_,fun q g t a e=>?_⟩
 .rcases List.mem_append.mp hx with hx|hx
  .exact h.ok x hx
  .obtain⟨y,hy,rfl⟩:=List.mem_map.mp hx;exact hA u y hu.1 hu.2 (h3 y hy)
 .rcases List.mem_append.mp hx with hx|hx
  .exact D0 _ (h.sub x (D0 _ hx))
  .exact C5 _ hx
 .rcases List.mem_append.mp hv with hv|hv
  .rcases h.cl v hv with w|w
   .rcases List.mem_append.mp w with w|w
    .exact .inl (D0 _ w)
    .rw[D4]at w;rw[w];exact .inr h4
   .exact .inr fun y hy=>D0 _ (w y hy)
  .exact .inl (C5 _ hv)
 .have:=h.st;dsimp only at this ⊢;rw[this,D3,O4,List.cons_append];rfl
 .dsimp only at e ⊢;by_cases lt:q<ss.length
  .rw[F4 lt]at e;rw[List.take_append_of_le_length (Z9 lt)];exact h.od q g t a e
  .rw[B9 (by omega),C3]at e;obtain⟨y,hy,e⟩:=Option.map_eq_some_iff.mp e;cases e;refine⟨?_,h3 y (E5 hy)⟩;have hu2:=h.sub u (C5 _ (List.mem_singleton.mpr rfl));have st:=h.st;dsimp only at hu2 st;rw[st]at hu2;rcases List.mem_cons.mp hu2 with z|z
   .rw[z];exact B5 ..
   .refine B3 _ ?_;rw[List.take_append];rw[List.take_of_length_le (by omega),D3];exact D0 _ z
theorem sJ{fs:List Int}(nd:fs.Nodup)(ok:∀x∈fs,Inn n x):fs.length<=n:=by
 have h2:=List.Nodup.length_le_of_subset nd (l₂:=zs n) fun x hx=>zs_mem.mpr (ok x hx)
 rwa [lT]at h2
theorem uZ{fs:List Int}(nd:fs.Nodup)(ok:∀x∈fs,Inn n x):fs.length=n↔∀p,Inn n p->p∈fs:=by
 constructor
 .intro e p hp;refine Classical.byContradiction fun h=>?_
  have:=sJ (n:=n) (fs:=p::fs) (List.nodup_cons.mpr ⟨h,nd⟩) (fun x hx=>by
   rcases List.mem_cons.mp hx with rfl|hx
   .exact hp
   .exact ok x hx)
  rw[C9]at this;omega
 .intro e;have h1:=sJ nd ok;have h2:=List.Nodup.length_le_of_subset (JR n) (l₂:=fs) fun x hx=>e x (zs_mem.mp hx);rw[lT]at h2;omega
theorem DT{us:List Ed}{k:Nat}{x m:Int}(h:Lies us k r x m):(r,x)∈us\/(x,r)∈us:=by
 obtain⟨j,t,h1,_,h3⟩:=h;have ht:=E5 h1;rcases h3 with⟨rfl,rfl⟩|⟨rfl,rfl⟩
 .exact .inl ht
 .exact .inr ht
theorem aCp{us:List Ed}(ok:Oks n us)(x:Int)(y:Int×Int)(hx:Inn n x)(e:at0 (fF n us) x=at0 (fF n us) p)(hy:y∈(oP n us).getD x.toNat []):Inn n y.1/\at0 (fF n us) y.1=at0 (fF n us) p:=by
 rcases DT ((qQ ok hx).mp (show(y.1,y.2)∈_ from hy))with h|h
 .exact⟨(ok _ h).2,by rw[<- e];exact(oM ok h).symm⟩
 .exact⟨(ok _ h).1,by rw[<- e];exact oM ok h⟩
theorem tT.done{us:List Ed}{fs:List Int}{ss:List (Int×Int×Int)}(ok:Oks n us)(hp:Inn n p)
 (h:tT n (oP n us) (fun q=>at0 (fF n us) q=at0 (fF n us) p) p ⟨fs,[],ss⟩):fs.length=n↔∀q,Inn n q->at0 (fF n us) q=at0 (fF n us) p:=by
 have cl:∀u∈fs,∀v∈(oP n us).getD u.toNat [],v.1∈fs:=fun u hu v hv=>by
  rcases h.cl u hu with w|w
  .cases w
  .exact w v hv
 have S:∀t∈us,(t.1∈fs↔t.2∈fs):=fun t ht=>by
  obtain⟨j,hj⟩:=I0 ht;exact⟨fun hi=>cl t.1 hi (t.2,((0+j:Nat):Int)) ((qQ ok (ok t ht).1).mpr ⟨j,t,hj,rfl,.inl ⟨rfl,rfl⟩⟩),fun hi=>cl t.2 hi (t.1,((0+j:Nat):Int)) ((qQ ok (ok t ht).2).mpr ⟨j,t,hj,rfl,.inr ⟨rfl,rfl⟩⟩)⟩
 rw[uZ h.nd fun x hx=>(h.ok x hx).1];exact⟨fun e q hq=>(h.ok q (e q hq)).2,fun e q hq=>(tL (S:=(·∈fs)) ok S hq hp (e q hq)).mpr h.has⟩
noncomputable abbrev pD(p:Int×Int):CD:=.d (.tuple [.int p.1,.int p.2])
noncomputable def rW(l:List (Int×Int)):Cell:=.lst (l.map pD)
noncomputable abbrev StA(M:Sto)(A:Adj)(c:Cell):Sto:=M++(A.map rW++[c])
theorem HM{A:Adj}{c:Cell}{k:Nat}(h:k<A.length):(StA M A c)[M.length+k]?=some (rW (A.getD k [])):=by
 unfold StA;rw[B9 (O0 ..),J8,F4 (by rw[A3];exact h),C3,A8,A9 h];rfl
theorem JI{A:Adj}{c:Cell}:(StA M A c)[M.length+A.length]?=some c:=by
 unfold StA;rw[B9 (O0 ..),J8,B9 (by rw[A3];exact B1 _),A3,F5];rfl
theorem YF{A:Adj}{c:Cell}{k:Nat}{l:List (Int×Int)}(h:k<A.length):(StA M A c).set (M.length+k) (rW l)=StA M (A.set k l) c:=by
 unfold StA;rw[E7 _ _ (O0 ..),J8,List.set_append_left _ _ (by rw[A3];exact h),List.map_set]
noncomputable def bR(b n:Nat):List CD:=(List.range n).map fun k=>.c (b+k)
theorem gR{α:Type}{xs:List α}{k:Nat}{x:α}(h:xs[k]?=some x):atI xs (k:Int)=some x:=by
 have hk:k<xs.length:=(List.getElem?_eq_some_iff.mp h).1;unfold atI ixN;rw[A7 (A0b k),A7 (by omega),A2,F0,h]
theorem ED{b:Nat}(h:Inn n p):atI (bR b n) p=some (.c (b+p.toNat)):=by
 have:p.toNat<n:=by omega
 have e:p=((p.toNat:Nat):Int):=by omega
 rw[e];refine gR ?_;rw[F0];unfold bR;rw[C3,Z8 this];rfl
theorem EB{A:Adj}(hA:A.length=n)(h:Inn n p):ixF (.c (M.length+n)) (I p) (StA M A (.lst (bR M.length n)))=some (.c (M.length+p.toNat),StA M A (.lst (bR M.length n))):=by
 have e:=JI (M:=M) (A:=A) (c:=.lst (bR M.length n));rw[hA]at e;simp only[ixF,e,ED h,Option.bind_some]
theorem KN{A:Adj}{c:Cell}{q:Int×Int}(hA:A.length=n)(h:Inn n p)(hl:(A.getD p.toNat []).length<1000):bB (.c (M.length+p.toNat)) [.d (.tuple [.int q.1,.int q.2])] (StA M A c)=some (.d .none,StA M (xM A p q) c):=by
 have hp:p.toNat<A.length:=by omega
 have e:=HM (M:=M) (c:=c) hp;have l:((A.getD p.toNat []).map pD).length<sizeLine:=by rw[A3,E4];exact C0 hl (by decide)
 have s:=YF (M:=M) (c:=c) (l:=A.getD p.toNat []++[q]) hp;unfold rW at e s;rw[D3,J6]at s;simp only[bB,e,if_pos l,s];rfl
theorem RB{A:Adj}{c:Cell}(hA:A.length=n)(h:Inn n p):tyB "list" (StA M A c) (.c (M.length+p.toNat))=true:=by
 have e:=HM (M:=M) (c:=c) (show p.toNat<A.length by omega);unfold rW at e;simp only[tyB,e];decide
theorem yG:∀(n:Nat)(xs:List CD)(g:Option CD)(M:Sto),xs.length=n->lcF (hName 0) gV (jB aF) xs [g] M=some (bR M.length n,M++(List.replicate n ([]:List (Int×Int))).map rW)
 |0,[],g,M,_=>by simp[lcF,bR]
 |n+1,x::xs,g,M,h=>by
  have ih:=yG n xs (some x) (M++[.lst []]) (by simpa using h);simp only[lcF,hName,gV,jB,aF,Option.bind_some,if_true,List.length_nil,Nat.zero_le,List.set_cons_zero,ih,List.length_append,List.length_singleton];refine E9 some (Prod.ext ?_ ?_)
  .unfold bR;rw[List.range_succ_eq_map,B6,O4];refine E9 (List.cons _) (S7 fun k _=>?_);exact E9 CD.c (by show M.length+1+k=M.length+(k+1);omega)
  .rw[C6,List.replicate_succ,B6];rfl
theorem qI(lo:Int)(n:Nat):(dM lo n).length=n:=by simp[dM]
theorem qR{A:Adj}{q:Int×Int}{k:Nat}(h:∀r,(A.getD r []).length<=k):∀r,((xM A p q).getD r []).length<=k+1:=by
 intro r;unfold xM;rw[A8,List.getElem?_set];split
 .split
  .rw[Option.getD_some,B4,C7];exact Nat.add_le_add_right (h _) 1
  .exact F9 _
 .rw[<- A8];exact Nat.le_succ_of_le (h r)
theorem AJ{n:Int}{t:Ed}(h:bI n d=some t):∃a,aP d=some [.int t.1,.int t.2,a]/\nL a=true/\0<=t.1/\t.1<t.2/\t.2<n:=by
 unfold bI at h;split at h
 .rename_i i j a e;split at h
  .rename_i c;cases h;simp only[Bool.and_eq_true,decide_eq_true_eq]at c;exact⟨a,e,c.2,c.1.1.1,c.1.1.2,c.1.2⟩
  .cases h
 .cases h
theorem FP{t:Ed}(h:bI n d=some t):Inn n t.1/\Inn n t.2:=by
 obtain⟨_,_,_,h1,h2,h3⟩:=AJ h;exact⟨⟨by omega,by omega⟩,⟨by omega,by omega⟩⟩
theorem EG{M:Sto}{A:Adj}{t:Ed}{m:Int}{x0:CD}(hA:A.length=n)(hd:bI n d=some t){k:Nat}(hk:∀r,(A.getD r []).length<=k)(k1:k<500):
 fM [some x0,some (.c (M.length+n)),some (I m),some (.d d)] (StA M A (.lst (bR M.length n)))=some (.nx [some x0,some (.c (M.length+n)),some (I m),some (.d d)],StA M (EH A t m) (.lst (bR M.length n))):=by
 obtain⟨a,hi,_⟩:=AJ hd;obtain⟨h1,h2⟩:=FP hd;have i0:∀M,ixF (.d d) (I 0) M=some (I t.1,M):=fun M=>cH hi;have i1:∀M,ixF (.d d) (I 1) M=some (I t.2,M):=fun M=>cH hi;have hA':(xM A t.1 (t.2,m)).length=n:=by rw[vE,hA]
 have a1:=KN (M:=M) (c:=.lst (bR M.length n)) (q:=(t.2,m)) hA h1 (by have:=hk t.1.toNat;omega);have a2:=KN (M:=M) (c:=.lst (bR M.length n)) (q:=(t.1,m)) hA' h2 (by have:=qR (p:=t.1) (q:=(t.2,m)) hk t.2.toNat;omega);have s2:(2:Nat)<=sizeLine:=by decide
 simp![fM,bH,i0,i1,EB hA h1,RB hA h1,a1,EB hA' h2,RB hA' h2,a2,s2];rfl
theorem LP(d:PyData)(ds:List PyData)(k:Nat):((d::ds).zipIdx k).map (fun p=>CD.d (.tuple [.int (p.2:Nat),p.1]))=.d (.tuple [.int (k:Nat),d])::(ds.zipIdx (k+1)).map (fun p=>CD.d (.tuple [.int (p.2:Nat),p.1])):=rfl
theorem sO{M:Sto}{n:Nat}{x0:CD}:∀(ds:List PyData)(us:List Ed)(A:Adj)(k c:Nat)(g2 g3:Option CD),A.length=n->ds.mapM (bI n)=some us->(∀r,(A.getD r []).length<=k)->k+2*ds.length<500->
 ∃g2' g3',iZ (iP 2 (aY (hName 2) (aY (hName 3) gK))) fM ((ds.zipIdx c).map (fun p=>CD.d (.tuple [.int (p.2:Nat),p.1]))) [some x0,some (.c (M.length+n)),g2,g3] (StA M A (.lst (bR M.length n)))=some (.nx [some x0,some (.c (M.length+n)),g2',g3'],StA M (iB A c us) (.lst (bR M.length n)))
 |[]=>fun us A k c g2 g3 _ hm _ _=>by
  cases hm;exact⟨g2,g3,rfl⟩
 |d::ds=>fun us A k c g2 g3 hA hm hk hl=>by
  rw[List.mapM_cons]at hm;obtain⟨t,hd,hm⟩:=aH hm;obtain⟨us',hm',hm⟩:=aH hm;cases hm;rw[C9]at hl;have tn:=EG (M:=M) (x0:=x0) (m:=(c:Nat)) hA hd hk (by omega);obtain⟨a,b,h⟩:=sO (M:=M) (x0:=x0) ds us' (EH A t (c:Nat)) (k+2) (c+1) (some (I (c:Nat))) (some (.d d)) (by rw[vL,hA]) hm' (fun r=>qR (qR hk) r) (by omega);refine⟨a,b,?_⟩;unfold iB;rw[<- h,LP]
  conv=>lhs;unfold iZ
  simp![tn]
theorem jE(h0:0<=J)(h1:J<=1000):aZ J=true:=by
 simp only[aZ,Bool.and_eq_true,decide_eq_true_eq];omega
theorem aBl{cap:List (Option Nat)}{f:AF}{c:TF}{M1 M2:Sto}{xs ys:List CD}(it:f γ M=some (xs,M1))(hl:xs.length<=sizeLine)(lc:lcF g c ee xs (GX cap γ) M1=some (ys,M2))(hy:ys.length<=sizeLine):PP cap f g c ee γ M=some (.c M2.length,M2++[.lst ys]):=by
 unfold PP jB yD;rw[it,A2];dsimp only;rw[A7 hl,lc,A2];dsimp only;rw[A7 hy]
theorem RQ{x:CD}(hl:bW [x] M=some (I J,M))(sm:aZ (J+1)=true):dW (aA (fOp bM (aK bW (aA (aD 0) aF)) (fC (.int 1))) aF) (some x::γ) M=some (dM 0 (J+1).toNat,M):=by
 have ad:bM (I J) (I 1) M=some (I (J+1),M):=rfl;simp![dW,hl,ad,sm]
theorem UK{us:List Ed}{M:Sto}(hi:aP x=some ds)(hn:ds.length+1=n)(n40:n<=40)(hm:ds.mapM (bI n)=some us):
 gP [.d x] M=some (.c (M.length+n),StA M (oP n us) (.lst (bR M.length n))):=by
 have sm:aZ ((ds.length:Int)+1)=true:=jE (by omega) (by omega);have rl:(dM 0 n).length<=sizeLine:=by rw[qI];exact sz (by omega)
 have cl:(bR M.length n).length<=sizeLine:=by unfold bR;rw[A3,U5];exact sz (by omega)
 have nc:=yG n (dM 0 n) none M (qI 0 n)
 have r0:dW (aA (fOp bM (aK bW (aA (aD 0) aF)) (fC (.int 1))) aF) [some (.d x),none,none,none] M=some (dM 0 n,M):=by
  have:=RQ (γ:=[none,none,none]) (M:=M) (cT hi) sm;rw[show((ds.length:Int)+1).toNat=n by omega]at this;exact this
 have c0:iC [some (.d x),none,none,none] M=some (.c (M.length+n),StA M (List.replicate n []) (.lst (bR M.length n))):=by
  unfold iC;rw[aBl r0 rl nc cl,C6];refine E9 some (Prod.ext (E9 CD.c ?_) rfl);show(M++(List.replicate n ([]:List (Int×Int))).map rW).length=M.length+n;rw[B4,A3,List.length_replicate]
 obtain⟨g2,g3,lp⟩:=sO (M:=M) (n:=n) (x0:=.d x) ds us (List.replicate n []) 0 0 none none (by simp) hm (fun r=>by rw[A8,Y8];split<;>simp) (by omega)
 have it:DS (aA (aD 0) aF) [some (.d x),some (.c (M.length+n)),none,none] (StA M (List.replicate n []) (.lst (bR M.length n)))=some ((ds.zipIdx 0).map (fun p=>CD.d (.tuple [.int (p.2:Nat),p.1])),StA M (List.replicate n []) (.lst (bR M.length n))):=by
  unfold DS;show((aP x).bind _)=_;rw[hi];rfl
 simp![gP,kL,c0,jL,it,lp,oP]
noncomputable abbrev T1:CD:=.d (.bool true)
noncomputable def kvs(fs:List Int):List (Key×CD):=fs.map fun x=>((.inl x:Key),T1)
theorem XT(fs:List Int)(x:Int):(lkC (kvs fs) (.inl x:Key)).isSome=decide (x∈fs):=by
 unfold lkC kvs;rw[Option.isSome_map]
 induction fs with
 |nil=>rfl
 |cons y fs ih=>
  rw[B6,List.find?_cons];by_cases h:y=x
  .subst h;simp
  .have h1:¬((Sum.inl y:Key)=Sum.inl x):=fun e=>h (Sum.inl.inj e);rw[C1 h1];dsimp only;rw[ih];have:(x∈y::fs)↔x∈fs:=by rw[List.mem_cons];exact⟨fun q=>q.resolve_left (fun e=>h e.symm),.inr⟩
   exact decide_eq_decide.mpr this.symm
theorem JF{fs:List Int}{x:Int}(h:x∉fs):putD (kvs fs) (.inl x:Key) T1=kvs (fs++[x]):=by
 unfold putD
 have:((kvs fs).any fun kv=>decide (kv.1=(Sum.inl x:Key)))=false:=by
  rw[List.any_eq_false];intro kv hkv;obtain⟨y,hy,rfl⟩:=List.mem_map.mp hkv;rw[decide_eq_true_eq];exact fun e=>h (Sum.inl.inj e▸hy)
 rw[this,B0 (by decide)];unfold kvs;rw[D3,J6]
noncomputable abbrev sD(t:Int×Int×Int):CD:=.d (.tuple [.int t.1,.int t.2.1,.int t.2.2])
noncomputable def wC(ws:List Int):Cell:=.lst (ws.map fun i=>I i)
noncomputable def sC(ss:List (Int×Int×Int)):Cell:=.lst (ss.map sD)
noncomputable abbrev Sts(N:Sto)(s:Sc):Sto:=N++[.dk (kvs s.fs),wC s.ws,sC s.ss]
section
variable{N:Sto}{s:Sc}
theorem aCk:(Sts N s)[N.length]?=some (.dk (kvs s.fs)):=by
 unfold Sts;rw[B9 (B1 _),F5];rfl
theorem KD:(Sts N s)[N.length+1]?=some (wC s.ws):=by
 unfold Sts;rw[B9 (O0 ..),J8];rfl
theorem RU:(Sts N s)[N.length+2]?=some (sC s.ss):=by
 unfold Sts;rw[B9 (O0 ..),J8];rfl
theorem TL{fs':List Int}:(Sts N s).set N.length (.dk (kvs fs'))=Sts N { s with fs:=fs' }:=by
 unfold Sts;rw[E7 _ _ (B1 _),F5];rfl
theorem CI{ws':List Int}:(Sts N s).set (N.length+1) (wC ws')=Sts N { s with ws:=ws' }:=by
 unfold Sts;rw[E7 _ _ (O0 ..),J8];rfl
theorem TU{ss':List (Int×Int×Int)}:(Sts N s).set (N.length+2) (sC ss')=Sts N { s with ss:=ss' }:=by
 unfold Sts;rw[E7 _ _ (O0 ..),J8];rfl
theorem IC{k:Nat}{c:Cell}(h:N[k]?=some c):(Sts N s)[k]?=some c:=by
 unfold Sts;rw[F4 (List.getElem?_eq_some_iff.mp h).1];exact h
theorem aFM{x:Int}(hw:s.ws.length<1000):bB (.c (N.length+1)) [I x] (Sts N s)=some (.d .none,Sts N { s with ws:=s.ws++[x] }):=by
 have l2:(s.ws.map fun i=>I i).length<sizeLine:=by rw[A3,E4];omega
 have w:=KD (N:=N) (s:=s);have z:=CI (N:=N) (s:=s) (ws':=s.ws++[x]);unfold wC at w z;rw[D3,J6]at z;simp only[bB,w,if_pos l2];exact E9 (fun y=>some (CD.d .none,y)) z
theorem aGB:tyB "list" (Sts N s) (.c (N.length+1))=true:=by
 have w:=KD (N:=N) (s:=s);unfold wC at w;simp only[tyB,w];decide
theorem aFB{c:Int}(hw:s.ss.length<1000):bB (.c (N.length+2)) [.d (.tuple [.int a,.int b,.int c])] (Sts N s)=some (.d .none,Sts N { s with ss:=s.ss++[(a,b,c)] }):=by
 have l2:(s.ss.map sD).length<sizeLine:=by rw[A3,E4];omega
 have w:=RU (N:=N) (s:=s);have z:=TU (N:=N) (s:=s) (ss':=s.ss++[(a,b,c)]);unfold sC at w z;rw[D3,J6]at z;simp only[bB,w,if_pos l2];exact E9 (fun y=>some (CD.d .none,y)) z
theorem aHx:tyB "list" (Sts N s) (.c (N.length+2))=true:=by
 have w:=RU (N:=N) (s:=s);unfold sC at w;simp only[tyB,w];decide
end
noncomputable abbrev GR(x st b:CD)(D:Nat)(g6 g7 g8:Option CD):Ga:=[some x,some st,some b,some (.c D),some (.c (D+1)),some (.c (D+2)),g6,g7,g8]
theorem VP{N:Sto}{s:Sc}{u:Int}{y:Int×Int}{x0 st b:CD}(hf:s.fs.length<1000)(hw:s.ws.length<1000)(hs:s.ss.length<1000):
 cV (GR x0 st b N.length (some (I u)) (some (I y.1)) (some (I y.2))) (Sts N s)=some (.nx (GR x0 st b N.length (some (I u)) (some (I y.1)) (some (I y.2))),Sts N (see u s y)):=by
 have l1:(kvs s.fs).length<sizeLine:=by unfold kvs;rw[A3,E4];omega
 have a1:atD (Sts N s) (.c N.length) (.inl (.inl y.1))=some (lkC (kvs s.fs) (.inl y.1:Key)):=by simp only[atD,aCk]
 have k1:keyOf (I y.1)=some (.inl y.1):=rfl;have lk:=XT s.fs y.1;by_cases h:y.1∈s.fs
 .rw[C8 h]at lk;have e:see u s y=s:=by unfold see;rw[A7 h]
  rw[e];simp![cV,xF,xA,k1,a1,lk]
 .rw[C1 h]at lk;have e:see u s y=⟨s.fs++[y.1],s.ws++[y.1],s.ss++[(u,y.1,y.2)]⟩:=by unfold see;rw[B0 h]
  rw[e]
  have s1:II (Sts N s) (.c N.length) (.inl (.inl y.1)) (.d (.bool true))=some (Sts N { s with fs:=s.fs++[y.1] }):=by
   simp only[II,aCk,if_pos l1,JF h,TL]
  have p1:=aFM (N:=N) (s:={ s with fs:=s.fs++[y.1] }) (x:=y.1) hw;have t1:=aGB (N:=N) (s:={ s with fs:=s.fs++[y.1] });have p2:=aFB (N:=N) (s:={ s with fs:=s.fs++[y.1],ws:=s.ws++[y.1] }) (a:=u) (b:=y.1) (c:=y.2) hs;have t2:=aHx (N:=N) (s:={ s with fs:=s.fs++[y.1],ws:=s.ws++[y.1] });have s3:(3:Nat)<=sizeLine:=by decide
  simp![cV,xF,xA,k1,a1,lk,pN,s1,bH,t1,p1,t2,p2,s3]
theorem aBh(u:Int)(s:Sc)(x:Int×Int):(see u s x).fs.length<=s.fs.length+1/\(see u s x).ws.length<=s.ws.length+1/\(see u s x).ss.length<=s.ss.length+1:=by
 unfold see;split
 .exact⟨Y0 _,Y0 _,Y0 _⟩
 .simp
theorem DB{N:Sto}{P:Sto->Prop}{x0 st b:CD}{u:Int}(hP:∀s,P (Sts N s)):∀(xs:List (Int×Int))(s:Sc)(g7 g8:Option CD),s.fs.length+xs.length<1000->s.ws.length+xs.length<1000->s.ss.length+xs.length<1000->
 ∃g7' g8',tN P (iP 2 (aY (hName 7) (aY (hName 8) gK))) cV (xs.map pD) (GR x0 st b N.length (some (I u)) g7 g8) (Sts N s)=some (.nx (GR x0 st b N.length (some (I u)) g7' g8'),Sts N (xs.foldl (see u) s))
 |[]=>fun s g7 g8 _ _ _=>⟨g7,g8,by unfold tN;rw[S9];exact A7 (hP s)⟩
 |x::xs=>fun s g7 g8 hf hw hs=>by
  rw[C9]at hf hw hs;have tn:=VP (N:=N) (s:=s) (u:=u) (y:=x) (x0:=x0) (st:=st) (b:=b) (by omega) (by omega) (by omega);obtain⟨l1,l2,l3⟩:=aBh u s x;obtain⟨g7',g8',h⟩:=DB (x0:=x0) (st:=st) (b:=b) hP xs (see u s x) (some (I x.1)) (some (I x.2)) (by omega) (by omega) (by omega);refine⟨g7',g8',?_⟩;rw[U2,<- h,B6]
  conv=>lhs;unfold tN
  rw[A7 (hP s)];show(iP 2 (aY (hName 7) (aY (hName 8) gK)) (pD x) (GR x0 st b N.length (some (I u)) g7 g8) (Sts N s)).bind _=_;rw[show iP 2 (aY (hName 7) (aY (hName 8) gK)) (pD x) (GR x0 st b N.length (some (I u)) g7 g8) (Sts N s)=some (GR x0 st b N.length (some (I u)) (some (I x.1)) (some (I x.2)),Sts N s)from rfl,A2];dsimp only;rw[tn,A2]
structure sA(N:Sto)(b n:Nat)(A:Adj):Prop where
 row:N[b+n]?=some (.lst (bR b n))
 at_:∀p:Int,Inn n p->N[b+p.toNat]?=some (rW (A.getD p.toNat []))
theorem sA.new{A:Adj}(h:A.length=n):sA (StA M A (.lst (bR M.length n))) M.length n A:=
 ⟨by have:=JI (M:=M) (A:=A) (c:=.lst (bR M.length n));rw[h]at this;exact this,fun p hp=>HM (by omega)⟩
theorem KI:∀(us:List Ed)(A:Adj)(k c:Nat),(∀r,(A.getD r []).length<=k)->∀r,((iB A c us).getD r []).length<=k+2*us.length
 |[]=>fun A k c h r=>by simpa[iB]using h r
 |t::us=>fun A k c h r=>by
  unfold iB;have:=KI us (EH A t (c:Nat)) (k+2) (c+1) (fun r=>qR (qR h) r) r;rw[C9];omega
theorem SY{us:List Ed}(hl:us.length<64)(r:Nat):((oP n us).getD r []).length<130:=by
 have:=KI us (List.replicate n []) 0 0 (fun r=>by rw[A8,Y8];split<;>simp) r;unfold oP;omega
noncomputable abbrev wB:SF:=(aR (bG (bH "list" iR (aD 4) aF) (hName 6)) (yY (oB (fOp ixF (aD 2) (aD 6))) (iP 2 (aY (hName 7) (aY (hName 8) gK))) cV))
section
variable{N:Sto}{b n:Nat}{A:Adj}{x0 st:CD}
theorem aBc{fs:List Int}{ss:List (Int×Int×Int)}{g6 g7 g8:Option CD}(hN:sA N b n A)(hu:Inn n u)(hA:(A.getD u.toNat []).length<130)(hf:fs.length<=100)(hw:ws.length<=100)(hs:ss.length<=100):
 ∃g6' g7' g8',wB (GR x0 st (.c (b+n)) N.length g6 g7 g8) (Sts N ⟨fs,ws++[u],ss⟩)=some (.nx (GR x0 st (.c (b+n)) N.length g6' g7' g8'),Sts N ((A.getD u.toNat []).foldl (see u) ⟨fs,ws,ss⟩)):=by
 have w:=KD (N:=N) (s:=⟨fs,ws++[u],ss⟩);have s:=CI (N:=N) (s:=⟨fs,ws++[u],ss⟩) (ws':=ws);unfold wC at w s;have ty:=aGB (N:=N) (s:=⟨fs,ws++[u],ss⟩)
 have po:iR (.c (N.length+1)) [] (Sts N ⟨fs,ws++[u],ss⟩)=some (I u,Sts N ⟨fs,ws,ss⟩):=by
  have e1:((ws++[u]).map fun i=>I i)[((ws++[u]).map fun i=>I i).length-1]?=some (I u):=by
   rw[A3,B4,C7,Nat.add_sub_cancel,C3,B9 (B1 _),F5];rfl
  have e2:((ws++[u]).map fun i=>I i).dropLast=ws.map fun i=>I i:=by
   rw[D3,J6,List.dropLast_concat]
  simp only[iR,w,e1,e2,Option.bind_some];exact E9 (fun y=>some (I u,y)) s
 have ix:ixF (.c (b+n)) (I u) (Sts N ⟨fs,ws,ss⟩)=some (.c (b+u.toNat),Sts N ⟨fs,ws,ss⟩):=by
  have:=IC (s:=⟨fs,ws,ss⟩) hN.row;simp only[ixF,this,ED hu,Option.bind_some]
 have wk:walked (Sts N ⟨fs,ws,ss⟩) (.c (b+u.toNat))=some ((A.getD u.toNat []).map pD,fun M'=>M'[b+u.toNat]?=some (rW (A.getD u.toNat []))):=by
  have:=IC (s:=⟨fs,ws,ss⟩) (hN.at_ u hu);unfold rW at this ⊢;simp only[walked,this]
 obtain⟨g7',g8',lp⟩:=DB (N:=N) (P:=fun M'=>M'[b+u.toNat]?=some (rW (A.getD u.toNat []))) (x0:=x0) (st:=st) (b:=.c (b+n)) (u:=u) (fun s=>IC (hN.at_ u hu)) (A.getD u.toNat []) ⟨fs,ws,ss⟩ g7 g8 (by show fs.length+_<_;omega) (by show ws.length+_<_;omega) (by show ss.length+_<_;omega);refine⟨some (I u),g7',g8',?_⟩
 have sf:yY (oB (fOp ixF (aD 2) (aD 6))) (iP 2 (aY (hName 7) (aY (hName 8) gK))) cV (GR x0 st (.c (b+n)) N.length (some (I u)) g7 g8) (Sts N ⟨fs,ws,ss⟩)=some (.nx (GR x0 st (.c (b+n)) N.length (some (I u)) g7' g8'),Sts N ((A.getD u.toNat []).foldl (see u) ⟨fs,ws,ss⟩)):=by
  have i1:fOp ixF (aD 2) (aD 6) (GR x0 st (.c (b+n)) N.length (some (I u)) g7 g8) (Sts N ⟨fs,ws,ss⟩)=some (.c (b+u.toNat),Sts N ⟨fs,ws,ss⟩):=by
   simp![ix]
  unfold yY oB;rw[i1,A2];dsimp only;rw[wk,A2,A2];exact lp
 unfold wB aR bG;simp![bH,ty,po,sf]
theorem aHh{s:Sc}:xK (aD 4) (GR x0 st (.c (b+n)) N.length g6 g7 g8) (Sts N s)=some (!s.ws.isEmpty,Sts N s):=by
 have w:=KD (N:=N) (s:=s);unfold wC at w;simp![w];rw[List.isEmpty_map]
theorem JW{P:Int->Prop}{p:Int}(hN:sA N b n A)(n40:n<=40)(hA:∀x y,Inn n x->P x->y∈A.getD x.toNat []->Inn n y.1/\P y.1)(hF:∀r,(A.getD r []).length<130):∀(m:Nat)(s:Sc)(g6 g7 g8:Option CD),tT n A P p s->s.ws.length<=s.fs.length->2*(n-s.fs.length)+s.ws.length<m->
 ∃fs' ss' g6' g7' g8',tT n A P p ⟨fs',[],ss'⟩/\eW (xK (aD 4)) wB m (GR x0 st (.c (b+n)) N.length g6 g7 g8) (Sts N s)=some (.nx (GR x0 st (.c (b+n)) N.length g6' g7' g8'),Sts N ⟨fs',[],ss'⟩)
 |0,_=>fun _ _ _ _ _ h=>by omega
 |m+1,⟨fs,ws,ss⟩=>fun g6 g7 g8 h wl hm=>by
  have few:=sJ h.nd fun x hx=>(h.ok x hx).1;have sl:ss.length+1=fs.length:=by have:=E9 List.length h.st;simpa using this.symm
  dsimp only at few wl hm;unfold eW;rw[aHh,A2];rcases List.eq_nil_or_concat ws with rfl|⟨ws0,u,rfl⟩
  .exact⟨fs,ss,g6,g7,g8,h,by simp⟩
  .rw[List.concat_eq_append]at h wl hm ⊢;rw[B4,C7]at wl hm;have hu:=(h.ok u (h.sub u (C5 _ (List.mem_singleton.mpr rfl)))).1;obtain⟨new,e,_,h'⟩:=h.step hA;have few':=sJ h'.nd fun x hx=>(h'.ok x hx).1;obtain⟨a6,a7,a8,t⟩:=aBc (x0:=x0) (st:=st) (fs:=fs) (ws:=ws0) (ss:=ss) (g6:=g6) (g7:=g7) (g8:=g8) hN hu (hF _) (by omega) (by omega) (by omega);rw[e]at t;dsimp only at few';rw[B4]at few';obtain⟨fs',ss',b6,b7,b8,d,r⟩:=JW hN n40 hA hF m _ a6 a7 a8 h' (by dsimp only;rw[B4,B4];omega) (by dsimp only;rw[B4,B4];omega);refine⟨fs',ss',b6,b7,b8,d,?_⟩;have ne:(!(ws0++[u]).isEmpty)=true:=by simp
   dsimp only;rw[ne,A7 rfl,t,A2];exact r
end
theorem KZ{us:List Ed}{M:Sto}(hi:aP x=some ds)(hn:ds.length+1=n)(n40:n<=40)(hm:ds.mapM (bI n)=some us)(ok:Oks n us)(hp:Inn n p)(hul:us.length<64):
 ∃fs ss L c,dS [.d x,I p] M=some (.c c,M++L)/\M.length<=c/\(M++L)[c]?=some (sC ss)/\tT n (oP n us) (fun q=>at0 (fF n us) q=at0 (fF n us) p) p ⟨fs,[],ss⟩:=by
 have bs:=UK (M:=M) hi hn n40 hm;generalize hN0:StA M (oP n us) (.lst (bR M.length n))=N at bs
 have hN:sA N M.length n (oP n us):=by
  rw[<- hN0];exact sA.new (by unfold oP;rw[vF,List.length_replicate])
 obtain⟨fs,ss,g6,g7,g8,d,wl⟩:=JW (x0:=.d x) (st:=I p) (P:=fun q=>at0 (fF n us) q=at0 (fF n us) p) (p:=p) hN n40 (aCp ok) (SY hul) (2*(n-1)+2) ⟨[p],[p],[]⟩ none none none (tT.start hp rfl) (B1 _) (by show 2*(n-1)+1<_;omega);have wl':nP (GR (.d x) (I p) (.c (M.length+n)) N.length none none none) (Sts N ⟨[p],[p],[]⟩)=some (.nx (GR (.d x) (I p) (.c (M.length+n)) N.length g6 g7 g8),Sts N ⟨fs,[],ss⟩):=FK wl
 have c0:vH [((aD 1),(fC (.bool true)))] [some (.d x),some (I p),some (.c (M.length+n)),none,none,none,none,none,none] N=some (.c N.length,N++[.dk (kvs [p])]):=by
  unfold vH;rw[show rF [((aD 1),(fC (.bool true)))] [some (.d x),some (I p),some (.c (M.length+n)),none,none,none,none,none,none] (N++[.dk []])=some ([(I p,.d (.bool true))],N++[.dk []])from rfl,A2];dsimp only;rw[B9 (B1 _),F5];show(some [((.inl p:Key),CD.d (.bool true))]).bind _=_;rw[A2,A7 (by simp),E7 _ _ (B1 _),F5];rfl
 have s1:(1:Nat)<=sizeLine:=by decide
 have s0:(0:Nat)<=sizeLine:=by decide
 have e1:(N++[Cell.dk (kvs [p])]).length=N.length+1:=by rw[B4];rfl
 have e2:N++[Cell.dk (kvs [p])]++[Cell.lst [I p]]=N++[Cell.dk (kvs [p]),wC [p]]:=by rw[C6];rfl
 have e3:(N++[Cell.dk (kvs [p]),wC [p]]).length=N.length+2:=by rw[B4];rfl
 have e4:N++[Cell.dk (kvs [p]),wC [p]]++[Cell.lst []]=Sts N ⟨[p],[p],[]⟩:=by rw[C6];rfl
 have hNM:N=M++((oP n us).map rW++[.lst (bR M.length n)]):=hN0.symm;refine⟨fs,ss,((oP n us).map rW++[.lst (bR M.length n)])++[.dk (kvs fs),wC [],sC ss],N.length+2,?_,by rw[hNM,B4];omega,?_,d⟩
 .rw[<- C6,<- hNM];simp![dS,lC,bs,c0,s1,s0,e1,e2,e3,e4,wl']
 .rw[<- C6,<- hNM];exact RU (N:=N) (s:=⟨fs,[],ss⟩)
noncomputable def uJ(p q:Ed):Bool:=if p.1=q.1 then decide (p.2<q.2)else decide (p.1<q.1)
theorem VT(p q:Ed):cP [.int p.1,.int p.2] [.int q.1,.int q.2]=some (uJ p q):=by
 unfold uJ;show(if (p.1==q.1)=true then(if (p.2==q.2)=true then some (decide (0<0))else some (decide (p.2<q.2)))else some (decide (p.1<q.1)))=_;by_cases h1:p.1=q.1
 .rw[A7 (beq_iff_eq.mpr h1),A7 h1];by_cases h2:p.2=q.2
  .rw[A7 (beq_iff_eq.mpr h2),h2];simp
  .rw[B0 (fun z=>h2 (beq_iff_eq.mp z))]
 .rw[B0 (fun z=>h1 (beq_iff_eq.mp z)),B0 h1]
theorem LI(p q:Ed)(M:Sto):ltX (pD p) (pD q) M=some (B (uJ p q),M):=by
 show(cP [.int p.1,.int p.2] [.int q.1,.int q.2]).bind _=_;rw[VT];rfl
noncomputable abbrev pP(p:Ed):PyData:=.tuple [.int p.1,.int p.2]
noncomputable def zl:List Ed->List Bool
 |a::b::r=>uJ a b::zl (b::r)
 |_=>[]
noncomputable def ris(us:List Ed):Bool:=(zl us).all id
theorem QA:∀us:List Ed,(zl us).length<=us.length
 |[]=>B1 _
 |[_]=>F9 _
 |a::b::r=>Nat.succ_le_succ (QA (b::r))
theorem VI(M:Sto):∀(us:List Ed)(g0 g1:Option CD),lcF (iP 2 (aY (hName 0) (aY (hName 1) gK))) gV (fOp ltX (aD 0) (aD 1)) (oO (us.map pP) ((us.map pP).drop 1)) [g0,g1] M=some (((zl us).map PyData.bool).map .d,M)
 |[]=>fun _ _=>rfl
 |[_]=>fun _ _=>rfl
 |a::b::r=>fun g0 g1=>by
  have ih:=VI M (b::r) (some (pD a)) (some (pD b));rw[show oO ((a::b::r).map pP) (((a::b::r).map pP).drop 1)=.d (.tuple [pP a,pP b])::oO ((b::r).map pP) (((b::r).map pP).drop 1)from rfl];unfold lcF;rw[show iP 2 (aY (hName 0) (aY (hName 1) gK)) (.d (.tuple [pP a,pP b])) [g0,g1] M=some ([some (pD a),some (pD b)],M)from rfl,A2];dsimp only;rw[show gV [some (pD a),some (pD b)] M=some (true,M)from rfl,A2];dsimp only;rw[A7 rfl,show fOp ltX (aD 0) (aD 1) [some (pD a),some (pD b)] M=ltX (pD a) (pD b) M from rfl,LI,A2];dsimp only;rw[ih];rfl
theorem aHB(ds:List PyData):bT ds (some 1) none=ds.drop 1:=by
 unfold bT;rw[HT.sIx_none,show(1:Int)=((1:Nat):Int)from rfl,HT.sIx_nat];cases ds with
 |nil=>rfl
 |cons d ds=>
  rw[show min 1 (d::ds).length=1 by rw[C9];omega];rw[List.take_of_length_le];simp
theorem JP:∀(xs ys:List PyData),(oO xs ys).length<=xs.length
 |[],_=>F9 _
 |_::_,[]=>F9 _
 |_::xs,_::ys=>Nat.succ_le_succ (JP xs ys)
theorem RT(us:List Ed)(M:Sto)(hl:us.length<=1000):jT [.d (.list (us.map pP))] M=some (B (ris us),M):=by
 have z:aBb (aA (aD 0) (aA (fSl (aD 0) (bY (fC (.int 1))) bF) aF)) [some (.d (.list (us.map pP)))] M=some (oO (us.map pP) ((us.map pP).drop 1),M):=by
  rw[<- aHB];rfl
 have c:kC [some (.d (.list (us.map pP)))] M=some (.d (.list ((zl us).map PyData.bool)),M):=by
  unfold kC;exact mX z (sz (J0 (JP _ _) (by rw[A3];exact hl))) (VI M us none none) (sz (by rw[A3];exact J0 (QA us) hl))
 have a:DN [.d (.list ((zl us).map PyData.bool))] M=some (B (ris us),M):=by
  show(boolsOf ((zl us).map PyData.bool)).bind _=_;rw[yR];rfl
 simp![jT,mL,c,a]
theorem jD{n:Int}{us:List Ed}(h:(d::ds).mapM (bI n)=some us):∃t us',bI n d=some t/\ds.mapM (bI n)=some us'/\us=t::us':=by
 rw[List.mapM_cons]at h;obtain⟨t,hd,h⟩:=aH h;obtain⟨us',h',h⟩:=aH h;cases h;exact⟨t,us',hd,h',rfl⟩
theorem nG{n:Int}:∀{ds:List PyData}{us:List Ed},ds.mapM (bI n)=some us->us.length=ds.length
 |[],us=>fun h=>by cases h;rfl
 |d::ds,us=>fun h=>by
  obtain⟨t,us',_,h',rfl⟩:=jD h;rw[C9,C9,nG h']
theorem wN(n:Int):∀ds:List PyData,(ds.all fun d=>(bI n d).isSome)=(ds.mapM (bI n)).isSome
 |[]=>rfl
 |d::ds=>by
  rw[U3,wN n ds,List.mapM_cons];cases bI n d with
  |none=>rfl
  |some t=>cases ds.mapM (bI n)<;>rfl
theorem mP{n:Nat}:∀{ds:List PyData}{us:List Ed},ds.mapM (bI n)=some us->Oks n us
 |[],us=>fun h=>by cases h;intro t ht;cases ht
 |d::ds,us=>fun h=>by
  obtain⟨t,us',hd,h',rfl⟩:=jD h;intro s hs;rcases List.mem_cons.mp hs with rfl|hs
  .exact FP hd
  .exact mP h' s hs
theorem EY{n:Int}(M:Sto):∀(ds:List PyData)(us:List Ed)(g:Option CD),ds.mapM (bI n)=some us->lcF (hName 0) gV (bK (aA (fOp ixF (aD 0) (fC (.int 0))) (aA (fOp ixF (aD 0) (fC (.int 1))) aF))) (ds.map .d) [g] M=some ((us.map pP).map .d,M)
 |[]=>fun us g h=>by cases h;rfl
 |d::ds=>fun us g h=>by
  obtain⟨t,us',hd,h',rfl⟩:=jD h;have ih:=EY M ds us' (some (.d d)) h';obtain⟨a,hi,_⟩:=AJ hd;have i0:∀M,ixF (.d d) (I 0) M=some (I t.1,M):=fun M=>cH hi;have i1:∀M,ixF (.d d) (I 1) M=some (I t.2,M):=fun M=>cH hi;have s2:(2:Nat)<=sizeLine:=by decide
  rw[B6,B6,B6];unfold lcF;simp![gV,i0,i1,s2,ih]
theorem aHD{n:Int}{us:List Ed}{x0:CD}(h:aP x=some ds)(hm:ds.mapM (bI n)=some us)(hl:ds.length<=1000):tJ [some x0,some (.d x)] M=some (.d (.list (us.map pP)),M):=
 mX (VD h rfl) (sz (by rw[A3];exact hl)) (EY M ds us none hm) (sz (by rw[A3,nG hm];exact hl))
noncomputable def jS(n:Nat)(x:PyData):Bool:=match aP x with
 |some ds=>decide (ds.length+1=n)&&(match ds.mapM (bI n)with
  |some us=>ris us&&nS (zs n) us
  |none=>false)
 |none=>false
theorem MQ(h0:0<n)(n40:n<=40)(x:PyData)(M:Sto):∃L,cU [I n,.d x] M=some (B (jS n x),M++L):=by
 have g:decide ((40:Int)<n)=false:=C1 (by omega);have no:∀{b:Bool},b=false->(∃L,cU [I n,.d x] M=some (B false,M++L))->∃L,cU [I n,.d x] M=some (B b,M++L):=fun e h=>by rw[e];exact h
 cases hi:aP x with
 |none=>
  have e:jS n x=false:=by unfold jS;rw[hi]
  have r:dR x ((n:Int)-1)=false:=by unfold dR;rw[hi]
  refine no e ⟨[],?_⟩;rw[D6];simp![cU,fP,g,cA,r]
 |some ds=>
  by_cases hn:ds.length+1=n
  .have r:dR x ((n:Int)-1)=true:=by unfold dR;rw[hi];show((ds.length:Int)==n-1)=true;rw[Z3];omega
   have c0:=aHz (n:=(n:Int)) (M:=M) hi (by omega);have a0:=aDJ ds (fun d=>(bI n d).isSome) M;rw[wN]at a0;cases hm:ds.mapM (bI n)with
   |none=>
    have e:jS n x=false:=by unfold jS;rw[hi];dsimp only;rw[hm,O2]
    rw[hm]at a0;refine no e ⟨[],?_⟩;rw[D6];simp![cU,fP,g,cA,r,c0,a0,Option.isSome_none]
   |some us=>
    rw[hm]at a0;have ul:=nG hm;have ok:=mP hm;have e:jS n x=(ris us&&nS (zs n) us):=by unfold jS;rw[hi];dsimp only;rw[hm,C8 hn,Y5]
    have c1:=aHD (x0:=I n) (M:=M) hi hm (by omega);have rs:=RT us M (by omega);rw[e];cases hr:ris us with
    |false=>
     rw[hr]at rs;refine⟨[],?_⟩;rw[D6,U9];simp![cU,fP,g,cA,r,c0,a0,Option.isSome_some,c1,rs]
    |true=>
     rw[hr]at rs;obtain⟨fs,ss,L,c,st,_,hc,d⟩:=KZ (M:=M) (p:=0) hi hn n40 hm ok ⟨by omega,by omega⟩ (by omega)
     have ln:bW [.c c] (M++L)=some (I ss.length,M++L):=by
      unfold sC at hc;simp only[bW,hc];rw[A3]
     have sl:ss.length+1=fs.length:=by have:=E9 List.length d.st;simpa using this.symm
     have lst:((ss.length:Int)==(n:Int)-1)=nS (zs n) us:=by
      have a:=d.done ok ⟨by omega,by omega⟩;have b:=sF h0 (by omega) ok;rw[S2,Z3,b,<- a];omega
     refine⟨L,?_⟩;rw[Y5];simp![cU,fP,g,cA,r,c0,a0,Option.isSome_some,c1,rs,st,ln,xR,lst]
  .have e:jS n x=false:=by unfold jS;rw[hi];dsimp only;rw[C1 hn,U9]
   have r:dR x ((n:Int)-1)=false:=by unfold dR;rw[hi];show((ds.length:Int)==n-1)=false;rw[Y2];omega
   refine no e ⟨[],?_⟩;rw[D6];simp![cU,fP,g,cA,r]
noncomputable def isInt:PyData->Option Int
 |.int i=>some i
 |_=>none
noncomputable def VR(n:Int)(a b c:PyData):Option (Int×Int):=match isInt a,isInt b with
 |some i,some j=>if (decide (0<=i)&&decide (i<j)&&decide (j<n)&&nL c)=true then some (i,j)else none
 |_,_=>none
theorem HD{n:Int}{a b c:PyData}(h:aP d=some [a,b,c]):bI n d=VR n a b c:=by
 unfold bI VR;rw[h];cases a<;>first|rfl|(cases b<;>rfl)
theorem bE{f g:SF}(h:f γ M=some (.nx γ',M')):aR f g γ M=g γ' M':=by
 unfold aR;rw[h,A2]
theorem pO{f:EF}{i:Nat}{x:CD}(h:f γ M=some (x,M')):bG f (hName i) γ M=some (.nx (γ.set i (some x)),M'):=by
 unfold bG;rw[h,A2];rfl
theorem pA{b:SF}{xs:List CD}{x:CD}(h:xs.length=ps)(hb:b (xs.map some++List.replicate (N-xs.length) none) M=some (.rt x,M')):fnF ps N b xs M=some (x,M'):=by
 unfold fnF;rw[A7 h,hb,A2]
theorem iE{f:AF}{b:SF}{M1:Sto}{xs:List CD}{r:Option (Out×Sto)}(h:f γ M=some (xs,M1))(hb:iZ g b xs γ M1=r):jL f g b γ M=r:=by
 unfold jL;rw[h,A2];exact hb
theorem dA{b:SF}{x:CD}{xs:List CD}{γ1 γ2:Ga}{M1 M2:Sto}(h:g x γ M=some (γ1,M1))(hb:b γ1 M1=some (.nx γ2,M2)):iZ g b (x::xs) γ M=iZ g b xs γ2 M2:=by
 conv=>lhs;unfold iZ
 rw[h,A2];dsimp only;rw[hb,A2]
structure Tie where
 i:Int
 j:Int
 a:Int
 b:Int
noncomputable abbrev Tie.key(t:Tie):Ed:=(t.i,t.j)
noncomputable def Tie.lt(s t:Tie):Prop:=s.i<t.i\/(s.i=t.i/\s.j<t.j)
instance(s t:Tie):Decidable (Tie.lt s t):=by unfold Tie.lt;infer_instance
theorem key_ne{t:Tie}(h:s.key≠t.key):¬(s.i=t.i/\s.j=t.j):=fun⟨a,b⟩=>h (by unfold Tie.key;rw[a,b])
theorem Tie.lt_tot{t:Tie}(h:s.key≠t.key)(n:¬Tie.lt t s):Tie.lt s t:=by
 have:=key_ne h;unfold Tie.lt at n ⊢;omega
noncomputable def f2(t:Tie):List PyData:=[.int t.i,.int t.j,.tuple [.int t.a,.int t.b]]
noncomputable abbrev rD(t:Tie):PyData:=.tuple (f2 t)
theorem aFL{t:Tie}(h:s.key≠t.key):cP (f2 s) (f2 t)=some (decide (Tie.lt s t)):=by
 have k:=key_ne h;show(if (s.i==t.i)=true then(if (s.j==t.j)=true then _ else some (decide (s.j<t.j)))else some (decide (s.i<t.i)))=_;by_cases q:s.i=t.i
 .have q':¬s.j=t.j:=fun z=>k ⟨q,z⟩;rw[A7 (beq_iff_eq.mpr q),B0 (fun z=>q' (beq_iff_eq.mp z))];simp[Tie.lt,q]
 .rw[B0 (fun z=>q (beq_iff_eq.mp z))];simp[Tie.lt,q]
theorem aAS(s t:Tie):(cP (f2 s) (f2 t)).isSome=true:=by
 show(if (s.i==t.i)=true then(if (s.j==t.j)=true then(if PyData.eqv (.tuple [.int s.a,.int s.b]) (.tuple [.int t.a,.int t.b])=true then cP [] []else some (HT.lexLt [s.a,s.b] [t.a,t.b]))else some (decide (s.j<t.j)))else some (decide (s.i<t.i))).isSome=true;split
 .split
  .split
   .rfl
   .rfl
  .rfl
 .rfl
theorem vD{i:Nat}(h:i<us.length):(us.map f2).getD i []=f2 us[i]:=by
 rw[A8,C3,A9 h];rfl
theorem aGv(nd:(us.map Tie.key).Nodup){i j:Nat}(hi:i<us.length)(hj:j<us.length)(h:i≠j):us[i].key≠us[j].key:=fun q=>by
 have:=(O7 (h₀:=by rw[A3];exact hi) (h₁:=by rw[A3];exact hj) nd).mp (by rw[O9,O9];exact q);exact h this
theorem aHv(h2:2<=us.length)(h64:us.length<64):sortable (us.map f2)=true:=by
 have hd:(kU (us.map f2) || qT (us.map f2))=true:=by
  rw[Bool.or_eq_true];exact .inl (by unfold kU;rw[List.all_map];exact List.all_eq_true.mpr fun t _=>rfl)
 unfold sortable;rw[A3,C8 h2,C8 h64,hd,Y5,Y5,Bool.and_true,C2];refine⟨List.all_eq_true.mpr fun r hr=>?_,List.all_eq_true.mpr fun i hi=>List.all_eq_true.mpr fun j hj=>?_⟩
 .obtain⟨t,_,rfl⟩:=List.mem_map.mp hr;rfl
 .rw[vD (List.mem_range.mp hi),vD (List.mem_range.mp hj)];exact aAS _ _
theorem ZL{i j:Nat}(hi:i<us.length)(hj:j<us.length)(k:us[i].key≠us[j].key):fR (us.map f2) i j=decide (Tie.lt us[i] us[j]):=by
 unfold fR;rw[vD hi,vD hj,aFL k];rfl
noncomputable def t0:Tie:=⟨0,0,0,0⟩
theorem LV(us:List Tie):(List.range us.length).map (fun i=>us.getD i t0)=us:=by
 refine List.ext_getElem? fun i=>?_;rw[C3];by_cases h:i<us.length
 .rw[Z8 h,A9 h];show some (us.getD i t0)=_;rw[A8,A9 h];rfl
 .rw[Z0 (by rw[U5];omega),Z0 (by omega)];rfl
theorem GE{i:Nat}(h:i<us.length):us.getD i t0=us[i]:=by
 rw[A8,A9 h];rfl
theorem LX(h64:us.length<64):∃vs:List Tie,vs.Perm us/\((us.map Tie.key).Nodup->vs.Pairwise Tie.lt)/\uM (us.map f2)=some (vs.map rD)/\(2<=us.length->sortable (us.map f2)=true/\yO (us.map f2)=vs.map rD)/\(us.length<2->vs=us):=by
 by_cases h2:2<=us.length
 .have ab:=aHv h2 h64;have pm:=mT (n:=(us.map f2).length) (fR (us.map f2)) (by rw[A3];omega);have so:=xI ab;rw[A3]at pm so;have mem:∀i∈eC (fR (us.map f2)) us.length,i<us.length:=fun i hi=>List.mem_range.mp (pm.mem_iff.mp hi)
  have sd:yO (us.map f2)=((eC (fR (us.map f2)) us.length).map fun i=>us.getD i t0).map rD:=by
   unfold yO;rw[A3,O4];refine S7 fun i hi=>?_;show PyData.tuple ((us.map f2).getD i [])=.tuple (f2 (us.getD i t0));rw[vD (mem i hi),GE (mem i hi)]
  refine⟨(eC (fR (us.map f2)) us.length).map fun i=>us.getD i t0,?_,fun nd=>?_,?_,fun _=>⟨ab,sd⟩,fun q=>by omega⟩
  .have:=pm.map fun i=>us.getD i t0
   rwa [LV]at this
  .rw[List.pairwise_map];have nd2:(eC (fR (us.map f2)) us.length).Nodup:=pm.nodup_iff.mpr List.nodup_range;have len:(eC (fR (us.map f2)) us.length).length=us.length:=by rw[pm.length_eq,U5]
   rw[List.pairwise_iff_getElem];intro a b ha hb hab;have hx:=mem _ (J3 ha);have hy:=mem _ (J3 hb)
   have g:∀c (hc:c<(eC (fR (us.map f2)) us.length).length),(NC (fR (us.map f2)) (PySem.W.kas_sort us.length)).getD c 0=(eC (fR (us.map f2)) us.length)[c]:=fun c hc=>by
    unfold eC at hc ⊢;rw[Z6]at hc;simp[Array.getD,hc]
   have s1:=so a b hab (by rw[<- len];exact hb);rw[g a ha,g b hb]at s1
   have ne:(eC (fR (us.map f2)) us.length)[b]≠(eC (fR (us.map f2)) us.length)[a]:=fun q=>by
    have:=(O7 nd2).mp q;omega
   have kn:=aGv nd hy hx ne;rw[ZL hy hx kn]at s1;rw[GE hx,GE hy];exact Tie.lt_tot (J9 kn) (J5 s1)
  .unfold uM;rw[ab,A7 rfl,sd]
 .have hl:us.length<2:=by omega
  refine⟨us,.refl _,fun _=>?_,?_,fun q=>absurd q h2,fun _=>rfl⟩
  .match us,hl with
   |[],_=>exact .nil
   |[t],_=>exact List.pairwise_singleton _ _
  .unfold uM
   have:sortable (us.map f2)=false:=by
    unfold sortable;rw[A3,C1 h2];rfl
   rw[this,B0 B2,A3,A7 hl,O4];rfl
theorem aAq(us:List Tie):rowsOf (us.map rD)=some (us.map f2):=by
 induction us with
 |nil=>rfl
 |cons t us ih=>
  show(rowsOf (us.map rD)).bind _=_;rw[ih];rfl
theorem OP(hc:M[c]?=some (.lst ((us.map rD).map .d)))(h64:us.length<64):∃vs:List Tie,vs.Perm us/\((us.map Tie.key).Nodup->vs.Pairwise Tie.lt)/\sM [.c c] M=some (.d (.list (vs.map rD)),M):=by
 obtain⟨vs,h1,h2,_,h3,h4⟩:=LX h64;refine⟨vs,h1,h2,?_⟩;unfold sM;by_cases hl:us.length<2
 .have:pH [.c c] M=some (.d (.list (vs.map rD)),M):=by
   simp only[pH,hc,gS,Option.bind_some,List.length_map,if_pos hl];rw[h4 hl]
  rw[this]
 .have:pH [.c c] M=none:=by
   simp only[pH,hc,gS,Option.bind_some,List.length_map,if_neg hl]
  rw[this];obtain⟨ab,sd⟩:=h3 (by omega);simp only[uB,hc,gS,Option.bind_some,aAq,if_pos ab,sd]
theorem lB{α:Type}(ds:List α)(lo hi:Option Int):(bT ds lo hi).length<=ds.length:=by
 unfold bT;rw[J2,O8];omega
theorem YV{α:Type}{ds:List α}(h0:0<=a)(h1:a<ds.length):(bT ds none (some a)).length+(bT ds (some (a+1)) none).length+1=ds.length:=by
 obtain⟨q,rfl⟩:∃q:Nat,a=(q:Nat):=⟨a.toNat,by omega⟩;unfold bT;rw[HT.sIx_none,HT.sIx_none,show((q:Nat):Int)+1=((q+1:Nat):Int)from rfl,HT.sIx_nat,HT.sIx_nat,J2,O8,J2,O8];omega
theorem qV(us:List Tie)(lo hi:Option Int):bT (us.map rD) lo hi=(bT us lo hi).map rD:=by
 unfold bT;rw[A3,List.map_take,List.map_drop]
theorem sl_tup{lo hi:Option Int}:slF (.d (.tuple ds)) lo hi M=some (.d (.tuple (bT ds lo hi)),M):=rfl
theorem JQ{α:Type}{ds:List α}{k m:Int}(hm:0<m)(hl:(ds.length:Int)=m):∃d,atI ds (k % m)=some d/\d∈ds:=by
 have h1:=S3 k (show m≠0 by omega);have h2:=O1 k hm;have hk:(k % m).toNat<ds.length:=by omega
 obtain⟨q,hq⟩:∃q:Nat,k % m=(q:Nat):=⟨(k % m).toNat,by omega⟩;rw[hq]at hk ⊢;rw[F0]at hk;exact⟨ds[q],gR (A9 hk),J3 hk⟩
noncomputable abbrev cI(xs:List Int):Cell:=.lst (xs.map fun i=>I i)
noncomputable def Li(M:Sto)(c:Nat)(xs:List Int):Prop:=M[c]?=some (cI xs)
structure Oth(c:Nat)(M M':Sto):Prop where
 len:M'.length=M.length
 at_:∀i,i≠c->M'[i]?=M[i]?
theorem Li.lt(h:Li M c xs):c<M.length:=(List.getElem?_eq_some_iff.mp h).1
theorem Li.set{ys:List Int}(h:Li M c xs):Li (M.set c (cI ys)) c ys/\Oth c M (M.set c (cI ys)):=
 ⟨by unfold Li;rw[J1 h.lt],by rw[O3],fun i hi=>by rw[J7 (J9 hi)]⟩
theorem Li.oth{d:Nat}(h:Li M c xs)(o:Oth d M M')(ne:c≠d):Li M' c xs:=by unfold Li;rw[o.at_ c ne];exact h
theorem Li.app(h:Li M c xs):Li (M++L) c xs:=by unfold Li;rw[F4 h.lt];exact h
theorem Li.ty(h:Li M c xs):tyB "list" M (.c c)=true:=by
 unfold Li at h;simp only[tyB,h];decide
theorem Li.ln(h:Li M c xs):bW [.c c] M=some (I xs.length,M):=by
 unfold Li at h;simp only[bW,h,List.length_map]
theorem aGC{α:Type}{xs:List α}(h:Inn xs.length p):∃z,atI xs p=some z/\z∈xs:=by
 obtain⟨q,rfl⟩:∃q:Nat,p=(q:Nat):=⟨p.toNat,by omega⟩;have hk:q<xs.length:=by omega
 exact⟨xs[q],gR (A9 hk),J3 hk⟩
theorem Li.ix(h:Li M c xs)(hp:Inn xs.length p):∃z,ixF (.c c) (I p) M=some (I z,M):=by
 obtain⟨z,h1,h2⟩:=aGC (xs:=xs.map fun i=>I i) (p:=p) (by rw[A3];exact hp);obtain⟨y,_,rfl⟩:=List.mem_map.mp h2;refine⟨y,?_⟩;unfold Li at h;simp only[ixF,h,h1,Option.bind_some]
theorem Li.put(h:Li M c xs)(hp:Inn xs.length p):∃ys,ys.length=xs.length/\pQ (.c c) (I p) (I z) M=some (M.set c (cI ys)):=by
 obtain⟨q,rfl⟩:∃q:Nat,p=(q:Nat):=⟨p.toNat,by omega⟩;refine⟨xs.set q z,by rw[O3],?_⟩
 have hn:ixN (xs.map fun i=>I i).length (q:Int)=some q:=by
  unfold ixN;rw[A7 (A0b q),A7 (by rw[A3];omega),F0]
 unfold Li at h;simp only[pQ,h,hn,Option.bind_some,cI,List.map_set]
theorem Li.push(h:Li M c xs)(hl:xs.length<1000):bB (.c c) [I z] M=some (.d .none,M.set c (cI (xs++[z]))):=by
 have l:(xs.map fun i=>I i).length<sizeLine:=by rw[A3,E4];omega
 unfold Li at h;simp only[bB,h,if_pos l,cI,List.map_append,List.map_singleton]
theorem Li.pop(h:Li M c (xs++[z])):iR (.c c) [] M=some (I z,M.set c (cI xs)):=by
 have e1:((xs++[z]).map fun i=>I i)[((xs++[z]).map fun i=>I i).length-1]?=some (I z):=by
  rw[A3,B4,C7,Nat.add_sub_cancel,C3,B9 (B1 _),F5];rfl
 have e2:((xs++[z]).map fun i=>I i).dropLast=xs.map fun i=>I i:=by
  rw[D3,J6,List.dropLast_concat]
 unfold Li at h;simp only[iR,h,e1,e2,Option.bind_some]
noncomputable def Dk(M:Sto)(c m:Nat):Prop:=∃xs,Li M c xs/\xs.length=m
theorem Dk.app(h:Dk M c m):Dk (M++L) c m:=let⟨xs,a,b⟩:=h;⟨xs,a.app,b⟩
theorem Dk.pop(h:Dk M c (m+1)):∃z M',iR (.c c) [] M=some (I z,M')/\Dk M' c m/\Oth c M M':=by
 obtain⟨xs,a,b⟩:=h;rcases List.eq_nil_or_concat xs with rfl|⟨ys,z,rfl⟩
 .cases b
 .rw[List.concat_eq_append]at a b;rw[B4,C7]at b;exact⟨z,_,a.pop,⟨ys,(a.set).1,by omega⟩,(a.set).2⟩
theorem Dk.ty(h:Dk M c m):tyB "list" M (.c c)=true:=let⟨_,a,_⟩:=h;a.ty
theorem Dk.oth{d:Nat}(h:Dk M c m)(o:Oth d M M')(ne:c≠d):Dk M' c m:=let⟨xs,a,b⟩:=h;⟨xs,a.oth o ne,b⟩
theorem fS(lo:Int)(n:Nat):dM lo (n+1)=I lo::dM (lo+1) n:=by
 unfold dM;rw[List.range_succ_eq_map,B6,O4];refine congr (E9 List.cons ?_) (S7 fun k _=>?_)
 .show CD.d (.int (lo+((0:Nat):Int)))=I lo;rw[show lo+((0:Nat):Int)=lo by omega]
 .show CD.d (.int (lo+((k+1:Nat):Int)))=.d (.int (lo+1+(k:Nat)));rw[show lo+((k+1:Nat):Int)=lo+1+(k:Nat)by omega]
theorem XO(h:i.natAbs<2 ^ 64):iV i j=true:=by unfold iV;rw[C8 h];rfl
theorem mul_r(h:j.natAbs<2 ^ 64):iV i j=true:=by unfold iV;rw[C8 h,Bool.or_true];rfl
theorem nab(h0:0<=z)(h1:z<b)(hb:b<=2 ^ 62):z.natAbs<2 ^ 64:=by omega
noncomputable abbrev GD(s many:CD)(r d:Nat)(o:Int)(k at_ one:Option CD):Ga:=[some s,some many,some (.c r),some (I o),some (.c d),k,at_,one]
theorem OT{s many:CD}{r d:Nat}{o k:Int}{ds:List Int}{g6 g7:Option CD}(hr:Li M r xs)(hd:Li M d ds)(ne:r≠d)(x0:0<xs.length)(hl:ds.length<1000)(k0:0<=k)(k1:k<1000):
 ∃xs' ds' g6' g7' M',eB (GD s many r d o (some (I k)) g6 g7) M=some (.nx (GD s many r d o (some (I k)) g6' g7'),M')/\Li M' r xs'/\Li M' d ds'/\xs'.length=xs.length/\ds'.length=ds.length+1:=by
 have ln:=hr.ln;have p1:=S3 k (show(xs.length:Int)≠0 by omega);have p2:=O1 k (show(0:Int)<xs.length by omega);obtain⟨z,ix⟩:=hr.ix (p:=k % xs.length) ⟨p1,p2⟩;have m1:jX k xs.length=true:=fN (by omega);have m2:∀y,jX y 1000000=true:=fun y=>fN (by decide);have m3:∀y,jX y 2147483629=true:=fun y=>fN (by decide);have m4:∀y,jX y 2147483647=true:=fun y=>fN (by decide);have m5:∀y,jX y 4=true:=fun y=>fN (by decide);have dv:∀y,zC y 1000000=true:=fun y=>JT (by decide) (wsm (by decide) (by decide));obtain⟨ys,yl,st⟩:=hr.put (p:=k % xs.length) (z:=z / 1000000) ⟨p1,p2⟩;generalize (xs.length:Int)=J at ln p1 p2 ix m1 st;cases h:(o==0)with
 |true=>
  obtain⟨c,hc,hcm⟩:=JQ (ds:=([.int 48271,.int 69621,.int 39373,.int 40692]:List PyData)) (k:=k) (m:=4) (by decide) rfl
  obtain⟨cv,rfl,hcv⟩:∃v:Int,c=.int v/\v.natAbs<2 ^ 64:=by
   simp only[List.mem_cons,List.not_mem_nil,or_false]at hcm;rcases hcm with rfl|rfl|rfl|rfl<;>exact⟨_,rfl,by decide⟩
  have xk:ixF (.d (.list [.int 48271,.int 69621,.int 39373,.int 40692])) (I (k % 4)) M=some (I cv,M):=by
   show(atI [PyData.int 48271,.int 69621,.int 39373,.int 40692] (k % 4)).bind _=_;rw[hc];rfl
  have q1:iV k k=true:=XO (nab k0 (b:=1000) k1 (by decide));have q2:iV (k*k) 16807=true:=mul_r (by decide);have q3:iV 3 k=true:=XO (by decide);have q4:∀y,iV y cv=true:=fun y=>mul_r hcv;have a1:∀i j:Int,bM (I i) (I j) M=some (I (i+j),M):=fun i j=>rfl;have q5:∀y,iV (y % 2147483647) (y % 2147483647)=true:=fun y=>XO (nab (S3 _ (by decide)) (O1 _ (by decide)) (by decide));generalize hv:(z+k*k*16807+3*k) % 2147483629=v1;have pu:=fun y=>hd.push (z:=y) hl;refine⟨xs,ds++[(v1*cv+7) % 2147483647*((v1*cv+7) % 2147483647) % 2147483629],some (I (k % J)),some (I ((v1*cv+7) % 2147483647*((v1*cv+7) % 2147483647) % 2147483629)),_,?_,hr.oth (hd.set).2 ne,(hd.set).1,rfl,by rw[B4,C7]⟩;simp![eB,ln,m1,m2,ix,xR,h,q1,q2,q3,a1,m3,hv,uU,m5,xk,q4,m4,q5,bH,hd.ty,pu]
 |false=>
  have hr':=hr.set (ys:=ys);have hd':=hd.oth hr'.2 (J9 ne);have pu:=hd'.push (z:=z % 1000000) hl;refine⟨ys,ds++[z % 1000000],some (I (k % J)),some (I (z % 1000000)),_,?_,hr'.1.oth (hd'.set).2 ne,(hd'.set).1,yl,by rw[B4,C7]⟩;simp![eB,ln,m1,m2,ix,xR,h,dv,st,bH,hd'.ty,pu]
theorem zL{s many:CD}{r d:Nat}{o:Int}:∀(m:Nat)(k:Int)(M:Sto)(xs ds:List Int)(g5 g6 g7:Option CD),Li M r xs->Li M d ds->r≠d->0<xs.length->0<=k->k+m<500->ds.length+m<500->
 ∃ds' g5' g6' g7' M',iZ (hName 5) eB (dM k m) (GD s many r d o g5 g6 g7) M=some (.nx (GD s many r d o g5' g6' g7'),M')/\Li M' d ds'/\ds'.length=ds.length+m
 |0=>fun k M xs ds g5 g6 g7 hr hd ne x0 k0 _ _=>⟨ds,g5,g6,g7,M,rfl,hd,rfl⟩
 |m+1=>fun k M xs ds g5 g6 g7 hr hd ne x0 k0 hk hl=>by
  obtain⟨xs1,ds1,a6,a7,M1,t,h1,h2,h3,h4⟩:=OT (s:=s) (many:=many) (o:=o) (g6:=g6) (g7:=g7) hr hd ne x0 (by omega) k0 (show k<1000 by omega);obtain⟨ds',b5,b6,b7,M',l,h5,h6⟩:=zL (s:=s) (many:=many) (o:=o) m (k+1) M1 xs1 ds1 (some (I k)) a6 a7 h1 h2 ne (by omega) (by omega) (by omega) (by omega);refine⟨ds',b5,b6,b7,M',?_,h5,by omega⟩;rw[fS,dA (show hName 5 (I k) (GD s many r d o g5 g6 g7) M=some (GD s many r d o (some (I k)) g6 g7,M)from rfl) t];exact l
theorem pK(n:Nat)(M:Sto):∀ns:List Int,mB n M (ns.map fun i=>I i)=some (ns.map .int)
 |[]=>by unfold mB;rfl
 |i::ns=>by
  rw[B6];unfold mB;rw[HY,A2,pK n M ns];rfl
theorem nU:∀ns:List Int,PyData.canLayAll0 (ns.map .int)=true
 |[]=>rfl
 |n::ns=>by show(true&&PyData.canLayAll0 (ns.map .int))=true;rw[nU ns];rfl
theorem pU:∀ns:List Int,PyData.depthAll (ns.map .int)=0
 |[]=>rfl
 |n::ns=>by show max 0 (PyData.depthAll (ns.map .int))=0;rw[pU ns];rfl
theorem shaped_ints(ns:List Int):SeqAt.shaped (.list (ns.map .int))=true:=by
 unfold SeqAt.shaped;have e1:PyData.canLay0 (.list (ns.map .int))=true:=nU ns;have e2:PyData.depth (.list (ns.map .int))=1:=by show PyData.depthAll (ns.map .int)+1=1;rw[pU]
 rw[e1,e2];rfl
theorem aAH{ns:List Int}(h:Li M c ns):eqY false (.c c) (.d (.list [])) M=some (B ns.isEmpty,M):=by
 have s1:snap 5 M (.c c)=some (.list (ns.map .int)):=by
  unfold Li at h;unfold snap;rw[h];show(mB 4 M (ns.map fun i=>I i)).bind _=_;rw[pK];rfl
 have s2:snap 5 M (.d (.list []))=some (.list []):=by rw[HY]
 show eqC false (.c c) (.d (.list [])) M=_;unfold eqC;rw[s1,A2,s2,A2,shaped_ints,show SeqAt.shaped (.list [])=true from rfl];cases ns<;>rfl
theorem aGb{x:CD}(sm:aZ J=true):dW (aA (aD 1) aF) (x::some (I J)::γ) M=some (dM 0 J.toNat,M):=by
 simp![dW,sm]
theorem aEV(ns:List Int):∃c M,jW [.d (.list (ns.map .int)),I 60] []=some (.c c,M)/\Dk M c 60:=by
 have s0:(0:Nat)<=sizeLine:=F9 _;have s1:(1:Nat)<=sizeLine:=by decide
 have st:∀(r:Nat)(M:Sto)(xs:List Int),Li M r xs->0<xs.length->∃c M',(aR (bG (fOp iJ (fOp ixF (aD 2) (fC (.int 0))) (fC (.int 2))) (hName 3))
 (aR (bG (fOp wH (fOp ixF (aD 2) (fC (.int 0))) (fC (.int 2))) (hSub (aD 2) (fC (.int 0)) pQ))
 (aR (bG (jB aF) (hName 4))
 (aR (jL (dW (aA (aD 1) aF)) (hName 5) eB)
 (aR (eL (bH "list" iU (aD 4) aF))
 (dD (aD 4))))))) [some (.d (.list (ns.map .int))),some (I 60),some (.c r),none,none,none,none,none] M=some (.rt (.c c),M')/\Dk M' c 60:=by
  intro r M xs hr x0;obtain⟨z,ix⟩:=hr.ix (p:=0) ⟨by decide,by omega⟩;have m2:∀y,jX y 2=true:=fun y=>fN (by decide);have d2:∀y,zC y 2=true:=fun y=>JT (by decide) (wsm (by decide) (by decide));obtain⟨ys,yl,pt⟩:=hr.put (p:=0) (z:=z / 2) ⟨by decide,by omega⟩;have hr1:=(hr.set (ys:=ys)).1;have hr2:=hr1.app (L:=[Cell.lst []]);have ml:(M.set r (cI ys)).length=M.length:=by rw[O3]
  have hd:Li (M.set r (cI ys)++[Cell.lst []]) M.length []:=by
   unfold Li;rw[<- ml,B9 (B1 _),F5];rfl
  have rl:=hr.lt;obtain⟨ds,a5,a6,a7,M',lp,hd',hl⟩:=zL (s:=.d (.list (ns.map .int))) (many:=I 60) (o:=z % 2) 60 0 _ ys [] none none none hr2 hd (by omega) (by omega) (by decide) (by decide) (by decide);have rg:dW (aA (aD 1) aF) (GD (.d (.list (ns.map .int))) (I 60) r M.length (z % 2) none none none) (M.set r (cI ys)++[Cell.lst []])=some (dM 0 60,M.set r (cI ys)++[Cell.lst []]):=aGb (J:=60) (by decide);have sf:=iE rg lp
  have rv:iU (.c M.length) [] M'=some (.d .none,M'.set M.length (cI ds.reverse)):=by
   have:=hd';unfold Li at this;simp only[iU,this];rw[cI,List.map_reverse]
  refine⟨M.length,M'.set M.length (cI ds.reverse),?_,ds.reverse,(hd'.set).1,by rw[S6,hl];rfl⟩
  have a1:bG (fOp iJ (fOp ixF (aD 2) (fC (.int 0))) (fC (.int 2))) (hName 3) [some (.d (.list (ns.map .int))),some (I 60),some (.c r),none,none,none,none,none] M=some (.nx [some (.d (.list (ns.map .int))),some (I 60),some (.c r),some (I (z % 2)),none,none,none,none],M):=by
   simp![ix,m2]
  have a2:bG (fOp wH (fOp ixF (aD 2) (fC (.int 0))) (fC (.int 2))) (hSub (aD 2) (fC (.int 0)) pQ) [some (.d (.list (ns.map .int))),some (I 60),some (.c r),some (I (z % 2)),none,none,none,none] M=some (.nx [some (.d (.list (ns.map .int))),some (I 60),some (.c r),some (I (z % 2)),none,none,none,none],M.set r (cI ys)):=by
   simp![ix,d2,pt]
  have a3:bG (jB aF) (hName 4) [some (.d (.list (ns.map .int))),some (I 60),some (.c r),some (I (z % 2)),none,none,none,none] (M.set r (cI ys))=some (.nx (GD (.d (.list (ns.map .int))) (I 60) r M.length (z % 2) none none none),M.set r (cI ys)++[Cell.lst []]):=by
   simp![s0,ml]
  rw[bE a1,bE a2,bE a3,bE sf];simp![bH,hd'.ty,rv]
 have l0:yT [.d (.list (ns.map .int))] []=some (.c 0,[cI ns]):=by
  show some (CD.c 0,[]++[Cell.lst ((ns.map PyData.int).map .d)])=_;rw[O4];rfl
 have h0:Li [cI ns] 0 ns:=rfl;have eq:=aAH h0
 have b1:bG (aK yT (aA (aD 0) aF)) (hName 2) [some (.d (.list (ns.map .int))),some (I 60),none,none,none,none,none,none] []=some (.nx [some (.d (.list (ns.map .int))),some (I 60),some (.c 0),none,none,none,none,none],[cI ns]):=by
  simp![l0]
 cases he:ns.isEmpty with
 |true=>
  rw[he]at eq;obtain⟨c,M',h1,h2⟩:=st 1 ([cI ns]++[cI [4]]) [4] rfl (by decide);refine⟨c,M',pA rfl ?_,h2⟩
  have b2:sIf (gB (fOp (eqY false) (aD 2) (dE aF))) (bG (jB (aA (fC (.int 4)) aF)) (hName 2)) dN [some (.d (.list (ns.map .int))),some (I 60),some (.c 0),none,none,none,none,none] [cI ns]=some (.nx [some (.d (.list (ns.map .int))),some (I 60),some (.c 1),none,none,none,none,none],[cI ns]++[cI [4]]):=by
   simp![s0,s1,eq];rfl
  unfold jN;show aR _ _ [some (.d (.list (ns.map .int))),some (I 60),none,none,none,none,none,none] []=_;rw[bE b1,bE b2];exact h1
 |false=>
  rw[he]at eq;obtain⟨c,M',h1,h2⟩:=st 0 [cI ns] ns rfl (by cases ns with|nil=>cases he|cons _ _=>simp);refine⟨c,M',pA rfl ?_,h2⟩
  have b2:sIf (gB (fOp (eqY false) (aD 2) (dE aF))) (bG (jB (aA (fC (.int 4)) aF)) (hName 2)) dN [some (.d (.list (ns.map .int))),some (I 60),some (.c 0),none,none,none,none,none] [cI ns]=some (.nx [some (.d (.list (ns.map .int))),some (I 60),some (.c 0),none,none,none,none,none],[cI ns]):=by
   simp![s0,s1,eq]
  unfold jN;show aR _ _ [some (.d (.list (ns.map .int))),some (I 60),none,none,none,none,none,none] []=_;rw[bE b1,bE b2];exact h1
theorem rS{us:List Ed}{c d k:Int}(h:Lies us 0 a b k)(g:Lies us 0 c d k):(c=a/\d=b)\/(c=b/\d=a):=by
 obtain⟨i,t,h1,h2,h3⟩:=h;obtain⟨j,s,g1,g2,g3⟩:=g;have:i=j:=by omega
 subst this;rw[h1]at g1;cases g1;rcases h3 with⟨rfl,rfl⟩|⟨rfl,rfl⟩<;>rcases g3 with⟨rfl,rfl⟩|⟨rfl,rfl⟩<;>simp
theorem vT{us:List Ed}{k:Int}(h:Lies us 0 a b k):Lies us 0 b a k:=by
 obtain⟨i,t,h1,h2,h3⟩:=h;exact⟨i,t,h1,h2,h3.elim (fun x=>.inr ⟨x.2,x.1⟩) (fun x=>.inl ⟨x.2,x.1⟩)⟩
theorem IL{us:List Ed}{k:Int}(h:Lies us 0 a b k):Inn us.length k:=by
 obtain⟨i,t,h1,h2,h3⟩:=h;have:=(List.getElem?_eq_some_iff.mp h1).1;exact⟨by omega,by omega⟩
theorem XI{us:List Ed}(ok:Oks n us){k:Int}(h:Lies us 0 a b k):Inn n a/\Inn n b:=by
 rcases DT h with h|h
 .exact ok _ h
 .exact(ok _ h).symm
noncomputable def Walk(us:List Ed):Int->List Int->Int->Prop
 |a,[],b=>a=b
 |a,k::L,b=>∃c,Lies us 0 a c k/\Walk us c L b
theorem rV{us:List Ed}:∀{L:List Int}{a b c k:Int},Walk us a L b->Lies us 0 b c k->Walk us a (L++[k]) c
 |[],a,b,c,k,h=>fun g=>by
  have h:a=b:=h;subst h;exact⟨c,g,rfl⟩
 |q::L,a,b,c,k,⟨d,h1,h2⟩=>fun g=>⟨d,h1,rV h2 g⟩
theorem EV{us:List Ed}:∀{L:List Int}{a b:Int},Walk us a L b->Walk us b L.reverse a
 |[],a,b,h=>(show a=b from h).symm
 |k::L,a,b,⟨c,h1,h2⟩=>by
  rw[F7];exact rV (EV h2) (vT h1)
structure fG(n:Nat)(us:List Ed)(r:Int)(ss:List (Int×Int×Int)):Prop where
 nd:(r::ss.map (·.2.1)).Nodup
 all:∀x,Inn n x↔x∈r::ss.map (·.2.1)
 od:∀(q:Nat)(h t a:Int),ss[q]?=some (h,t,a)->h∈r::(ss.take q).map (·.2.1)
 li:∀(h t a:Int),(h,t,a)∈ss->Lies us 0 h t a
 ln:us.length+1=n
section
variable{n:Nat}{us:List Ed}{r:Int}{ss:List (Int×Int×Int)}
theorem fG.len(R:fG n us r ss):ss.length=us.length:=by
 have:=(uZ R.nd fun x hx=>(R.all x).mpr hx).mpr fun p hp=>(R.all p).mp hp;rw[C9,A3]at this;have:=R.ln;omega
theorem fG.one(R:fG n us r ss){h' t a':Int}(e:(h,t,a)∈ss)(e':(h',t,a')∈ss):h=h'/\a=a':=by
 have nd:=(List.nodup_cons.mp R.nd).2;obtain⟨i,hi⟩:=I0 e;obtain⟨j,hj⟩:=I0 e';have li:=(List.getElem?_eq_some_iff.mp hi).1;have lj:=(List.getElem?_eq_some_iff.mp hj).1
 have ij:i=j:=(O7 (h₀:=by rw[A3];exact li) (h₁:=by rw[A3];exact lj) nd).mp (by
  rw[O9,O9,(List.getElem?_eq_some_iff.mp hi).2,(List.getElem?_eq_some_iff.mp hj).2])
 subst ij;rw[hi]at hj;cases hj;exact⟨rfl,rfl⟩
theorem fG.root(R:fG n us r ss)(e:(h,r,a)∈ss):False:=(List.nodup_cons.mp R.nd).1 (List.mem_map.mpr ⟨_,e,rfl⟩)
theorem fG.ats(R:fG n us r ss):(ss.map (·.2.2)).Nodup:=by
 rw[Y1,List.pairwise_map,List.pairwise_iff_getElem];intro i j hi hj hij e;obtain⟨hi',hj'⟩:ss[i]?=some ss[i]/\ss[j]?=some ss[j]:=⟨A9 hi,A9 hj⟩;generalize ss[i]=x at hi' e;generalize ss[j]=y at hj' e;obtain⟨h1,t1,a1⟩:=x;obtain⟨h2,t2,a2⟩:=y;have e:a1=a2:=e;subst e;have p1:=R.li _ _ _ (E5 hi');have p2:=R.li _ _ _ (E5 hj');have nd:=(List.nodup_cons.mp R.nd).2
 have inj:∀k (hk:ss[k]?=some (h2,t2,a1)\/∃h a,ss[k]?=some (h,t2,a)),k=j:=fun k hk=>by
  obtain⟨h,a,hk⟩:∃h a,ss[k]?=some (h,t2,a):=by
   rcases hk with hk|hk
   .exact⟨_,_,hk⟩
   .exact hk
  have lk:=(List.getElem?_eq_some_iff.mp hk).1
  exact(O7 (h₀:=by rw[A3];exact lk) (h₁:=by rw[A3];exact hj) nd).mp (by
   rw[O9,O9,(List.getElem?_eq_some_iff.mp hk).2,(List.getElem?_eq_some_iff.mp hj').2])
 rcases rS p1 p2 with⟨_,q⟩|⟨_,q⟩
 .subst q;have:=inj i (.inr ⟨_,_,hi'⟩);omega
 .subst q;rcases List.mem_cons.mp (R.od i _ _ _ hi')with z|z
  .subst z;exact R.root (E5 hj')
  .obtain⟨⟨h3,t3,a3⟩,m,z⟩:=List.mem_map.mp z;have z:t3=t2:=z;subst z;obtain⟨k,hk⟩:=I0 m;have lk:=(List.getElem?_eq_some_iff.mp hk).1;rw[J2]at lk;rw[Y3 (by omega)]at hk;have:=inj k (.inr ⟨_,_,hk⟩);omega
theorem fG.edge(R:fG n us r ss){c k:Int}(h:Lies us 0 a c k):(c,a,k)∈ss\/(a,c,k)∈ss:=by
 have full:=(uZ (n:=us.length) R.ats fun x hx=>by
  obtain⟨⟨h,t,a⟩,m,rfl⟩:=List.mem_map.mp hx;exact IL (R.li _ _ _ m)).mp (by rw[A3,R.len])
 obtain⟨⟨h1,t1,a1⟩,m,e⟩:=List.mem_map.mp (full k (IL h));have e:a1=k:=e;subst e;rcases rS (R.li _ _ _ m) h with⟨rfl,rfl⟩|⟨rfl,rfl⟩
 .exact .inr m
 .exact .inl m
theorem fG.down(R:fG n us r ss):∀{L:List Int}{a c k:Int},(a,c,k)∈ss->Walk us c L r->(k::L).Nodup->False
 |[],a,c,k,m,w=>fun _=>by
  have w:c=r:=w;subst w;exact R.root m
 |k2::L,a,c,k,m,⟨d,h1,h2⟩=>fun nd=>by
  have ne:k≠k2:=fun z=>(List.nodup_cons.mp nd).1 (z▸B5 ..);rcases R.edge h1 with m2|m2
  .exact ne (R.one m m2).2
  .exact R.down m2 h2 (List.nodup_cons.mp nd).2
theorem fG.up(R:fG n us r ss){L:List Int}{k:Int}(w:Walk us a (k::L) r)(nd:(k::L).Nodup):∃h,(h,a,k)∈ss/\Walk us h L r:=by
 obtain⟨c,h1,h2⟩:=w;rcases R.edge h1 with m|m
 .exact⟨c,m,h2⟩
 .exact(R.down m h2 nd).elim
theorem fG.uniq(R:fG n us r ss):∀{L K:List Int}{a:Int},Walk us a L r->L.Nodup->Walk us a K r->K.Nodup->L=K
 |[],[],_=>fun _ _ _ _=>rfl
 |[],k::K,a=>fun w _ v nd=>by
  obtain⟨h,m,_⟩:=R.up v nd;have w:a=r:=w;subst w;exact(R.root m).elim
 |k::L,[],a=>fun w nd v _=>by
  obtain⟨h,m,_⟩:=R.up w nd;have v:a=r:=v;subst v;exact(R.root m).elim
 |k::L,q::K,a=>fun w nd v nd2=>by
  obtain⟨h,m,w2⟩:=R.up w nd;obtain⟨g,m2,v2⟩:=R.up v nd2;obtain⟨e1,e2⟩:=R.one m m2;subst e1 e2;rw[R.uniq w2 (List.nodup_cons.mp nd).2 v2 (List.nodup_cons.mp nd2).2]
end
theorem fG.of{us:List Ed}{fs:List Int}{ss:List (Int×Int×Int)}(ok:Oks n us)(hr:Inn n r)(ln:us.length+1=n)(h:tT n (oP n us) (fun q=>at0 (fF n us) q=at0 (fF n us) r) r ⟨fs,[],ss⟩)(con:∀p,Inn n p->at0 (fF n us) p=at0 (fF n us) r):fG n us r ss:=by
 have full:=(uZ h.nd fun x hx=>(h.ok x hx).1).mp ((h.done ok hr).mpr con);have st:fs=r::ss.map (·.2.1):=h.st;have nd:=h.nd;have hk:=h.ok;dsimp only at full nd hk;rw[st]at full nd hk
 have hd:∀(q:Nat)(g t a:Int),ss[q]?=some (g,t,a)->g∈r::ss.map (·.2.1):=fun q g t a e=>by
  rcases List.mem_cons.mp (h.od q g t a e).1 with z|z
  .rw[z];exact B5 ..
  .obtain⟨y,hy,e⟩:=List.mem_map.mp z;exact B3 _ (List.mem_map.mpr ⟨y,Z4 hy,e⟩)
 refine⟨nd,fun x=>⟨fun hx=>full x hx,fun hx=>(hk x hx).1⟩,fun q g t a e=>(h.od q g t a e).1,fun g t a m=>?_,ln⟩;obtain⟨q,hq⟩:=I0 m;exact(qQ ok (hk g (hd q g t a hq)).1).mp (h.od q g t a hq).2
noncomputable abbrev Wd':=List (Int×List Int)
noncomputable def look(fd:Wd')(x:Int):Option (List Int):=(fd.find? fun e=>decide (e.1=x)).map (·.2)
noncomputable abbrev kys(fd:Wd'):List Int:=fd.map (·.1)
theorem kR{fd:Wd'}{x:Int}{L:List Int}(h:look fd x=some L):(x,L)∈fd:=by
 unfold look at h;obtain⟨e,h1,h2⟩:=Option.map_eq_some_iff.mp h;have a:=List.mem_of_find?_eq_some h1;have b:e.1=x:=by simpa using List.find?_some h1
 obtain⟨y,K⟩:=e;dsimp only at b h2;subst b h2;exact a
theorem look_none{fd:Wd'}{x:Int}:look fd x=none↔x∉kys fd:=by
 unfold look;rw[Option.map_eq_none_iff,List.find?_eq_none];constructor
 .intro h m;obtain⟨e,he,q⟩:=List.mem_map.mp m;exact h e he (C8 q)
 .intro h e he q;exact h (List.mem_map.mpr ⟨e,he,D7 q⟩)
theorem gW{fd:Wd'}{x:Int}{L:List Int}(h:look fd x=some L):x∈kys fd:=List.mem_map.mpr ⟨_,kR h,rfl⟩
theorem ZU{fd:Wd'}{x:Int}(h:x∈kys fd):∃L,look fd x=some L:=by
 cases e:look fd x with
 |none=>exact absurd h (look_none.mp e)
 |some L=>exact⟨L,rfl⟩
noncomputable def oS(fd:Wd')(k:Int)(e:Ed):Wd':=match look fd e.1,look fd e.2 with
 |some L,none=>fd++[(e.2,L++[k])]
 |none,some L=>fd++[(e.1,L++[k])]
 |_,_=>fd
structure Wy(us:List Ed)(f:Int)(fd:Wd'):Prop where
 nd:(kys fd).Nodup
 has:(f,[])∈fd
 ok:∀p L,(p,L)∈fd->Walk us f L p/\L.Nodup/\∀k∈L,∃a b,Lies us 0 a b k/\a∈kys fd/\b∈kys fd
theorem Wy.start{us:List Ed}:Wy us f [(f,[])]:=⟨by simp,List.mem_singleton.mpr rfl,fun p L h=>by
 rw[D4]at h;cases h;exact⟨rfl,List.nodup_nil,fun k hk=>by cases hk⟩⟩
theorem Wy.add{us:List Ed}{fd:Wd'}{k:Int}{L:List Int}(h:Wy us f fd)(hi:look fd i=some L)(hj:look fd j=none)(hk:Lies us 0 i j k):Wy us f (fd++[(j,L++[k])]):=by
 have nj:=look_none.mp hj;have ki:=gW hi;obtain⟨w,nd,en⟩:=h.ok i L (kR hi)
 have nk:k∉L:=fun m=>by
  obtain⟨a,b,h1,h2,h3⟩:=en k m;rcases rS hk h1 with⟨_,z⟩|⟨z,_⟩
  .exact nj (z▸h3)
  .exact nj (z▸h2)
 have up:∀x,x∈kys fd->x∈kys (fd++[(j,L++[k])]):=fun x hx=>by
  unfold kys at hx ⊢;rw[D3];exact D0 _ hx
 have uj:j∈kys (fd++[(j,L++[k])]):=by
  unfold kys;rw[D3];exact C5 _ (List.mem_singleton.mpr rfl)
 refine⟨?_,D0 _ h.has,fun p K m=>?_⟩
 .unfold kys;rw[D3,Y9]
  exact⟨h.nd,by simp,fun a ha b hb q=>by
   rw[J6,D4]at hb;have hb:b=j:=hb;exact nj (by rw[<- hb,<- q];exact ha)⟩
 .rcases List.mem_append.mp m with m|m
  .obtain⟨w,nd,en⟩:=h.ok p K m;exact⟨w,nd,fun q hq=>let⟨a,b,h1,h2,h3⟩:=en q hq;⟨a,b,h1,up a h2,up b h3⟩⟩
  .rw[D4]at m;cases m;refine⟨rV w hk,?_,fun q hq=>?_⟩
   .rw[Y9];exact⟨nd,by simp,fun a ha b hb q=>by rw[D4]at hb;exact nk (by rw[<- hb,<- q];exact ha)⟩
   .rcases List.mem_append.mp hq with hq|hq
    .obtain⟨a,b,h1,h2,h3⟩:=en q hq;exact⟨a,b,h1,up a h2,up b h3⟩
    .rw[D4]at hq;exact⟨i,j,by rw[hq];exact hk,up i ki,uj⟩
theorem Wy.step{us:List Ed}{fd:Wd'}{k:Nat}{e:Ed}(h:Wy us f fd)(he:us[k]?=some e):Wy us f (oS fd (k:Nat) e):=by
 have l1:Lies us 0 e.1 e.2 (k:Nat):=⟨k,e,he,by simp,.inl ⟨rfl,rfl⟩⟩;unfold oS;cases a:look fd e.1 with
 |none=>
  cases b:look fd e.2 with
  |none=>exact h
  |some L=>exact h.add b a (vT l1)
 |some L=>
  cases b:look fd e.2 with
  |none=>exact h.add a b l1
  |some K=>exact h
theorem UU(fd:Wd')(k:Int)(e:Ed):fd.length<=(oS fd k e).length/\((oS fd k e).length=fd.length->oS fd k e=fd/\(e.1∈kys fd↔e.2∈kys fd)):=by
 unfold oS;cases a:look fd e.1 with
 |none=>
  cases b:look fd e.2 with
  |none=>exact⟨B1 _,fun _=>⟨rfl,⟨fun z=>absurd z (look_none.mp a),fun z=>absurd z (look_none.mp b)⟩⟩⟩
  |some L=>simp
 |some L=>
  cases b:look fd e.2 with
  |none=>simp
  |some K=>exact⟨B1 _,fun _=>⟨rfl,⟨fun _=>gW b,fun _=>gW a⟩⟩⟩
theorem Wy.inn{us:List Ed}{fd:Wd'}(ok:Oks n us)(hf:Inn n f)(h:Wy us f fd):∀x∈kys fd,Inn n x:=fun x hx=>by
 obtain⟨⟨p,L⟩,m,e⟩:=List.mem_map.mp hx;have e:p=x:=e;subst e
 have go:∀{L:List Int}{a b:Int},Walk us a L b->Inn n a->Inn n b:=by
  intro L
  induction L with
  |nil=>intro a b w i;have w:a=b:=w;exact w▸i
  |cons k L ih=>intro a b w i;obtain⟨c,h1,h2⟩:=w;exact ih h2 (XI ok h1).2
 exact go (h.ok p L m).1 hf
theorem Wy.few{us:List Ed}{fd:Wd'}(ok:Oks n us)(hf:Inn n f)(h:Wy us f fd):fd.length<=n:=by
 have:=sJ h.nd (h.inn ok hf);unfold kys at this
 rwa [A3]at this
structure Tr(n:Nat)(x:PyData)(us:List Ed):Prop where
 it:∃ds,aP x=some ds/\ds.length+1=n/\ds.mapM (bI n)=some us
 n40:n<=40
 con:∀p q,Inn n p->Inn n q->at0 (fF n us) p=at0 (fF n us) q
theorem Tr.ok{us:List Ed}(h:Tr n x us):Oks n us:=let⟨_,_,_,c⟩:=h.it;mP c
theorem Tr.ln{us:List Ed}(h:Tr n x us):us.length+1=n:=let⟨_,_,b,c⟩:=h.it;by rw[nG c];exact b
noncomputable def eE(x:PyData):Bool:=match aP x with
 |some ds=>decide (ds.length+1<=40)&&jS (ds.length+1) x
 |none=>false
theorem tree_big(h:decide (40<J)=true):cU [I J,.d x] M=some (B false,M):=by
 simp![cU,fP,h]
noncomputable abbrev xT:Exc:=⟨"NoTree",[]⟩
theorem tE{b:Bool}{M:Sto}(r:uS x=true)(ln:∀M,bW [.d x] M=some (I J,M))(h:cU [I (J+1),.d x] M=some (B b,M')):cC [.d x] M=some (if b=true then .v (.d .none)else .x xT,M'):=by
 have a1:bM (I J) (I 1) M=some (I (J+1),M):=rfl;cases b with
 |true=>simp![cC,dJ,xB,r,ln,a1,h]
 |false=>simp![cC,dJ,xB,r,ln,a1,h]
theorem uL(x:PyData)(M:Sto):∃L,cC [.d x] M=some (if eE x=true then .v (.d .none)else .x xT,M++L):=by
 cases hi:aP x with
 |none=>
  have e:eE x=false:=by unfold eE;rw[hi]
  have r:uS x=false:=by rw[xY,hi];rfl
  refine⟨[],?_⟩;rw[e,D6];simp![cC,dJ,xB,r]
 |some ds=>
  have r:uS x=true:=by rw[xY,hi];rfl
  by_cases h:ds.length+1<=40
  .have e:eE x=jS (ds.length+1) x:=by unfold eE;rw[hi];dsimp only;rw[C8 h,Y5]
   obtain⟨L,t⟩:=MQ (Nat.succ_pos _) h x M;refine⟨L,?_⟩;rw[e];exact tE r (fun M=>cT hi) t
  .have e:eE x=false:=by unfold eE;rw[hi];dsimp only;rw[C1 h,U9]
   refine⟨[],?_⟩;rw[e,D6];exact tE (b:=false) r (fun M=>cT hi) (tree_big (C8 (by omega)))
noncomputable abbrev sP(t:Int×Int×Int):PyData:=.tuple [.int t.1,.int t.2.1,.int t.2.2]
theorem wK{us:List Ed}(h:Tr n x us)(hp:Inn n p)(ha:fa γ M=some ([.d x,I p],M)):
 ∃ss L,cF (gQ (aK dS fa)) γ M=some (ss.map fun s=>.d (sP s),M++L)/\fG n us p ss:=by
 obtain⟨ds,hi,hn,hm⟩:=h.it;have ln:=h.ln;have n40:=h.n40;obtain⟨fs,ss,L,c,st,hc,hs,d⟩:=KZ (M:=M) hi hn h.n40 hm h.ok hp (by omega);refine⟨ss,L.set (c-M.length) .dead,?_,fG.of h.ok hp h.ln d fun q hq=>h.con q p hq hp⟩
 have f:gQ (aK dS fa) γ M=some (.d (.list (ss.map sP)),M++L.set (c-M.length) .dead):=by
  unfold gQ aK;rw[ha,A2];dsimp only;rw[st,A2];dsimp only;rw[hs];unfold sC;dsimp only;rw[show ss.map sD=(ss.map sP).map .d by rw[O4];rfl,gS,A2,E7 _ _ hc]
 unfold cF;rw[f,A2];show(some (ss.map sP)).bind _=_;rw[A2,O4];rfl
theorem IY{h:FX}{xs:List CD}{v:CD}(ha:fa γ M=some (xs,M))(hh:h xs M=some (.v v,M')):lQ (qX h (liA fa)) γ M=some (.o (.nx γ),M'):=by
 unfold lQ qX JO liA;rw[ha,A2,A2];dsimp only;rw[hh,A2]
theorem IR{h:FX}{xs:List CD}{e:Exc}(ha:fa γ M=some (xs,M))(hh:h xs M=some (.x e,M')):lQ (qX h (liA fa)) γ M=some (.xc γ e,M'):=by
 unfold lQ qX JO liA;rw[ha,A2,A2];dsimp only;rw[hh,A2]
theorem AA{f g:SFX}(h:f γ M=some (.o (.nx γ'),M')):mC f g γ M=g γ' M':=by
 unfold mC;rw[h,A2]
theorem KC{f g:SFX}{e:Exc}(h:f γ M=some (.xc γ' e,M')):mC f g γ M=some (.xc γ' e,M'):=by
 unfold mC;rw[h,A2]
theorem aET{b:SFX}{xs:List CD}{x:CD}(h:xs.length=ps)(hb:b (xs.map some++List.replicate (N-xs.length) none) M=some (.o (.rt x),M')):fnX ps N b xs M=some (.v x,M'):=by
 unfold fnX;rw[A7 h,hb,A2]
theorem RZ{b:SFX}{xs:List CD}{e:Exc}(h:xs.length=ps)(hb:b (xs.map some++List.replicate (N-xs.length) none) M=some (.xc γ e,M')):fnX ps N b xs M=some (.x e,M'):=by
 unfold fnX;rw[A7 h,hb,A2]
theorem aFl{f:SF}{x:CD}(h:f γ M=some (.rt x,M')):liS f γ M=some (.o (.rt x),M'):=by
 unfold liS;rw[h,A2]
noncomputable abbrev wD(L:List Int):PyData:=.tuple (L.map .int)
noncomputable def Beh(us:List Ed)(r k p:Int):Prop:=∃U,Walk us p U r/\U.Nodup/\k∈U
section
variable{n:Nat}{us:List Ed}{r k:Int}{ss:List (Int×Int×Int)}
theorem fG.exM(R:fG n us r ss):∀(m:Nat)(p:Int),p∈r::(ss.take m).map (·.2.1)->∃U,Walk us p U r/\U.Nodup/\∀k∈U,k∈(ss.take m).map (·.2.2):=by
 intro m
 induction m using Nat.strongRecOn with
 |ind m ih=>
  intro p hp;by_cases e:p=r
  .exact⟨[],e,List.nodup_nil,fun k hk=>by cases hk⟩
  .have hp:=(List.mem_cons.mp hp).resolve_left e;obtain⟨⟨h,p',a⟩,m1,e1⟩:=List.mem_map.mp hp;have e1:p'=p:=e1;subst e1;obtain⟨q,hq⟩:=I0 m1;have lq:=(List.getElem?_eq_some_iff.mp hq).1;rw[J2]at lq;rw[Y3 (by omega)]at hq;have mm:=E5 hq;obtain⟨U,w,nd,hk⟩:=ih q (by omega) h (R.od q h p' a hq);refine⟨a::U,⟨h,vT (R.li _ _ _ mm),w⟩,List.nodup_cons.mpr ⟨fun z=>?_,nd⟩,fun k hk'=>?_⟩
   .obtain⟨y,hy,ey⟩:=List.mem_map.mp (hk a z);obtain⟨w',hw⟩:=I0 hy;have lw:=(List.getElem?_eq_some_iff.mp hw).1;rw[J2]at lw;rw[Y3 (by omega)]at hw
    have:=(O7 (h₀:=by rw[A3];exact(List.getElem?_eq_some_iff.mp hw).1) (h₁:=by rw[A3];exact(List.getElem?_eq_some_iff.mp hq).1) R.ats).mp (by
     rw[O9,O9,(List.getElem?_eq_some_iff.mp hw).2,(List.getElem?_eq_some_iff.mp hq).2];exact ey)
    omega
   .have tk:∀y,y∈ss.take q->y∈ss.take m:=fun y hy=>by
     rw[show q=min q m by omega,<- List.take_take]at hy;exact Z4 hy
    rcases List.mem_cons.mp hk' with z|z
    .rw[z];exact List.mem_map.mpr ⟨_,m1,rfl⟩
    .obtain⟨y,hy,ey⟩:=List.mem_map.mp (hk k z);exact List.mem_map.mpr ⟨y,tk y hy,ey⟩
theorem fG.exU(R:fG n us r ss)(n40:n<=40)(hp:Inn n p):∃U,Walk us p U r/\U.Nodup:=by
 obtain⟨U,w,nd,_⟩:=R.exM ss.length p (by rw[List.take_length];exact(R.all p).mp hp);exact⟨U,w,nd⟩
theorem fG.behs(R:fG n us r ss)(n40:n<=40){t:Int}(m:(h,t,a)∈ss):Beh us r k t↔a=k\/Beh us r k h:=by
 have ht:Inn n t:=(R.all t).mpr (B3 _ (List.mem_map.mpr ⟨_,m,rfl⟩))
 have split:∀U,Walk us t U r->U.Nodup->∃U',U=a::U'/\Walk us h U' r/\U'.Nodup:=fun U w nd=>by
  cases U with
  |nil=>
   have w:t=r:=w;subst w;exact(R.root m).elim
  |cons q U'=>
   obtain⟨g,m2,w2⟩:=R.up w nd;obtain⟨e1,e2⟩:=R.one m m2;subst e1 e2;exact⟨U',rfl,w2,(List.nodup_cons.mp nd).2⟩
 constructor
 .rintro⟨U,w,nd,hk⟩;obtain⟨U',rfl,w2,nd2⟩:=split U w nd;rcases List.mem_cons.mp hk with z|z
  .exact .inl z.symm
  .exact .inr ⟨U',w2,nd2,z⟩
 .intro q;obtain⟨U,w,nd⟩:=R.exU n40 ht;obtain⟨U',rfl,w2,nd2⟩:=split U w nd;refine⟨_,w,nd,?_⟩;rcases q with z|⟨V,v1,v2,v3⟩
  .rw[z];exact B5 ..
  .rw[R.uniq v1 v2 w2 nd2]at v3;exact B3 _ v3
theorem fG.beh0(R:fG n us r ss):¬Beh us r k r:=by
 rintro⟨U,w,nd,hk⟩;have:U=[]:=R.uniq w nd (show Walk us r [] r from rfl) List.nodup_nil;subst this;cases hk
noncomputable def dQ(k:Int)(bs:List Int)(s:Int×Int×Int):List Int:=if s.2.2=k\/s.1∈bs then bs++[s.2.1]else bs
theorem fG.beh(R:fG n us r ss)(n40:n<=40):∀(xs pre:List (Int×Int×Int))(bs:List Int),ss=pre++xs->bs.Nodup->(∀p∈bs,p∈pre.map (·.2.1))->(∀p∈r::pre.map (·.2.1),p∈bs↔Beh us r k p)->
 (xs.foldl (dQ k) bs).Nodup/\(∀p,p∈xs.foldl (dQ k) bs↔Inn n p/\Beh us r k p)
 |[]=>fun pre bs e nd sub h=>by
  rw[D6]at e;subst e;refine⟨nd,fun p=>⟨fun hp=>?_,fun hp=>?_⟩⟩
  .have m:=B3 r (sub p hp);exact⟨(R.all p).mpr m,(h p m).mp hp⟩
  .exact(h p ((R.all p).mp hp.1)).mpr hp.2
 |(g,t,a)::xs=>fun pre bs e nd sub h=>by
  have m:(g,t,a)∈ss:=by rw[e];exact C5 _ (B5 ..)
  have hq:ss[pre.length]?=some (g,t,a):=by rw[e,B9 (B1 _),F5];rfl
  have tk:ss.take pre.length=pre:=by rw[e,List.take_left]
  have hg:g∈r::pre.map (·.2.1):=by have:=R.od _ _ _ _ hq;rwa [tk]at this
  have nt:t∉r::pre.map (·.2.1):=fun z=>by
   have:=R.nd;rw[e,D3]at this;rcases List.mem_cons.mp z with z|z
   .exact R.root (z▸m)
   .have:=(List.nodup_append.mp (List.nodup_cons.mp this).2).2.2 t z t (B5 ..);exact this rfl
  have key:t∈dQ k bs (g,t,a)↔Beh us r k t:=by
   rw[R.behs n40 m,<- h g hg];unfold dQ;dsimp only;split
   .rename_i c;exact⟨fun _=>c,fun _=>C5 _ (List.mem_singleton.mpr rfl)⟩
   .rename_i c;exact⟨fun z=>absurd (B3 r (sub t z)) nt,fun z=>absurd z c⟩
  have old:∀p,p≠t->(p∈dQ k bs (g,t,a)↔p∈bs):=fun p hp=>by
   unfold dQ;dsimp only;split
   .rw[List.mem_append,D4];exact⟨fun z=>z.resolve_right hp,.inl⟩
   .exact Iff.rfl
  rw[U2];refine R.beh n40 xs (pre++[(g,t,a)]) (dQ k bs (g,t,a)) (by rw[e,C6];rfl) ?_ (fun p hp=>?_) fun p hp=>?_
  .unfold dQ;dsimp only;split
   .rw[Y9];exact⟨nd,by simp,fun x hx y hy q=>by rw[D4]at hy;exact nt (B3 _ (by rw[<- hy,<- q];exact sub x hx))⟩
   .exact nd
  .rw[D3];by_cases q:p=t
   .rw[q];exact C5 _ (List.mem_singleton.mpr rfl)
   .exact D0 _ (sub p ((old p q).mp hp))
  .by_cases q:p=t
   .rw[q];exact key
   .rw[old p q];refine h p ?_;rcases List.mem_cons.mp hp with z|z
    .rw[z];exact B5 ..
    .rw[D3]at z;rcases List.mem_append.mp z with z|z
     .exact B3 _ z
     .exact absurd (List.mem_singleton.mp z) q
end
noncomputable abbrev StB(M:Sto)(bs:List Int)(L:Sto):Sto:=M++(Cell.dk (kvs bs)::L)
theorem HE{bs:List Int}:(StB M bs L)[M.length]?=some (.dk (kvs bs)):=by
 unfold StB;rw[B9 (B1 _),F5];rfl
theorem aBq{bs bs':List Int}:(StB M bs L).set M.length (.dk (kvs bs'))=StB M bs' L:=by
 unfold StB;rw[E7 _ _ (B1 _),F5];rfl
noncomputable abbrev GZ(x:CD)(k:Int)(c:Nat)(g3 g4 g5:Option CD):Ga:=[some x,some (I k),some (.c c),g3,g4,g5]
theorem YB{x:CD}{k:Int}{bs:List Int}{s:Int×Int×Int}(hl:bs.length<500)(nt:s.2.1∉bs):cZ (GZ x k M.length (some (I s.1)) (some (I s.2.1)) (some (I s.2.2))) (StB M bs L)=some (.nx (GZ x k M.length (some (I s.1)) (some (I s.2.1)) (some (I s.2.2))),StB M (dQ k bs s) L):=by
 have l1:(kvs bs).length<sizeLine:=by unfold kvs;rw[A3,E4];omega
 have a1:atD (StB M bs L) (.c M.length) (.inl (.inl s.1))=some (lkC (kvs bs) (.inl s.1:Key)):=by simp only[atD,HE]
 have k1:keyOf (I s.1)=some (.inl s.1):=rfl;have k2:keyOf (I s.2.1)=some (.inl s.2.1):=rfl;have lk:=XT bs s.1
 have s1:II (StB M bs L) (.c M.length) (.inl (.inl s.2.1)) (.d (.bool true))=some (StB M (bs++[s.2.1]) L):=by
  simp only[II,HE,if_pos l1,JF nt,aBq]
 unfold dQ;cases q:(s.2.2==k)with
 |true=>
  rw[A7 (.inl (beq_iff_eq.mp q))];simp![cZ,xR,q,pN,xA,k2,s1]
 |false=>
  by_cases hb:s.1∈bs
  .rw[C8 hb]at lk;rw[A7 (.inr hb)];simp![cZ,xR,q,xF,xA,k1,a1,lk,pN,k2,s1]
  .rw[C1 hb]at lk;rw[B0 (fun z=>z.elim (beq_eq_false_iff_ne.mp q) hb)];simp![cZ,xR,q,xF,xA,k1,a1,lk]
theorem CM{x:CD}{k:Int}{M L:Sto}:∀(xs:List (Int×Int×Int))(bs:List Int)(g3 g4 g5:Option CD),bs.length+xs.length<500->(bs++xs.map (·.2.1)).Nodup->
 ∃g3' g4' g5',iZ (iP 3 (aY (hName 3) (aY (hName 4) (aY (hName 5) gK)))) cZ (xs.map fun s=>.d (sP s)) (GZ x k M.length g3 g4 g5) (StB M bs L)=some (.nx (GZ x k M.length g3' g4' g5'),StB M (xs.foldl (dQ k) bs) L)
 |[]=>fun bs g3 g4 g5 _ _=>⟨g3,g4,g5,rfl⟩
 |s::xs=>fun bs g3 g4 g5 hl nd=>by
  rw[C9]at hl;rw[B6]at nd;obtain⟨n1,n2,n3⟩:=List.nodup_append.mp nd;have nt:s.2.1∉bs:=fun z=>n3 _ z _ (B5 ..) rfl;have t:=YB (x:=x) (k:=k) (M:=M) (L:=L) (s:=s) (by omega) nt;have bl:(dQ k bs s).length<=bs.length+1:=by unfold dQ;split<;>simp
  have nd':(dQ k bs s++xs.map (·.2.1)).Nodup:=by
   unfold dQ;split
   .rw[C6];exact nd
   .exact List.nodup_append.mpr ⟨n1,(List.nodup_cons.mp n2).2,fun a ha b hb=>n3 a ha b (B3 _ hb)⟩
  obtain⟨a3,a4,a5,l⟩:=CM (x:=x) (k:=k) (M:=M) (L:=L) xs (dQ k bs s) (some (I s.1)) (some (I s.2.1)) (some (I s.2.2)) (by omega) nd';refine⟨a3,a4,a5,?_⟩;rw[B6,U2,dA (show iP 3 (aY (hName 3) (aY (hName 4) (aY (hName 5) gK))) (.d (sP s)) (GZ x k M.length g3 g4 g5) (StB M bs L)=some (GZ x k M.length (some (I s.1)) (some (I s.2.1)) (some (I s.2.2)),StB M bs L)from rfl) t];exact l
theorem yF:∀fs:List Int,zO ((kvs fs).map (·.1))=some fs
 |[]=>rfl
 |x::fs=>by
  show(zO ((kvs fs).map (·.1))).map (x::·)=_;rw[yF fs];rfl
theorem aFi{us:List Ed}{k:Int}(ht:Tr n x us)(h0:0<n):∃bs L,fB [.d x,I k] M=some (.d (wD (fX bs)),M++L)/\bs.Nodup/\∀p,p∈bs↔Inn n p/\Beh us 0 k p:=by
 have n40:=ht.n40;obtain⟨ss,L,fr,R⟩:=wK (γ:=GZ (.d x) k M.length none none none) (M:=M++[.dk []]) (fa:=aA (aD 0) (aA (fC (.int 0)) aF)) ht ⟨by omega,by omega⟩ rfl;have ln:=R.ln;have sl:=R.len;have nd0:=(List.nodup_cons.mp R.nd).2;obtain⟨a3,a4,a5,lp⟩:=CM (x:=.d x) (k:=k) (M:=M) (L:=L) ss [] none none none (by rw[List.length_nil];omega) (by rw[List.nil_append];exact nd0)
 obtain⟨bn,bm⟩:=R.beh (k:=k) n40 ss [] [] rfl List.nodup_nil (fun p hp=>by cases hp) (fun p hp=>by
  rcases List.mem_cons.mp hp with z|z
  .subst z;exact⟨(fun z=>by cases z),fun z=>absurd z R.beh0⟩
  .cases z)
 have bf:(ss.foldl (dQ k) []).length<=n:=sJ bn fun p hp=>((bm p).mp hp).1;have e1:M++[Cell.dk []]++L=StB M [] L:=by rw[C6];rfl
 rw[e1]at fr;have sf:=iE fr lp
 have so:oE [.c M.length] (StB M (ss.foldl (dQ k) []) L)=some (.d (.list ((fX (ss.foldl (dQ k) [])).map .int)),StB M (ss.foldl (dQ k) []) L):=by
  simp only[oE,HE,yF,Option.bind_some,if_pos (show(ss.foldl (dQ k) []).length<64 by omega)]
 have tv:eZ [.d (.list ((fX (ss.foldl (dQ k) [])).map .int))] (StB M (ss.foldl (dQ k) []) L)=some (.d (wD (fX (ss.foldl (dQ k) []))),StB M (ss.foldl (dQ k) []) L):=rfl;refine⟨_,Cell.dk (kvs (ss.foldl (dQ k) []))::L,pA rfl ?_,bn,bm⟩;unfold kF;show aR _ _ [some (.d x),some (I k),none,none,none,none] M=_;rw[bE (show bG BG (hName 2) [some (.d x),some (I k),none,none,none,none] M=some (.nx (GZ (.d x) k M.length none none none),M++[.dk []])from rfl),bE sf];simp![so,tv]
structure Tm(x:PyData)(as:List (Int×Int)):Prop where
 ln:∃ds,aP x=some ds/\ds.length=as.length
 at_:∀(k:Nat)(a:Int×Int),as[k]?=some a->∃d c,(∀M,ixF (.d x) (I (k:Nat)) M=some (.d d,M))/\(∀M,ixF (.d d) (I 2) M=some (.d c,M))/\aP c=some [.int a.1,.int a.2]
noncomputable def Bd(as:List (Int×Int)):Prop:=∀a∈as,a.1.natAbs<fQ/\a.2.natAbs<fQ
noncomputable def blw(a b:Int×Int):Bool:=decide (a.1*b.2<b.1*a.2)
theorem JJ(h:i.natAbs<fQ)(h':j.natAbs<fQ):iV i j=true:=by
 unfold iV;rw[C8 h,C8 h',Bool.and_self,Bool.or_true]
theorem aAx{c:PyData}{a b:Int×Int}(hc:aP c=some [.int a.1,.int a.2])(hd:aP d=some [.int b.1,.int b.2])(ha:a.1.natAbs<fQ/\a.2.natAbs<fQ)(hb:b.1.natAbs<fQ/\b.2.natAbs<fQ):lJ [.d c,.d d] M=some (B (blw a b),M):=by
 have c0:∀M,ixF (.d c) (I 0) M=some (I a.1,M):=fun M=>cH hc;have c1:∀M,ixF (.d c) (I 1) M=some (I a.2,M):=fun M=>cH hc;have d0:∀M,ixF (.d d) (I 0) M=some (I b.1,M):=fun M=>cH hd;have d1:∀M,ixF (.d d) (I 1) M=some (I b.2,M):=fun M=>cH hd;have m1:=JJ ha.1 hb.2;have m2:=JJ hb.1 ha.2;simp![lJ,pV,c0,c1,d0,d1,m1,m2,blw]
noncomputable def lst(as:List (Int×Int)):List Nat->Nat->Nat
 |[],l=>l
 |k::ks,l=>lst as ks (if blw (as.getD k (0,1)) (as.getD l (0,1))=true then k else l)
theorem HV(as:List (Int×Int)):∀(ks:List Nat)(l:Nat),l<as.length->(∀k∈ks,k<as.length)->lst as ks l<as.length
 |[]=>fun l h _=>h
 |k::ks=>fun l h hk=>by
  unfold lst;refine HV as ks _ ?_ fun q hq=>hk q (B3 _ hq);split
  .exact hk k (B5 ..)
  .exact h
theorem getD_at{as:List (Int×Int)}{k:Nat}(h:k<as.length):as[k]?=some (as.getD k (0,1)):=by
 rw[A8,A9 h];rfl
theorem Bd.at{as:List (Int×Int)}(h:Bd as){k:Nat}(hk:k<as.length):(as.getD k (0,1)).1.natAbs<fQ/\(as.getD k (0,1)).2.natAbs<fQ:=h _ (E5 (getD_at hk))
theorem wA{x:PyData}{as:List (Int×Int)}{y:CD}{M:Sto}(T:Tm x as)(hb:Bd as):∀(ks:List Nat)(l:Nat)(g:Option CD),l<as.length->(∀k∈ks,k<as.length)->∃g',iZ (hName 3) dZ (ks.map fun k=>I (k:Nat)) [some (.d x),some y,some (I (l:Nat)),g] M=some (.nx [some (.d x),some y,some (I ((lst as ks l:Nat):Int)),g'],M)
 |[]=>fun l g _ _=>⟨g,rfl⟩
 |k::ks=>fun l g hl hk=>by
  have k1:=hk k (B5 ..);obtain⟨d,c,i1,i2,i3⟩:=T.at_ k _ (getD_at k1);obtain⟨e,f,j1,j2,j3⟩:=T.at_ l _ (getD_at hl);have bl:=aAx (M:=M) i3 j3 (hb.at k1) (hb.at hl);have nl:(if blw (as.getD k (0,1)) (as.getD l (0,1))=true then k else l)<as.length:=by split<;>assumption
  obtain⟨g',lp⟩:=wA (y:=y) (M:=M) T hb ks (if blw (as.getD k (0,1)) (as.getD l (0,1))=true then k else l) (some (I (k:Nat))) nl fun q hq=>hk q (B3 _ hq);refine⟨g',?_⟩
  have t:dZ [some (.d x),some y,some (I (l:Nat)),some (I (k:Nat))] M=some (.nx [some (.d x),some y,some (I ((if blw (as.getD k (0,1)) (as.getD l (0,1))=true then k else l:Nat):Int)),some (I (k:Nat))],M):=by
   cases h:blw (as.getD k (0,1)) (as.getD l (0,1))with
   |true=>
    rw[h]at bl;rw[A7 rfl];generalize (k:Int)=J at i1 ⊢;generalize (l:Int)=K at j1 ⊢;simp![dZ,i1,i2,j1,j2,bl]
   |false=>
    rw[h]at bl;rw[B0 (by decide)];generalize (k:Int)=J at i1 ⊢;generalize (l:Int)=K at j1 ⊢;simp![dZ,i1,i2,j1,j2,bl]
  rw[B6,dA (show hName 3 (I (k:Nat)) [some (.d x),some y,some (I (l:Nat)),g] M=some ([some (.d x),some y,some (I (l:Nat)),some (I (k:Nat))],M)from rfl) t];exact lp
noncomputable abbrev lsI(as:List (Int×Int)):Nat:=lst as (List.range as.length) 0
theorem aBy{as:List (Int×Int)}(T:Tm x as)(hb:Bd as)(h0:0<as.length):eA [.d x,.d (.tuple (mG 0 as.length))] M=some (I ((lsI as:Nat):Int),M):=by
 have it:cF (aD 1) [some (.d x),some (.d (.tuple (mG 0 as.length))),some (I ((0:Nat):Int)),none] M=some ((List.range as.length).map fun k=>I (k:Nat),M):=by
  refine(VD (ds:=mG 0 as.length) rfl rfl).trans ?_;unfold mG;rw[O4];refine E9 (fun l=>some (l,M)) (S7 fun k _=>?_);show CD.d (.int (0+(k:Nat)))=_;rw[Int.zero_add]
 obtain⟨g',lp⟩:=wA (y:=.d (.tuple (mG 0 as.length))) (M:=M) T hb (List.range as.length) 0 none h0 fun k hk=>List.mem_range.mp hk
 have i0:ixF (.d (.tuple (mG 0 as.length))) (I 0) M=some (I ((0:Nat):Int),M):=by
  have e:(mG 0 as.length)[0]?=some (.int 0):=by
   unfold mG;rw[C3,Z8 h0];rfl
  have e2:=gR e;show(atI (mG 0 as.length) ((0:Nat):Int)).bind _=_;rw[e2];rfl
 have a1:bG (fOp ixF (aD 1) (fC (.int 0))) (hName 2) [some (.d x),some (.d (.tuple (mG 0 as.length))),none,none] M=some (.nx [some (.d x),some (.d (.tuple (mG 0 as.length))),some (I ((0:Nat):Int)),none],M):=pO i0;refine pA rfl ?_;unfold kD;show aR _ _ [some (.d x),some (.d (.tuple (mG 0 as.length))),none,none] M=_;rw[bE a1,bE (iE it lp)];rfl
theorem aEA{x:CD}(hl:bW [x] M=some (I J,M))(sm:aZ J=true)(h:J.toNat<=sizeLine):hX (aA (aK bW (aA (aD 0) aF)) aF) (some x::γ) M=some (.d (.tuple (mG 0 J.toNat)),M):=by
 have hh:aZ J=true/\J.toNat<=sizeLine:=⟨sm,h⟩;have a:aA (aK bW (aA (aD 0) aF)) aF (some x::γ) M=some ([I J],M):=by simp![hl]
 unfold hX;rw[a,A2];dsimp only;rw[A7 hh]
noncomputable abbrev xO:Exc:=⟨"OnePlace",[]⟩
theorem aBs(h:eE x=false):∃L,bD [.d x] M=some (.x xT,M++L):=by
 obtain⟨L,r⟩:=uL x M;rw[h,B0 (by decide)]at r;refine⟨L,RZ (γ:=[some (.d x),none]) rfl ?_⟩;unfold dY;show mC _ _ [some (.d x),none] M=_;exact KC (IR rfl r)
noncomputable abbrev aBm:SFX:=(OU (gB (fOp (eqX false) (aK bW (aA (aD 0) aF)) (fC (.int 0)))) (rO "OnePlace") (liS dN))
theorem aBv{M:Sto}(ln:∀M,bW [.d x] M=some (I J,M))(h:(J==0)=true):aBm [some (.d x),none] M=some (.xc [some (.d x),none] xO,M):=by
 simp![aBm,ln,xR,h]
theorem aEt{M:Sto}(ln:∀M,bW [.d x] M=some (I J,M))(h:(J==0)=false):aBm [some (.d x),none] M=some (.o (.nx [some (.d x),none]),M):=by
 simp![aBm,ln,xR,h]
theorem ZA(h:eE x=true)(hi:aP x=some []):∃L,bD [.d x] M=some (.x xO,M++L):=by
 obtain⟨L,r⟩:=uL x M;rw[h,A7 rfl]at r;refine⟨L,RZ (γ:=[some (.d x),none]) rfl ?_⟩;unfold dY;show mC _ _ [some (.d x),none] M=_;rw[AA (IY rfl r)];exact KC (aBv (J:=0) (fun M=>cT hi) rfl)
theorem RI{l:Int}{c y:PyData}{a:Int×Int}{M M1:Sto}(ln:∀M,bW [.d x] M=some (I J,M))(tr:hX (aA (aK bW (aA (aD 0) aF)) aF) [some (.d x),none] M=some (.d y,M))(fl:eA [.d x,.d y] M=some (I l,M))(i1:∀M,ixF (.d x) (I l) M=some (.d d,M))(i2:∀M,ixF (.d d) (I 2) M=some (.d c,M))(hc:aP c=some [.int a.1,.int a.2])(sb:fB [.d x,I l] M=some (.d (wD S),M1)):
 (aR (bG (aK eA (aA (aD 0) (aA (hX (aA (aK bW (aA (aD 0) aF)) aF)) aF))) (hName 1))
 (dD (bK (aA (aK eZ (aA (fOp ixF (fOp ixF (aD 0) (aD 1)) (fC (.int 2))) aF)) (aA (aK fB (aA (aD 0) (aA (aD 1) aF))) aF))))) [some (.d x),none] M=some (.rt (.d (.tuple [.tuple [.int a.1,.int a.2],wD S])),M1):=by
 have tp:∀M,eZ [.d c] M=some (.d (.tuple [.int a.1,.int a.2]),M):=fun M=>LQ hc
 have f1:aK eA (aA (aD 0) (aA (hX (aA (aK bW (aA (aD 0) aF)) aF)) aF)) [some (.d x),none] M=some (I l,M):=by
  unfold aK
  rw[show aA (aD 0) (aA (hX (aA (fun γ M=>(aA (aD 0) aF γ M).bind fun r=>bW r.1 r.2) aF)) aF) [some (.d x),none] M=some ([.d x,.d y],M)by
   have:hX (aA (fun γ M=>(aA (aD 0) aF γ M).bind fun r=>bW r.1 r.2) aF) [some (.d x),none] M=some (.d y,M):=tr;show((aD 0 [some (.d x),none] M).bind _)=_;rw[show aD 0 [some (.d x),none] M=some (.d x,M)from rfl,A2];show((Option.bind ((hX _ [some (.d x),none] M)) _).bind _)=_;rw[this];rfl,A2]
  exact fl
 have s2:(2:Nat)<=sizeLine:=by decide
 rw[bE (pO f1)];show dD _ [some (.d x),some (I l)] M=_;simp![i1,i2,tp,sb,s2]
theorem VY{us:List Ed}{as:List (Int×Int)}(h:eE x=true)(ht:Tr n x us)(T:Tm x as)(hb:Bd as)(h1:1<n)(al:as.length+1=n):∃bs L,bD [.d x] M=some (.v (.d (.tuple [.tuple [.int (as.getD (lsI as) (0,1)).1,.int (as.getD (lsI as) (0,1)).2],wD (fX bs)])),M++L)/\bs.Nodup/\∀p,p∈bs↔Inn n p/\Beh us 0 ((lsI as:Nat):Int) p:=by
 obtain⟨L,r⟩:=uL x M;rw[h,A7 rfl]at r;obtain⟨ds,hi,hl⟩:=T.ln;have n40:=ht.n40;have ll:lsI as<as.length:=HV as _ _ (by omega) fun k hk=>List.mem_range.mp hk;obtain⟨d,c,i1,i2,i3⟩:=T.at_ (lsI as) _ (getD_at ll);obtain⟨bs,L2,sb,b1,b2⟩:=aFi (k:=((lsI as:Nat):Int)) (M:=M++L) ht (by omega)
 have tr:hX (aA (aK bW (aA (aD 0) aF)) aF) [some (.d x),none] (M++L)=some (.d (.tuple (mG 0 as.length)),M++L):=by
  have:=aEA (γ:=[none]) (M:=M++L) (cT hi) (jE (by omega) (by omega)) (by rw[F0];exact sz (by omega));rw[F0,hl]at this;exact this
 have fl:=aBy (M:=M++L) T hb (by omega);refine⟨bs,L++L2,aET rfl ?_,b1,b2⟩;have e0:((ds.length:Int)==0)=false:=beq_eq_false_iff_ne.mpr (by omega);unfold dY;show mC _ _ [some (.d x),none] M=_;rw[AA (IY rfl r),AA (aEt (fun M=>cT hi) e0),<- C6];exact aFl (RI (fun M=>cT hi) tr fl i1 i2 i3 sb)
theorem FQ{x:PyData}{as:List (Int×Int)}{M:Sto}(T:Tm x as)(hb:Bd as):∀(q k l:Nat)(g2 g3 g4:Option CD),l<as.length->k+q<=as.length->∃g2' g3' g4',iZ (hName 2) eU (dM (k:Nat) q) [some (.d x),some (I (l:Nat)),g2,g3,g4] M=some (.nx [some (.d x),some (I ((lst as (List.range' k q) l:Nat):Int)),g2',g3',g4'],M)
 |0=>fun k l g2 g3 g4 _ _=>⟨g2,g3,g4,rfl⟩
 |q+1=>fun k l g2 g3 g4 hl hk=>by
  have k1:k<as.length:=by omega
  obtain⟨d,c,i1,i2,i3⟩:=T.at_ k _ (getD_at k1);obtain⟨e,f,j1,j2,j3⟩:=T.at_ l _ (getD_at hl);have c0:∀M,ixF (.d c) (I 0) M=some (I (as.getD k (0,1)).1,M):=fun M=>cH i3;have c1:∀M,ixF (.d c) (I 1) M=some (I (as.getD k (0,1)).2,M):=fun M=>cH i3;have d0:∀M,ixF (.d f) (I 0) M=some (I (as.getD l (0,1)).1,M):=fun M=>cH j3;have d1:∀M,ixF (.d f) (I 1) M=some (I (as.getD l (0,1)).2,M):=fun M=>cH j3;have m1:=JJ (hb.at k1).1 (hb.at hl).2;have m2:=JJ (hb.at hl).1 (hb.at k1).2;have nl:(if blw (as.getD k (0,1)) (as.getD l (0,1))=true then k else l)<as.length:=by split<;>assumption
  obtain⟨b2,b3,b4,lp⟩:=FQ (M:=M) T hb q (k+1) (if blw (as.getD k (0,1)) (as.getD l (0,1))=true then k else l) (some (I (k:Nat))) (some (.d c)) (some (.d f)) nl (by omega);refine⟨b2,b3,b4,?_⟩
  have t:eU [some (.d x),some (I (l:Nat)),some (I (k:Nat)),g3,g4] M=some (.nx [some (.d x),some (I ((if blw (as.getD k (0,1)) (as.getD l (0,1))=true then k else l:Nat):Int)),some (I (k:Nat)),some (.d c),some (.d f)],M):=by
   cases h:blw (as.getD k (0,1)) (as.getD l (0,1))with
   |true=>
    rw[A7 rfl];unfold blw at h;generalize (k:Int)=J at i1 ⊢;generalize (l:Int)=K at j1 ⊢;simp![eU,i1,i2,j1,j2,c0,c1,d0,d1,m1,m2,h]
   |false=>
    rw[B0 (by decide)];unfold blw at h;generalize (k:Int)=J at i1 ⊢;generalize (l:Int)=K at j1 ⊢;simp![eU,i1,i2,j1,j2,c0,c1,d0,d1,m1,m2,h]
  rw[fS,dA (show hName 2 (I (k:Nat)) [some (.d x),some (I (l:Nat)),g2,g3,g4] M=some ([some (.d x),some (I (l:Nat)),some (I (k:Nat)),g3,g4],M)from rfl) t,List.range'_succ];exact lp
theorem aBR{x:CD}(hl:bW [x] M=some (I J,M))(sm:aZ J=true):dW (aA (aK bW (aA (aD 0) aF)) aF) (some x::γ) M=some (dM 0 J.toNat,M):=by
 simp![dW,hl,sm]
theorem aDU{as:List (Int×Int)}(T:Tm x as)(ln:as.length<=39):dW (aA (aK bW (aA (aD 0) aF)) aF) (some (.d x)::γ) M=some (dM 0 as.length,M):=by
 obtain⟨ds,h1,h2⟩:=T.ln;have:=aBR (γ:=γ) (M:=M) (cT h1) (jE (by omega) (by omega));rw[F0,h2]at this;exact this
theorem WI{l:Int}{c:PyData}{g2:Option CD}{M M1:Sto}(i1:∀M,ixF (.d x) (I l) M=some (.d d,M))(i2:∀M,ixF (.d d) (I 2) M=some (.d c,M))(ap:eT [.d x,I l] M=some (.d (wD S),M1)):dD (bK (aA (fOp ixF (fOp ixF (aD 0) (aD 1)) (fC (.int 2))) (aA (aK eT (aA (aD 0) (aA (aD 1) aF))) aF))) [some (.d x),some (I l),g2,g3,g4] M=some (.rt (.d (.tuple [c,wD S])),M1):=by
 have s2:(2:Nat)<=sizeLine:=by decide
 simp![i1,i2,ap,s2]
theorem aFH{c:PyData}{as:List (Int×Int)}{M M1:Sto}(T:Tm x as)(hb:Bd as)(h0:0<as.length)(h39:as.length<=39)(i1:∀M,ixF (.d x) (I ((lsI as:Nat):Int)) M=some (.d d,M))(i2:∀M,ixF (.d d) (I 2) M=some (.d c,M))(ap:eT [.d x,I ((lsI as:Nat):Int)] M=some (.d (wD S),M1)):lG [.d x] M=some (.d (.tuple [c,wD S]),M1):=by
 obtain⟨g2,g3,g4,lp⟩:=FQ (M:=M) T hb as.length 0 0 none none none h0 (by omega);rw[<- List.range_eq_range']at lp;have sf:jL (dW (aA (aK bW (aA (aD 0) aF)) aF)) (hName 2) eU [some (.d x),some (I ((0:Nat):Int)),none,none,none] M=_:=iE (aDU T h39) lp;refine pA rfl ?_;unfold pS;show aR _ _ [some (.d x),none,none,none,none] M=_;rw[bE (show bG (fC (.int 0)) (hName 1) [some (.d x),none,none,none,none] M=some (.nx [some (.d x),some (I ((0:Nat):Int)),none,none,none],M)from rfl),bE sf];exact WI i1 i2 ap
noncomputable def fl(W:Int->Bool):Int->Nat->List Int
 |_,0=>[]
 |lo,q+1=>if W lo=true then lo::fl W (lo+1) q else fl W (lo+1) q
theorem fl_mem{W:Int->Bool}:∀{q:Nat}{lo p:Int},p∈fl W lo q↔(lo<=p/\p<lo+q)/\W p=true
 |0,lo,p=>by
  unfold fl;constructor
  .intro h;cases h
  .rintro⟨h,_⟩;omega
 |q+1,lo,p=>by
  have ih:=fl_mem (W:=W) (q:=q) (lo:=lo+1) (p:=p);unfold fl;by_cases e:p=lo
  .subst e;split
   .rename_i h;exact⟨fun _=>⟨⟨by omega,by omega⟩,h⟩,fun _=>B5 ..⟩
   .rename_i h;rw[ih];exact⟨fun z=>absurd z.2 h,fun z=>absurd z.2 h⟩
  .split
   .rw[List.mem_cons,ih];constructor
    .rintro(z|⟨z,y⟩)
     .exact absurd z e
     .exact⟨⟨by omega,by omega⟩,y⟩
    .rintro⟨z,y⟩;exact .inr ⟨⟨by omega,by omega⟩,y⟩
   .rw[ih];constructor
    .rintro⟨z,y⟩;exact⟨⟨by omega,by omega⟩,y⟩
    .rintro⟨z,y⟩;exact⟨⟨by omega,by omega⟩,y⟩
theorem SM{W:Int->Bool}:∀(q:Nat)(lo:Int),(fl W lo q).Pairwise (·<·)
 |0=>fun lo=>.nil
 |q+1=>fun lo=>by
  unfold fl;split
  .exact List.pairwise_cons.mpr ⟨fun p hp=>by have:=(fl_mem.mp hp).1.1;omega,SM q (lo+1)⟩
  .exact SM q (lo+1)
theorem GO{W:Int->Bool}:∀(q:Nat)(lo:Int),(fl W lo q).length<=q
 |0=>fun lo=>B1 _
 |q+1=>fun lo=>by
  unfold fl;have:=GO (W:=W) q (lo+1);split
  .rw[C9];omega
  .omega
theorem any_ints(k:Int):∀L:List Int,((L.map PyData.int).any fun d=>PyData.eqv d (.int k))=decide (k∈L)
 |[]=>rfl
 |i::L=>by
  rw[B6,O6,any_ints k L];show((i==k) || decide (k∈L))=_;by_cases h:i=k
  .subst h;simp
  .have:(i==k)=false:=beq_eq_false_iff_ne.mpr h;rw[this,Bool.false_or];exact decide_eq_decide.mpr ⟨B3 _,fun z=>(List.mem_cons.mp z).resolve_left fun q=>h q.symm⟩
theorem QP:∀L:List Int,(L.map PyData.int).all SeqAt.shaped=true
 |[]=>rfl
 |i::L=>by rw[B6,U3,QP L];rfl
theorem vV:∀L:List Int,PyData.eqvAll (L.map .int) (L.map .int)=true
 |[]=>rfl
 |i::L=>by
  show((i==i)&&PyData.eqvAll (L.map .int) (L.map .int))=true;rw[vV L];simp
noncomputable def jY(at_:Int)(fd:Wd')(k:Int)(e:Ed):Wd':=if k=at_ then fd else oS fd k e
noncomputable def jA(at_:Int):Wd'->Nat->List Ed->Wd'
 |fd,_,[]=>fd
 |fd,k,e::es=>jA at_ (jY at_ fd (k:Nat) e) (k+1) es
noncomputable def cY(us:List Ed)(at_:Int):Nat->Wd'->Wd'
 |0,fd=>fd
 |m+1,fd=>cY us at_ m (jA at_ fd 0 us)
structure Wz(us:List Ed)(f at_:Int)(fd:Wd'):Prop where
 wy:Wy us f fd
 no:∀p L,(p,L)∈fd->at_∉L
theorem Wz.start{us:List Ed}:Wz us f a [(f,[])]:=⟨Wy.start,fun p L h=>by rw[D4]at h;cases h;exact List.not_mem_nil⟩
theorem Wz.step{us:List Ed}{fd:Wd'}{k:Nat}{e:Ed}(h:Wz us f a fd)(he:us[k]?=some e):Wz us f a (jY a fd (k:Nat) e):=by
 unfold jY;split
 .exact h
 .rename_i ne;refine⟨h.wy.step he,fun p L hm=>?_⟩
  have add:∀j K,(p,L)∈fd++[(j,K++[(k:Int)])]->a∉K->a∉L:=fun j K hm hK=>by
   rcases List.mem_append.mp hm with m|m
   .exact h.no p L m
   .rw[D4]at m;cases m;intro z;rcases List.mem_append.mp z with z|z
    .exact hK z
    .exact ne (List.mem_singleton.mp z).symm
  unfold oS at hm;revert hm;cases l1:look fd e.1 with
  |none=>
   cases l2:look fd e.2 with
   |none=>exact h.no p L
   |some K=>exact fun hm=>add _ K hm (h.no _ K (kR l2))
  |some K=>
   cases l2:look fd e.2 with
   |none=>exact fun hm=>add _ K hm (h.no _ K (kR l1))
   |some K'=>exact h.no p L
theorem oJ{us:List Ed}{k:Nat}{e:Ed}{es:List Ed}(hd:us.drop k=e::es):us[k]?=some e/\us.drop (k+1)=es:=by
 constructor
 .have:=E9 (fun l=>l[0]?) hd;simpa[List.getElem?_drop]using this
 .rw[<- List.drop_drop,hd];rfl
theorem Wz.pass{us:List Ed}{f a:Int}:∀{es:List Ed}{fd:Wd'}{k:Nat},Wz us f a fd->us.drop k=es->Wz us f a (jA a fd k es)
 |[],fd,k=>fun h _=>h
 |e::es,fd,k=>fun h hd=>by
  obtain⟨he,hd'⟩:=oJ hd;show Wz us f a (jA a (jY a fd (k:Nat) e) (k+1) es);exact Wz.pass (h.step he) hd'
theorem Wz.turns{us:List Ed}{f a:Int}:∀{m:Nat}{fd:Wd'},Wz us f a fd->Wz us f a (cY us a m fd)
 |0,_=>fun h=>h
 |m+1,fd=>fun h=>Wz.turns (m:=m) (h.pass rfl)
noncomputable def Clo(us:List Ed)(a:Int)(fd:Wd'):Prop:=∀(k:Nat)(e:Ed),us[k]?=some e->((k:Nat):Int)≠a->(e.1∈kys fd↔e.2∈kys fd)
theorem NF(a:Int)(fd:Wd')(k:Int)(e:Ed):fd.length<=(jY a fd k e).length/\((jY a fd k e).length=fd.length->jY a fd k e=fd/\(k≠a->(e.1∈kys fd↔e.2∈kys fd))):=by
 unfold jY;split
 .rename_i h;exact⟨B1 _,fun _=>⟨rfl,fun z=>absurd h z⟩⟩
 .obtain⟨x,y⟩:=UU fd k e;exact⟨x,fun z=>⟨(y z).1,fun _=>(y z).2⟩⟩
theorem xX{us:List Ed}{a:Int}:∀(es:List Ed)(fd:Wd')(k:Nat),us.drop k=es->fd.length<=(jA a fd k es).length/\((jA a fd k es).length=fd.length->jA a fd k es=fd/\∀(q:Nat)(e:Ed),k<=q->us[q]?=some e->((q:Nat):Int)≠a->(e.1∈kys fd↔e.2∈kys fd))
 |[]=>fun fd k hd=>⟨B1 _,fun _=>⟨rfl,fun q e hq he=>by
  have:=(List.getElem?_eq_some_iff.mp he).1;have:=List.drop_eq_nil_iff.mp hd;omega⟩⟩
 |e::es=>fun fd k hd=>by
  obtain⟨he,hd'⟩:=oJ hd;obtain⟨x,y⟩:=NF a fd (k:Nat) e;obtain⟨c,d⟩:=xX (a:=a) es (jY a fd (k:Nat) e) (k+1) hd';unfold jA;refine⟨J0 x c,fun z=>?_⟩;obtain⟨y1,y2⟩:=y (by omega);rw[y1]at c d z ⊢;obtain⟨d1,d2⟩:=d z;refine⟨d1,fun q g hq hg ne=>?_⟩;by_cases e2:q=k
  .subst e2;rw[he]at hg;cases hg;exact y2 ne
  .exact d2 q g (by omega) hg ne
theorem wO{us:List Ed}{a:Int}{fd:Wd'}(h:Clo us a fd):∀(es:List Ed)(k:Nat),us.drop k=es->jA a fd k es=fd
 |[]=>fun k _=>rfl
 |e::es=>fun k hd=>by
  obtain⟨he,hd'⟩:=oJ hd;unfold jA
  have:jY a fd (k:Nat) e=fd:=by
   unfold jY;split
   .rfl
   .rename_i ne;have c:=h k e he ne;unfold oS;cases l1:look fd e.1 with
    |none=>
     cases l2:look fd e.2 with
     |none=>rfl
     |some K=>exact absurd (c.mpr (gW l2)) (look_none.mp l1)
    |some K=>
     cases l2:look fd e.2 with
     |none=>exact absurd (c.mp (gW l1)) (look_none.mp l2)
     |some K'=>rfl
  rw[this];exact wO h es (k+1) hd'
theorem tH{us:List Ed}{a:Int}{fd:Wd'}(h:Clo us a fd):∀m,cY us a m fd=fd
 |0=>rfl
 |m+1=>by unfold cY;rw[wO h us 0 rfl];exact tH h m
theorem uN{us:List Ed}{a:Int}:∀(m:Nat)(fd:Wd'),Clo us a (cY us a m fd)\/fd.length+m<=(cY us a m fd).length
 |0=>fun fd=>.inr (B1 _)
 |m+1=>fun fd=>by
  obtain⟨x,y⟩:=xX (a:=a) us fd 0 rfl;by_cases e:(jA a fd 0 us).length=fd.length
  .have c:Clo us a fd:=fun k g hg ne=>(y e).2 k g (F9 _) hg ne
   left
   rw[tH c (m+1)];exact c
  .rcases uN (us:=us) (a:=a) m (jA a fd 0 us)with h|h
   .exact .inl h
   .right
    show fd.length+(m+1)<=(cY us a m (jA a fd 0 us)).length;omega
theorem XM{us:List Ed}(ok:Oks n us)(h0:Inn n 0)(ln:us.length+1=n):Clo us a (cY us a us.length [(0,[])]):=by
 rcases uN (us:=us) (a:=a) us.length [(0,[])]with h|h
 .exact h
 .have w:=(Wz.start (us:=us) (f:=0) (a:=a)).turns (m:=us.length)
  have hl:(kys (cY us a us.length [(0,[])])).length=n:=by
   have:=w.wy.few ok h0;unfold kys;rw[A3];have h:1+us.length<=(cY us a us.length [(0,[])]).length:=h;omega
  have all:=(uZ w.wy.nd (w.wy.inn ok h0)).mp hl;intro k e he _;have hm:=E5 he;exact⟨fun _=>all _ (ok e hm).2,fun _=>all _ (ok e hm).1⟩
theorem yN{us:List Ed}{a:Int}{fd:Wd'}(c:Clo us a fd)(h0:(0:Int)∈kys fd):∀(U:List Int)(p:Int),Walk us p U 0->a∉U->p∈kys fd
 |[],p,w=>fun _=>by have w:p=0:=w;rw[w];exact h0
 |k::U,p,⟨q,h1,h2⟩=>fun na=>by
  have hq:=yN c h0 U q h2 fun z=>na (B3 _ z);obtain⟨j,t,hj,hk,ht⟩:=h1;have ne:((j:Nat):Int)≠a:=fun z=>na (by rw[<- z,hk];simp);have cc:=c j t hj ne;rcases ht with⟨rfl,rfl⟩|⟨rfl,rfl⟩
  .exact cc.mpr hq
  .exact cc.mp hq
theorem VF{us:List Ed}{ss:List (Int×Int×Int)}(ok:Oks n us)(h0:Inn n 0)(R:fG n us 0 ss)(n40:n<=40)(hp:Inn n p):p∈kys (cY us a us.length [(0,[])])↔¬Beh us 0 a p:=by
 have w:=(Wz.start (us:=us) (f:=0) (a:=a)).turns (m:=us.length);have c:=XM (a:=a) ok h0 R.ln;constructor
 .intro hk;obtain⟨L,hL⟩:=ZU hk;have m:=kR hL;obtain⟨wk,nd,_⟩:=w.wy.ok p L m;rintro⟨U,u1,u2,u3⟩
  have ldr:L.reverse.Nodup:=by
   rw[Y1,List.pairwise_reverse];exact(List.nodup_iff_pairwise_ne.mp nd).imp fun h e=>h e.symm
  rw[R.uniq u1 u2 (EV wk) ldr]at u3;exact w.no p L m (List.mem_reverse.mp u3)
 .intro nb;obtain⟨U,u1,u2⟩:=R.exU n40 hp;exact yN c (List.mem_map.mpr ⟨_,w.wy.has,rfl⟩) U p u1 fun z=>nb ⟨U,u1,u2,z⟩
structure IsT(x:PyData)(us:List Ed):Prop where
 len:∃ds,aP x=some ds/\ds.length=us.length
 at_:∀(k:Nat)(e:Ed),us[k]?=some e->∃d,∀M,ixF (.d x) (I (k:Nat)) M=some (.d (.tuple [.int e.1,.int e.2,d]),M)
theorem BU(h:Li M c xs)(k:Int)(neg:Bool):inC neg (I k) (.c c) M=some (B (if neg then !decide (k∈xs)else decide (k∈xs)),M):=by
 have s1:snap 5 M (.c c)=some (.list (xs.map .int)):=by
  unfold Li at h;unfold snap;rw[h];show(mB 4 M (xs.map fun i=>I i)).bind _=_;rw[pK];rfl
 unfold inC;rw[HY,A2,s1,A2];show(if (SeqAt.shaped (.int k)&&(xs.map PyData.int).all SeqAt.shaped)=true then some (B (if neg then !((xs.map PyData.int).any fun d=>PyData.eqv d (.int k))else((xs.map PyData.int).any fun d=>PyData.eqv d (.int k))),M)else none)=_;rw[QP,any_ints];rfl
noncomputable abbrev GA(x:CD)(a:Int)(c:Nat)(turn k i j am:Option CD):Ga:=[some x,some (I a),some (.c c),turn,k,i,j,am]
theorem neB{a b:Bool}:eqX true (B a) (B b) M=some (B (a != b),M):=by cases a<;>cases b<;>rfl
theorem NK{us:List Ed}{a:Int}{k:Nat}{e:Ed}{fd:Wd'}{turn g5 g6 g7:Option CD}(hT:IsT x us)(he:us[k]?=some e)(hl:Li M c (kys fd))(hf:fd.length<500):
 ∃g5' g6' g7' M',cG (GA (.d x) a c turn (some (I (k:Nat))) g5 g6 g7) M=some (.nx (GA (.d x) a c turn (some (I (k:Nat))) g5' g6' g7'),M')/\Li M' c (kys (jY a fd (k:Nat) e))/\Oth c M M':=by
 obtain⟨d,ix⟩:=hT.at_ k e he;generalize (k:Int)=J at ix ⊢;have i1:=BU hl e.1 false;have i2:=BU hl e.2 false;have kl:(kys fd).length<1000:=by unfold kys;rw[A3];omega
 have pu:=fun z=>hl.push (z:=z) kl;have ty:=hl.ty;have s2:(2:Nat)<=sizeLine:=by decide
 have same:Oth c M M:=⟨rfl,fun _ _=>rfl⟩;unfold jY;cases ka:(J==a)with
 |true=>
  rw[A7 (beq_iff_eq.mp ka)];refine⟨some (I e.1),some (I e.2),some (.d d),M,?_,hl,same⟩;have:(!(J==a))=false:=by rw[ka];rfl
  simp![cG,ix,NN,this]
 |false=>
  rw[B0 (beq_eq_false_iff_ne.mp ka)];have nk:(!(J==a))=true:=by rw[ka];rfl
  unfold oS;cases l1:look fd e.1 with
  |none=>
   have m1:decide (e.1∈kys fd)=false:=C1 (look_none.mp l1);rw[m1]at i1;cases l2:look fd e.2 with
   |none=>
    have m2:decide (e.2∈kys fd)=false:=C1 (look_none.mp l2);rw[m2]at i2;refine⟨some (I e.1),some (I e.2),some (.d d),M,?_,hl,same⟩;have:(false != false)=false:=rfl;simp![cG,ix,NN,nk,i1,i2,neB,this]
   |some L=>
    have m2:decide (e.2∈kys fd)=true:=C8 (gW l2);rw[m2]at i2;refine⟨some (I e.1),some (I e.2),some (.d d),_,?_,by unfold kys;rw[D3,J6];exact(hl.set).1,(hl.set).2⟩;have bb:(false != true)=true:=rfl;have ii:AB [.d (.bool true)] M=some (I 1,M):=rfl;have x1:∀a b:PyData,ixF (.d (.list [a,b])) (I 1) M=some (.d b,M):=fun a b=>rfl;simp![cG,ix,NN,nk,i1,i2,neB,bb,bH,ty,ii,x1,s2,pu]
  |some L=>
   have m1:decide (e.1∈kys fd)=true:=C8 (gW l1);rw[m1]at i1;cases l2:look fd e.2 with
   |none=>
    have m2:decide (e.2∈kys fd)=false:=C1 (look_none.mp l2);rw[m2]at i2;refine⟨some (I e.1),some (I e.2),some (.d d),_,?_,by unfold kys;rw[D3,J6];exact(hl.set).1,(hl.set).2⟩;have bb:(true != false)=true:=rfl;have ii:AB [.d (.bool false)] M=some (I 0,M):=rfl;have x1:∀a b:PyData,ixF (.d (.list [a,b])) (I 0) M=some (.d a,M):=fun a b=>rfl;simp![cG,ix,NN,nk,i1,i2,neB,bb,bH,ty,ii,x1,s2,pu]
   |some K=>
    have m2:decide (e.2∈kys fd)=true:=C8 (gW l2);rw[m2]at i2;refine⟨some (I e.1),some (I e.2),some (.d d),M,?_,hl,same⟩;have:(true != true)=false:=rfl;simp![cG,ix,NN,nk,i1,i2,neB,this]
theorem Oth.trans{M1 M2:Sto}(h:Oth c M M1)(g:Oth c M1 M2):Oth c M M2:=⟨g.len.trans h.len,fun i hi=>(g.at_ i hi).trans (h.at_ i hi)⟩
theorem yC{n:Nat}{x:PyData}{us:List Ed}{a:Int}{c:Nat}{turn:Option CD}(hT:IsT x us)(ok:Oks n us)(h0:Inn n 0)(n40:n<=40):∀(es:List Ed)(k:Nat)(fd:Wd')(M:Sto)(g4 g5 g6 g7:Option CD),us.drop k=es->Wz us 0 a fd->Li M c (kys fd)->
 ∃g4' g5' g6' g7' M',iZ (hName 4) cG (dM (k:Nat) es.length) (GA (.d x) a c turn g4 g5 g6 g7) M=some (.nx (GA (.d x) a c turn g4' g5' g6' g7'),M')/\Li M' c (kys (jA a fd k es))/\Oth c M M'
 |[]=>fun k fd M g4 g5 g6 g7 _ _ hl=>⟨g4,g5,g6,g7,M,rfl,hl,rfl,fun _ _=>rfl⟩
 |e::es=>fun k fd M g4 g5 g6 g7 hd h hl=>by
  obtain⟨he,hd'⟩:=oJ hd;have fl:=h.wy.few ok h0;obtain⟨a5,a6,a7,M1,t,l1,o1⟩:=NK (a:=a) (turn:=turn) (g5:=g5) (g6:=g6) (g7:=g7) hT he hl (by omega);obtain⟨b4,b5,b6,b7,M2,lp,l2,o2⟩:=yC (c:=c) (turn:=turn) hT ok h0 n40 es (k+1) (jY a fd (k:Nat) e) M1 (some (I (k:Nat))) a5 a6 a7 hd' (h.step he) l1;refine⟨b4,b5,b6,b7,M2,?_,l2,o1.trans o2⟩;rw[C9,fS,dA (show hName 4 (I (k:Nat)) (GA (.d x) a c turn g4 g5 g6 g7) M=some (GA (.d x) a c turn (some (I (k:Nat))) g5 g6 g7,M)from rfl) t];exact lp
theorem QM{us:List Ed}(hT:IsT x us)(ln:us.length<=39):dW (aA (aK bW (aA (aD 0) aF)) aF) (some (.d x)::γ) M=some (dM 0 us.length,M):=by
 obtain⟨ds,h1,h2⟩:=hT.len;have:=aBR (γ:=γ) (M:=M) (cT h1) (jE (by omega) (by omega));rw[F0,h2]at this;exact this
theorem uY{n:Nat}{x:PyData}{us:List Ed}{a:Int}{c:Nat}(hT:IsT x us)(ok:Oks n us)(h0:Inn n 0)(n40:n<=40)(ln:us.length<=39):∀(m:Nat)(lo:Int)(fd:Wd')(M:Sto)(g3 g4 g5 g6 g7:Option CD),Wz us 0 a fd->Li M c (kys fd)->
 ∃g3' g4' g5' g6' g7' M',iZ (hName 3) fZ (dM lo m) (GA (.d x) a c g3 g4 g5 g6 g7) M=some (.nx (GA (.d x) a c g3' g4' g5' g6' g7'),M')/\Li M' c (kys (cY us a m fd))/\Oth c M M'
 |0=>fun lo fd M g3 g4 g5 g6 g7 _ hl=>⟨g3,g4,g5,g6,g7,M,rfl,hl,rfl,fun _ _=>rfl⟩
 |m+1=>fun lo fd M g3 g4 g5 g6 g7 h hl=>by
  obtain⟨a4,a5,a6,a7,M1,l,l1,o1⟩:=yC (c:=c) (turn:=some (I lo)) hT ok h0 n40 us 0 fd M g4 g5 g6 g7 rfl h hl;have t:fZ (GA (.d x) a c (some (I lo)) g4 g5 g6 g7) M=some (.nx (GA (.d x) a c (some (I lo)) a4 a5 a6 a7),M1):=iE (QM hT ln) l;obtain⟨b3,b4,b5,b6,b7,M2,lp,l2,o2⟩:=uY (c:=c) hT ok h0 n40 ln m (lo+1) (jA a fd 0 us) M1 (some (I lo)) a4 a5 a6 a7 (h.pass rfl) l1;refine⟨b3,b4,b5,b6,b7,M2,?_,l2,o1.trans o2⟩;rw[fS,dA (show hName 3 (I lo) (GA (.d x) a c g3 g4 g5 g6 g7) M=some (GA (.d x) a c (some (I lo)) g4 g5 g6 g7,M)from rfl) t];exact lp
noncomputable def pW(xs:List Int)(p:Int):Bool:=!decide (p∈xs)
theorem XJ{c:Nat}{xs:List Int}{M:Sto}(hc:Li M c xs):∀(q:Nat)(lo:Int)(g:Option CD),lcF (hName 1) (gB (fOp (inC true) (aD 1) (aD 0))) (aD 1) (dM lo q) [some (.c c),g] M=some (((fl (pW xs) lo q).map PyData.int).map .d,M)
 |0=>fun lo g=>rfl
 |q+1=>fun lo g=>by
  have ih:=XJ hc q (lo+1) (some (I lo))
  have it:gB (fOp (inC true) (aD 1) (aD 0)) [some (.c c),some (I lo)] M=some (pW xs lo,M):=by
   have i1:=BU hc lo true;have i1:inC true (I lo) (.c c) M=some (B (pW xs lo),M):=i1;simp![i1]
  rw[fS];unfold lcF;rw[show hName 1 (I lo) [some (.c c),g] M=some ([some (.c c),some (I lo)],M)from rfl,A2];dsimp only;rw[it,A2];dsimp only;unfold fl;cases e:pW xs lo with
  |true=>
   rw[A7 rfl,A7 rfl,show aD 1 [some (.c c),some (I lo)] M=some (I lo,M)from rfl,A2];dsimp only;rw[ih];rfl
  |false=>
   rw[B0 (by decide),B0 (by decide)];exact ih
theorem YT{us:List Ed}(hT:IsT x us)(ok:Oks n us)(h0:Inn n 0)(n40:n<=40)(ln:us.length+1=n):∃L,eT [.d x,I a] M=some (.d (wD (fl (pW (kys (cY us a us.length [(0,[])]))) 0 n)),M++L):=by
 have s1:(1:Nat)<=sizeLine:=by decide
 have hl:Li (M++[cI [0]]) M.length (kys [(0,[])]):=by
  unfold Li;rw[B9 (B1 _),F5];rfl
 obtain⟨b3,b4,b5,b6,b7,M2,lp,l2,o2⟩:=uY (a:=a) hT ok h0 n40 (by omega) us.length 0 [(0,[])] (M++[cI [0]]) none none none none none Wz.start hl;have sf:jL (dW (aA (aK bW (aA (aD 0) aF)) aF)) (hName 3) fZ (GA (.d x) a M.length none none none none none) (M++[cI [0]])=_:=iE (QM hT (by omega)) lp
 obtain⟨L,hL⟩:∃L,M2=M++L:=by
  refine⟨M2.drop M.length,?_⟩
  have:M2.take M.length=M:=by
   refine List.ext_getElem? fun i=>?_;rw[List.getElem?_take];split
   .rename_i hi;rw[o2.at_ i (by omega),F4 hi]
   .rename_i hi;rw[Z0 (by omega)]
  conv=>rhs;rw[<- this]
  rw[show(M2.take M.length).length=M.length by rw[this]];exact(List.take_append_drop _ _).symm
 subst hL;refine⟨L,pA rfl ?_⟩;obtain⟨ds,d1,d2⟩:=hT.len
 have rg:∀γ,dW (aA (fOp bM (aK bW (aA (aD 0) aF)) (fC (.int 1))) aF) (some (.d x)::γ) (M++L)=some (dM 0 n,M++L):=fun γ=>by
  have:=RQ (γ:=γ) (M:=M++L) (cT d1) (jE (by omega) (by omega));rw[show((ds.length:Int)+1).toNat=n by omega]at this;exact this
 have c0:iW (GA (.d x) a M.length b3 b4 b5 b6 b7) (M++L)=some (.d (.list ((fl (pW (kys (cY us a us.length [(0,[])]))) 0 n).map .int)),M++L):=by
  unfold iW;refine mX (rg _) (sz (by rw[qI];omega)) (XJ l2 n 0 none) (sz (by rw[A3];have:=GO (W:=pW (kys (cY us a us.length [(0,[])]))) n 0;omega))
 have tv:eZ [.d (.list ((fl (pW (kys (cY us a us.length [(0,[])]))) 0 n).map .int))] (M++L)=some (.d (wD (fl (pW (kys (cY us a us.length [(0,[])]))) 0 n)),M++L):=rfl;unfold lI;show aR _ _ [some (.d x),some (I a),none,none,none,none,none,none] M=_;rw[bE (show bG (jB (aA (fC (.int 0)) aF)) (hName 2) [some (.d x),some (I a),none,none,none,none,none,none] M=some (.nx (GA (.d x) a M.length none none none none none),M++[cI [0]])from rfl),bE sf];simp only[dD,aK,aA,aF,c0,tv,Option.bind_some]
theorem EO{us:List Ed}{bs:List Int}{ss:List (Int×Int×Int)}(ok:Oks n us)(h0:Inn n 0)(n40:n<=40)(R:fG n us 0 ss)(nd:bs.Nodup)(hb:∀p,p∈bs↔Inn n p/\Beh us 0 a p):fX bs=fl (pW (kys (cY us a us.length [(0,[])]))) 0 n:=by
 have fd2:=SM (W:=pW (kys (cY us a us.length [(0,[])]))) n 0;refine iS (fY bs) (fd2.imp fun h=>Int.le_of_lt h) ((iT bs).trans ((List.perm_ext_iff_of_nodup nd (List.nodup_iff_pairwise_ne.mpr (fd2.imp fun h=>Int.ne_of_lt h))).mpr fun p=>?_));rw[hb,fl_mem]
 have key:∀hp:Inn n p,Beh us 0 a p↔pW (kys (cY us a us.length [(0,[])])) p=true:=fun hp=>by
  unfold pW;rw[Bool.not_eq_true',decide_eq_false_iff_not,VF ok h0 R n40 hp];exact⟨fun z q=>q z,fun z=>Classical.byContradiction z⟩
 constructor
 .rintro⟨h1,h2⟩;exact⟨⟨h1.1,by omega⟩,(key h1).mp h2⟩
 .rintro⟨h1,h2⟩;have hp:Inn n p:=⟨h1.1,by omega⟩;exact⟨hp,(key hp).mpr h2⟩
structure Am(a b:Int):Prop where
 am:CB a b=true
 aw:a.natAbs<fQ
 bw:b.natAbs<fQ
theorem qS(h:z.natAbs<2 ^ 200):z.natAbs<fQ:=C0 h (Nat.pow_le_pow_right (by decide) (by decide))
noncomputable def sL:List PyData:=[(.tuple [(.int 1),(.int 1)]),(.tuple [(.int 1),(.int 1)]),(.tuple [(.int 2),(.int 1)]),(.tuple [(.int 1),(.int 2)]),(.tuple [(.int 3),(.int 4)]),(.tuple [(.int 0),(.int 1)]),(.tuple [(.int 10000000000000000000000000000000000000000),(.int 3)]),(.tuple [(.int 5),(.int 7)]),(.tuple [(.int 1),(.int 1)]),(.tuple [(.int 2),(.int 1)]),(.tuple [(.int 13),(.int 55440)]),(.tuple [(.int 4),(.int 3)])]
theorem OV:∀d∈sL,∃a b,d=.tuple [.int a,.int b]/\Am a b:=by
 intro d hd;unfold sL at hd;simp only[List.mem_cons,List.not_mem_nil,or_false]at hd;rcases hd with rfl|rfl|rfl|rfl|rfl|rfl|rfl|rfl|rfl|rfl|rfl|rfl<;>exact⟨_,_,rfl,by decide +kernel,qS (by decide),qS (by decide)⟩
theorem QR(k:Int)(M:Sto):∃a b,fH [I k] M=some (.d (.tuple [.int a,.int b]),M)/\Am a b:=by
 obtain⟨d,h1,h2⟩:=JQ (ds:=sL) (k:=k) (m:=12) (by decide) rfl;obtain⟨a,b,rfl,am⟩:=OV d h2;refine⟨a,b,?_,am⟩;have k0:∀γ,iD γ M=some (.d (.list sL),M):=fun γ=>rT γ M;have mk:jX k 12=true:=fN (by decide)
 have ix:ixF (.d (.list sL)) (I (k % 12)) M=some (.d (.tuple [.int a,.int b]),M):=by
  show(atI sL (k % 12)).bind _=_;rw[h1];rfl
 simp![fH,jZ,k0,mk,ix]
theorem Li.ixE(h:Li M c xs)(hq:q<xs.length):ixF (.c c) (I (q:Nat)) M=some (I (xs.getD q 0),M):=by
 have e:atI (xs.map fun i=>I i) (q:Int)=some (I (xs.getD q 0)):=gR (by rw[C3,A9 hq,A8,A9 hq];rfl);unfold Li at h;simp only[ixF,h,e,Option.bind_some]
theorem Li.putE(h:Li M c xs)(hq:q<xs.length):pQ (.c c) (I (q:Nat)) (I z) M=some (M.set c (cI (xs.set q z))):=by
 have hn:ixN (xs.map fun i=>I i).length (q:Int)=some q:=by
  unfold ixN;rw[A7 (A0b q),A7 (by rw[A3];omega),F0]
 unfold Li at h;simp only[pQ,h,hn,Option.bind_some,cI,List.map_set]
noncomputable abbrev GT(c:Nat)(n:CD)(r:Nat)(k at_ found i j:Option CD):Ga:=[some (.c c),some n,some (.c r),k,at_,found,i,j]
theorem NJ{r:Nat}{va:Int}{g4 g5 g6 g7:Option CD}{M1 M2 M3:Sto}(ty:tyB "list" M (.c c)=true)(po:iR (.c c) [] M=some (I z,M1))(mk:jX z J=true)(ea:z % J=A)(x1:ixF (.c r) (I A) M1=some (I va,M1))(x2:ixF (.c r) (I K) M1=some (I vk,M1))(p1:pQ (.c r) (I K) (I va) M1=some M2)(p2:pQ (.c r) (I A) (I vk) M2=some M3):
 fJ (GT c (I J) r (some (I K)) g4 g5 g6 g7) M=some (.nx (GT c (I J) r (some (I K)) (some (I A)) g5 g6 g7),M3):=by
 have s2:(2:Nat)<=sizeLine:=by decide
 simp![fJ,bH,ty,po,mk,ea,x1,x2,s2,p1,p2]
theorem OA{r k:Nat}{g4 g5 g6 g7:Option CD}(hd:Dk M c (m+1))(hr:Li M r xs)(ne:r≠c)(hp:xs.Perm (zs n))(h0:0<n)(hk:k<n):
 ∃xs' g4' M',fJ (GT c (I n) r (some (I (k:Nat))) g4 g5 g6 g7) M=some (.nx (GT c (I n) r (some (I (k:Nat))) g4' g5 g6 g7),M')/\Dk M' c m/\Li M' r xs'/\xs'.Perm (zs n)/\M'.length=M.length/\∀i,i≠r->i≠c->M'[i]?=M[i]?:=by
 obtain⟨z,M1,po,d1,o1⟩:=hd.pop;have hr1:=hr.oth o1 ne;have xl:xs.length=n:=by rw[hp.length_eq,lT]
 have z0:=S3 z (show(n:Int)≠0 by omega);have z1:=O1 z (show(0:Int)<n by omega);obtain⟨q,hq⟩:∃q:Nat,z % (n:Int)=(q:Nat):=⟨(z % (n:Int)).toNat,by omega⟩;have qn:q<n:=by omega
 have x1:=hr1.ixE (q:=q) (by omega);have x2:=hr1.ixE (q:=k) (by omega);have p1:=hr1.putE (q:=k) (z:=xs.getD q 0) (by omega);have hr2:=(hr1.set (ys:=xs.set k (xs.getD q 0)));have p2:=hr2.1.putE (q:=q) (z:=xs.getD k 0) (by rw[O3];omega);have hr3:=(hr2.1.set (ys:=(xs.set k (xs.getD q 0)).set q (xs.getD k 0)));refine⟨(xs.set k (xs.getD q 0)).set q (xs.getD k 0),some (I (q:Nat)),_,NJ hd.ty po (fN (by omega)) hq x1 x2 p1 p2,(d1.oth hr2.2 (J9 ne)).oth hr3.2 (J9 ne),hr3.1,?_,by rw[hr3.2.len,hr2.2.len,o1.len],fun i h1 h2=>by rw[hr3.2.at_ i h1,hr2.2.at_ i h1,o1.at_ i h2]⟩;have g1:xs.getD q 0=xs[q]:=by rw[A8,A9 (by omega)];rfl
 have g2:xs.getD k 0=xs[k]:=by rw[A8,A9 (by omega)];rfl
 rw[g1,g2];exact(List.set_set_perm (by omega) (by omega)).trans hp
theorem yZ{c r n:Nat}{g5 g6 g7:Option CD}(h0:0<n)(ne:r≠c):∀(q k m:Nat)(xs:List Int)(M:Sto)(g3 g4:Option CD),Dk M c (m+q)->Li M r xs->xs.Perm (zs n)->k+q<=n->
 ∃xs' g3' g4' M',iZ (hName 3) fJ (dM (k:Nat) q) (GT c (I n) r g3 g4 g5 g6 g7) M=some (.nx (GT c (I n) r g3' g4' g5 g6 g7),M')/\Dk M' c m/\Li M' r xs'/\xs'.Perm (zs n)/\M'.length=M.length
 |0=>fun k m xs M g3 g4 hd hr hp _=>⟨xs,g3,g4,M,rfl,hd,hr,hp,rfl⟩
 |q+1=>fun k m xs M g3 g4 hd hr hp hk=>by
  obtain⟨xs1,a4,M1,t,d1,r1,p1,l1,_⟩:=OA (m:=m+q) (g4:=g4) (g5:=g5) (g6:=g6) (g7:=g7) (k:=k) hd hr ne hp h0 (by omega);obtain⟨xs2,b3,b4,M2,lp,d2,r2,p2,l2⟩:=yZ (g5:=g5) (g6:=g6) (g7:=g7) h0 ne q (k+1) m xs1 M1 (some (I (k:Nat))) a4 d1 r1 p1 (by omega);refine⟨xs2,b3,b4,M2,?_,d2,r2,p2,by rw[l2,l1]⟩;rw[fS,dA (show hName 3 (I (k:Nat)) (GT c (I n) r g3 g4 g5 g6 g7) M=some (GT c (I n) r (some (I (k:Nat))) g4 g5 g6 g7,M)from rfl) t];exact lp
theorem RN(h:a≠b):∃i j,fX [a,b]=[i,j]/\i<j/\((i=a/\j=b)\/(i=b/\j=a)):=by
 by_cases l:a<b
 .exact⟨a,b,iS (fY _) (by simp;omega) (iT _),l,.inl ⟨rfl,rfl⟩⟩
 .exact⟨b,a,iS (fY _) (by simp;omega) ((iT _).trans (List.Perm.swap b a [])),by omega,.inr ⟨rfl,rfl⟩⟩
structure Rws(xs:List Int)(us:List Tie):Prop where
 lt:∀t∈us,t.i<t.j
 am:∀t∈us,Am t.a t.b
 nm:∀(q:Nat)(t:Tie),us[q]?=some t->∃m,m<q+1/\((t.i=xs.getD (q+1) 0/\t.j=xs.getD m 0)\/(t.i=xs.getD m 0/\t.j=xs.getD (q+1) 0))
theorem Rws.nil:Rws xs []:=⟨(by intro t ht;cases ht),(by intro t ht;cases ht),(by intro q t h;cases h)⟩
theorem Rws.snoc{t:Tie}(h:Rws xs us)(l:t.i<t.j)(a:Am t.a t.b)(hm:∃m,m<us.length+1/\((t.i=xs.getD (us.length+1) 0/\t.j=xs.getD m 0)\/(t.i=xs.getD m 0/\t.j=xs.getD (us.length+1) 0))):Rws xs (us++[t]):=by
 refine⟨fun s hs=>?_,fun s hs=>?_,fun q s hs=>?_⟩
 .rcases List.mem_append.mp hs with hs|hs
  .exact h.lt s hs
  .rw[D4]at hs;rw[hs];exact l
 .rcases List.mem_append.mp hs with hs|hs
  .exact h.am s hs
  .rw[D4]at hs;rw[hs];exact a
 .by_cases hq:q<us.length
  .rw[F4 hq]at hs;exact h.nm q s hs
  .rw[B9 (by omega)]at hs
   have:q-us.length=0:=by
    have:=(List.getElem?_eq_some_iff.mp hs).1;rw[C7]at this;omega
   rw[this]at hs;cases hs;have:q=us.length:=by omega
   rw[this];exact hm
noncomputable abbrev rC(us:List Tie):Cell:=.lst ((us.map rD).map .d)
theorem UH{r f:Nat}{z2 vq:Int}{am:PyData}{n:CD}{g4 g6 g7:Option CD}{M1 M2 M3:Sto}(ty:tyB "list" M (.c c)=true)(x1:ixF (.c r) (I K) M=some (I vk,M))(po:iR (.c c) [] M=some (I z,M1))(mk:jX z K=true)(x2:ixF (.c r) (I (z % K)) M1=some (I vq,M1))(so:mR [.d (.list [.int vk,.int vq])] M1=some (.d (.list [.int i,.int j]),M1))
 (ty1:tyB "list" M1 (.c f)=true) (ty2:tyB "list" M1 (.c c)=true) (po2:iR (.c c) [] M1=some (I z2,M2)) (ea:fH [I z2] M2=some (.d am,M2)) (pu:bB (.c f) [.d (.tuple [.int i,.int j,am])] M2=some (.d .none,M3)):
 fI (GT c n r (some (I K)) g4 (some (.c f)) g6 g7) M=some (.nx (GT c n r (some (I K)) g4 (some (.c f)) (some (I i)) (some (I j))),M3):=by
 have s2:(2:Nat)<=sizeLine:=by decide
 have s3:(3:Nat)<=sizeLine:=by decide
 have hL:zK 2 (aY (hName 6) (aY (hName 7) gK)) (.d (.list [.int i,.int j])) (GT c n r (some (I K)) g4 (some (.c f)) g6 g7) M1=some (GT c n r (some (I K)) g4 (some (.c f)) (some (I i)) (some (I j)),M1):=rfl
 have fs:aK mR (aA (dE (aA (fOp ixF (aD 2) (aD 3)) (aA (fOp ixF (aD 2) (fOp iJ (bH "list" iR (aD 0) aF) (aD 3))) aF))) aF) (GT c n r (some (I K)) g4 (some (.c f)) g6 g7) M=some (.d (.list [.int i,.int j]),M1):=by
  simp![bH,x1,ty,po,mk,x2,s2,so]
 have a1:bG (aK mR (aA (dE (aA (fOp ixF (aD 2) (aD 3)) (aA (fOp ixF (aD 2) (fOp iJ (bH "list" iR (aD 0) aF) (aD 3))) aF))) aF)) (zK 2 (aY (hName 6) (aY (hName 7) gK))) (GT c n r (some (I K)) g4 (some (.c f)) g6 g7) M=some (.nx (GT c n r (some (I K)) g4 (some (.c f)) (some (I i)) (some (I j))),M1):=by
  unfold bG;rw[fs,A2];dsimp only;rw[hL];rfl
 unfold fI;rw[bE a1];simp![bH,ty1,ty2,po2,ea,s3,pu]
theorem WY{r f:Nat}{x1:CD}{g4 g6 g7:Option CD}(hd:Dk M c (m+2))(hr:Li M r xs)(hf:M[f]?=some (rC us))(ne:r≠c)(nf:f≠c)(nr:f≠r)(nd:xs.Nodup)(xl:xs.length=n)(hk:us.length+1<n)(hl:us.length<100)(hR:Rws xs us):
 ∃t g6' g7' M',fI (GT c x1 r (some (I ((us.length+1:Nat):Int))) g4 (some (.c f)) g6 g7) M=some (.nx (GT c x1 r (some (I ((us.length+1:Nat):Int))) g4 (some (.c f)) g6' g7'),M')/\Dk M' c m/\Li M' r xs/\M'[f]?=some (rC (us++[t]))/\Rws xs (us++[t]):=by
 obtain⟨z,M1,po,d1,o1⟩:=hd.pop;obtain⟨z2,M2,po2,d2,o2⟩:=d1.pop;have hr1:=hr.oth o1 ne;have hr2:=hr1.oth o2 ne;have hf1:M1[f]?=some (rC us):=by rw[o1.at_ f nf];exact hf
 have hf2:M2[f]?=some (rC us):=by rw[o2.at_ f nf];exact hf1
 have z0:=S3 z (show((us.length+1:Nat):Int)≠0 by omega);have z1:=O1 z (show(0:Int)<((us.length+1:Nat):Int)by omega);obtain⟨q,hq⟩:∃q:Nat,z % ((us.length+1:Nat):Int)=(q:Nat):=⟨(z % ((us.length+1:Nat):Int)).toNat,by omega⟩;have qn:q<us.length+1:=by omega
 have x1':=hr.ixE (q:=us.length+1) (by omega);have x2':=hr1.ixE (q:=q) (by omega)
 have nv:xs.getD (us.length+1) 0≠xs.getD q 0:=fun e=>by
  rw[A8,A9 (by omega),A8,A9 (by omega)]at e;have:=(O7 nd).mp (show xs[us.length+1]=xs[q]from e);omega
 obtain⟨i,j,so,lt,ij⟩:=RN nv;obtain⟨a,b,ea,am⟩:=QR z2 M2;have rl:=(List.getElem?_eq_some_iff.mp hf2).1;have l:((us.map rD).map CD.d).length<sizeLine:=by rw[A3,A3,E4];omega
 have pu:bB (.c f) [.d (.tuple [.int i,.int j,.tuple [.int a,.int b]])] M2=some (.d .none,M2.set f (rC (us++[⟨i,j,a,b⟩]))):=by
  simp only[bB,hf2,if_pos l,rC,List.map_append,List.map_singleton];rfl
 have oth:Oth f M2 (M2.set f (rC (us++[⟨i,j,a,b⟩]))):=⟨by rw[O3],fun i hi=>by rw[J7 (J9 hi)]⟩
 have sf:mR [.d (.list [.int (xs.getD (us.length+1) 0),.int (xs.getD q 0)])] M1=some (.d (.list [.int i,.int j]),M1):=by
  show(some [xs.getD (us.length+1) 0,xs.getD q 0]).bind (fun ns=>if ns.length<64 then some (CD.d (.list ((fX ns).map .int)),M1)else none)=_;rw[A2,A7 (by show 2<64;decide),so];rfl
 have tyf:tyB "list" M1 (.c f)=true:=by simp only[tyB,hf1];decide
 refine⟨⟨i,j,a,b⟩,some (I i),some (I j),_,UH hd.ty x1' po (fN (by omega)) (by rw[hq];exact x2') sf tyf d1.ty po2 ea pu,d2.oth oth (J9 nf),hr2.oth oth (J9 nr),by rw[J1 rl],hR.snoc lt am ⟨q,qn,?_⟩⟩;rcases ij with⟨e1,e2⟩|⟨e1,e2⟩
 .exact .inl ⟨e1,e2⟩
 .exact .inr ⟨e1,e2⟩
theorem CQ{c r f n:Nat}{xs:List Int}{x1:CD}{g4:Option CD}(ne:r≠c)(nf:f≠c)(nr:f≠r)(nd:xs.Nodup)(xl:xs.length=n)(n40:n<=40):∀(q m:Nat)(us:List Tie)(M:Sto)(g3 g6 g7:Option CD),Dk M c (m+2*q)->Li M r xs->M[f]?=some (rC us)->us.length+1+q=n->Rws xs us->
 ∃us' g3' g6' g7' M',iZ (hName 3) fI (dM ((us.length+1:Nat):Int) q) (GT c x1 r g3 g4 (some (.c f)) g6 g7) M=some (.nx (GT c x1 r g3' g4 (some (.c f)) g6' g7'),M')/\Dk M' c m/\M'[f]?=some (rC us')/\us'.length+1=n/\Rws xs us'
 |0=>fun m us M g3 g6 g7 hd hr hf hl hR=>⟨us,g3,g6,g7,M,rfl,hd,hf,by omega,hR⟩
 |q+1=>fun m us M g3 g6 g7 hd hr hf hl hR=>by
  obtain⟨t,a6,a7,M1,tn,d1,r1,f1,R1⟩:=WY (m:=m+2*q) (x1:=x1) (g4:=g4) (g6:=g6) (g7:=g7) hd hr hf ne nf nr nd xl (by omega) (by omega) hR;have ln:(us++[t]).length=us.length+1:=by rw[B4,C7]
  obtain⟨us',b3,b6,b7,M2,lp,e1,e2,e3,e4⟩:=CQ (x1:=x1) (g4:=g4) ne nf nr nd xl n40 q m (us++[t]) M1 (some (I ((us.length+1:Nat):Int))) a6 a7 d1 r1 f1 (by omega) R1;refine⟨us',b3,b6,b7,M2,?_,e1,e2,e3,e4⟩;rw[fS,dA (show hName 3 (I ((us.length+1:Nat):Int)) (GT c x1 r g3 g4 (some (.c f)) g6 g7) M=some (GT c x1 r (some (I ((us.length+1:Nat):Int))) g4 (some (.c f)) g6 g7,M)from rfl) tn,<- lp,ln];rfl
theorem JM(nd:xs.Nodup){p:Nat}(hp:p<xs.length)(hq:q<xs.length)(ne:p≠q):xs.getD p 0≠xs.getD q 0:=fun e=>by
 rw[A8,A9 hp,A8,A9 hq]at e;exact ne ((O7 nd).mp (show xs[p]=xs[q]from e))
theorem getD_mem{p:Nat}(hp:p<xs.length):xs.getD p 0∈xs:=by
 rw[A8,A9 hp];exact J3 hp
theorem aAy(h:Rws xs us)(nd:xs.Nodup)(xl:xs.length=n)(ul:us.length+1=n):(us.map Tie.key).Nodup:=by
 rw[Y1,List.pairwise_map,List.pairwise_iff_getElem];intro p q hp hq lt e;obtain⟨m,hm,h1⟩:=h.nm p us[p] (A9 hp);obtain⟨m',hm',h2⟩:=h.nm q us[q] (A9 hq);have ei:us[p].i=us[q].i:=E9 Prod.fst e;have ej:us[p].j=us[q].j:=E9 Prod.snd e;have n1:=JM nd (p:=q+1) (q:=p+1) (by omega) (by omega) (by omega);have n2:=JM nd (p:=q+1) (q:=m) (by omega) (by omega) (by omega);omega
structure Dr(n:Nat)(vs:List Tie):Prop where
 ln:vs.length+1=n
 al:∀t∈vs,(0<=t.i/\t.i<t.j)/\t.j<n/\Am t.a t.b
 so:vs.Pairwise Tie.lt
 con:∀p,Inn n p->at0 (fF n (vs.map Tie.key)) p=at0 (fF n (vs.map Tie.key)) 0
theorem Dr.of{vs:List Tie}(h:Rws xs us)(hp:xs.Perm (zs n))(h0:0<n)(ul:us.length+1=n)(hv:vs.Perm us)(so:vs.Pairwise Tie.lt)(okk:(∀t∈vs,(0<=t.i/\t.i<t.j)/\t.j<n)->Oks n (vs.map Tie.key)):Dr n vs:=by
 have xl:xs.length=n:=by rw[hp.length_eq,lT]
 have inn:∀q,q<n->Inn n (xs.getD q 0):=fun q hq=>zs_mem.mp (hp.mem_iff.mp (getD_mem (by omega)))
 have bd:∀t∈vs,(0<=t.i/\t.i<t.j)/\t.j<n:=fun t ht=>by
  have ht:=hv.mem_iff.mp ht;obtain⟨q,hq⟩:=I0 ht;have hql:=(List.getElem?_eq_some_iff.mp hq).1;obtain⟨m,hm,e⟩:=h.nm q t hq;have i1:=inn (q+1) (by omega);have i2:=inn m (by omega);have lt:=h.lt t ht;unfold Inn at i1 i2;omega
 have ok:=okk bd;refine⟨by rw[hv.length_eq];exact ul,fun t ht=>⟨(bd t ht).1,(bd t ht).2,h.am t (hv.mem_iff.mp ht)⟩,so,?_⟩
 have go:∀q:Nat,q<n->at0 (fF n (vs.map Tie.key)) (xs.getD q 0)=at0 (fF n (vs.map Tie.key)) (xs.getD 0 0):=by
  intro q
  induction q using Nat.strongRecOn with
  |ind q ih=>
   intro hq;by_cases q0:q=0
   .rw[q0]
   .have hql:q-1<us.length:=by omega
    obtain⟨m,hm,e⟩:=h.nm (q-1) us[q-1] (A9 hql);rw[show q-1+1=q by omega]at hm e;have ed:=oM ok (t:=us[q-1].key) (List.mem_map.mpr ⟨us[q-1],hv.mem_iff.mpr (J3 hql),rfl⟩);have ed:at0 (fF n (vs.map Tie.key)) us[q-1].i=at0 (fF n (vs.map Tie.key)) us[q-1].j:=ed;rw[<- ih m hm (by omega)];rcases e with⟨e1,e2⟩|⟨e1,e2⟩
    .rw[e1,e2]at ed;exact ed
    .rw[e1,e2]at ed;exact ed.symm
 have any:∀p,Inn n p->at0 (fF n (vs.map Tie.key)) p=at0 (fF n (vs.map Tie.key)) (xs.getD 0 0):=fun p ip=>by
  obtain⟨q,hq⟩:=I0 (hp.mem_iff.mpr (zs_mem.mpr ip));have hql:=(List.getElem?_eq_some_iff.mp hq).1;have:=go q (by omega);rw[A8,hq]at this;exact this
 exact fun p ip=>(any p ip).trans (any 0 ⟨by omega,by omega⟩).symm
noncomputable abbrev rL(t:Tie):PyData:=.list [.int t.i,.int t.j,.list [.int t.a,.int t.b]]
theorem KG{t:Tie}{c:PyData}(hd:aP d=some [.int t.i,.int t.j,c])(hc:VR n (.int t.i) (.int t.j) c=if (decide (0<=t.i)&&decide (t.i<t.j)&&decide (t.j<(n:Int))&&CB t.a t.b)=true then some (t.i,t.j)else none)(hi:0<=t.i/\t.i<t.j)(hj:t.j<n)(ha:Am t.a t.b):bI n d=some t.key:=by
 rw[HD hd,hc];rw[C8 hi.1,C8 hi.2,C8 hj,ha.am];rfl
theorem lD{n:Nat}{f:Tie->PyData}(hf:∀t:Tie,0<=t.i/\t.i<t.j->t.j<n->Am t.a t.b->bI n (f t)=some t.key):∀{vs:List Tie},(∀t∈vs,(0<=t.i/\t.i<t.j)/\t.j<n/\Am t.a t.b)->(vs.map f).mapM (bI n)=some (vs.map Tie.key)
 |[]=>fun _=>rfl
 |t::vs=>fun h=>by
  obtain⟨a,b,c⟩:=h t (B5 ..);rw[B6,List.mapM_cons,hf t a b c,lD hf fun s hs=>h s (B3 _ hs)];rfl
theorem VG(t:Tie)(a:0<=t.i/\t.i<t.j)(b:t.j<n)(c:Am t.a t.b):bI n (rD t)=some t.key:=KG (c:=.tuple [.int t.a,.int t.b]) rfl rfl a b c
theorem aHn(t:Tie)(a:0<=t.i/\t.i<t.j)(b:t.j<n)(c:Am t.a t.b):bI n (rL t)=some t.key:=KG (c:=.list [.int t.a,.int t.b]) rfl rfl a b c
theorem VW:∀{vs:List Tie},vs.Pairwise Tie.lt->ris (vs.map Tie.key)=true
 |[]=>fun _=>rfl
 |[_]=>fun _=>rfl
 |a::b::r=>fun h=>by
  obtain⟨h1,h2⟩:=List.pairwise_cons.mp h;have ih:=VW h2;have ab:=h1 b (B5 ..)
  have e:uJ a.key b.key=true:=by
   unfold uJ Tie.key;unfold Tie.lt at ab;split
   .exact C8 (by dsimp only at *;omega)
   .exact C8 (by dsimp only at *;omega)
  show(uJ a.key b.key&&ris ((b::r).map Tie.key))=true;rw[e,ih];rfl
theorem Dr.is(h:Dr n vs)(n40:n<=40)(hi:aP x=some ds)(hm:ds.mapM (bI n)=some (vs.map Tie.key)):eE x=true/\Tr n x (vs.map Tie.key):=by
 have dl:ds.length+1=n:=by have:=nG hm;rw[A3]at this;have:=h.ln;omega
 have h0:0<n:=by omega
 have kl:(vs.map Tie.key).length+1=n:=by rw[A3];exact h.ln
 refine⟨?_,⟨ds,hi,dl,hm⟩,n40,fun p q hp hq=>(h.con p hp).trans (h.con q hq).symm⟩;unfold eE jS;rw[hi];dsimp only;rw[dl,C8 n40,hm,C8 rfl];dsimp only;rw[VW h.so,(sF h0 kl (mP hm)).mpr h.con];rfl
noncomputable abbrev asV(vs:List Tie):List (Int×Int):=vs.map fun t=>(t.a,t.b)
theorem Dr.bd(h:Dr n vs):Bd (asV vs):=fun a ha=>by
 obtain⟨t,ht,rfl⟩:=List.mem_map.mp ha;exact⟨(h.al t ht).2.2.aw,(h.al t ht).2.2.bw⟩
theorem CS{f:Tie->PyData}(hx:x=.list (vs.map f)\/x=.tuple (vs.map f))(hf:∀t,∃c,(∀M,ixF (.d (f t)) (I 2) M=some (.d c,M))/\aP c=some [.int t.a,.int t.b]):Tm x (asV vs):=by
 refine⟨⟨vs.map f,by rcases hx with rfl|rfl<;>rfl,by rw[A3,A3]⟩,fun k a h=>?_⟩;rw[C3]at h;obtain⟨t,ht,rfl⟩:=Option.map_eq_some_iff.mp h;obtain⟨c,h1,h2⟩:=hf t;refine⟨f t,c,fun M=>?_,h1,h2⟩;have:atI (vs.map f) (k:Int)=some (f t):=gR (by rw[C3,ht];rfl);rcases hx with rfl|rfl
 .show(atI (vs.map f) (k:Int)).bind _=_;rw[this];rfl
 .show(atI (vs.map f) (k:Int)).bind _=_;rw[this];rfl
theorem aCo(vs:List Tie):IsT (.list (vs.map rD)) (vs.map Tie.key):=by
 refine⟨⟨_,rfl,by rw[A3,A3]⟩,fun k e h=>?_⟩;rw[C3]at h;obtain⟨t,ht,rfl⟩:=Option.map_eq_some_iff.mp h;refine⟨.tuple [.int t.a,.int t.b],fun M=>?_⟩;have:atI (vs.map rD) (k:Int)=some (rD t):=gR (by rw[C3,ht];rfl);show(atI (vs.map rD) (k:Int)).bind _=_;rw[this];rfl
theorem aEk{x:CD}(sm:aZ J=true):nT (aA (fC (.int 1)) (aA (aD 1) aF)) (some x::some (I J)::γ) M=some (dM 1 (J-1).toNat,M):=by
 have s1:aZ 1=true:=by decide
 have h:aZ 1=true/\aZ J=true:=⟨s1,sm⟩;unfold nT;rw[show aA (fC (.int 1)) (aA (aD 1) aF) (some x::some (I J)::γ) M=some ([I 1,I J],M)from rfl,A2];dsimp only;rw[A7 h]
theorem aCL{x:CD}(sm:aZ J=true):dW (aA (aD 1) aF) (some x::some (I J)::γ) M=some (dM 0 J.toNat,M):=by
 unfold dW;rw[show aA (aD 1) aF (some x::some (I J)::γ) M=some ([I J],M)from rfl,A2];dsimp only;rw[A7 sm]
theorem aDc{x:CD}(sm:aZ J=true)(h:J.toNat<=sizeLine):vU true (aA (aD 1) aF) (some x::some (I J)::γ) M=some (.c M.length,M++[.lst (dM 0 J.toNat)]):=by
 have hh:aZ J=true/\J.toNat<=sizeLine:=⟨sm,h⟩;unfold vU;rw[show aA (aD 1) aF (some x::some (I J)::γ) M=some ([I J],M)from rfl,A2];dsimp only;rw[A7 hh,A7 rfl]
theorem YX(n:Nat):dM 0 n=(zs n).map fun i=>I i:=by
 unfold dM zs;rw[O4];refine S7 fun q _=>?_;show I (0+(q:Int))=I (q:Int);rw[Int.zero_add]
theorem aAh(hd:Dk M c (m+2*(n-1)+n))(h1:1<n)(h40:n<=40):∃(vs:List Tie)(M':Sto),jP [.c c,I n] M=some (.d (.list (vs.map rD)),M')/\Dk M' c m/\Dr n vs:=by
 have cl:c<M.length:=let⟨_,a,_⟩:=hd;a.lt;have hr:Li (M++[cI (zs n)]) M.length (zs n):=by unfold Li;rw[B9 (B1 _),F5];rfl
 obtain⟨xs,a3,a4,M1,l1,d1,r1,p1,n1⟩:=yZ (g5:=none) (g6:=none) (g7:=none) (by omega) (show M.length≠c by omega) n 0 (m+2*(n-1)) (zs n) (M++[cI (zs n)]) none none hd.app hr (List.Perm.refl _) (by omega);have xl:xs.length=n:=by rw[p1.length_eq,lT]
 have nd:xs.Nodup:=p1.nodup_iff.mpr (JR n);have hf:(M1++[rC []])[M1.length]?=some (rC []):=by rw[B9 (B1 _),F5];rfl
 have m1:M1.length=M.length+1:=by rw[n1,B4,C7]
 obtain⟨us,b3,b6,b7,M2,l2,d2,f2,ul,R⟩:=CQ (r:=M.length) (f:=M1.length) (x1:=I n) (g4:=a4) (by omega) (by omega) (by omega) nd xl h40 (n-1) m [] (M1++[rC []]) a3 none none d1.app r1.app hf (by show 0+1+(n-1)=n;omega) Rws.nil;obtain⟨vs,hp,hv,so⟩:=OP f2 (by omega);have sm:aZ (n:Int)=true:=jE (by omega) (by omega);have c1:=aDc (γ:=[none,none,none,none,none,none]) (x:=.c c) (M:=M) sm (by rw[F0,E4];omega);have c2:=aCL (γ:=[some (.c M.length),none,none,none,none,none]) (x:=.c c) (M:=M++[cI (zs n)]) sm;have c3:=aEk (γ:=[some (.c M.length),a3,a4,some (.c M1.length),none,none]) (x:=.c c) (M:=M1++[rC []]) sm;rw[F0]at c1 c2;rw[show((n:Int)-1).toNat=n-1 by omega]at c3;rw[YX]at c1;have s1:=iE c2 l1;have s2:=iE c3 l2;refine⟨vs,M2,pA rfl ?_,d2,Dr.of R p1 (by omega) ul hp (hv (aAy R nd xl ul)) fun bd=>?_⟩
 .generalize (n:Int)=J at c1 s1 s2 ⊢;have s0:(0:Nat)<=sizeLine:=F9 _;have e1:=pO (i:=2) c1
  have e2:bG (jB aF) (hName 5) (GT c (I J) M.length a3 a4 none none none) M1=some (.nx (GT c (I J) M.length a3 a4 (some (.c M1.length)) none none),M1++[rC []]):=by
   simp![s0];rfl
  unfold nI;show aR _ _ [some (.c c),some (I J),none,none,none,none,none,none] M=_;rw[bE e1];show aR _ _ (GT c (I J) M.length none none none none none) _=_;rw[bE s1,bE e2,bE s2];simp![so]
 .intro e he;obtain⟨t,ht,rfl⟩:=List.mem_map.mp he;have:=bd t ht;exact⟨⟨this.1.1,by show t.i<n;omega⟩,⟨by show 0<=t.j;omega,this.2⟩⟩
theorem TZ{e:Cell}:(M++[e])[M.length]?=some e:=by rw[B9 (B1 _),F5];rfl
noncomputable abbrev GRf(x:PyData)(a:CD)(k:Option CD):Ga:=[some (.d x),some a,none,k]
theorem aGQ(l1:List.lookup nm [(("NoTree":Str),true),("OnePlace",true)]=some true):HH [⟨[("NoTree",true),("OnePlace",true)],(some 2),eR⟩] (GRf x (.d .none) none) ⟨nm,[]⟩ M=some (.nx (GRf x (.c M.length) none),M++[.exc false nm []]):=by
 simp![HH,l1,eR]
theorem ZX{M1:Sto}(l1:List.lookup nm [(("NoTree":Str),true),("OnePlace",true)]=some true)(h:bD [.d x] M=some (.x ⟨nm,[]⟩,M1)):NT eS [⟨[("NoTree",true),("OnePlace",true)],(some 2),eR⟩] (GRf x (.d .none) none) M=some (.nx (GRf x (.c M1.length) none),M1++[.exc false nm []]):=by
 have b:eS (GRf x (.d .none) none) M=some (.xc (GRf x (.d .none) none) ⟨nm,[]⟩,M1):=by
  unfold eS;exact IR rfl h
 unfold NT;rw[b,A2];exact aGQ l1
theorem iif(b:Bool)(M:Sto):AB [.d (.bool b)] M=some (I (if b=true then 1 else 0),M):=by cases b<;>rfl
theorem DE{x:PyData}{M M1:Sto}{a b:Bool}{k:Int}{s:Str}(l1:List.lookup nm [(("NoTree":Str),true),("OnePlace",true)]=some true)(l2:List.lookup nm fE=some true)(l3:List.lookup nm kS=some a)(l4:List.lookup nm gU=some b)
 (mo:iV 2 (if b=true then 1 else 0)=true) (e:(if a=true then 1 else 0)+(2:Int)*(if b=true then 1 else 0)=k) (ix:∀M,ixF (.d (.list [(.str "other"),(.str "no tree"),(.str "one place"),(.str "both")])) (I k) M=some (.d (.str s),M)) (h:bD [.d x] M=some (.x ⟨nm,[]⟩,M1)):bL [.d x] M=some (.d (.str s),M1++[.exc false nm []]):=by
 have t:=ZX l1 h;have ea:=TZ (M:=M1) (e:=.exc false nm []);have k0:=fun γ M=>qC γ M;refine pA rfl ?_;unfold jC;show aR _ _ [some (.d x),none,none,none] M=_;rw[bE (show bG (fC .none) (hName 1) [some (.d x),none,none,none] M=some (.nx (GRf x (.d .none) none),M)from rfl),bE t];have ad:∀(i j:Int)(M:Sto),bM (I i) (.d (.int j)) M=some (I (i+j),M):=fun _ _ _=>rfl;simp![ea,l2,l3,l4,iif,mo,ad,e,k0,ix]
theorem PV(M:Sto)(h:eE x=false):∃L,bL [.d x] M=some (.d (.str "no tree"),M++L):=by
 obtain⟨L,e⟩:=aBs (M:=M) h;refine⟨L++[.exc false "NoTree" []],?_⟩;rw[<- C6];exact DE (k:=1) (a:=true) (b:=false) (by decide +kernel) (by decide +kernel) (by decide +kernel) (by decide +kernel) (by decide) (by decide) (fun _=>rfl) e
theorem RW(M:Sto)(h:eE x=true)(hi:aP x=some []):∃L,bL [.d x] M=some (.d (.str "one place"),M++L):=by
 obtain⟨L,e⟩:=ZA (M:=M) h hi;refine⟨L++[.exc false "OnePlace" []],?_⟩;rw[<- C6];exact DE (k:=2) (a:=false) (b:=true) (by decide +kernel) (by decide +kernel) (by decide +kernel) (by decide +kernel) (by decide) (by decide) (fun _=>rfl) e
noncomputable abbrev vP(a b:Int)(S:List Int):PyData:=.tuple [.tuple [.int a,.int b],wD S]
theorem PZ(a b:Int)(S:List Int):SeqAt.shaped (vP a b S)=true:=by
 unfold SeqAt.shaped
 have e1:PyData.canLay0 (vP a b S)=true:=by
  show(PyData.canLay0 (.tuple [.int a,.int b])&&(PyData.canLayAll0 (S.map .int)&&true))=true;rw[nU];rfl
 have e2:PyData.depth (vP a b S)=2:=by
  show max (PyData.depth (.tuple [.int a,.int b])) (max (PyData.depthAll (S.map .int)+1) 0)+1=2;rw[pU];rfl
 rw[e1,e2];rfl
theorem aGU(a b:Int)(S:List Int)(M:Sto):eqX true (.d (vP a b S)) (.d (vP a b S)) M=some (B false,M):=by
 have q1:PyData.eqv (vP a b S) (vP a b S)=true:=by
  show(PyData.eqvAll ([a,b].map .int) ([a,b].map .int)&&(PyData.eqvAll (S.map .int) (S.map .int)&&true))=true;rw[vV,vV];rfl
 show(if (SeqAt.shaped (vP a b S)&&SeqAt.shaped (vP a b S))=true then some (B (!PyData.eqv (vP a b S) (vP a b S)),M)else none)=_;rw[PZ,Bool.and_self,A7 rfl,q1];rfl
theorem JN{M:Sto}:∀(S:List Int)(g:Option CD),lcF (hName 0) gV (BN "bool" (aD 0)) ((S.map PyData.int).map .d) [g] M=some ((S.map fun _=>PyData.bool false).map .d,M)
 |[]=>fun g=>rfl
 |s::S=>fun g=>by
  have ih:=JN (M:=M) S (some (I s));rw[B6,B6];unfold lcF;rw[show hName 0 (.d (.int s)) [g] M=some ([some (I s)],M)from rfl,A2];dsimp only;rw[show gV [some (I s)] M=some (true,M)from rfl,A2];dsimp only;rw[A7 rfl,show BN "bool" (aD 0) [some (I s)] M=some (B false,M)from rfl,A2];dsimp only;rw[ih];rfl
theorem aEY:∀S:List Int,anyF [.d (.list (S.map fun _=>PyData.bool false))] M=some (B false,M):=by
 have:∀S:List Int,∃bs,boolsOf (S.map fun _=>PyData.bool false)=some bs/\bs.any id=false:=by
  intro S
  induction S with
  |nil=>exact⟨[],rfl,rfl⟩
  |cons s S ih=>
   obtain⟨bs,h1,h2⟩:=ih;refine⟨false::bs,?_,by simpa using h2⟩;show(boolsOf (S.map fun _=>PyData.bool false)).bind _=_;rw[h1];rfl
 intro S;obtain⟨bs,h1,h2⟩:=this S;show(boolsOf (S.map fun _=>PyData.bool false)).bind _=_;rw[h1,A2,h2]
noncomputable abbrev GL(s:CD)(c:Nat)(t:PyData)(h f g5 g6:Option CD):Ga:=[some s,some (.c c),some (.d t),h,f,g5,g6]
theorem NP{s:CD}{t:PyData}{M1 M2:Sto}(hS:S.length<=40)(h1:bD [.d x] M=some (.v (.d (vP a b S)),M1))(h2:lG [.d t] M1=some (.d (vP a b S),M2)):qF (GL s c t (some (.d x)) g4 g5 g6) M=some (.nx (GL s c t (some (.d x)) (some (.d (vP a b S))) g5 g6),M2):=by
 have e1:=fun M=>aGU a b S M;have i1:tP "tuple" (vP a b S)=true:=rfl
 have e2:AK (GL s c t (some (.d x)) (some (.d (vP a b S))) g5 g6) M2=some (.d (.list (S.map fun _=>PyData.bool false)),M2):=by
  unfold AK;refine mX (show cF (fOp ixF (aD 4) (fC (.int 1))) (GL s c t (some (.d x)) (some (.d (vP a b S))) g5 g6) M2=some ((S.map PyData.int).map .d,M2)from rfl) (sz (by rw[A3,A3];omega)) (JN S none) (sz (by rw[A3];omega))
 have e3:=fun M=>aEY (M:=M) S;simp![qF,nA,h1,h2,i1,e1,e2,e3]
theorem HX{s:CD}{c:Nat}{g4 g5 g6:Option CD}{M:Sto}(D:Dr n vs)(h1:1<n)(n40:n<=40)(hx:eE x=true/\Tr n x (vs.map Tie.key))(T:Tm x (asV vs)):
 ∃g4' L,qF (GL s c (.list (vs.map rD)) (some (.d x)) g4 g5 g6) M=some (.nx (GL s c (.list (vs.map rD)) (some (.d x)) g4' g5 g6),M++L):=by
 have ln:=D.ln;have al:(asV vs).length+1=n:=by rw[A3];exact ln
 obtain⟨bs,L1,e1,nd,hb⟩:=VY (M:=M) hx.1 hx.2 T D.bd h1 al;have TX:Tm (.list (vs.map rD)) (asV vs):=CS (f:=rD) (.inl rfl) fun t=>⟨.tuple [.int t.a,.int t.b],fun _=>rfl,rfl⟩;have ll:lsI (asV vs)<(asV vs).length:=HV _ _ _ (by omega) fun k hk=>List.mem_range.mp hk
 obtain⟨t,ht⟩:∃t,vs[lsI (asV vs)]?=some t:=by
  rw[A3]at ll;exact⟨_,A9 ll⟩
 have ga:(asV vs).getD (lsI (asV vs)) (0,1)=(t.a,t.b):=by
  rw[A8,C3,ht];rfl
 have i1:∀M,ixF (.d (.list (vs.map rD))) (I ((lsI (asV vs):Nat):Int)) M=some (.d (rD t),M):=fun M=>by
  have:atI (vs.map rD) ((lsI (asV vs):Nat):Int)=some (rD t):=gR (by rw[C3,ht];rfl);show(atI (vs.map rD) ((lsI (asV vs):Nat):Int)).bind _=_;rw[this];rfl
 have h0:Inn n 0:=⟨by omega,by omega⟩;have kl:(vs.map Tie.key).length+1=n:=by rw[A3];exact ln
 obtain⟨L2,ap⟩:=YT (a:=((lsI (asV vs):Nat):Int)) (M:=M++L1) (aCo vs) hx.2.ok h0 n40 kl;obtain⟨ss,_,_,R⟩:=wK (fa:=fun _ M=>some ([.d x,I 0],M)) (γ:=[]) (M:=[]) hx.2 h0 rfl;have sd:=EO hx.2.ok h0 n40 R nd hb;have du:=aFH TX D.bd (by omega) (by omega) i1 (fun _=>rfl) ap;rw[ga,sd]at e1;have fll:=GO (W:=pW (kys (cY (vs.map Tie.key) ((lsI (asV vs):Nat):Int) (vs.map Tie.key).length [(0,[])]))) n 0;have fc:=NP (s:=s) (c:=c) (g4:=g4) (g5:=g5) (g6:=g6) (by omega) e1 du;rw[C6]at fc;exact⟨_,_,fc⟩
theorem FT{M:Sto}:∀(vs:List Tie)(g:Ga),g.length=3->lcF (iP 3 (aY (hName 0) (aY (hName 1) (aY (hName 2) gK)))) gV (dE (aA (aD 0) (aA (aD 1) (aA (aK uW (aA (aD 2) aF)) aF)))) ((vs.map rD).map .d) g M=some ((vs.map rL).map .d,M)
 |[],g,_=>rfl
 |t::vs,[a,b,c],_=>by
  have ih:=FT (M:=M) vs [some (I t.i),some (I t.j),some (.d (.tuple [.int t.a,.int t.b]))] rfl;rw[B6,B6];unfold lcF;rw[show iP 3 (aY (hName 0) (aY (hName 1) (aY (hName 2) gK))) (.d (rD t)) [a,b,c] M=some ([some (I t.i),some (I t.j),some (.d (.tuple [.int t.a,.int t.b]))],M)from rfl,A2];dsimp only;rw[show gV [some (I t.i),some (I t.j),some (.d (.tuple [.int t.a,.int t.b]))] M=some (true,M)from rfl,A2];dsimp only;rw[A7 rfl,show dE (aA (aD 0) (aA (aD 1) (aA (aK uW (aA (aD 2) aF)) aF))) [some (I t.i),some (I t.j),some (.d (.tuple [.int t.a,.int t.b]))] M=some (.d (rL t),M)from rfl,A2];dsimp only;rw[ih];rfl
theorem aAG{s:CD}{c:Nat}{M:Sto}(D:Dr n vs)(h1:1<n)(n40:n<=40):
 ∃g3 g4 L,jL (cF (dE (aA (aD 2) (aA (aK eZ (aA (aD 2) aF)) (aA qE aF))))) (hName 3) qF (GL s c (.list (vs.map rD)) none none none none) M=some (.nx (GL s c (.list (vs.map rD)) g3 g4 none none),M++L):=by
 have ln:=D.ln
 have c0:∀M,qE (GL s c (.list (vs.map rD)) none none none none) M=some (.d (.list (vs.map rL)),M):=fun M=>by
  unfold qE;refine mX (show cF (aD 2) (GL s c (.list (vs.map rD)) none none none none) M=some ((vs.map rD).map .d,M)from rfl) (sz (by rw[A3,A3];omega)) (FT vs [none,none,none] rfl) (sz (by rw[A3];omega))
 have tv:∀M,eZ [.d (.list (vs.map rD))] M=some (.d (.tuple (vs.map rD)),M):=fun _=>rfl;have s3:(3:Nat)<=sizeLine:=by decide
 have it:cF (dE (aA (aD 2) (aA (aK eZ (aA (aD 2) aF)) (aA qE aF)))) (GL s c (.list (vs.map rD)) none none none none) M=some ([.d (.list (vs.map rD)),.d (.tuple (vs.map rD)),.d (.list (vs.map rL))],M):=by
  simp![cF,c0,tv,s3];rfl
 have m1:=lD (n:=n) (f:=rD) VG D.al;have m2:=lD (n:=n) (f:=rL) aHn D.al;have fD:∀t:Tie,∃c,(∀M,ixF (.d (rD t)) (I 2) M=some (.d c,M))/\aP c=some [.int t.a,.int t.b]:=fun t=>⟨.tuple [.int t.a,.int t.b],fun _=>rfl,rfl⟩;have fL:∀t:Tie,∃c,(∀M,ixF (.d (rL t)) (I 2) M=some (.d c,M))/\aP c=some [.int t.a,.int t.b]:=fun t=>⟨.list [.int t.a,.int t.b],fun _=>rfl,rfl⟩;obtain⟨a1,L1,t1⟩:=HX (s:=s) (c:=c) (g4:=none) (g5:=none) (g6:=none) (M:=M) D h1 n40 (D.is (x:=.list (vs.map rD)) n40 rfl m1) (CS (f:=rD) (.inl rfl) fD);obtain⟨a2,L2,t2⟩:=HX (s:=s) (c:=c) (g4:=a1) (g5:=none) (g6:=none) (M:=M++L1) D h1 n40 (D.is (x:=.tuple (vs.map rD)) n40 rfl m1) (CS (f:=rD) (.inr rfl) fD);obtain⟨a3,L3,t3⟩:=HX (s:=s) (c:=c) (g4:=a2) (g5:=none) (g6:=none) (M:=M++L1++L2) D h1 n40 (D.is (x:=.list (vs.map rL)) n40 rfl m2) (CS (f:=rL) (.inl rfl) fL);refine⟨some (.d (.list (vs.map rL))),a3,L1++L2++L3,iE it ?_⟩;rw[dA (show hName 3 (.d (.list (vs.map rD))) (GL s c (.list (vs.map rD)) none none none none) M=some (GL s c (.list (vs.map rD)) (some (.d (.list (vs.map rD)))) none none none,M)from rfl) t1];rw[dA (show hName 3 (.d (.tuple (vs.map rD))) (GL s c (.list (vs.map rD)) (some (.d (.list (vs.map rD)))) a1 none none) (M++L1)=some (GL s c (.list (vs.map rD)) (some (.d (.tuple (vs.map rD)))) a1 none none,M++L1)from rfl) t2];rw[dA (show hName 3 (.d (.list (vs.map rL))) (GL s c (.list (vs.map rD)) (some (.d (.tuple (vs.map rD)))) a2 none none) (M++L1++L2)=some (GL s c (.list (vs.map rD)) (some (.d (.list (vs.map rL)))) a2 none none,M++L1++L2)from rfl) t3];rw[C6,C6,C6];rfl
theorem SX(hm:d∈ds)(e:bI ((ds.length+1:Nat):Int) d=none):eE (.list ds)=false:=by
 have h1:=wN ((ds.length+1:Nat):Int) ds
 have h2:(ds.all fun d=>(bI ((ds.length+1:Nat):Int) d).isSome)=false:=by
  cases h:(ds.all fun d=>(bI ((ds.length+1:Nat):Int) d).isSome)with
  |false=>rfl
  |true=>
   have:=List.all_eq_true.mp h d hm;rw[e]at this;cases this
 rw[h2]at h1
 have h3:ds.mapM (bI ((ds.length+1:Nat):Int))=none:=by
  cases h:ds.mapM (bI ((ds.length+1:Nat):Int))with
  |none=>rfl
  |some us=>rw[h]at h1;cases h1
 unfold eE jS;rw[show aP (.list ds)=some ds from rfl];dsimp only;rw[h3];dsimp only;rw[O2,O2]
theorem WG{us:List Ed}(hm:ds.mapM (bI ((ds.length+1:Nat):Int))=some us)(h:(ris us&&nS (zs (ds.length+1)) us)=false):eE (.list ds)=false:=by
 unfold eE jS;rw[show aP (.list ds)=some ds from rfl];dsimp only;rw[hm];dsimp only;rw[h,O2,O2]
noncomputable abbrev sb(ds:List PyData)(a:Int)(d:PyData):List PyData:=bT ds none (some a)++[d]++bT ds (some (a+1)) none
theorem wX(h0:0<=a)(h1:a<ds.length)(hn:ds.length+1=n)(e:bI (n:Int) d=none):eE (.list (sb ds a d))=false:=by
 have l:(sb ds a d).length=ds.length:=by
  have:=YV h0 h1;unfold sb;rw[B4,B4,C7];omega
 refine SX (d:=d) (by simp) ?_;rw[l,hn];exact e
theorem XG{x:Ed}{r:List Ed}(h:ris (x::r)=true):ris r=true:=by
 cases r with
 |nil=>rfl
 |cons y r=>
  have h:(uJ x y&&ris (y::r))=true:=h;rw[C2]at h;exact h.2
theorem aBo{a b:List Ed}(h:ris (a++b)=true):ris b=true:=by
 induction a with
 |nil=>exact h
 |cons x a ih=>exact ih (XG h)
theorem aDG{a b:Tie}(h:¬b.lt a):uJ b.key a.key=false:=by
 unfold Tie.lt at h;unfold uJ Tie.key;split
 .exact C1 (by dsimp only at *;omega)
 .exact C1 (by dsimp only at *;omega)
theorem HJ{p r:List Tie}{a b:Tie}(h:¬b.lt a):ris ((p++b::a::r).map Tie.key)=false:=by
 cases e:ris ((p++b::a::r).map Tie.key)with
 |false=>rfl
 |true=>
  rw[D3]at e;have e:=aBo e;have e:(uJ b.key a.key&&ris ((a::r).map Tie.key))=true:=e;rw[aDG h]at e;cases e
noncomputable abbrev Al(n:Nat)(ws:List Tie):Prop:=∀t∈ws,(0<=t.i/\t.i<t.j)/\t.j<n/\Am t.a t.b
theorem Al.up{ws ws':List Tie}(h:Al n ws)(nm:n<=m)(hs:∀t∈ws',t∈ws):Al m ws':=fun t ht=>by
 obtain⟨a,b,c⟩:=h t (hs t ht);exact⟨a,by omega,c⟩
theorem BZ{ws:List Tie}(al:Al (ws.length+1) ws)(h:ris (ws.map Tie.key)=false):eE (.list (ws.map rD))=false:=by
 have l:(ws.map rD).length+1=ws.length+1:=by rw[A3]
 refine WG (us:=ws.map Tie.key) ?_ (by rw[h];rfl);rw[l];exact lD (f:=rD) VG al
theorem Tie.irr(t:Tie):¬t.lt t:=by unfold Tie.lt;omega
theorem Tie.asy{a b:Tie}(h:a.lt b):¬b.lt a:=by unfold Tie.lt at *;omega
theorem vC{α:Type}{ds:List α}(h:q<ds.length):bT ds none (some (q:Nat))=ds.take q:=by
 unfold bT;rw[HT.sIx_none,HT.sIx_nat,show min q ds.length=q by omega,List.drop_zero,Nat.sub_zero]
theorem DD{α:Type}{ds:List α}(h:q<ds.length):bT ds (some (q:Nat)) none=ds.drop q:=by
 unfold bT;rw[HT.sIx_none,HT.sIx_nat,show min q ds.length=q by omega,List.take_of_length_le (by rw[O8];omega)]
theorem aBa{α:Type}{ds:List α}(h:q<ds.length):bT ds (some (q:Nat)) (some ((q:Int)+1))=[ds[q]]:=by
 unfold bT;rw[show((q:Nat):Int)+1=((q+1:Nat):Int)from rfl,HT.sIx_nat,HT.sIx_nat,show min q ds.length=q by omega,show min (q+1) ds.length-q=1 by omega,S1 h];rfl
theorem ZF(D:Dr n vs)(hq:q<vs.length):eE (.list (bT (vs.map rD) none (some (q:Nat))++bT (vs.map rD) (some (q:Nat)) (some ((q:Int)+1))++bT (vs.map rD) (some (q:Nat)) none))=false:=by
 have ln:=D.ln;rw[qV,qV,qV,vC hq,aBa hq,DD hq,S1 hq,<- D3,<- D3,C6]
 have sub:∀t∈vs.take q++([vs[q]]++vs[q]::vs.drop (q+1)),t∈vs:=fun t ht=>by
  rcases List.mem_append.mp ht with h|h
  .exact Z4 h
  .rcases List.mem_append.mp h with h|h
   .rw[List.mem_singleton.mp h];exact J3 hq
   .rcases List.mem_cons.mp h with h|h
    .rw[h];exact J3 hq
    .exact List.mem_of_mem_drop h
 refine BZ (Al.up D.al ?_ sub) (HJ (Tie.irr _));rw[B4,J2,B4,C7,C9,O8];omega
theorem aAC(D:Dr n vs)(h2:1<vs.length):eE (.list (vs.map rD).reverse)=false:=by
 have ln:=D.ln;rw[<- List.map_reverse];refine BZ (Al.up D.al (by rw[S6];omega) fun t ht=>List.mem_reverse.mp ht) ?_
 match vs,h2,D.so with
 |a::b::r,_,so=>
  have ab:=(List.pairwise_cons.mp so).1 b (B5 ..);rw[F7,F7,C6];exact HJ (Tie.asy ab)
theorem aAu(D:Dr n vs)(h2:1<vs.length):eE (.list (bT (vs.map rD) (some ((1:Nat):Int)) none++bT (vs.map rD) none (some ((1:Nat):Int))))=false:=by
 have ln:=D.ln;rw[qV,qV,vC h2,DD h2,<- D3];refine BZ (Al.up D.al (by rw[B4,J2,O8];omega) fun t ht=>?_) ?_
 .rcases List.mem_append.mp ht with h|h
  .exact List.mem_of_mem_drop h
  .exact Z4 h
 .match vs,h2,D.so with
  |a::b::r,_,so=>
   have e:=List.dropLast_concat_getLast (List.cons_ne_nil b r);have ab:=(List.pairwise_cons.mp so).1 ((b::r).getLast (List.cons_ne_nil b r)) (List.getLast_mem _);show ris (((b::r)++[a]).map Tie.key)=false;rw[<- e,C6];exact HJ (Tie.asy ab)
noncomputable def st3(a b:Int):Int->Nat->List Tie
 |_,0=>[]
 |lo,q+1=>⟨3,lo,a,b⟩::st3 a b (lo+1) q
theorem uE(a b:Int):∀(q:Nat)(lo:Int),(st3 a b lo q).length=q
 |0=>fun _=>rfl
 |q+1=>fun lo=>by show(st3 a b (lo+1) q).length+1=q+1;rw[uE a b q]
theorem BH{a b:Int}:∀(q:Nat)(lo:Int)(t:Tie),t∈st3 a b lo q->t.i=3/\(lo<=t.j/\t.j<lo+q)/\t.a=a/\t.b=b
 |0=>fun _ t h=>by cases h
 |q+1=>fun lo t h=>by
  rcases List.mem_cons.mp h with rfl|h
  .exact⟨rfl,⟨Int.le_refl _,by show lo<lo+((q+1:Nat):Int);omega⟩,rfl,rfl⟩
  .obtain⟨h1,h2,h3⟩:=BH q (lo+1) t h;exact⟨h1,by omega,h3⟩
noncomputable def ring(a b:Int):List Tie:=[⟨0,1,a,b⟩,⟨0,2,a,b⟩,⟨1,2,a,b⟩]
theorem EM{t:Tie}(h:t∈ring a b):(t.i=0\/t.i=1)/\t.i<t.j/\t.j<3/\t.a=a/\t.b=b:=by
 unfold ring at h;simp only[List.mem_cons,List.not_mem_nil,or_false]at h;rcases h with rfl|rfl|rfl
 .exact⟨.inl rfl,(by decide:(0:Int)<1),(by decide:(1:Int)<3),rfl,rfl⟩
 .exact⟨.inl rfl,(by decide:(0:Int)<2),(by decide:(2:Int)<3),rfl,rfl⟩
 .exact⟨.inr rfl,(by decide:(1:Int)<2),(by decide:(2:Int)<3),rfl,rfl⟩
theorem VB(h4:4<=n)(am:Am a b):eE (.list ((ring a b++st3 a b 4 (n-4)).map rD))=false:=by
 have l:((ring a b++st3 a b 4 (n-4)).map rD).length+1=n:=by
  rw[A3,B4,uE];show 3+(n-4)+1=n;omega
 have al:Al n (ring a b++st3 a b 4 (n-4)):=fun t ht=>by
  rcases List.mem_append.mp ht with h|h
  .obtain⟨h1,h2,h3,h5,h6⟩:=EM h;rw[h5,h6];exact⟨by omega,by omega,am⟩
  .obtain⟨h1,h2,h3,h5⟩:=BH _ _ t h;rw[h3,h5];exact⟨by omega,by omega,am⟩
 have ok:Oks n ((ring a b++st3 a b 4 (n-4)).map Tie.key):=fun e he=>by
  obtain⟨t,ht,rfl⟩:=List.mem_map.mp he;obtain⟨h1,h2,_⟩:=al t ht;exact⟨⟨h1.1,by show t.i<n;omega⟩,⟨by show 0<=t.j;omega,h2⟩⟩
 refine WG (us:=(ring a b++st3 a b 4 (n-4)).map Tie.key) ?_ ?_
 .rw[l];exact lD (f:=rD) VG al
 .rw[l]
  have:nS (zs n) ((ring a b++st3 a b 4 (n-4)).map Tie.key)=false:=by
   cases j:nS (zs n) ((ring a b++st3 a b 4 (n-4)).map Tie.key)with
   |false=>rfl
   |true=>
    have kl:((ring a b++st3 a b 4 (n-4)).map Tie.key).length+1=n:=by rw[A3]at l ⊢;exact l
    have c:=(sF (by omega) kl ok).mp j 3 ⟨by omega,by omega⟩;have:=tL (S:=fun p=>p<3) ok (fun e he=>?_) (p:=3) (q:=0) ⟨by omega,by omega⟩ ⟨by omega,by omega⟩ c
    .have:=this.mpr (by decide);revert this;decide
    .obtain⟨t,ht,rfl⟩:=List.mem_map.mp he;show t.i<3↔t.j<3;rcases List.mem_append.mp ht with h|h
     .obtain⟨h1,h2,h3,_⟩:=EM h;omega
     .obtain⟨h1,h2,_⟩:=BH _ _ t h;omega
  rw[this,O2]
theorem aCu{n:Int}(h:nL o=false):bI n (.tuple [.int i,.int j,o])=none:=by
 rw[HD (show aP (.tuple [.int i,.int j,o])=some [.int i,.int j,o]from rfl)];show(if (decide (0<=i)&&decide (i<j)&&decide (j<n)&&nL o)=true then some (i,j)else none)=none;rw[h,O2];rfl
theorem HF{n:Int}(h:¬i<j\/¬j<n):bI n (.tuple [.int i,.int j,o])=none:=by
 rw[HD (show aP (.tuple [.int i,.int j,o])=some [.int i,.int j,o]from rfl)];show(if (decide (0<=i)&&decide (i<j)&&decide (j<n)&&nL o)=true then some (i,j)else none)=none;rcases h with h|h
 .rw[C1 h,O2];rfl
 .rw[C1 h,O2];rfl
noncomputable def DW:List PyData:=[(.tuple [.int 2,.int 2]),(.tuple [.int 0,.int 2]),(.tuple [.int (-1),.int 1]),(.tuple [.int 1,.int 0]),(.tuple [.int 1,.int (-1)]),(.tuple [.bool true,.int 1]),(.tuple [.int 1,.bool true]),(.tuple [.int 1]),(.tuple [.int 1,.int 1,.int 1]),.none,.int 1,.str "1",.dict []]
theorem PD:∀o∈DW,nL o=false:=by
 intro o ho;unfold DW at ho;simp only[List.mem_cons,List.not_mem_nil,or_false]at ho;rcases ho with rfl|rfl|rfl|rfl|rfl|rfl|rfl|rfl|rfl|rfl|rfl|rfl|rfl<;>decide +kernel
noncomputable def uO(i j:Int)(am:PyData):List PyData:=[.none,.int 0,.tuple [.int i,.int j],.tuple [.int i,.int j,am,.int 0],.str "abc",.tuple [.bool true,.int j,am],.tuple [.int i,.none,am],.dict []]
theorem MB{n i j:Int}{am:PyData}:∀d∈uO i j am,bI n d=none:=by
 intro d hd;unfold uO at hd;simp only[List.mem_cons,List.not_mem_nil,or_false]at hd;rcases hd with rfl|rfl|rfl|rfl|rfl|rfl|rfl|rfl<;>rfl
theorem add_list{xs:List PyData}(hl:xs.length+ys.length<=1000):bM (.d (.list xs)) (.d (.list ys)) M=some (.d (.list (xs++ys)),M):=by
 have a:aDj (.d (.list xs)) (.d (.list ys)) M=none:=rfl
 have c:aBr (.d (.list xs)) (.d (.list ys)) M=some (.d (.list (xs++ys)),M):=by
  unfold aBr;simp only[sZ,Option.bind_some];rw[<- D3,gS,A2,A7 (sz (by rw[B4];exact hl))]
 unfold bM BL;rw[a];dsimp only;rw[c]
theorem qL{lo hi:Option Int}:slF (.d (.list ds)) lo hi M=some (.d (.list (bT ds lo hi)),M):=rfl
noncomputable abbrev GBt(ds:List PyData)(z A i j:Int)(am:PyData)(g6 g7 g8:Option CD):Ga:=[some (.d (.list ds)),some (I z),some (I A),some (I i),some (I j),some (.d am),g6,g7,g8]
noncomputable abbrev EJ(E:EF):EF:=(fOp bM (fOp bM (fSl (aD 0) bF (bY (aD 2))) (dE (aA E aF))) (fSl (aD 0) (bY (fOp bM (aD 2) (fC (.int 1)))) bF))
theorem DI(hl:ds.length<=40)(hE:E (GBt ds z A i j am g6 g7 g8) M=some (.d d,M)):EJ E (GBt ds z A i j am g6 g7 g8) M=some (.d (.list (sb ds A d)),M):=by
 have l1:=lB ds none (some A);have l2:=lB ds (some (A+1)) none;have a1:bM (.d (.list (bT ds none (some A)))) (.d (.list [d])) M=some (.d (.list (bT ds none (some A)++[d])),M):=add_list (by rw[C7];omega);have a2:bM (.d (.list (bT ds none (some A)++[d]))) (.d (.list (bT ds (some (A+1)) none))) M=some (.d (.list (sb ds A d)),M):=add_list (by rw[B4,C7];omega);have a3:bM (I A) (I 1) M=some (I (A+1),M):=rfl;have s1:(1:Nat)<=sizeLine:=by decide
 simp![EJ,fSl,bY,bF,asI,qL,hE,s1,a1,a2,a3]
noncomputable abbrev SB(M:Sto)(A:Cell)(zs:List PyData):Sto:=M++[A,.lst (zs.map .d)]
theorem RF{A:Cell}{zs:List PyData}:(SB M A zs)[M.length+1]?=some (.lst (zs.map .d)):=by
 unfold SB;rw[B9 (by omega),show M.length+1-M.length=1 by omega];rfl
theorem aGF{A:Cell}{zs:List PyData}:tyB "list" (SB M A zs) (.c (M.length+1))=true:=by simp only[tyB,RF];decide
theorem ZO{A:Cell}{zs:List PyData}{z:PyData}(hl:zs.length<500):bB (.c (M.length+1)) [.d z] (SB M A zs)=some (.d .none,SB M A (zs++[z])):=by
 have l:(zs.map CD.d).length<sizeLine:=by rw[A3,E4];omega
 simp only[bB,RF,if_pos l];unfold SB;rw[E7 _ _ (by omega),show M.length+1-M.length=1 by omega,D3];rfl
theorem oH{A:Cell}{zs:List PyData}{z:PyData}(h6:aD 6 γ (SB M A zs)=some (.c (M.length+1),SB M A zs))(hl:zs.length<500)(hE:E γ (SB M A zs)=some (.d z,SB M A zs)):eL (bH "list" bB (aD 6) (aA E aF)) γ (SB M A zs)=some (.nx γ,SB M A (zs++[z])):=by
 have pu:=ZO (M:=M) (A:=A) (z:=z) hl;have ty:=aGF (M:=M) (A:=A) (zs:=zs);unfold eL bH aA aF;rw[h6];simp only[Option.bind_some,hE,ty,pu,if_true]
theorem aBS{ds:List PyData}{z A i j:Int}{am:PyData}{M:Sto}{C:Cell}{g8:Option CD}(hl:ds.length<=40):∀(os zs:List PyData)(g7:Option CD),zs.length+os.length<500->
 ∃g7',iZ (hName 7) kB (os.map .d) (GBt ds z A i j am (some (.c (M.length+1))) g7 g8) (SB M C zs)=some (.nx (GBt ds z A i j am (some (.c (M.length+1))) g7' g8),SB M C (zs++os.map fun o=>.list (sb ds A (.tuple [.int i,.int j,o]))))
 |[]=>fun zs g7 _=>⟨g7,by rw[S9,S9,D6];rfl⟩
 |o::os=>fun zs g7 h=>by
  rw[C9]at h;have s3:(3:Nat)<=sizeLine:=by decide
  have e:EJ (bK (aA (aD 3) (aA (aD 4) (aA (aD 7) aF)))) (GBt ds z A i j am (some (.c (M.length+1))) (some (.d o)) g8) (SB M C zs)=some (.d (.list (sb ds A (.tuple [.int i,.int j,o]))),SB M C zs):=DI hl rfl;have t:kB (GBt ds z A i j am (some (.c (M.length+1))) (some (.d o)) g8) (SB M C zs)=_:=oH rfl (by omega) e;obtain⟨g',ih⟩:=aBS (z:=z) (A:=A) (i:=i) (j:=j) (am:=am) (M:=M) (C:=C) (g8:=g8) hl os (zs++[.list (sb ds A (.tuple [.int i,.int j,o]))]) (some (.d o)) (by rw[B4,C7];omega);refine⟨g',?_⟩;rw[B6,dA (show hName 7 (.d o) (GBt ds z A i j am (some (.c (M.length+1))) g7 g8) (SB M C zs)=some (GBt ds z A i j am (some (.c (M.length+1))) (some (.d o)) g8,SB M C zs)from rfl) t,ih,B6,C6];rfl
theorem aBC{ds:List PyData}{z A i j:Int}{am:PyData}{M:Sto}{C:Cell}{g8:Option CD}(hl:ds.length<=40):∀(os zs:List PyData)(g7:Option CD),zs.length+os.length<500->
 ∃g7',iZ (hName 7) kI (os.map .d) (GBt ds z A i j am (some (.c (M.length+1))) g7 g8) (SB M C zs)=some (.nx (GBt ds z A i j am (some (.c (M.length+1))) g7' g8),SB M C (zs++os.map fun o=>.list (sb ds A o)))
 |[]=>fun zs g7 _=>⟨g7,by rw[S9,S9,D6];rfl⟩
 |o::os=>fun zs g7 h=>by
  rw[C9]at h;have e:EJ (aD 7) (GBt ds z A i j am (some (.c (M.length+1))) (some (.d o)) g8) (SB M C zs)=some (.d (.list (sb ds A o)),SB M C zs):=DI hl rfl;have t:kI (GBt ds z A i j am (some (.c (M.length+1))) (some (.d o)) g8) (SB M C zs)=_:=oH rfl (by omega) e;obtain⟨g',ih⟩:=aBC (z:=z) (A:=A) (i:=i) (j:=j) (am:=am) (M:=M) (C:=C) (g8:=g8) hl os (zs++[.list (sb ds A o)]) (some (.d o)) (by rw[B4,C7];omega);refine⟨g',?_⟩;rw[B6,dA (show hName 7 (.d o) (GBt ds z A i j am (some (.c (M.length+1))) g7 g8) (SB M C zs)=some (GBt ds z A i j am (some (.c (M.length+1))) (some (.d o)) g8,SB M C zs)from rfl) t,ih,B6,C6];rfl
noncomputable abbrev aCh:SF:=(sIf (gB (fOp gtI (aK bW (aA (aD 0) aF)) (fC (.int 1))))
 (aR (eL (bH "list" bB (aD 6) (aA (YA (aD 0) (bY (fUn EC (fC (.int 1))))) aF)))
 (eL (bH "list" bB (aD 6) (aA (fOp bM (fSl (aD 0) (bY (fC (.int 1))) bF) (fSl (aD 0) bF (bY (fC (.int 1))))) aF))))
  dN)
noncomputable abbrev aBQ:SF:=(sIf (gB (fOp gtI (aK bW (aA (aD 0) aF)) (fC (.int 2))))
 (aR (bG gO (hName 8))
 (eL (bH "list" bB (aD 6) (aA (fOp bM (dE (aA (bK (aA (fC (.int 0)) (aA (fC (.int 1)) (aA (aD 5) aF)))) (aA (bK (aA (fC (.int 0)) (aA (fC (.int 2)) (aA (aD 5) aF)))) (aA (bK (aA (fC (.int 1)) (aA (fC (.int 2)) (aA (aD 5) aF)))) aF)))) (aD 8)) aF))))
  dN)
theorem uF{k:Int}{M:Sto}(ln:∀M,bW [.d (.list ds)] M=some (I J,M)):gB (fOp gtI (aK bW (aA (aD 0) aF)) (fC (.int k))) (some (.d (.list ds))::γ) M=some (decide (k<J),M):=by
 simp![ln]
theorem VE{c:TF}{f g:SF}(h:c γ M=some (true,M)):sIf c f g γ M=f γ M:=by
 unfold sIf;rw[h,A2];rfl
theorem aBz{c:TF}{f g:SF}(h:c γ M=some (false,M)):sIf c f g γ M=g γ M:=by
 unfold sIf;rw[h,A2];rfl
theorem aFO{z A i j:Int}{am:PyData}{M:Sto}{C:Cell}{g7:Option CD}{zs:List PyData}(D:Dr n vs)(n40:n<=40)(hz:zs.length<100)(hb:∀x∈zs,eE x=false):
 ∃zs',aCh (GBt (vs.map rD) z A i j am (some (.c (M.length+1))) g7 none) (SB M C zs)=some (.nx (GBt (vs.map rD) z A i j am (some (.c (M.length+1))) g7 none),SB M C zs')/\zs'.length<=zs.length+2/\∀x∈zs',eE x=false:=by
 have ln:=D.ln;have hl:∀M,bW [.d (.list (vs.map rD))] M=some (I (((vs.map rD).length:Nat):Int),M):=fun M=>cT (M:=M) (show aP (.list (vs.map rD))=some (vs.map rD)from rfl);have dl:(vs.map rD).length=vs.length:=A3 ..;unfold aCh;by_cases h:(1:Int)<((vs.map rD).length:Nat)
 .rw[VE (by rw[uF hl,C8 h])];have r1:YA (aD 0) (bY (fUn EC (fC (.int 1)))) (GBt (vs.map rD) z A i j am (some (.c (M.length+1))) g7 none) (SB M C zs)=some (.d (.list (vs.map rD).reverse),SB M C zs):=rfl;have l1:=lB (vs.map rD) none (some 1);have l2:=lB (vs.map rD) (some 1) none
  have r2:∀zs,fOp bM (fSl (aD 0) (bY (fC (.int 1))) bF) (fSl (aD 0) bF (bY (fC (.int 1)))) (GBt (vs.map rD) z A i j am (some (.c (M.length+1))) g7 none) (SB M C zs)=some (.d (.list (bT (vs.map rD) (some 1) none++bT (vs.map rD) none (some 1))),SB M C zs):=fun zs=>by
   have a1:bM (.d (.list (bT (vs.map rD) (some 1) none))) (.d (.list (bT (vs.map rD) none (some 1)))) (SB M C zs)=_:=add_list (by omega);simp![fSl,bY,bF,asI,qL,a1]
  refine⟨zs++[.list (vs.map rD).reverse]++[.list (bT (vs.map rD) (some 1) none++bT (vs.map rD) none (some 1))],?_,by simp,?_⟩
  .rw[bE (oH rfl (by omega) r1),oH rfl (by rw[B4,C7];omega) (r2 _)]
  .intro x hx;rcases List.mem_append.mp hx with hx|hx
   .rcases List.mem_append.mp hx with hx|hx
    .exact hb x hx
    .rw[List.mem_singleton.mp hx];exact aAC D (by omega)
   .rw[List.mem_singleton.mp hx];exact aAu D (by omega)
 .rw[aBz (by rw[uF hl,C1 h])];exact⟨zs,rfl,by omega,hb⟩
theorem KM{a b:Int}{M:Sto}:∀(q:Nat)(lo:Int)(g:Option CD),lcF (hName 1) gV (bK (aA (fC (.int 3)) (aA (aD 1) (aA (aD 0) aF)))) (dM lo q) [some (.d (.tuple [.int a,.int b])),g] M=some (((st3 a b lo q).map rD).map .d,M)
 |0=>fun lo g=>rfl
 |q+1=>fun lo g=>by
  have ih:=KM (a:=a) (b:=b) (M:=M) q (lo+1) (some (I lo));rw[fS];unfold lcF;rw[show hName 1 (I lo) [some (.d (.tuple [.int a,.int b])),g] M=some ([some (.d (.tuple [.int a,.int b])),some (I lo)],M)from rfl,A2];dsimp only;rw[show gV [some (.d (.tuple [.int a,.int b])),some (I lo)] M=some (true,M)from rfl,A2];dsimp only;rw[A7 rfl,show bK (aA (fC (.int 3)) (aA (aD 1) (aA (aD 0) aF))) [some (.d (.tuple [.int a,.int b])),some (I lo)] M=some (.d (rD ⟨3,lo,a,b⟩),M)from rfl,A2];dsimp only;rw[ih];rfl
theorem aEE{M:Sto}(ln:∀M,bW [.d (.list ds)] M=some (I J,M))(sm:aZ (J+1)=true):nT (aA (fC (.int 4)) (aA (fOp bM (aK bW (aA (aD 0) aF)) (fC (.int 1))) aF)) (some (.d (.list ds))::γ) M=some (dM 4 (J+1-4).toNat,M):=by
 have s1:aZ 4=true:=by decide
 have h:aZ 4=true/\aZ (J+1)=true:=⟨s1,sm⟩;have a3:∀M,bM (I J) (I 1) M=some (I (J+1),M):=fun _=>rfl;unfold nT;rw[show aA (fC (.int 4)) (aA (fOp bM (aK bW (aA (aD 0) aF)) (fC (.int 1))) aF) (some (.d (.list ds))::γ) M=some ([I 4,I (J+1)],M)by simp![ln,a3],A2];dsimp only;rw[A7 h]
theorem aGW{z A i j:Int}{M:Sto}{C:Cell}{g7:Option CD}{zs:List PyData}(D:Dr n vs)(n40:n<=40)(am:Am a b)(hz:zs.length<100)(hb:∀x∈zs,eE x=false):
 ∃zs' g8,aBQ (GBt (vs.map rD) z A i j (.tuple [.int a,.int b]) (some (.c (M.length+1))) g7 none) (SB M C zs)=some (.nx (GBt (vs.map rD) z A i j (.tuple [.int a,.int b]) (some (.c (M.length+1))) g7 g8),SB M C zs')/\zs'.length<=zs.length+1/\∀x∈zs',eE x=false:=by
 have ln:=D.ln;have hl:∀M,bW [.d (.list (vs.map rD))] M=some (I (((vs.map rD).length:Nat):Int),M):=fun M=>cT (M:=M) (show aP (.list (vs.map rD))=some (vs.map rD)from rfl);have dl:(vs.map rD).length=vs.length:=A3 ..;unfold aBQ;by_cases h:(2:Int)<((vs.map rD).length:Nat)
 .rw[VE (by rw[uF hl,C8 h])];have rg:=aEE (γ:=[some (I z),some (I A),some (I i),some (I j),some (.d (.tuple [.int a,.int b])),some (.c (M.length+1)),g7,none]) (M:=SB M C zs) hl (jE (by omega) (by omega));rw[show((((vs.map rD).length:Nat):Int)+1-4).toNat=n-4 by omega]at rg
  have c0:gO (GBt (vs.map rD) z A i j (.tuple [.int a,.int b]) (some (.c (M.length+1))) g7 none) (SB M C zs)=some (.d (.list ((st3 a b 4 (n-4)).map rD)),SB M C zs):=by
   unfold gO;refine mX rg (sz (by rw[qI];omega)) (KM (n-4) 4 none) (sz (by rw[A3,uE];omega))
  have r2:fOp bM (dE (aA (bK (aA (fC (.int 0)) (aA (fC (.int 1)) (aA (aD 5) aF)))) (aA (bK (aA (fC (.int 0)) (aA (fC (.int 2)) (aA (aD 5) aF)))) (aA (bK (aA (fC (.int 1)) (aA (fC (.int 2)) (aA (aD 5) aF)))) aF)))) (aD 8) (GBt (vs.map rD) z A i j (.tuple [.int a,.int b]) (some (.c (M.length+1))) g7 (some (.d (.list ((st3 a b 4 (n-4)).map rD))))) (SB M C zs)=some (.d (.list ((ring a b++st3 a b 4 (n-4)).map rD)),SB M C zs):=by
   have a1:bM (.d (.list ((ring a b).map rD))) (.d (.list ((st3 a b 4 (n-4)).map rD))) (SB M C zs)=_:=add_list (by rw[A3,A3,uE];show 3+(n-4)<=1000;omega);rw[D3,<- a1];rfl
  refine⟨zs++[.list ((ring a b++st3 a b 4 (n-4)).map rD)],some (.d (.list ((st3 a b 4 (n-4)).map rD))),?_,by simp,?_⟩
  .rw[bE (pO c0)];exact oH rfl (by omega) r2
  .intro x hx;rcases List.mem_append.mp hx with hx|hx
   .exact hb x hx
   .rw[List.mem_singleton.mp hx];exact VB (by omega) am
 .rw[aBz (by rw[uF hl,C1 h])];exact⟨zs,none,rfl,by omega,hb⟩
noncomputable abbrev aEW:EF:=(fOp bM (fOp bM (fSl (aD 0) bF (bY (aD 2))) (fSl (aD 0) (bY (aD 2)) (bY (fOp bM (aD 2) (fC (.int 1)))))) (fSl (aD 0) (bY (aD 2)) bF))
theorem aHc(hl:ds.length<=40):aEW (GBt ds z A i j am g6 g7 g8) M=some (.d (.list (bT ds none (some A)++bT ds (some A) (some (A+1))++bT ds (some A) none)),M):=by
 have l1:=lB ds none (some A);have l2:=lB ds (some A) (some (A+1));have l3:=lB ds (some A) none;have a1:bM (.d (.list (bT ds none (some A)))) (.d (.list (bT ds (some A) (some (A+1))))) M=_:=add_list (by omega);have a2:bM (.d (.list (bT ds none (some A)++bT ds (some A) (some (A+1))))) (.d (.list (bT ds (some A) none))) M=_:=add_list (by rw[B4];omega);have a3:bM (I A) (I 1) M=some (I (A+1),M):=rfl;simp![aEW,fSl,bY,bF,asI,qL,a1,a2,a3]
theorem NQ:OO (.c M.length) (.d (.list [x3])) (M++[.lst [.d x1,.d x2]])=some (.c (M.length+1),SB M (.lst [.d x1,.d x2]) [x1,x2,x3]):=by
 have h:(M++[Cell.lst [.d x1,.d x2]])[M.length]?=some (.lst [.d x1,.d x2]):=TZ;have s3:([CD.d x1,.d x2]:List CD).length+([CD.d x3]:List CD).length<=sizeLine:=sz (by show 3<=1000;decide);unfold OO;simp only[sZ,h,Option.bind_some,List.map_cons,List.map_nil];rw[A7 s3,B4];unfold SB;rw[C6];rfl
theorem aAZ{f g:EF}{a b:PyData}(h1:f γ M=some (.d a,M))(h2:g γ M=some (.d b,M)):jB (aA f (aA g aF)) γ M=some (.c M.length,M++[.lst [.d a,.d b]]):=by
 have s2:(2:Nat)<=sizeLine:=by decide
 simp![h1,h2,s2]
theorem aFa{M:Sto}(h6:∀M,aD 6 γ M=some (.c M0,M))(e0:M0=M.length)(hE:E γ (M++[.lst [.d x1,.d x2]])=some (.d x3,M++[.lst [.d x1,.d x2]])):fOp OO (aD 6) (dE (aA E aF)) γ (M++[.lst [.d x1,.d x2]])=some (.c (M.length+1),SB M (.lst [.d x1,.d x2]) [x1,x2,x3]):=by
 subst e0;have s1:(1:Nat)<=sizeLine:=by decide
 have c:=NQ (x1:=x1) (x2:=x2) (x3:=x3) (M:=M)
 have l:dE (aA E aF) γ (M++[.lst [.d x1,.d x2]])=some (.d (.list [x3]),M++[.lst [.d x1,.d x2]]):=by
  simp![hE,s1]
 unfold fOp;rw[h6,A2];dsimp only;rw[l,A2];exact c
theorem OE{t:Tie}{M:Sto}(D:Dr n vs)(h1:1<n)(n40:n<=40)(ln:∀M,bW [.d (.list (vs.map rD))] M=some (I J,M))(hJ:J+1=n)(mk:jX z J=true)(hA:z % J=A)(hq:A=(q:Nat))(ql:q<vs.length)(ht:vs[q]?=some t):
 ∃(C:Cell)(Z:List PyData),eO [.d (.list (vs.map rD)),I z] M=some (.c (M.length+1),SB M C Z)/\Z.length<=100/\∀x∈Z,eE x=false:=by
 have dl:(vs.map rD).length=vs.length:=A3 ..;have dn:=D.ln;have d40:(vs.map rD).length<=40:=by omega
 have A0:0<=A:=by omega
 have A1:A<((vs.map rD).length:Nat):=by omega
 have nn:(vs.map rD).length+1=n:=by omega
 obtain⟨tij,tjn,tam⟩:=D.al t (E5 ht)
 have ix:∀M,ixF (.d (.list (vs.map rD))) (I A) M=some (.d (rD t),M):=fun M=>by
  have:atI (vs.map rD) A=some (rD t):=by rw[hq];exact gR (by rw[C3,ht];rfl)
  show(atI (vs.map rD) A).bind _=_;rw[this];rfl
 have b1:eE (.list (bT (vs.map rD) none (some A)++bT (vs.map rD) (some A) (some (A+1))++bT (vs.map rD) (some A) none))=false:=by rw[hq];exact ZF D ql
 have b2:=wX (d:=.tuple [.int t.j,.int t.i,.tuple [.int t.a,.int t.b]]) A0 A1 nn (HF (.inl (by omega)));have b3:=wX (d:=.tuple [.int t.i,.int (J+1),.tuple [.int t.a,.int t.b]]) A0 A1 nn (HF (.inr (by omega)));have b4:=wX (d:=.tuple [.int t.i,.int t.i,.tuple [.int t.a,.int t.b]]) A0 A1 nn (HF (.inl (by omega)))
 have s1:bG (fOp iJ (aD 1) (aK bW (aA (aD 0) aF))) (hName 2) [some (.d (.list (vs.map rD))),some (I z),none,none,none,none,none,none,none] M=some (.nx [some (.d (.list (vs.map rD))),some (I z),some (I A),none,none,none,none,none,none],M):=by
  simp![ln,mk,hA]
 have s2:bG (fOp ixF (aD 0) (aD 2)) (iP 3 (aY (hName 3) (aY (hName 4) (aY (hName 5) gK)))) [some (.d (.list (vs.map rD))),some (I z),some (I A),none,none,none,none,none,none] M=some (.nx (GBt (vs.map rD) z A t.i t.j (.tuple [.int t.a,.int t.b]) none none none),M):=by
  unfold bG;rw[show fOp ixF (aD 0) (aD 2) [some (.d (.list (vs.map rD))),some (I z),some (I A),none,none,none,none,none,none] M=ixF (.d (.list (vs.map rD))) (I A) M from rfl,ix,A2];rfl
 have x1:=aHc (z:=z) (A:=A) (i:=t.i) (j:=t.j) (am:=.tuple [.int t.a,.int t.b]) (g6:=none) (g7:=none) (g8:=none) (M:=M) d40;have x2:EJ (bK (aA (aD 4) (aA (aD 3) (aA (aD 5) aF)))) (GBt (vs.map rD) z A t.i t.j (.tuple [.int t.a,.int t.b]) none none none) M=some (.d (.list (sb (vs.map rD) A (.tuple [.int t.j,.int t.i,.tuple [.int t.a,.int t.b]]))),M):=DI d40 rfl
 have s3:bG (jB (aA aEW (aA (EJ (bK (aA (aD 4) (aA (aD 3) (aA (aD 5) aF))))) aF))) (hName 6) (GBt (vs.map rD) z A t.i t.j (.tuple [.int t.a,.int t.b]) none none none) M=some (.nx (GBt (vs.map rD) z A t.i t.j (.tuple [.int t.a,.int t.b]) (some (.c M.length)) none none),M++[.lst [.d (.list (bT (vs.map rD) none (some A)++bT (vs.map rD) (some A) (some (A+1))++bT (vs.map rD) (some A) none)),.d (.list (sb (vs.map rD) A (.tuple [.int t.j,.int t.i,.tuple [.int t.a,.int t.b]])))]]):=by
  exact pO (i:=6) (aAZ x1 x2)
 have x3:∀(M:Sto)(g6:Option CD),EJ (bK (aA (aD 3) (aA (fOp bM (aK bW (aA (aD 0) aF)) (fC (.int 1))) (aA (aD 5) aF)))) (GBt (vs.map rD) z A t.i t.j (.tuple [.int t.a,.int t.b]) g6 none none) M=some (.d (.list (sb (vs.map rD) A (.tuple [.int t.i,.int (J+1),.tuple [.int t.a,.int t.b]]))),M):=fun M g6=>by
  have a3:bM (I J) (I 1) M=some (I (J+1),M):=rfl;have s3:(3:Nat)<=sizeLine:=by decide
  exact DI d40 (by simp![ln,a3,s3])
 have x4:∀(M:Sto)(g6:Option CD),EJ (bK (aA (aD 3) (aA (aD 3) (aA (aD 5) aF)))) (GBt (vs.map rD) z A t.i t.j (.tuple [.int t.a,.int t.b]) g6 none none) M=some (.d (.list (sb (vs.map rD) A (.tuple [.int t.i,.int t.i,.tuple [.int t.a,.int t.b]]))),M):=fun M g6=>DI d40 rfl;generalize e1:PyData.list (bT (vs.map rD) none (some A)++bT (vs.map rD) (some A) (some (A+1))++bT (vs.map rD) (some A) none)=X1 at b1 s3;generalize e2:PyData.list (sb (vs.map rD) A (.tuple [.int t.j,.int t.i,.tuple [.int t.a,.int t.b]]))=X2 at b2 s3;generalize e3:PyData.list (sb (vs.map rD) A (.tuple [.int t.i,.int (J+1),.tuple [.int t.a,.int t.b]]))=X3 at b3 x3;generalize e4:PyData.list (sb (vs.map rD) A (.tuple [.int t.i,.int t.i,.tuple [.int t.a,.int t.b]]))=X4 at b4 x4;have s4:=pO (i:=6) (aFa (γ:=GBt (vs.map rD) z A t.i t.j (.tuple [.int t.a,.int t.b]) (some (.c M.length)) none none) (M:=M) (x1:=X1) (x2:=X2) (fun _=>rfl) rfl (x3 _ _));have s5:=oH (γ:=GBt (vs.map rD) z A t.i t.j (.tuple [.int t.a,.int t.b]) (some (.c (M.length+1))) none none) (M:=M) (A:=.lst [.d X1,.d X2]) (zs:=[X1,X2,X3]) rfl (by show 3<500;decide) (x4 _ _);obtain⟨a7,l0⟩:=aBS (z:=z) (A:=A) (i:=t.i) (j:=t.j) (am:=.tuple [.int t.a,.int t.b]) (M:=M) (C:=.lst [.d X1,.d X2]) (g8:=none) d40 DW ([X1,X2,X3]++[X4]) none (by show 4+13<500;decide);obtain⟨b7,l1⟩:=aBC (z:=z) (A:=A) (i:=t.i) (j:=t.j) (am:=.tuple [.int t.a,.int t.b]) (M:=M) (C:=.lst [.d X1,.d X2]) (g8:=none) d40 (uO t.i t.j (.tuple [.int t.a,.int t.b])) ([X1,X2,X3]++[X4]++DW.map fun o=>.list (sb (vs.map rD) A (.tuple [.int t.i,.int t.j,o]))) a7 (by rw[B4,A3];show 4+13+8<500;decide)
 have bad:∀x∈([X1,X2,X3]++[X4]++DW.map fun o=>.list (sb (vs.map rD) A (.tuple [.int t.i,.int t.j,o])))++(uO t.i t.j (.tuple [.int t.a,.int t.b])).map fun o=>.list (sb (vs.map rD) A o),eE x=false:=by
  intro x hx;rcases List.mem_append.mp hx with hx|hx
  .rcases List.mem_append.mp hx with hx|hx
   .simp only[List.mem_append,List.mem_cons,List.not_mem_nil,or_false]at hx;rcases hx with(rfl|rfl|rfl)|rfl
    .exact b1
    .exact b2
    .exact b3
    .exact b4
   .obtain⟨o,ho,rfl⟩:=List.mem_map.mp hx;exact wX A0 A1 nn (aCu (PD o ho))
  .obtain⟨o,ho,rfl⟩:=List.mem_map.mp hx;exact wX A0 A1 nn (MB o ho)
 have zl:(([X1,X2,X3]++[X4]++DW.map fun o=>PyData.list (sb (vs.map rD) A (.tuple [.int t.i,.int t.j,o])))++(uO t.i t.j (.tuple [.int t.a,.int t.b])).map fun o=>PyData.list (sb (vs.map rD) A o)).length=25:=by
  rw[B4,B4,A3,A3];rfl
 generalize ([X1,X2,X3]++[X4]++DW.map fun o=>PyData.list (sb (vs.map rD) A (.tuple [.int t.i,.int t.j,o])))++(uO t.i t.j (.tuple [.int t.a,.int t.b])).map (fun o=>PyData.list (sb (vs.map rD) A o))=Z at l1 bad zl;obtain⟨Z1,t1,n1,c1⟩:=aFO (z:=z) (A:=A) (i:=t.i) (j:=t.j) (am:=.tuple [.int t.a,.int t.b]) (M:=M) (C:=.lst [.d X1,.d X2]) (g7:=b7) D n40 (by omega) bad;obtain⟨Z2,g8,t2,n2,c2⟩:=aGW (z:=z) (A:=A) (i:=t.i) (j:=t.j) (M:=M) (C:=.lst [.d X1,.d X2]) (g7:=b7) D n40 tam (by omega) c1;refine⟨.lst [.d X1,.d X2],Z2,pA rfl ?_,by omega,c2⟩;have k0:∀γ M,cF pE γ M=some (DW.map .d,M):=fun _ _=>rfl;have k1:∀N g7,cF (dE (aA (fC .none) (aA (fC (.int 0)) (aA (bK (aA (aD 3) (aA (aD 4) aF))) (aA (bK (aA (aD 3) (aA (aD 4) (aA (aD 5) (aA (fC (.int 0)) aF))))) (aA (fC (.str "abc")) (aA (bK (aA (fC (.bool true)) (aA (aD 4) (aA (aD 5) aF)))) (aA (bK (aA (aD 3) (aA (fC .none) (aA (aD 5) aF)))) (aA mQ aF))))))))) (GBt (vs.map rD) z A t.i t.j (.tuple [.int t.a,.int t.b]) (some (.c (M.length+1))) g7 none) N=some ((uO t.i t.j (.tuple [.int t.a,.int t.b])).map .d,N):=fun _ _=>rfl;unfold mM;show aR _ _ [some (.d (.list (vs.map rD))),some (I z),none,none,none,none,none,none,none] M=_;rw[bE s1,bE s2,bE s3,bE s4];show aR _ _ (GBt (vs.map rD) z A t.i t.j (.tuple [.int t.a,.int t.b]) (some (.c (M.length+1))) none none) _=_;rw[bE s5,bE (iE (k0 _ _) l0),bE (iE (k1 _ _) l1),bE t1,bE t2];rfl
theorem aDg{z:Int}{M:Sto}(D:Dr n vs)(h1:1<n)(n40:n<=40):
 ∃(C:Cell)(Z:List PyData),eO [.d (.list (vs.map rD)),I z] M=some (.c (M.length+1),SB M C Z)/\Z.length<=100/\∀x∈Z,eE x=false:=by
 have ln:=D.ln;have dl:(vs.map rD).length=vs.length:=A3 ..;have z0:=S3 z (show(((vs.map rD).length:Nat):Int)≠0 by omega);have z1:=O1 z (show(0:Int)<((vs.map rD).length:Nat)by omega);obtain⟨q,hq⟩:∃q:Nat,z % (((vs.map rD).length:Nat):Int)=(q:Nat):=⟨(z % (((vs.map rD).length:Nat):Int)).toNat,by omega⟩;have ql:q<vs.length:=by omega
 exact OE (t:=vs[q]) D h1 n40 (fun M=>cT (M:=M) (show aP (.list (vs.map rD))=some (vs.map rD)from rfl)) (by omega) (fN (by omega)) rfl hq ql (A9 ql)
theorem FU{s:CD}{c:Nat}{t:PyData}{g3 g4:Option CD}:∀(xs:List PyData)(M:Sto)(g5:Option CD),(∀x∈xs,eE x=false)->
 ∃g5' L,iZ (hName 5) tV (xs.map .d) (GL s c t g3 g4 g5 none) M=some (.nx (GL s c t g3 g4 g5' none),M++L)
 |[]=>fun M g5 _=>⟨g5,[],by rw[D6];rfl⟩
 |x::xs=>fun M g5 h=>by
  obtain⟨L,e⟩:=PV M (h x (B5 ..));have ne:∀M,eqX true (.d (.str "no tree")) (.d (.str "no tree")) M=some (B false,M):=fun _=>rfl
  have tn:tV (GL s c t g3 g4 (some (.d x)) none) M=some (.nx (GL s c t g3 g4 (some (.d x)) none),M++L):=by
   simp![tV,e,ne]
  obtain⟨g',L',ih⟩:=FU (s:=s) (c:=c) (t:=t) (g3:=g3) (g4:=g4) xs (M++L) (some (.d x)) fun y hy=>h y (B3 _ hy);refine⟨g',L++L',?_⟩;rw[B6,dA (show hName 5 (.d x) (GL s c t g3 g4 g5 none) M=some (GL s c t g3 g4 (some (.d x)) none,M)from rfl) tn,ih,C6]
noncomputable def ten:List PyData:=[.none,.int 0,.bool true,.str "",.str "ab",.dict [],.dict [(.int 0,.int 0)],.list [.none],.list [.list []],.int (10 ^ 60)]
theorem aAA:∀x∈ten,eE x=false:=by
 intro x hx;unfold ten at hx;simp only[List.mem_cons,List.not_mem_nil,or_false]at hx;rcases hx with rfl|rfl|rfl|rfl|rfl|rfl|rfl|rfl|rfl|rfl<;>rfl
noncomputable abbrev aEw:EF:=(dE (aA (fC .none) (aA (fC (.int 0)) (aA (fC (.bool true)) (aA (fC (.str "")) (aA (fC (.str "ab")) (aA mQ (aA (yI [((fC (.int 0)),(fC (.int 0)))]) (aA AN (aA zX (aA (fOp ER (fC (.int 10)) (fC (.int 60))) aF)))))))))))
theorem aGn(γ:Ga)(M:Sto):aEw γ M=some (.d (.list ten),M++[.dead]):=by
 have d0:∀γ M,yI [((fC (.int 0)),(fC (.int 0)))] γ M=some (.d (.dict [(.int 0,.int 0)]),M++[.dead]):=fun γ M=>by
  unfold yI;rw[show rF [((fC (.int 0)),(fC (.int 0)))] γ (M++[.dk []])=some ([(I 0,I 0)],M++[.dk []])from rfl,A2];dsimp only;rw[B9 (B1 _),F5];dsimp only[List.getElem?_cons_zero];rw[show keyed [(I 0,I 0)]=some [((.inl 0:Key),PyData.int 0)]from rfl,A2,A7 (by decide),E7 _ _ (B1 _),F5];rfl
 have pw:∀M,ER (I 10) (I 60) M=some (.d (.int (10 ^ 60)),M):=fun M=>by
  have po:US 10 60=true:=by decide +kernel
  unfold ER pI;dsimp only;rw[po];rfl
 have s10:(10:Nat)<=sizeLine:=by decide
 have f0:∀γ M,mQ γ M=some (.d (.dict []),M):=fun _ _=>rfl;simp![aEw,d0,f0,WZ,VJ,pw,s10];rfl
noncomputable def st0:Int->Nat->List Tie
 |_,0=>[]
 |lo,q+1=>⟨0,lo,1,1⟩::st0 (lo+1) q
theorem tW:∀(q:Nat)(lo:Int)(t:Tie),t∈st0 lo q↔t=⟨0,t.j,1,1⟩/\lo<=t.j/\t.j<lo+q
 |0=>fun lo t=>⟨fun h=>(by cases h),fun h=>(by omega)⟩
 |q+1=>fun lo t=>by
  show t∈(⟨0,lo,1,1⟩:Tie)::st0 (lo+1) q↔_;rw[List.mem_cons,tW q (lo+1) t];constructor
  .rintro(h|⟨h1,h2⟩)
   .rw[h];exact⟨rfl,Int.le_refl _,by show lo<lo+((q+1:Nat):Int);omega⟩
   .exact⟨h1,by omega⟩
  .rintro⟨h1,h2⟩;by_cases e:t.j=lo
   .rw[e]at h1;exact .inl h1
   .exact .inr ⟨h1,by omega⟩
theorem SD:∀(q:Nat)(lo:Int),(st0 lo q).Pairwise Tie.lt
 |0=>fun _=>List.Pairwise.nil
 |q+1=>fun lo=>List.pairwise_cons.mpr ⟨fun t ht=>by
  obtain⟨h1,h2⟩:=(tW q (lo+1) t).mp ht;rw[h1];exact .inr ⟨rfl,by show lo<t.j;omega⟩,SD q (lo+1)⟩
theorem aHC:Am 1 1:=⟨by decide +kernel,qS (by decide),qS (by decide)⟩
theorem star_D:Dr 40 (st0 1 39):=by
 have al:Al 40 (st0 1 39):=fun t ht=>by
  obtain⟨h1,h2⟩:=(tW 39 1 t).mp ht;rw[h1];exact⟨⟨Int.le_refl _,by show 0<t.j;omega⟩,by show t.j<40;omega,aHC⟩
 refine⟨by decide,al,SD 39 1,fun p hp=>?_⟩;have ok:Oks 40 ((st0 1 39).map Tie.key):=mP (lD (n:=40) (f:=rD) VG al);by_cases h:p=0
 .rw[h]
 .have:=oM ok (t:=(0,p)) (List.mem_map.mpr ⟨⟨0,p,1,1⟩,(tW 39 1 _).mpr ⟨rfl,by show 1<=p;have:=hp.1;omega,by show p<1+((39:Nat):Int);have:=hp.2;omega⟩,rfl⟩);exact this.symm
theorem OX:fl (pW (kys (cY ((st0 1 39).map Tie.key) 0 ((st0 1 39).map Tie.key).length [(0,[])]))) 0 40=[1]:=by decide +kernel
theorem aAE:lsI (asV (st0 1 39))=0:=by decide +kernel
theorem RL(M:Sto):∃L,bD [.d (.list ((st0 1 39).map rD))] M=some (.v (.d (vP 1 1 [1])),M++L):=by
 have m1:=lD (n:=40) (f:=rD) VG star_D.al;have hx:=star_D.is (x:=.list ((st0 1 39).map rD)) (by decide) rfl m1;have T:Tm (.list ((st0 1 39).map rD)) (asV (st0 1 39)):=CS (f:=rD) (.inl rfl) fun t=>⟨.tuple [.int t.a,.int t.b],fun _=>rfl,rfl⟩;obtain⟨bs,L,e,nd,hb⟩:=VY (M:=M) hx.1 hx.2 T star_D.bd (by decide) (by decide);have h0:Inn 40 0:=⟨by decide,by decide⟩;obtain⟨ss,_,_,R⟩:=wK (fa:=fun _ M=>some ([.d (.list ((st0 1 39).map rD)),I 0],M)) (γ:=[]) (M:=[]) hx.2 h0 rfl;rw[aAE]at e hb;have sd:=EO hx.2.ok h0 (by decide) R nd hb;refine⟨L,?_⟩;rw[e,sd];rw[show(((0:Nat):Int))=0 from rfl,OX];rfl
theorem YM:eE (.list ((st0 1 40).map rD))=false:=by
 have l:((st0 1 40).map rD).length=40:=by decide
 unfold eE;show(decide (((st0 1 40).map rD).length+1<=40)&&_)=false;rw[l];rfl
theorem KL{M:Sto}:∀(q:Nat)(lo:Int)(g:Option CD),lcF (hName 0) gV (bK (aA (fC (.int 0)) (aA (aD 0) (aA zR aF)))) (dM lo q) [g] M=some (((st0 lo q).map rD).map .d,M)
 |0=>fun lo g=>rfl
 |q+1=>fun lo g=>by
  have ih:=KL (M:=M) q (lo+1) (some (I lo));rw[fS];unfold lcF;rw[show hName 0 (I lo) [g] M=some ([some (I lo)],M)from rfl,A2];dsimp only;rw[show gV [some (I lo)] M=some (true,M)from rfl,A2];dsimp only;rw[A7 rfl,show bK (aA (fC (.int 0)) (aA (aD 0) (aA zR aF))) [some (I lo)] M=some (.d (rD ⟨0,lo,1,1⟩),M)from rfl,A2];dsimp only;rw[ih];rfl
theorem aCy(γ:Ga)(M:Sto):BI γ M=some (.d (.list ((st0 1 40).map rD)),M):=by
 unfold BI
 have rg:nT (aA (fC (.int 1)) (aA (fC (.int 41)) aF)) γ M=some (dM 1 40,M):=by
  have h:aZ 1=true/\aZ 41=true:=⟨by decide,by decide⟩;unfold nT;rw[show aA (fC (.int 1)) (aA (fC (.int 41)) aF) γ M=some ([I 1,I 41],M)from rfl,A2];dsimp only;rw[A7 h];rfl
 exact mX rg (sz (by rw[qI];omega)) (KL 40 1 none) (sz (by rw[A3];decide))
theorem aCO:bT ((st0 1 40).map rD) none (some 39)=(st0 1 39).map rD:=by
 have h:39<((st0 1 40).map rD).length:=by decide
 have:=vC h;rw[show((39:Nat):Int)=39 from rfl]at this;rw[this];rfl
noncomputable abbrev ifL:SF:=(sIf (gOr (gB (fOp (eqX true) (nA bD (aA (fSl (aD 6) bF (bY (fC (.int 39)))) aF)) AC)) (gB (fOp (eqX true) (aK bL (aA (aD 6) aF)) (fC (.str "no tree")))))
 (dD (fC (.bool false)))
 dN)
theorem aGY{s:CD}{t:PyData}(M:Sto):∃L,ifL (GL s c t g3 g4 g5 (some (.d (.list ((st0 1 40).map rD))))) M=some (.nx (GL s c t g3 g4 g5 (some (.d (.list ((st0 1 40).map rD))))),M++L):=by
 obtain⟨L1,e1⟩:=RL M;obtain⟨L2,e2⟩:=PV (M++L1) YM;refine⟨L1++L2,?_⟩;have ne:∀M,eqX true (.d (.str "no tree")) (.d (.str "no tree")) M=some (B false,M):=fun _=>rfl;have k3:∀γ M,AC γ M=some (.d (vP 1 1 [1]),M):=fun _ _=>rfl;have n1:=fun M=>aGU 1 1 [1] M;rw[<- C6];have sl:∀M,slF (.d (.list ((st0 1 40).map rD))) none (some 39) M=some (.d (.list ((st0 1 39).map rD)),M):=fun M=>by rw[qL,aCO]
 generalize (st0 1 40).map rD=Z at e2 sl ⊢;generalize (st0 1 39).map rD=Y at e1 sl;simp![ifL,nA,fSl,bY,bF,asI,sl,e1,k3,n1,e2,ne]
noncomputable abbrev aGf:SF:=(dD (mH (fOp (eqX false) (aK bL (aA (bK aF) aF)) (fC (.str "one place"))) (fOp (eqX false) (aK bL (aA (dE aF) aF)) (fC (.str "one place")))))
theorem aCD(γ:Ga)(M:Sto):∃M',aGf γ M=some (.rt (B true),M'):=by
 obtain⟨L1,e1⟩:=RW (x:=.tuple []) M (by decide +kernel) rfl;obtain⟨L2,e2⟩:=RW (x:=.list []) (M++L1) (by decide +kernel) rfl;have q:∀M,eqX false (.d (.str "one place")) (.d (.str "one place")) M=some (B true,M):=fun _=>rfl;have s0:(0:Nat)<=sizeLine:=F9 _;refine⟨M++L1++L2,?_⟩;simp![aGf,s0,e1,q,e2]
theorem main(ns:List Int)(hl:ns.length<=63):∃M',F_law [.d (.list (ns.map .int))] []=some (.d (.bool true),M'):=by
 obtain⟨c,M0,e0,d0⟩:=aEV ns;let s:CD:=.d (.list (ns.map .int));obtain⟨z,M1,po,d1,o1⟩:=(show Dk M0 c (59+1)from d0).pop;have z0:=S3 z (show(11:Int)≠0 by decide);have z1:=O1 z (show(0:Int)<11 by decide);obtain⟨n,hn⟩:∃n:Nat,2+z % 11=(n:Nat):=⟨(2+z % 11).toNat,by omega⟩;obtain⟨m,hm⟩:∃m:Nat,59=(m+1)+2*(n-1)+n:=⟨58-2*(n-1)-n,by omega⟩;rw[hm]at d1;obtain⟨vs,M2,e2,d2,D⟩:=aAh d1 (by omega) (by omega);rw[<- hn]at e2;obtain⟨g3,g4,L3,e3⟩:=aAG (s:=s) (c:=c) (M:=M2) D (by omega) (by omega);obtain⟨z4,M4,p4,d4,o4⟩:=(d2.app (L:=L3)).pop;obtain⟨C,Z,e5,zl,zb⟩:=aDg (z:=z4) (M:=M4) D (by omega) (by omega);let M5:Sto:=M4++[C,.dead]++[.dead]
 obtain⟨g5,L6,e6⟩:=FU (s:=s) (c:=c) (t:=.list (vs.map rD)) (g3:=g3) (g4:=g4) (Z++ten) M5 none fun x hx=>by
  rcases List.mem_append.mp hx with h|h
  .exact zb x h
  .exact aAA x h
 obtain⟨L7,e7⟩:=aGY (s:=s) (c:=c) (t:=.list (vs.map rD)) (g3:=g3) (g4:=g4) (g5:=g5) (M5++L6);obtain⟨M8,e8⟩:=aCD (GL s c (.list (vs.map rD)) g3 g4 g5 (some (.d (.list ((st0 1 40).map rD))))) (M5++L6++L7);refine⟨M8,pA rfl ?_⟩
 have a1:bG (aK jW (aA (aD 0) (aA (fC (.int 60)) aF))) (hName 1) [some s,none,none,none,none,none,none] []=some (.nx [some s,some (.c c),none,none,none,none,none],M0):=by
  simp![s,e0]
 have a2:bG (aK jP (aA (aD 1) (aA (fOp bM (fC (.int 2)) (fOp iJ (bH "list" iR (aD 1) aF) (fC (.int 11)))) aF))) (hName 2) [some s,some (.c c),none,none,none,none,none] M0=some (.nx (GL s c (.list (vs.map rD)) none none none none),M2):=by
  have mk:jX z 11=true:=fN (by decide);have ad:∀(i j:Int)(M:Sto),bM (I i) (.d (.int j)) M=some (I (i+j),M):=fun _ _ _=>rfl;simp![bH,d0.ty,po,mk,ad,e2]
 have fr:gQ (aK eO (aA (aD 2) (aA (bH "list" iR (aD 1) aF) aF))) (GL s c (.list (vs.map rD)) g3 g4 none none) (M2++L3)=some (.d (.list Z),M4++[C,.dead]):=by
  have b:aK eO (aA (aD 2) (aA (bH "list" iR (aD 1) aF) aF)) (GL s c (.list (vs.map rD)) g3 g4 none none) (M2++L3)=some (.c (M4.length+1),SB M4 C Z):=by
   have ty:=(d2.app (L:=L3)).ty;simp![bH,ty,p4,e5]
  unfold gQ;rw[b,A2];dsimp only;rw[RF];dsimp only;rw[gS,A2];unfold SB;rw[E7 _ _ (by omega),show M4.length+1-M4.length=1 by omega];rfl
 have it:cF (fOp bM (gQ (aK eO (aA (aD 2) (aA (bH "list" iR (aD 1) aF) aF)))) aEw) (GL s c (.list (vs.map rD)) g3 g4 none none) (M2++L3)=some ((Z++ten).map .d,M5):=by
  have a:bM (.d (.list Z)) (.d (.list ten)) M5=some (.d (.list (Z++ten)),M5):=add_list (by show Z.length+10<=1000;omega);unfold cF fOp;rw[fr,A2];dsimp only;rw[aGn,A2];dsimp only;rw[a];rfl
 have a4:=iE it e6;have a5:=pO (i:=6) (aCy (GL s c (.list (vs.map rD)) g3 g4 g5 none) (M5++L6));unfold UB;show aR _ _ [some s,none,none,none,none,none,none] []=_;rw[bE a1,bE a2,bE e3,bE a4,bE a5];show aR _ _ (GL s c (.list (vs.map rD)) g3 g4 g5 (some (.d (.list ((st0 1 40).map rD))))) _=_;rw[bE e7];exact e8
end Q32
end
end
open PySem PySem.W PyProof.Rows
set_option maxRecDepth 100000 in
set_option maxHeartbeats 0 in
theorem PySem.Challenge.cw_cutstree_k32_least_by_tree_holds : PySem.Challenge.rw_cutstree_k32_least_by_tree.Holds := by
 refine Q32.k_top ?_
 k_fill
 refine L2.law_walk (l:=PySem.Challenge.rw_cutstree_k32_least_by_tree) (F:=Q32.F_law) (k:=9) (p:="_law_script") (by decide +kernel) rfl rfl ⟨fun _=>rfl,by decide,by decide,rfl⟩ (fun w h Y=>PySem.W.kIn_of Y) ?T Q32.main
 case T=>
  intro w mg h KX G;refine Q32.fn_law (K:=_) (mg:=mg) ?TT
  refine' Q32.txt_mk KX G ?v0 ?v1 ?v2 ?v3 ?v4 ?v5 ?v6 ?v7 ?v8 ?v9 ?v10 ?v11 ?v12 ?v13 ?v14 ?v15 ?v16 ?v17 ?v18 ?v19 ?v20 ?v21 ?v22 ?v23 ?v24 ?v25 ?v26 ?v27 ?v28 ?v29 ?v30 ?v31 ?v32 ?v33 ?v34 ?v35 ?v36 ?v37 ?v38 ?v39 ?v40 ?v41 ?v42 ?v43 ?v44 ?v45 ?v46 ?v47 ?v48 ?v49 ?v50 ?v51 ?v52 ?v53 ?v54 ?v55 ?v56 ?v57 ?v58 ?v59 ?v60 ?v61 ?v62 ?v63 ?v64 ?v65 ?v66 ?v67 ?v68
  (case v0|v1|v2|v3|v4|v5|v6|v7|v8|v9|v10|v11|v12|v13|v14|v16|v18|v21|v22|v23|v25|v26|v27|v28|v29|v30|v31|v33|v34|v35|v36=>k_is)
  (case v15|v17|v19|v20|v24|v32|v37|v38|v39|v40|v41|v42=>kernel_rfl)
  (case v43|v44|v45|v46|v47|v48|v49|v50|v51|v52|v53|v54|v55|v56|v57|v58|v59|v60|v61|v62|v63|v64|v65|v66|v67|v68=>exact L2.def_mk KX G (by k_is) (by k_is) (by k_is) (by k_is))